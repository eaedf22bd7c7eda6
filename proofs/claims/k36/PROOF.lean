import PyProof.Rows.All
import Wide.All
import OpenK.AllK
import Wide.FinOn
import Lean
import PyProof.EqAt
import PyProof.EqKinds
import PyProof.TupleCall
import PySem.Challenge.RW_pollproof_k36_recounts
open List
set_option Elab.async false
set_option linter.all false
set_option compiler.extract_closed false
set_option maxRecDepth 100000
namespace Head
open PySem PySem.W PyProof.Rows
def Q6 (p:Program) (w:World) (n0:Nat) (ann:Option Value):Nat->SharedT->Thread->Option SharedT
 | 0,_,_=>none
 | n+1,s,t=>match through t with
   | true=>some s
   | false=>match stepOk n0 ann t with
     | false=>none
     | true=>match stepT (denote treeTable) p w s t with
       | some (s',t')=>Q6 p w n0 ann n s' t'
       | none=>none
theorem MY {p:Program} {w:World} {n0:Nat} {ann:Option Value}:∀{n:Nat} {s s':SharedT} {t:Thread},Q6 p w n0 ann n s t=some s'->topRun treeTable p w n0 ann n s.abs t=some s'.abs
 | 0,_,_,_,h=>by cases h
 | n+1,s,s',t,h=>by
   unfold Q6 at h
   unfold topRun
   cases he:through t with
   | true=>rw [he] at h;cases h;rfl
   | false =>
     rw [he] at h
     cases hk:stepOk n0 ann t with
     | false=>rw [hk] at h;cases h
     | true =>
       rw [hk] at h
       cases hs:stepT (denote treeTable) p w s t with
       | none=>rw [hs] at h;cases h
       | some r=>obtain ⟨s2,t2⟩:=r;rw [hs] at h;rw [stepT_spec hs];exact MY h
def NG:List Obj->Nat->BT->Option BT
 | [],_,t=>some t
 | o :: os,n,t=>match ((t.ins n o).get n).isSome with
   | true=>NG os (n+1) (t.ins n o)
   | false=>none
theorem MS {life:Life}:∀{os:List Obj} {n:Nat} {t t':BT} {xs:List Obj},(absHeap t n life)=⟨xs.toArray,life⟩->NG os n t=some t'->absHeap t' (n+os.length) life=⟨(xs++os).toArray,life⟩
 | [],n,t,t',xs,a,h=>by
   cases h
   rw [append_nil]
   exact a
 | o :: os,n,t,t',xs,a,h=>by
   unfold NG at h
   cases g:((t.ins n o).get n).isSome with
   | false=>rw [g] at h;cases h
   | true =>
     rw [g] at h
     have b:absHeap (t.ins n o) (n+1) life=⟨(xs++[o]).toArray,life⟩:=by
      rw [absHeap_ins g,a]
      show (⟨xs.toArray.push o,life⟩:Heap)=_
      rw [push_toArray]
     have c:=MS b h
     rw [append_assoc] at c
     rw [length_cons,show n+(os.length+1)=n+1+os.length by omega]
     exact c
theorem O6 {H:Heap} {T:BT} (h:NG H.objs.toList 0 .nil=some T):absHeap T H.objs.size H.life=H:=by
 have c:=MS (life:=H.life) (n:=0) (t:=.nil) (xs:=[]) rfl h
 rw [Nat.zero_add,Array.length_toList] at c
 rw [c]
 obtain ⟨a,l⟩:=H
 show (⟨([]++a.toList).toArray,l⟩:Heap)=⟨a,l⟩
 rw [nil_append,Array.toArray_toList]
theorem left {p q:Program} {loose:List PySem.Str} {Xt:Shared->Bool} {α:Type} {Yf:Shared->α} {Ya:World->α} {N:Nat} {g0:Bool}
 (e:opening p=plainProg p.main.scope.names) (hN:Nat.ble 600 N=true) (f:∀s,fenceModules? p s=some s)
 (h:∀(w:World) (os:OsState),((NG (boot_heap w.params).objs.toList 0 .nil).bind fun T=>(Q6 p w (boot_heap w.params).objs.size ((boot_heap w.params).nsMap mainGlobals "__annotations__") N ⟨T,(boot_heap w.params).objs.size,(boot_heap w.params).life,Array.mk [],boot_drawn,boot_toks,os⟩ (topStub p)).map fun s =>
  (((boot_heap w.params).isNs mainGlobals,staticsOk (importedModules p.main.body) (boot_heap w.params) s.abs.heap && namesBound p s.abs.heap && gensDone s.abs && laidKept (boot_heap w.params) s.abs.heap),openSeen q loose (importedModules p.main.body) Xt g0 s.abs,Yf s.abs)) =
  some ((true,true),openGood q loose,Ya w)):LeftO p q loose Xt Yf Ya N g0:=fun w=>by
 obtain ⟨⟨hp,gs,d,k,os⟩,e1,e2⟩:=Option.map_eq_some_iff.mp (boot_open e hN f w)
 obtain ⟨rfl,rfl,rfl,rfl⟩:hp=boot_heap w.params/\gs=Array.mk []/\d=boot_drawn/\k=boot_toks:=by simpa using e2
 have z:=h w os
 cases gT:NG (boot_heap w.params).objs.toList 0 .nil with
 | none=>rw [gT] at z;cases z
 | some T =>
   rw [gT] at z
   obtain ⟨s,r,y⟩:=Option.map_eq_some_iff.mp z
   have r':=MY r
   injection y with y1 y2
   injection y1 with y3 y4
   injection y2 with y5 y6
   have a:(⟨T,(boot_heap w.params).objs.size,(boot_heap w.params).life,Array.mk [],boot_drawn,boot_toks,os⟩:SharedT).abs=⟨boot_heap w.params,Array.mk [],boot_drawn,boot_toks,os⟩:=by
    unfold SharedT.abs
    rw [O6 gT]
   rw [a] at r'
   unfold openEnds
   rw [e1]
   show (topFrom treeTable p w N _).map _=_
   have t:topFrom treeTable p w N ⟨boot_heap w.params,Array.mk [],boot_drawn,boot_toks,os⟩=some s.abs:=by
    unfold topFrom
    dsimp only
    rw [y3,r']
    show (match staticsOk (importedModules p.main.body) (boot_heap w.params) s.abs.heap && namesBound p s.abs.heap && gensDone s.abs && laidKept (boot_heap w.params) s.abs.heap with | true=>_ | false=>_)=_
    rw [y4]
   rw [t]
   exact congrArg some (Prod.ext y5 y6)
end Head
namespace Head
open PySem PySem.W PyProof.Rows
abbrev q0:Program:=view PySem.Challenge.pw_pollproof_k36_recounts [68]
abbrev r0:OpenRow:=OpenLaw.row PySem.Challenge.rw_pollproof_k36_recounts
local macro_rules | `(tactic| o_head $H)=>do
 let (hl,hw,hc):=(Lean.mkIdent `hl,Lean.mkIdent `hw,Lean.mkIdent `hc)
 `(tactic| (
   refine holds_open (r:=r0) (q:=q0) (loose:=[PySem.Str.ofString "PollError",PySem.Str.ofString "NoNumber",PySem.Str.ofString "NoBallot",PySem.Str.ofString "NoSheet",PySem.Str.ofString "NoChange",PySem.Str.ofString "Torn",PySem.Str.ofString "NoBundle",PySem.Str.ofString "WrongNumber",PySem.Str.ofString "NoWay",PySem.Str.ofString "TooHard",PySem.Str.ofString "Ended",PySem.Str.ofString "NoRow",PySem.Str.ofString "with_one",PySem.Str.ofString "members",PySem.Str.ofString "is_whole",PySem.Str.ofString "MOST_RANK",PySem.Str.ofString "is_rank",PySem.Str.ofString "are_ranks",PySem.Str.ofString "tier_at",PySem.Str.ofString "slip_of",PySem.Str.ofString "ranks_of",PySem.Str.ofString "MOST_BALLOTS",PySem.Str.ofString "is_number",PySem.Str.ofString "numbers_by_slip",PySem.Str.ofString "sheet_from",PySem.Str.ofString "sheet_of",PySem.Str.ofString "joined",PySem.Str.ofString "ballots_in",PySem.Str.ofString "apart",PySem.Str.ofString "BASE",PySem.Str.ofString "code_of",PySem.Str.ofString "line_of",PySem.Str.ofString "seal_of",PySem.Str.ofString "place_of",PySem.Str.ofString "mended",PySem.Str.ofString "MOST_HANDS",PySem.Str.ofString "are_hands",PySem.Str.ofString "Box",PySem.Str.ofString "_law_cell",PySem.Str.ofString "_law_mixed",PySem.Str.ofString "_law_whole",PySem.Str.ofString "_law_ranks",PySem.Str.ofString "_law_slip",PySem.Str.ofString "_law_code",PySem.Str.ofString "_law_many",PySem.Str.ofString "_law_line",PySem.Str.ofString "_law_lines",PySem.Str.ofString "_law_sheet",PySem.Str.ofString "_law_seal",PySem.Str.ofString "_law_codes_of",PySem.Str.ofString "_law_bundles",PySem.Str.ofString "_law_seal_is",PySem.Str.ofString "_law_told",PySem.Str.ofString "_law_new_lines",PySem.Str.ofString "_law_apart",PySem.Str.ofString "_law_refused",PySem.Str.ofString "_law_refusals",PySem.Str.ofString "_law_put"]) (N:=100000)
    (Xt:=fun s=>xlAt q0 [] s && recOk (RowW.records (OpenRow.toRowW r0)) s)
    (XP:=XL q0 []) (Yf:=Hook.obs $H) (Ya:=Hook.val $H) (YP:=Hook.says $H)
    ?$hl (Hook.of $H) (Hook.keeps $H) (fun s e=>xl_of s (Bool.and_eq_true_iff.mp e).1) XL.keeps
    (by rfl) (by rfl) (by rfl) (fun s e=>recFacts_of (Bool.and_eq_true_iff.mp e).2) (by rfl) (by assumption)
    (by decide +kernel) ⟨rfl,rfl,rfl,rfl,rfl,by decide +kernel⟩ ?$hw ?$hc;
   (next=>(exact left (by kernel_rfl) (by decide) (fun s=>by kernel_rfl) (fun w os=>by kernel_rfl)))))
set_option maxRecDepth 100000 in
set_option maxHeartbeats 0 in
open_top top for PySem.Challenge.rw_pollproof_k36_recounts
end Head
namespace L2
open PySem PySem.Spec PyProof.Rows
abbrev Key:=Sum Int Str
def IW:Key->Value->Bool
 | .inl k,v=>Value.isInt k v
 | .inr x,v=>Value.isStrOf x v
def SN (w:World):Key->Int
 | .inl k=>hashInt k
 | .inr x=>hashStr w x
theorem B6:∀{k:Key} {v:Value},IW k v=true->(∃i t,k=Sum.inl i/\v=Value.int i t)\/(∃x t,k=Sum.inr x/\v=Value.str x t)
 | .inl i,v,h=>by
   obtain ⟨t,e⟩:=Value.isInt_shape (k:=i) (v:=v) h
   exact .inl ⟨i,t,rfl,e⟩
 | .inr x,v,h=>by
   obtain ⟨t,e⟩:=Value.isStrOf_shape (x:=x) (v:=v) h
   exact .inr ⟨x,t,rfl,e⟩
theorem Nx (i:Int) (t:Tok):IW (.inl i) (.int i t)=true:=by simp [IW,Value.isInt]
theorem Nz (x:Str) (t:Tok):IW (.inr x) (.str x t)=true:=by simp [IW,Value.isStrOf]
theorem Ri (a b:Int):decide ((Sum.inl a:Key)=Sum.inl b)=(a == b):=by
 by_cases e:a=b
 ·subst e;simp
 ·have h:¬ (Sum.inl a:Key)=Sum.inl b:=fun q=>e (Sum.inl.inj q)
  rw [decide_eq_false h]
  exact (beq_eq_false_iff_ne.mpr e).symm
theorem Rm (a b:Str):decide ((Sum.inr a:Key)=Sum.inr b)=decide (a=b):=by
 by_cases e:a=b
 ·subst e;simp
 ·have h:¬ (Sum.inr a:Key)=Sum.inr b:=fun q=>e (Sum.inr.inj q)
  rw [decide_eq_false h,decide_eq_false e]
theorem Rv (a:Int) (b:Str):decide ((Sum.inl a:Key)=Sum.inr b)=false:=decide_eq_false (fun q=>nomatch q)
theorem R9 (a:Str) (b:Int):decide ((Sum.inr a:Key)=Sum.inl b)=false:=decide_eq_false (fun q=>nomatch q)
def BJ (prog:Program) (w:World):PySem.KeyKind prog w Key where
 is:=IW
 hash:=SN w
 inj:=fun v a b ha hb=>by
  rcases B6 ha with ⟨i,t,rfl,rfl⟩ | ⟨x,t,rfl,rfl⟩
  ·rcases B6 hb with ⟨j,u,rfl,e⟩ | ⟨y,u,rfl,e⟩
   ·injection e with e1 _;rw [e1]
   ·exact nomatch e
  ·rcases B6 hb with ⟨j,u,rfl,e⟩ | ⟨y,u,rfl,e⟩
   ·exact nomatch e
   ·injection e with e1 _;rw [e1]
 byValue:=fun k v h=>by
  rcases B6 h with ⟨i,t,rfl,rfl⟩ | ⟨x,t,rfl,rfl⟩ <;> rfl
 pyHash:=fun hv h=>by
  rcases B6 hv with ⟨i,t,rfl,rfl⟩ | ⟨x,t,rfl,rfl⟩
  ·exact wpAny_pyHash_int h
  ·exact wpAny_pyHash_str h
 eqBool:=fun hu hv h=>by
  rcases B6 hu with ⟨i,t,rfl,rfl⟩ | ⟨x,t,rfl,rfl⟩
  ·rcases B6 hv with ⟨j,u,rfl,rfl⟩ | ⟨y,u,rfl,rfl⟩
   ·rw [Ri] at h;exact wpAny_eqBool_int h
   ·rw [Rv] at h;exact SeqAt.EqAt.int_str i t y u _ _ _ _ h
  ·rcases B6 hv with ⟨j,u,rfl,rfl⟩ | ⟨y,u,rfl,rfl⟩
   ·rw [R9] at h;exact SeqAt.EqAt.str_int x t j u _ _ _ _ h
   ·rw [Rm] at h;exact wpAny_eqBool_str h
 «strs»:=fun k x t v h=>by
  rcases B6 h with ⟨i,u,rfl,e⟩ | ⟨y,u,rfl,e⟩
  ·exact nomatch e
  ·injection e with e1 _
   subst e1
   cases v <;> rfl
theorem JL (prog:Program) (w:World) (i:Int) (t:Tok):(BJ prog w).is (.inl i) (.int i t)=true:=Nx i t
theorem Kk (prog:Program) (w:World) (x:Str) (t:Tok):(BJ prog w).is (.inr x) (.str x t)=true:=Nz x t
end L2
namespace L2
open PySem PySem.Spec PyProof.Rows
inductive V where
 | non | bl (b:Bool) | int (i:Int) | str (x:Str) | byt (b:Array UInt8) | flt (b:UInt64) | ref (a:Addr) | ty (n:String)
 deriving DecidableEq
noncomputable def Bg:V->Value->Prop
 | .non,u=>u=Value.none
 | .bl b,u=>u=Value.bool b
 | .int i,u=>∃t,u=Value.int i t
 | .str x,u=>∃t,u=Value.str x t
 | .byt b,u=>∃t,u=Value.bytes b t
 | .flt b,u=>∃t,u=Value.float b t
 | .ref a,u=>u=Value.ref a
 | .ty n,u=>u=Value.type n
abbrev AX:List V->List Value->Prop:=Paired Bg
theorem AX.length {xs:List V} {us:List Value} (r:AX xs us):xs.length=us.length:=Paired.length r
theorem AX.get:∀{xs:List V} {us:List Value} {i:Nat} {x:V},AX xs us->xs[i]?=some x->∃u,us[i]?=some u/\Bg x u
 | _,_,_,_,.nil,e=>by simp at e
 | _,_,0,_,.cons r _,e=>by simp at e;subst e;exact ⟨_,rfl,r⟩
 | _,_,i+1,x,.cons _ t,e=>by
   obtain ⟨u,h1,h2⟩:=AX.get (i:=i) (x:=x) t (by simpa using e)
   exact ⟨u,by simpa using h1,h2⟩
theorem AX.set {x:V} {u:Value} (r:Bg x u):∀{xs:List V} {us:List Value} (i:Nat),AX xs us->AX (xs.set i x) (us.set i u)
 | _,_,_,.nil=>.nil
 | _,_,0,.cons _ t=>.cons r t
 | _,_,i+1,.cons q t=>.cons q (AX.set r i t)
theorem AX.append:∀{xs ys:List V} {us ws:List Value},AX xs us->AX ys ws->AX (xs++ys) (us++ws)
 | _,_,_,_,.nil,s=>s
 | _,_,_,_,.cons r t,s=>.cons r (AX.append t s)
theorem AX.take:∀{xs:List V} {us:List Value} (n:Nat),AX xs us->AX (xs.take n) (us.take n)
 | _,_,0,_=>.nil
 | _,_,_+1,.nil=>.nil
 | _,_,n+1,.cons r t=>.cons r (AX.take n t)
theorem AX.drop:∀{xs:List V} {us:List Value} (n:Nat),AX xs us->AX (xs.drop n) (us.drop n)
 | _,_,0,r=>r
 | _,_,_+1,.nil=>.nil
 | _,_,n+1,.cons _ t=>AX.drop n t
noncomputable def Dl:Option V->Option Value->Prop
 | some v,some u=>Bg v u
 | none,none=>True
 | _,_=>False
noncomputable def KV {κ:Type}:List (κ × V)->List (κ × Value)->Prop:=Paired fun (p:κ × V) (q:κ × Value)=>p.1=q.1/\Bg p.2 q.2
def kV:Key->V
 | .inl i=>.int i
 | .inr x=>.str x
inductive HO where
 | lst (xs:List V)
 | tup (xs:List V)
 | dK (kvs:List (Key × V)) | dT (kvs:List (List Key × V))
 | set (S:Int->Bool) (n:Nat)
 | ins (C dx:Addr) (fs:List (Str × V))
 | own (x:Addr)
 | xd (fs:List (Str × V))
 | met (f x:Addr)
 | rng (lo hi:Int)
 | frz (o:Obj) (u:HO)
 | tbl (ps:Array Value)
 | ext (φ:Heap->Prop)
abbrev Hp:=Addr->Option HO
noncomputable def upd (H:Hp) (a:Addr) (o:HO):Hp:=fun b=>if b=a then some o else H b
theorem Ag {H:Hp} {a:Addr} {o:HO}:upd H a o a=some o:=by unfold upd;rw [if_pos rfl]
theorem A8 {H:Hp} {a b:Addr} {o:HO} (h:b≠a):upd H a o b=H b:=by unfold upd;rw [if_neg h]
theorem Cz {H:Hp} {a:Addr} {o u:HO}:upd (upd H a o) a u=upd H a u:=by
 funext b;unfold upd;split <;> rfl
theorem CO {H:Hp} {a b:Addr} {o u:HO} (h:H a=some o) (h':H b=some u) (d:o≠u):a≠b:=by
 intro e;subst e;rw [h] at h';exact d (Option.some.inj h')
theorem Bt {H:Hp} {a b:Addr} {o:HO} (h:H a=some o) (h':H b=none):a≠b:=by
 intro e;subst e;rw [h] at h';cases h'
section
variable (P:Program) (w:World)
noncomputable def Bk (H:Hp) (h:Heap) (a:Addr):HO->Prop
 | .lst xs=>xs.length<=sizeLine/\∃(its:List Value) (n:Nat),AX xs its/\h.get? a=some { cls:=.type "list",data:=.seq its.toArray n }
 | .tup xs=>xs.length<=sizeLine/\∃its:List Value,AX xs its/\IsTup h a its.toArray
 | .dK kvs=>kvs.length<=sizeLine/\(a == sysModules)=false/\∃vs,KV kvs vs/\h.DictOf (BJ P w) a vs
 | .dT kvs=>kvs.length<=sizeLine/\(a == sysModules)=false/\∃xs:List (List Key × Addr × Value),
  Paired (fun (p:List Key × V) (q:List Key × Addr × Value)=>p.1=q.1/\H q.2.1=some (.tup (p.1.map kV))/\Bg p.2 q.2.2) kvs xs /\
  ∃o es ep,h.get? a=some o/\o.ExactDict/\o.data=.dict es ep/\es.toList=xs.map (entryOfKey (tupleKind (BJ P w)))/\(xs.map (·.1)).Nodup
 | .set S n=>h.SetOf (intKind P w) a S n
 | .ins C dx fs=>H dx=some (.own a)/\fs.length<=1000/\dx≠a/\h.get? a=some (PySem.W.instObj C dx) /\
  ∃mA,h.Ns1 dx mA/\(∀f,Dl (fs.lookup f) (mA f))/\PySem.Within mA (fs.map (·.1))
 | .own _=>∃o,h.get? a=some o
 | .xd fs=>∃mA,h.Ns1 a mA/\∀f,Dl (fs.lookup f) (mA f)
 | .rng lo hi=>∃t u v,h.get? a=some { cls:=.type "range",data:=.fields #[.int lo t,.int hi u,.int 1 v] }
 | .frz o u=>h.get? a=some o/\Bk H h a u
 | .tbl ps=>h.get? a=some { cls:=.none,data:=.fields ps }
 | .met f x=>h.get? a=some (PySem.W.methodObj (.ref f) (.ref x))
 | .ext φ=>φ h/\(∃o,h.get? a=some o)/\∀h1 h2:Heap,φ h1->(∀o,h1.get? a=some o->h2.get? a=some o)->φ h2
noncomputable def HOk (H:Hp) (h:Heap):Prop:=∀a o,H a=some o->Bk P w H h a o
end
section
variable {P:Program} {w:World} {H H':Hp} {h h':Heap} {a:Addr} {o:HO}
theorem Bk.lt (x:Bk P w H h a o):a < h.objs.size:=by
 cases o with
 | lst xs=>obtain ⟨_,_,_,_,e⟩:=x;exact Heap.lt_size e
 | tup xs=>obtain ⟨_,_,_,p⟩:=x;exact p.lt
 | dK kvs=>obtain ⟨_,_,_,_,o,_,_,e,_⟩:=x;exact Heap.lt_size e
 | dT kvs=>obtain ⟨_,_,_,_,o,_,_,e,_⟩:=x;exact Heap.lt_size e
 | set S n=>obtain ⟨o,_,_,_,e,_⟩:=x;exact Heap.lt_size e
 | ins C dx fs=>obtain ⟨_,_,_,e,_⟩:=x;exact Heap.lt_size e
 | own y=>obtain ⟨_,e⟩:=x;exact Heap.lt_size e
 | xd fs=>obtain ⟨_,⟨_,_,_,e,_⟩,_⟩:=x;exact Heap.lt_size e
 | rng lo hi=>obtain ⟨_,_,_,e⟩:=x;exact Heap.lt_size e
 | frz ob u=>obtain ⟨e,_⟩:=x;exact Heap.lt_size e
 | tbl ps=>exact Heap.lt_size (show h.get? a=some _ from x)
 | met f y=>exact Heap.lt_size (show h.get? a=some _ from x)
 | ext φ=>obtain ⟨_,⟨_,e⟩,_⟩:=x;exact Heap.lt_size e
theorem Paired.mapP {α β:Type} {F G:α->β->Prop}:∀{l₁:List α} {l₂:List β},Paired F l₁ l₂->(∀a b,F a b->G a b)->Paired G l₁ l₂
 | _,_,.nil,_=>.nil
 | _,_,.cons r t,f=>.cons (f _ _ r) (Paired.mapP t f)
theorem Bk.stay (x:Bk P w H h a o) (k:∀b u,(b=a\/H b=some (.own a))->h.get? b=some u->h'.get? b=some u)
 (ho:∀b,H b=some (.own a)->H' b=some (.own a)) (ht:∀b xs,H b=some (.tup xs)->H' b=some (.tup xs)):Bk P w H' h' a o:=by
 induction o with
 | lst xs=>obtain ⟨z,its,n,r,e⟩:=x;exact ⟨z,its,n,r,k _ _ (.inl rfl) e⟩
 | tup xs=>obtain ⟨z,its,r,ob,e,c⟩:=x;exact ⟨z,its,r,ob,k _ _ (.inl rfl) e,c⟩
 | dK kvs=>obtain ⟨z,y,vs,r,ob,es,ep,e,c⟩:=x;exact ⟨z,y,vs,r,ob,es,ep,k _ _ (.inl rfl) e,c⟩
 | dT kvs =>
   obtain ⟨z,y,xs,r,ob,es,ep,e,c⟩:=x
   exact ⟨z,y,xs,Paired.mapP r fun p q z=>⟨z.1,ht _ _ z.2.1,z.2.2⟩,ob,es,ep,k _ _ (.inl rfl) e,c⟩
 | set S n=>obtain ⟨ob,es,ep,t,e,c⟩:=x;exact ⟨ob,es,ep,t,k _ _ (.inl rfl) e,c⟩
 | ins C dx fs =>
   obtain ⟨d,z,ne,e,mA,⟨od,es,ep,e2,c⟩,r⟩:=x
   exact ⟨ho _ d,z,ne,k _ _ (.inl rfl) e,mA,⟨od,es,ep,k _ _ (.inr d) e2,c⟩,r⟩
 | own y=>obtain ⟨ob,e⟩:=x;exact ⟨ob,k _ _ (.inl rfl) e⟩
 | xd fs=>obtain ⟨mA,⟨od,es,ep,e,c⟩,r⟩:=x;exact ⟨mA,⟨od,es,ep,k _ _ (.inl rfl) e,c⟩,r⟩
 | rng lo hi=>obtain ⟨t,u,v,e⟩:=x;exact ⟨t,u,v,k _ _ (.inl rfl) e⟩
 | frz ob u ih=>obtain ⟨e,q⟩:=x;exact ⟨k _ _ (.inl rfl) e,ih q⟩
 | tbl ps =>
   have e:h.get? a=some { cls:=.none,data:=.fields ps }:=x
   show h'.get? a=some { cls:=.none,data:=.fields ps }
   exact k a _ (.inl rfl) e
 | met f y =>
   have e:h.get? a=some (PySem.W.methodObj (.ref f) (.ref y)):=x
   show h'.get? a=some (PySem.W.methodObj (.ref f) (.ref y))
   exact k a _ (.inl rfl) e
 | ext φ=>obtain ⟨p,⟨o,e⟩,st⟩:=x;exact ⟨st _ _ p fun o q=>k _ _ (.inl rfl) q,⟨o,k _ _ (.inl rfl) e⟩,st⟩
theorem HOk.lt (x:HOk P w H h) (e:H a=some o):a < h.objs.size:=(x a o e).lt
theorem HOk.fresh (x:HOk P w H h) (e:h.objs.size<=a):H a=none:=by
 cases q:H a with
 | none=>rfl
 | some u=>exact absurd (Nat.lt_of_lt_of_le (x.lt q) e) (Nat.lt_irrefl _)
theorem HOk.kept (x:HOk P w H h) (k:∀b u,h.get? b=some u->h'.get? b=some u):HOk P w H h':=fun a o e =>
 (x a o e).stay (fun b u _ q=>k b u q) (fun _ q=>q) fun _ _ q=>q
theorem HOk.laid (x:HOk P w H h) (k:∀b u,h.get? b=some u->h'.get? b=some u) (hp:h.objs.size<=a) (new:Bk P w (upd H a o) h' a o):HOk P w (upd H a o) h':=fun b u e=>by
 have hn:=x.fresh hp
 by_cases hb:b=a
 ·subst hb;rw [Ag] at e;cases e;exact new
 ·rw [A8 hb] at e
  exact (x b u e).stay (fun c v _ q=>k c v q) (fun c q=>by rw [A8 (Bt q hn)];exact q) fun c xs q=>by rw [A8 (Bt q hn)];exact q
end
noncomputable def Rd (H:Hp) (a:Addr) (u:HO):Prop:=H a=some u\/∃o,H a=some (.frz o u)
theorem Rd.ok {P:Program} {w:World} {H:Hp} {h:Heap} {a:Addr} {u:HO} (r:Rd H a u) (x:HOk P w H h):Bk P w H h a u:=by
 rcases r with r | ⟨o,r⟩
 ·exact x a u r
 ·obtain ⟨_,q⟩:=x a _ r
  exact q
noncomputable def Mut:Option HO->Prop
 | some (.lst _)=>True
 | some (.dK _)=>True
 | some (.dT _)=>True
 | some (.set _ _)=>True
 | some (.ins _ _ _)=>True
 | some (.ext _)=>True
 | _=>False
section
variable {P:Program} {w:World} {H:Hp} {h h':Heap} {x e:Addr} {o':HO}
theorem HOk.write (ok:HOk P w H h) (mu:Mut (H x)) (he:e=x\/H e=some (.own x)) (k:∀b u,b≠e->h.get? b=some u->h'.get? b=some u) (heo:∃u,h'.get? e=some u)
 (new:Bk P w (upd H x o') h' x o'):HOk P w (upd H x o') h':=fun b u q=>by
 have nown:∀c y,H c=some (.own y)->c≠x:=fun c y r z=>by subst z;rw [r] at mu;exact mu
 have ntup:∀c xs,H c=some (.tup xs)->c≠x:=fun c xs r z=>by subst z;rw [r] at mu;exact mu
 by_cases hb:b=x
 ·subst hb;rw [Ag] at q;cases q;exact new
 ·rw [A8 hb] at q
  by_cases hbe:b=e
  ·have q':H b=some (.own x):=by
    rcases he with z | z
    ·exact absurd (hbe.trans z) hb
    ·rw [hbe];exact z
   rw [q] at q';cases q'
   obtain ⟨v,hv⟩:=heo
   exact ⟨v,by rw [hbe];exact hv⟩
  ·refine (ok b u q).stay (fun c v hc r=>k c v ?_ r) (fun c r=>by rw [A8 (nown c b r)];exact r) fun c xs r=>by rw [A8 (ntup c xs r)];exact r
   rcases hc with rfl | hc
   ·exact hbe
   ·rintro rfl
    rcases he with z | z
    ·exact nown c b hc z
    ·rw [hc] at z;cases z;exact hb rfl
end
structure Un (fs ex:List Addr) (H H':Hp) (h h':Heap):Prop where
 keep:∀b o,h.get? b=some o->H b=none->b ∉ fs->b ∉ ex->h'.get? b=some o
 slot:∀b o,h.get? b=some o->H b=none->b∈fs->b ∉ ex->∃sl,h'.get? b=some { o with slots:=sl }
 free:∀b o,h.get? b=some o->H b=none->b ∉ ex->H' b=none
 there:∀b o,h.get? b=some o->b ∉ ex->∃o',h'.get? b=some o'
 tups:∀b xs,H b=some (.tup xs)->H' b=some (.tup xs)
 frzs:∀b o u,H b=some (.frz o u)->H' b=some (.frz o u)
 tbls:∀b ps,H b=some (.tbl ps)->∃more,H' b=some (.tbl (ps++more))
section
variable {fs fs' ex ex':List Addr} {H H1 H2:Hp} {h h1 h2 h':Heap} {a x e:Addr} {o:HO}
theorem Un.any (u:Un fs ex H H1 h h1) {b:Addr} {ob:Obj} (q:h.get? b=some ob) (n:H b=none) (hx:b ∉ ex):∃sl,h1.get? b=some { ob with slots:=sl }:=by
 by_cases hb:b∈fs
 ·exact u.slot b ob q n hb hx
 ·exact ⟨ob.slots,u.keep b ob q n hb hx⟩
theorem Un.kept (k:∀b u,h.get? b=some u->h'.get? b=some u):Un fs ex H H h h' :=
 ⟨fun b ob q _ _ _=>k b ob q,fun b ob q _ _ _=>⟨ob.slots,k b ob q⟩,fun _ _ _ n _=>n,fun b ob q _=>⟨ob,k b ob q⟩,fun _ _ q=>q,fun _ _ _ q=>q,fun _ ps q=>⟨#[],by rw [q];simp⟩⟩
theorem Un.refl:Un fs ex H H h h:=Un.kept fun _ _ q=>q
theorem Un.laid (k:∀b u,h.get? b=some u->h'.get? b=some u) (hp:h.objs.size<=a) (hn:H a=none):Un fs ex H (upd H a o) h h' where
 keep:=fun b u q _ _ _=>k b u q
 slot:=fun b u q _ _ _=>⟨u.slots,k b u q⟩
 free:=fun b u q n _=>by rw [A8 (Nat.ne_of_lt (Nat.lt_of_lt_of_le (Heap.lt_size q) hp))];exact n
 there:=fun b u q _=>⟨u,k b u q⟩
 tups:=fun b xs q=>by rw [A8 (Bt q hn)];exact q
 frzs:=fun b u xs q=>by rw [A8 (Bt q hn)];exact q
 tbls:=fun b ps q=>⟨#[],by rw [A8 (Bt q hn),q];simp⟩
theorem Un.write (mu:Mut (H x)) (he:e=x\/H e=some (.own x)) (k:∀b u,b≠e->h.get? b=some u->h'.get? b=some u) (heo:∃u,h'.get? e=some u):Un fs ex H (upd H x o) h h':=by
 have hx:∀b,H b=none->b≠x:=fun b n z=>by subst z;rw [n] at mu;exact mu
 have hb:∀b,H b=none->b≠e:=fun b n z=>by
  subst z
  rcases he with r | r
  ·exact hx b n r
  ·rw [n] at r;cases r
 have hm:∀b u,H b=some u->¬ Mut (some u)->b≠x:=fun b u q nm z=>by subst z;rw [q] at mu;exact nm mu
 refine ⟨fun b u q n _ _=>k b u (hb b n) q,fun b u q n _ _=>⟨u.slots,k b u (hb b n) q⟩,fun b u q n _=>by rw [A8 (hx b n)];exact n,fun b u q _=>?_,
  fun b xs q=>by rw [A8 (hm b _ q fun z=>z)];exact q,fun b u xs q=>by rw [A8 (hm b _ q fun z=>z)];exact q,fun b ps q=>⟨#[],by rw [A8 (hm b _ q fun z=>z),q];simp⟩⟩
 by_cases hbe:b=e
 ·subst hbe;exact heo
 ·exact ⟨u,k b u hbe q⟩
end
noncomputable def trk (h:Heap) (H:Hp):List Addr:=(List.range h.objs.size).filter fun a=>(H a).isSome
noncomputable def Jj (h:Heap) (H:Hp):Heap:=PySem.W.hideAll h (trk h H)
theorem NL (h:Heap) (H:Hp):(Jj h H).objs.size=h.objs.size:=PySem.W.hideAll_size _ _
theorem P8 {h:Heap} {H:Hp} {b:Addr} {o:Obj} (e:h.get? b=some o) (n:H b=none):(Jj h H).get? b=some o :=
 PySem.W.hideAll_get _ e fun hm=>by
  have q:(H b).isSome=true:=(mem_filter.mp hm).2
  rw [n] at q;simp at q
theorem Qy {h:Heap} {H:Hp} {b:Addr} {o:Obj} (e:(Jj h H).get? b=some o):h.get? b=some o/\H b=none:=by
 have e':h.get? b=some o:=PySem.W.of_hideAll (trk h H) e
 refine ⟨e',?_⟩
 cases q:H b with
 | none=>rfl
 | some x =>
   have hm:b∈trk h H:=mem_filter.mpr ⟨mem_range.mpr (Heap.lt_size e'),by simp [q]⟩
   have z:(Jj h H).get? b=none:=PySem.W.hideAll_none (trk h H) hm
   rw [z] at e;cases e
end L2
namespace L2
open PySem PySem.Spec PyProof.Rows
structure Mod (K:PySem.W.Frag) (mg:Str->Option Value) (base:Heap):Prop where
 kin:K.In base
 glob:base.Ns mainGlobals mg
 blt:∃mb,base.Ns builtinsNs mb/\∀x:Str,x≠"__name__"->mb x=bootBuiltins x
 nolimit:base.NoLimit
structure Cx where
 prog:Program
 w:World
 K:PySem.W.Frag
 mg:Str->Option Value
 base:Heap
 A:Around
 N:List Str
 s₀:Shared
 H₀:Hp
 env:Env
 outer:List Env
 stack:List Env
 ex:List Addr
 fn:Str->Bool
 calm:Bool
 pn:List (Addr × Obj)
 xe:Value->Shared->Prop
def frs (l:List Env):List Addr:=l.filterMap (·.frame)
abbrev Cx.fs (X:Cx):List Addr:=frs X.outer
noncomputable def Vis (sc:Scope) (x:Str):Prop:=sc.names.lookup x=some .local\/sc.names.lookup x=some .cell\/sc.names.lookup x=some .free
noncomputable def Loc (sc:Scope) (x:Str):Prop:=sc.names.lookup x=some .local\/sc.names.lookup x=some .cell
noncomputable def So (env:Env) (h:Heap) (m:Str->Option Value) (x:Str) (u:Value):Prop :=
 (env.kindOf x=some .local/\m x=some u)\/((env.kindOf x=some .cell\/env.kindOf x=some .free)/\∃c,env.cells.lookup x=some c/\h.IsCell c (some u))
structure Cx.Ok (X:Cx):Prop where
 mod:Mod X.K X.mg X.base
 kind:X.env.scope.kind=.function
 glob:X.env.globals=mainGlobals
 blt:X.env.builtins=builtinsNs
 above:X.s₀.heap.objs.size<=X.env.locals
 inj:∀x y c,X.env.cells.lookup x=some c->X.env.cells.lookup y=some c->x=y
 has:∀x,(X.env.kindOf x=some .cell\/X.env.kindOf x=some .free)->∃c,X.env.cells.lookup x=some c
 cab:∀x c,X.fn x=true->X.env.cells.lookup x=some c->X.s₀.heap.objs.size<=c
 hd:X.calm=true->X.A.handled=none
 frames:X.A.frames=some X.stack
 stk:X.stack=X.outer\/(X.stack=X.env :: X.outer/\X.env.frame=some X.env.locals)
 exf:∀b∈X.ex,b≠X.env.locals/\∀x c,X.env.cells.lookup x=some c->c≠b
 bs:∀b o,X.base.get? b=some o->X.s₀.heap.get? b=some o/\X.H₀ b=none
 bsz:X.base.objs.size<=X.s₀.heap.objs.size
 noex:∀b o,X.base.get? b=some o->b ∉ X.ex
 exfs:∀b∈X.ex,b ∉ X.fs
 funs:X.s₀.heap.FunFrames X.base X.outer
 frf:∀b∈X.fs,X.H₀ b=none
structure Inv (X:Cx) (pins:List (Addr × Obj)) (σ:List (Option V)) (H:Hp) (s:Shared):Prop where
 ok:X.Ok
 os:s.os=X.s₀.os
 bare:AllBare s.gens
 base:Un X.fs X.ex X.H₀ H X.s₀.heap s.heap
 loc:∃m,s.heap.Ns X.env.locals m/\∀(i:Nat) (x:Str) (v:V),X.N[i]?=some x->σ[i]?=some (some v)->Vis X.env.scope x->∃u,Bg v u/\So X.env s.heap m x u
 cell:∀x c,X.env.cells.lookup x=some c->∃v,s.heap.IsCell c v
 free:H X.env.locals=none
 freeC:∀x c,X.env.cells.lookup x=some c->H c=none
 pin:∀p∈X.pn++pins,s.heap.get? p.1=some p.2/\H p.1=none/\p.1≠X.env.locals/\p.1 ∉ X.fs/\∀v,p.2.data≠.cell v
 hok:HOk X.prog X.w H s.heap
 len:σ.length=X.N.length
section
variable {X:Cx} {pins:List (Addr × Obj)} {σ:List (Option V)} {H H':Hp} {s:Shared} {h':Heap}
theorem Cx.Ok.nofr (ok:X.Ok) {b:Addr} {o:Obj} (e:X.base.get? b=some o):b ∉ X.fs:=fun hb=>by
 have:=(ok.funs.mem hb).1
 rw [e] at this;cases this
theorem Inv.bs (I:Inv X pins σ H s):∀b o,X.base.get? b=some o->s.heap.get? b=some o/\H b=none:=fun b o e =>
 ⟨I.base.keep b o (I.ok.bs b o e).1 (I.ok.bs b o e).2 (I.ok.nofr e) (I.ok.noex b o e),I.base.free b o (I.ok.bs b o e).1 (I.ok.bs b o e).2 (I.ok.noex b o e)⟩
theorem Inv.bk (I:Inv X pins σ H s):∀b o,X.base.get? b=some o->s.heap.get? b=some o:=fun b o e=>(I.bs b o e).1
theorem Inv.mod (I:Inv X pins σ H s):Mod X.K X.mg X.base:=I.ok.mod
theorem Inv.kIn (I:Inv X pins σ H s):X.K.In s.heap:=I.ok.mod.kin.keeps I.bk
theorem Inv.lt (I:Inv X pins σ H s):X.env.locals < s.heap.objs.size:=let ⟨_,hn,_⟩:=I.loc;hn.lt
theorem Inv.sz (I:Inv X pins σ H s):X.s₀.heap.objs.size<=s.heap.objs.size:=Nat.le_trans I.ok.above (Nat.le_of_lt I.lt)
theorem Inv.nofs (I:Inv X pins σ H s) {a:Addr} (h:s.heap.objs.size<=a):a ∉ X.fs:=fun hb=>by
 obtain ⟨_,o,ho,_⟩:=I.ok.funs.mem hb
 exact absurd (Nat.lt_of_lt_of_le (Heap.lt_size ho) (Nat.le_trans I.sz h)) (Nat.lt_irrefl _)
theorem Inv.cne (I:Inv X pins σ H s):∀x c,X.env.cells.lookup x=some c->c≠X.env.locals:=fun x c e z=>by
 obtain ⟨v,o,ho,hd⟩:=I.cell x c e
 obtain ⟨m,⟨o',es,ep,ho',hd',_⟩,_⟩:=I.loc
 rw [z,ho'] at ho;cases ho;rw [hd'] at hd;cases hd
theorem Inv.funs (I:Inv X pins σ H s):s.heap.FunFrames X.base X.outer:=by
 have all:∀(l:List Env),(∀b∈frs l,b∈X.fs)->X.s₀.heap.FunFrames X.base l->s.heap.FunFrames X.base l:=by
  intro l
  induction l with
  | nil=>intro _ _;trivial
  | cons env r ih =>
    intro hs hl
    obtain ⟨hk,⟨L,o,hf,hn,ho,hd⟩,hr⟩:=hl
    have hL:L∈X.fs:=hs L (by unfold frs;rw [filterMap_cons,hf];exact mem_cons_self)
    obtain ⟨sl,e⟩:=I.base.slot L o ho (I.ok.frf L hL) hL fun z=>I.ok.exfs L z hL
    exact ⟨hk,⟨L,_,hf,hn,e,hd⟩,ih (fun b hb=>hs b (by unfold frs;rw [filterMap_cons,hf];exact mem_cons_of_mem _ hb)) hr⟩
 exact all X.outer (fun _ hb=>hb) I.ok.funs
theorem Inv.stack (I:Inv X pins σ H s):s.heap.FunFrames X.base X.stack:=by
 rcases I.ok.stk with e | ⟨e,hf⟩
 ·rw [e];exact I.funs
 ·rw [e]
  obtain ⟨m,hn,_⟩:=I.loc
  refine .cons (by rw [I.ok.kind];decide) hf hn ?_ I.funs
  exact Heap.get?_none_of_le (Nat.le_trans I.ok.bsz I.ok.above)
theorem Inv.stkSub (I:Inv X pins σ H s):∀b∈frs X.stack,b∈X.env.locals :: X.fs:=fun b hb=>by
 rcases I.ok.stk with e | ⟨e,hf⟩
 ·rw [e] at hb;exact mem_cons_of_mem _ hb
 ·rw [e] at hb
  unfold frs at hb
  rw [filterMap_cons,hf] at hb
  exact hb
theorem Inv.stkFree (I:Inv X pins σ H s):∀b∈frs X.stack,H b=none:=fun b hb=>by
 rcases mem_cons.mp (I.stkSub b hb) with e | hb
 ·rw [e];exact I.free
 ·obtain ⟨_,o,ho,_⟩:=I.ok.funs.mem hb
  exact I.base.free b o ho (I.ok.frf b hb) fun z=>I.ok.exfs b z hb
theorem Inv.step {g':Array GenState} {t':Nat} {d':Drawn} {ch:List Addr} (I:Inv X pins σ H s)
 (hch:∀b∈ch,(b∈X.ex\/X.s₀.heap.objs.size<=b)/\b≠X.env.locals/\(∀x c,X.env.cells.lookup x=some c->c≠b)/\∀p∈X.pn++pins,p.1≠b)
 (keep:∀b o,b≠X.env.locals->b ∉ X.fs->b ∉ ch->s.heap.get? b=some o->H b=none->h'.get? b=some o)
 (slot:∀b o,b≠X.env.locals->b∈X.fs->b ∉ ch->s.heap.get? b=some o->H b=none->∃sl,h'.get? b=some { o with slots:=sl }) (free:∀b o,b ∉ ch->s.heap.get? b=some o->H b=none->H' b=none)
 (there:∀b o,b ∉ ch->s.heap.get? b=some o->∃o',h'.get? b=some o')
 (tups:∀b xs,H b=some (.tup xs)->H' b=some (.tup xs)) (frzs:∀b o u,H b=some (.frz o u)->H' b=some (.frz o u)) (tbls:∀b ps,H b=some (.tbl ps)->∃more,H' b=some (.tbl (ps++more)))
 (ns:∀m,s.heap.Ns X.env.locals m->h'.Ns X.env.locals m) (hok:HOk X.prog X.w H' h') (hg:AllBare g') :
 Inv X pins σ H' { s with heap:=h',gens:=g',drawn:=d',toks:=t' }:=by
 have neL:∀b o,X.s₀.heap.get? b=some o->b≠X.env.locals:=fun b o e=>Nat.ne_of_lt (Nat.lt_of_lt_of_le (Heap.lt_size e) I.ok.above)
 have neC:∀b o,X.s₀.heap.get? b=some o->b ∉ X.ex->b ∉ ch:=fun b o e hx hb=>by
  rcases (hch b hb).1 with z | z
  ·exact hx z
  ·exact absurd (Nat.lt_of_lt_of_le (Heap.lt_size e) z) (Nat.lt_irrefl _)
 have cellK:∀x c,X.env.cells.lookup x=some c->∀v,s.heap.IsCell c v->h'.IsCell c v:=fun x c e v ⟨o,ho,hd⟩=>by
  have nch:c ∉ ch:=fun z=>(hch c z).2.2.1 x c e rfl
  by_cases hc:c∈X.fs
  ·obtain ⟨sl,q⟩:=slot c o (I.cne x c e) hc nch ho (I.freeC x c e)
   exact ⟨_,q,hd⟩
  ·exact ⟨o,keep c o (I.cne x c e) hc nch ho (I.freeC x c e),hd⟩
 refine ⟨I.ok,I.os,hg,⟨fun b o e n hb hx=>?_,fun b o e n hb hx=>?_,fun b o e n hx=>?_,fun b o e hx=>?_,fun b xs e=>tups b xs (I.base.tups b xs e),fun b o xs e=>frzs b o xs (I.base.frzs b o xs e),fun b ps e=>?_⟩,?_,fun x c e=>?_,?_,fun x c e=>?_,fun p hp=>?_,hok,I.len⟩
 ·exact keep b o (neL b o e) hb (neC b o e hx) (I.base.keep b o e n hb hx) (I.base.free b o e n hx)
 ·obtain ⟨sl,e1⟩:=I.base.slot b o e n hb hx
  obtain ⟨sl',e2⟩:=slot b _ (neL b o e) hb (neC b o e hx) e1 (I.base.free b o e n hx)
  exact ⟨sl',e2⟩
 ·obtain ⟨o',e1⟩:=I.base.there b o e hx
  exact free b o' (neC b o e hx) e1 (I.base.free b o e n hx)
 ·obtain ⟨o',e1⟩:=I.base.there b o e hx
  exact there b o' (neC b o e hx) e1
 ·obtain ⟨m1,e1⟩:=I.base.tbls b ps e
  obtain ⟨m2,e2⟩:=tbls b _ e1
  exact ⟨m1++m2,by rw [e2,Array.append_assoc]⟩
 ·obtain ⟨m,hn,hl⟩:=I.loc
  refine ⟨m,ns m hn,fun i x v e1 e2 e3=>?_⟩
  obtain ⟨u,r,l⟩:=hl i x v e1 e2 e3
  refine ⟨u,r,?_⟩
  rcases l with l | ⟨k,c,e,z⟩
  ·exact .inl l
  ·exact .inr ⟨k,c,e,cellK x c e _ z⟩
 ·obtain ⟨v,z⟩:=I.cell x c e
  exact ⟨v,cellK x c e v z⟩
 ·obtain ⟨m,⟨o,_,_,ho,_⟩,_⟩:=I.loc
  exact free _ o (fun z=>(hch _ z).2.1 rfl) ho I.free
 ·obtain ⟨v,o,ho,hd⟩:=I.cell x c e
  exact free c o (fun z=>(hch c z).2.2.1 x c e rfl) ho (I.freeC x c e)
 ·obtain ⟨e,n,ne,nf,d⟩:=I.pin p hp
  have nch:p.1 ∉ ch:=fun z=>(hch p.1 z).2.2.2 p hp rfl
  exact ⟨keep p.1 p.2 ne nf nch e n,free p.1 p.2 nch e n,ne,nf,d⟩
theorem Inv.un {t':Nat} (I:Inv X pins σ H s) (u:Un X.fs [] H H' s.heap h') (hok:HOk X.prog X.w H' h'):Inv X pins σ H' { s with heap:=h',toks:=t' }:=by
 obtain ⟨m,⟨o,es,ep,ho,r⟩,_⟩:=id I.loc
 obtain ⟨sl,hL⟩:=u.any ho I.free (by simp)
 exact I.step (g':=s.gens) (d':=s.drawn) (ch:=[]) (fun _ z=>nomatch z) (fun b o _ hb _ e n=>u.keep b o e n hb (by simp)) (fun b o _ hb _ e n=>u.slot b o e n hb (by simp)) (fun b o _ e n=>u.free b o e n (by simp)) (fun b o _ e=>u.there b o e (by simp)) u.tups u.frzs u.tbls (fun m' hm=>by
  obtain ⟨o',es',ep',ho',r'⟩:=hm
  rw [ho] at ho';cases ho'
  exact ⟨_,es',ep',hL,r'⟩) hok I.bare
theorem Inv.call {g':Array GenState} {t':Nat} {d':Drawn} {ch:List Addr} (I:Inv X pins σ H s) (u:Un (frs X.stack) ch H H' s.heap h') (hok:HOk X.prog X.w H' h') (hg:AllBare g')
 (hch:∀b∈ch,(b∈X.ex\/X.s₀.heap.objs.size<=b)/\b≠X.env.locals/\(∀x c,X.env.cells.lookup x=some c->c≠b)/\∀p∈X.pn++pins,p.1≠b) :
 Inv X pins σ H' { s with heap:=h',gens:=g',drawn:=d',toks:=t' }:=by
 obtain ⟨m,⟨o,es,ep,ho,r⟩,_⟩:=id I.loc
 obtain ⟨sl,hL⟩:=u.any ho I.free fun z=>(hch _ z).2.1 rfl
 exact I.step (ch:=ch) hch (fun b o hL hb hc e n=>u.keep b o e n (fun z=>(mem_cons.mp (I.stkSub b z)).elim hL hb) hc) (fun b o _ _ hc e n=>u.any e n hc) (fun b o hc e n=>u.free b o e n hc) (fun b o hc e=>u.there b o e hc) u.tups u.frzs u.tbls (fun m' hm=>by
  obtain ⟨o',es',ep',ho',r'⟩:=hm
  rw [ho] at ho';cases ho'
  exact ⟨_,es',ep',hL,r'⟩) hok hg
theorem Inv.turned {t':Nat} {it:Addr} (I:Inv X pins σ H s) (k:∀b o,b≠it->s.heap.get? b=some o->h'.get? b=some o) (hn:H it=none) (hL:it≠X.env.locals)
 (h1:it∈X.ex\/X.s₀.heap.objs.size<=it) (h2:∀x c,X.env.cells.lookup x=some c->c≠it) (h3:∀p∈X.pn++pins,p.1≠it):Inv X pins σ H { s with heap:=h',toks:=t' }:=by
 have nit:∀b u,H b=some u->b≠it:=fun b u e z=>by rw [z,hn] at e;cases e
 refine I.step (g':=s.gens) (d':=s.drawn) (ch:=[it]) (fun b hb=>?_) (fun b o _ _ hc e _=>k b o (fun z=>hc (by simp [z])) e) (fun b o _ _ hc e _=>⟨o.slots,k b o (fun z=>hc (by simp [z])) e⟩) (fun _ _ _ _ n=>n)
  (fun b o hc e=>⟨o,k b o (fun z=>hc (by simp [z])) e⟩) (fun _ _ e=>e) (fun _ _ _ e=>e) (fun b ps e=>⟨#[],by rw [e];simp⟩) (fun m hm=>?_) (fun b u e=>?_) I.bare
 ·have e:b=it:=by simpa using hb
  subst e
  exact ⟨h1,hL,h2,h3⟩
 ·obtain ⟨o,es,ep,ho,r⟩:=hm
  exact ⟨o,es,ep,k _ o (Ne.symm hL) ho,r⟩
 ·refine (I.hok b u e).stay (fun c v hc q=>k c v ?_ q) (fun _ q=>q) fun _ _ q=>q
  rcases hc with z | z
  ·rw [z];exact nit b u e
  ·exact nit c _ z
theorem Inv.tok (I:Inv X pins σ H s) (t:Nat):Inv X pins σ H { s with toks:=t }:=I.un (h':=s.heap) (t':=t) Un.refl I.hok
theorem Inv.kept {t':Nat} (I:Inv X pins σ H s) (k:∀b u,s.heap.get? b=some u->h'.get? b=some u):Inv X pins σ H { s with heap:=h',toks:=t' }:=I.un (Un.kept k) (I.hok.kept k)
theorem Inv.laid {a:Addr} {o:HO} {t':Nat} (I:Inv X pins σ H s) (k:∀b u,s.heap.get? b=some u->h'.get? b=some u) (hp:s.heap.objs.size<=a) (new:Bk X.prog X.w (upd H a o) h' a o) :
 Inv X pins σ (upd H a o) { s with heap:=h',toks:=t' }:=I.un (Un.laid k hp (I.hok.fresh hp)) (I.hok.laid k hp new)
theorem Inv.write {x e:Addr} {o:HO} {t':Nat} (I:Inv X pins σ H s) (mu:Mut (H x)) (he:e=x\/H e=some (.own x)) (k:∀b u,b≠e->s.heap.get? b=some u->h'.get? b=some u) (heo:∃u,h'.get? e=some u)
 (new:Bk X.prog X.w (upd H x o) h' x o):Inv X pins σ (upd H x o) { s with heap:=h',toks:=t' }:=I.un (Un.write mu he k heo) (I.hok.write mu he k heo new)
theorem Inv.pins_of {pins':List (Addr × Obj)} (I:Inv X pins σ H s) (h:∀p∈pins',s.heap.get? p.1=some p.2/\H p.1=none/\p.1≠X.env.locals/\p.1 ∉ X.fs/\∀v,p.2.data≠.cell v):Inv X pins' σ H s :=
 ⟨I.ok,I.os,I.bare,I.base,I.loc,I.cell,I.free,I.freeC,fun p hp=>(mem_append.mp hp).elim (fun z=>I.pin p (mem_append_left _ z)) (h p),I.hok,I.len⟩
theorem GK {N:List Str} (hN:N.Nodup) {i j:Nat} {x:Str} (a:N[i]?=some x) (b:N[j]?=some x):i=j:=by
 obtain ⟨h1,e1⟩:=List.getElem?_eq_some_iff.mp a
 obtain ⟨h2,e2⟩:=List.getElem?_eq_some_iff.mp b
 exact (getElem_inj hN).mp (e1.trans e2.symm)
theorem IS {M:Model} {A:Around} {E:Value->Shared->Prop} {i:Nat} {x:Str} {v:V} {u:Value} {Q:Unit->Shared->Prop} (I:Inv X pins σ H s) (hN:X.N.Nodup) (hi:X.N[i]?=some x) (hx:Loc X.env.scope x) (r:Bg v u)
 (h:∀s',Inv X pins (σ.set i (some v)) H s'->(∃a,Heap.SameBut a s.heap s'.heap/\(a=X.env.locals\/X.env.cells.lookup x=some a))->Q () s') (hf:X.fn x=true\/X.env.scope.names.lookup x=some .local:=by first | exact .inl rfl | exact .inr rfl | assumption):wpAny M A (storeName X.env x u) Q E s:=by
 obtain ⟨m,hn,hl⟩:=id I.loc
 have hcls:(X.env.scope.kind == .class || (X.env.scope.kind == .module && X.env.locals != X.env.globals))=false:=by rw [I.ok.kind];rfl
 have hiσ:i < σ.length:=by rw [I.len];exact (List.getElem?_eq_some_iff.mp hi).1
 have cne:=I.cne
 have tracked:∀{a:Addr} {h':Heap},(∃o,s.heap.get? a=some o/\H a=none)->Heap.SameBut a s.heap h'->HOk X.prog X.w H h':=fun {a h'} ha hs b ob e=>by
  obtain ⟨_,_,hfree⟩:=ha
  refine (I.hok b ob e).stay (fun c w' hc q=>(hs.2 c ?_).trans q) (fun _ q=>q) fun _ _ q=>q
  rintro rfl
  rcases hc with rfl | hc
  ·rw [hfree] at e;cases e
  ·rw [hfree] at hc;cases hc
 rcases hx with hk | hk
 ·refine wpAny_storeName_local hk hn (fun h' hn' hs=>?_) hcls
  obtain ⟨oL,_,_,hoL,_⟩:=id hn
  refine h _ ⟨I.ok,I.os,I.bare,⟨fun b o e n hb hx=>?_,fun b o e n hb hx=>?_,I.base.free,fun b o e hx=>?_,I.base.tups,I.base.frzs,I.base.tbls⟩,⟨_,hn',fun j y v' e1 e2 e3=>?_⟩,fun y c e=>?_,I.free,I.freeC,fun p hp=>?_,tracked ⟨oL,hoL,I.free⟩ hs,by simpa using I.len⟩ ⟨_,hs,.inl rfl⟩
  ·exact (hs.2 b (Nat.ne_of_lt (Nat.lt_of_lt_of_le (Heap.lt_size e) I.ok.above))).trans (I.base.keep b o e n hb hx)
  ·obtain ⟨sl,e1⟩:=I.base.slot b o e n hb hx
   exact ⟨sl,(hs.2 b (Nat.ne_of_lt (Nat.lt_of_lt_of_le (Heap.lt_size e) I.ok.above))).trans e1⟩
  ·obtain ⟨o',e1⟩:=I.base.there b o e hx
   exact ⟨o',(hs.2 b (Nat.ne_of_lt (Nat.lt_of_lt_of_le (Heap.lt_size e) I.ok.above))).trans e1⟩
  ·by_cases hj:j=i
   ·subst hj
    rw [hi] at e1;cases e1
    rw [List.getElem?_set_self hiσ] at e2
    cases e2
    exact ⟨u,r,.inl ⟨hk,by simp⟩⟩
   ·rw [List.getElem?_set_ne (Ne.symm hj)] at e2
    obtain ⟨u',r',q⟩:=hl j y v' e1 e2 e3
    refine ⟨u',r',?_⟩
    rcases q with ⟨k,e⟩ | ⟨k,c,e,z⟩
    ·refine .inl ⟨k,?_⟩
     have:y≠x:=fun e=>hj (GK hN e1 (e ▸ hi))
     simp [this,e]
    ·exact .inr ⟨k,c,e,z.sameBut hs (cne y c e)⟩
  ·obtain ⟨w',z⟩:=I.cell y c e
   exact ⟨w',z.sameBut hs (cne y c e)⟩
  ·obtain ⟨e,n,ne,nf,d⟩:=I.pin p hp
   exact ⟨(hs.2 p.1 ne).trans e,n,ne,nf,d⟩
 ·have hfn:X.fn x=true:=by
   rcases hf with z | z
   ·exact z
   ·rw [z] at hk;cases hk
  obtain ⟨c,hc⟩:=I.ok.has x (.inl hk)
  obtain ⟨w',z⟩:=I.cell x c hc
  refine wpAny_storeName_cell I.ok.kind hk hc z (fun h' hc' hs=>?_)
  obtain ⟨oc,hoc,hocd⟩:=id z
  refine h { s with heap:=h' } ⟨I.ok,I.os,I.bare,⟨fun b o e n hb hx=>?_,fun b o e n hb hx=>?_,I.base.free,fun b o e hx=>?_,I.base.tups,I.base.frzs,I.base.tbls⟩,⟨m,hn.sameBut hs (Ne.symm (cne x c hc)),fun j y v' e1 e2 e3=>?_⟩,fun y c' e=>?_,I.free,I.freeC,fun p hp=>?_,tracked ⟨oc,hoc,I.freeC x c hc⟩ hs,by simpa using I.len⟩ ⟨c,hs,.inr hc⟩
  ·exact (hs.2 b (Nat.ne_of_lt (Nat.lt_of_lt_of_le (Heap.lt_size e) (I.ok.cab x c hfn hc)))).trans (I.base.keep b o e n hb hx)
  ·obtain ⟨sl,e1⟩:=I.base.slot b o e n hb hx
   exact ⟨sl,(hs.2 b (Nat.ne_of_lt (Nat.lt_of_lt_of_le (Heap.lt_size e) (I.ok.cab x c hfn hc)))).trans e1⟩
  ·obtain ⟨o',e1⟩:=I.base.there b o e hx
   exact ⟨o',(hs.2 b (Nat.ne_of_lt (Nat.lt_of_lt_of_le (Heap.lt_size e) (I.ok.cab x c hfn hc)))).trans e1⟩
  ·by_cases hj:j=i
   ·subst hj
    rw [hi] at e1;cases e1
    rw [List.getElem?_set_self hiσ] at e2
    cases e2
    exact ⟨u,r,.inr ⟨.inl hk,c,hc,hc'⟩⟩
   ·rw [List.getElem?_set_ne (Ne.symm hj)] at e2
    obtain ⟨u',r',q⟩:=hl j y v' e1 e2 e3
    refine ⟨u',r',?_⟩
    rcases q with q | ⟨k,c',e,z'⟩
    ·exact .inl q
    ·refine .inr ⟨k,c',e,z'.sameBut hs ?_⟩
     rintro rfl
     exact hj (GK hN e1 (I.ok.inj _ _ _ e hc ▸ hi))
  ·by_cases hcc:c'=c
   ·subst hcc;exact ⟨_,hc'⟩
   ·obtain ⟨w2,z2⟩:=I.cell y c' e
    exact ⟨w2,z2.sameBut hs hcc⟩
  ·obtain ⟨e,n,ne,nf,d⟩:=I.pin p hp
   refine ⟨(hs.2 p.1 ?_).trans e,n,ne,nf,d⟩
   intro q
   rw [q,hoc] at e
   have q':oc=p.2:=Option.some.inj e
   exact d w' (by rw [<- q'];exact hocd)
theorem Id {M:Model} {A:Around} {E:Value->Shared->Prop} {i:Nat} {x:Str} {v:V} {u:Value} {Q:Unit->Shared->Prop} (I:Inv X pins σ H s) (hN:X.N.Nodup) (hi:X.N[i]?=some x) (hx:Loc X.env.scope x) (r:Bg v u)
 (h:∀s',Inv X pins (σ.set i (some v)) H s'->Q () s') (hf:X.fn x=true\/X.env.scope.names.lookup x=some .local:=by first | exact .inl rfl | exact .inr rfl | assumption):wpAny M A (storeName X.env x u) Q E s :=
 IS I hN hi hx r (fun s' I' _=>h s' I') hf
theorem Inv.call' {s':Shared} {ch:List Addr} (I:Inv X pins σ H s) (ho:s'.os=s.os) (u:Un (frs X.stack) ch H H' s.heap s'.heap) (hok:HOk X.prog X.w H' s'.heap) (hg:AllBare s'.gens)
 (hch:∀b∈ch,(b∈X.ex\/X.s₀.heap.objs.size<=b)/\b≠X.env.locals/\(∀x c,X.env.cells.lookup x=some c->c≠b)/\∀p∈X.pn++pins,p.1≠b):Inv X pins σ H' s':=by
 obtain ⟨h',g',d',t',o'⟩:=s'
 have e:o'=s.os:=ho
 subst e
 exact I.call (g':=g') (t':=t') (d':=d') u hok hg hch
end
abbrev XK:=Value->Option Addr->Hp->Prop
abbrev St:=List (Option V)
abbrev VK:=V->Hp->Prop
abbrev TE:=St->Hp->VK->Prop
abbrev TT:=St->Hp->(Bool->Hp->Prop)->Prop
abbrev TA:=St->Hp->(List V->Hp->Prop)->Prop
structure Gi where
 nx:St->Hp->Prop
 rt:VK
 bk:St->Hp->Prop:=fun _ _=>False
 ct:St->Hp->Prop:=fun _ _=>False
abbrev TS:=Gi->St->Hp->Prop
noncomputable def EP (X:Cx) (pins:List (Addr × Obj)) (σ:St) (Q:VK) (u:Value) (s':Shared):Prop:=∃v H',Inv X pins σ H' s'/\Bg v u/\Q v H'
noncomputable def TP (X:Cx) (pins:List (Addr × Obj)) (σ:St) (Q:Bool->Hp->Prop) (b:Bool) (s':Shared):Prop:=∃H',Inv X pins σ H' s'/\Q b H'
noncomputable def AP (X:Cx) (pins:List (Addr × Obj)) (σ:St) (Q:List V->Hp->Prop) (us:List Value) (s':Shared):Prop:=∃vs H',Inv X pins σ H' s'/\AX vs us/\Q vs H'
noncomputable def SP (X:Cx) (pins:List (Addr × Obj)) (D:Gi) (f:Flow) (s':Shared):Prop :=
 match f with
 | .next=>∃σ' H',Inv X pins σ' H' s'/\D.nx σ' H'
 | .brk=>∃σ' H',Inv X pins σ' H' s'/\D.bk σ' H'
 | .cont=>∃σ' H',Inv X pins σ' H' s'/\D.ct σ' H'
 | .ret u=>∃v σ' H',Inv X pins σ' H' s'/\Bg v u/\D.rt v H'
noncomputable def PE (X:Cx) (e:Expr) (t:TE):Prop :=
 ∀(pins:List (Addr × Obj)) (s:Shared) (σ:St) (H:Hp) (Q:VK),Inv X pins σ H s->t σ H Q->wpAny (model X.prog X.w) X.A (eval e X.env) (EP X pins σ Q) X.xe s
noncomputable def PT (X:Cx) (e:Expr) (t:TT):Prop :=
 ∀(pins:List (Addr × Obj)) (s:Shared) (σ:St) (H:Hp) (Q:Bool->Hp->Prop),Inv X pins σ H s->t σ H Q->wpAny (model X.prog X.w) X.A (isTrue e X.env (eval e X.env)) (TP X pins σ Q) X.xe s
noncomputable def PW (X:Cx) (e:Expr) (t:TT):Prop :=
 ∀(whole:Sem Value) (pins:List (Addr × Obj)) (s:Shared) (σ:St) (H:Hp) (Q:Bool->Hp->Prop),Inv X pins σ H s->t σ H Q->wpAny (model X.prog X.w) X.A (isTrue e X.env whole) (TP X pins σ Q) X.xe s
theorem PW.pt {X:Cx} {e:Expr} {t:TT} (h:PW X e t):PT X e t:=h _
noncomputable def PA (X:Cx) (es:List Expr) (t:TA):Prop :=
 ∀(pos:Pos) (pins:List (Addr × Obj)) (s:Shared) (σ:St) (H:Hp) (Q:List V->Hp->Prop),Inv X pins σ H s->t σ H Q->wpAny (model X.prog X.w) X.A (spliced (backTo pos (starEach es X.env))) (AP X pins σ Q) X.xe s
noncomputable def PS (X:Cx) (st:Stmt) (t:TS):Prop :=
 ∀(pins:List (Addr × Obj)) (s:Shared) (σ:St) (H:Hp) (D:Gi),Inv X pins σ H s->t D σ H->wpAny (model X.prog X.w) X.A (exec st X.env) (SP X pins D) X.xe s
noncomputable def PSs (X:Cx) (st:List Stmt) (t:TS):Prop :=
 ∀(pins:List (Addr × Obj)) (s:Shared) (σ:St) (H:Hp) (D:Gi),Inv X pins σ H s->t D σ H->wpAny (model X.prog X.w) X.A (execs st X.env) (SP X pins D) X.xe s
theorem thn {α:Type} {t:Sem α} {Q Q':α->Shared->Prop} {M:Model} {A:Around} {E:Value->Shared->Prop} {s:Shared} (h:wpAny M A t Q E s) (hQ:∀a s,Q a s->Q' a s):wpAny M A t Q' E s:=wpAny_mono h hQ fun _ _ x=>x
end L2
namespace L2
open PySem PySem.Spec PyProof.Rows
section
variable {X:Cx}
noncomputable def Sf (i:Nat):TE:=fun σ H Q=>∃v,σ[i]?=some (some v)/\Q v H
noncomputable def tC (v:V):TE:=fun _ H Q=>Q v H
theorem Rf {i:Nat} {x:Str} {pos:Pos} (hN:X.N[i]?=some x) (hv:Vis X.env.scope x) (hd:(x == ("__debug__":Str))=false:=by decide) (hcd:(x == ("__classdict__":Str))=false:=by decide):PE X (.Name x pos) (Sf i):=by
 intro pins s σ H Q I h
 obtain ⟨v,e,h⟩:=h
 obtain ⟨m,hn,hl⟩:=I.loc
 obtain ⟨u,r,l⟩:=hl i x v hN e hv
 have fin:EP X pins σ Q u s:=⟨v,H,I,r,h⟩
 rcases l with ⟨hk,hm⟩ | ⟨hk,c,hc,hcell⟩
 ·exact wpAny_Name (wpAny_loadName_local I.ok.kind hk hn hm fin) hd
 ·rcases hk with hk | hk
  ·exact wpAny_Name (wpAny_loadName_cell I.ok.kind hk hc hcell fin) hd
  ·exact wpAny_Name (wpAny_loadName_free I.ok.kind hk hc hcell fin hcd) hd
theorem Ak {i j pos}:PE X (.Constant (.int i) j pos) (tC (.int i)):=fun _ _ _ H _ I h=>wpAny_Constant_int ⟨.int i,H,I.tok _,⟨_,rfl⟩,h⟩
theorem Bs {b j pos}:PE X (.Constant (.bool b) j pos) (tC (.bl b)):=fun _ _ _ H _ I h=>Constant_bool ⟨.bl b,H,I,rfl,h⟩
theorem HJ {j pos}:PE X (.Constant .none j pos) (tC .non):=fun _ _ _ H _ I h=>Constant_none ⟨.non,H,I,rfl,h⟩
theorem Hr {x j pos}:PE X (.Constant (.str x) j pos) (tC (.str x)):=fun _ _ _ H _ I h=>Calls.Constant_str ⟨.str x,H,I.tok _,⟨_,rfl⟩,h⟩
noncomputable def Gl (X:Cx) (x:Str):Prop:=X.env.kindOf x=some .globalImplicit
theorem DY {E:Value->Shared->Prop} {pins:List (Addr × Obj)} {s:Shared} {σ:St} {H:Hp} {x:Str} {u:Value} {pos:Pos} {Q:Value->Shared->Prop} (I:Inv X pins σ H s) (hg:Gl X x) (hm:X.mg x=some u) (h:Q u s)
 (hd:(x == ("__debug__":Str))=false:=by decide):wpAny (model X.prog X.w) X.A (eval (.Name x pos) X.env) Q E s :=
 Calls.Name_function_global I.ok.kind hg (Calls.loadGlobal_global (by rw [I.ok.glob];exact I.mod.glob.keeps I.bk) hm h) hd
theorem CI {E:Value->Shared->Prop} {pins:List (Addr × Obj)} {s:Shared} {σ:St} {H:Hp} {x:Str} {u:Value} {pos:Pos} {Q:Value->Shared->Prop} (I:Inv X pins σ H s) (hg:Gl X x) (hm:X.mg x=none) (hv:bootBuiltins x=some u) (h:Q u s)
 (hn:x≠"__name__":=by decide) (hd:(x == ("__debug__":Str))=false:=by decide):wpAny (model X.prog X.w) X.A (eval (.Name x pos) X.env) Q E s:=by
 obtain ⟨mb,h1,h2⟩:=I.mod.blt
 exact Calls.Name_function_global I.ok.kind hg (Calls.loadGlobal_builtin (by rw [I.ok.glob];exact I.mod.glob.keeps I.bk) hm (by rw [I.ok.blt];exact h1.keeps I.bk) ((h2 x hn).trans hv) h) hd
theorem B4 {x:Str} {v:V} {u:Value} {pos:Pos} (hg:Gl X x) (hm:X.mg x=some u) (r:Bg v u) (hd:(x == ("__debug__":Str))=false:=by decide):PE X (.Name x pos) (tC v) :=
 fun _ _ _ H _ I h=>DY I hg hm ⟨v,H,I,r,h⟩ hd
theorem Cn {x:Str} {v:V} {u:Value} {pos:Pos} (hg:Gl X x) (hm:X.mg x=none) (hv:bootBuiltins x=some u) (r:Bg v u) (hn:x≠"__name__":=by decide) (hd:(x == ("__debug__":Str))=false:=by decide):PE X (.Name x pos) (tC v) :=
 fun _ _ _ H _ I h=>CI I hg hm hv ⟨v,H,I,r,h⟩ hn hd
variable {a b:Expr} {ta tb:TE} {pos:Pos}
noncomputable def tB (t:TE):TT:=fun σ H Q=>t σ H fun x H1=>∃c,x=.bl c/\Q c H1
theorem Br {e:Expr} {t:TE} (h:PE X e t) (he:∀whole,isTrue e X.env whole=(do let v <- whole;standAt e.pos;holding [v] (truthy v)):=by intro _;rfl):PT X e (tB t):=by
 intro pins s σ H Q I hw
 refine isTrue_plain (thn (h pins s σ H _ I hw) fun v s1 ⟨x,H1,I1,r1,q1⟩=>?_) (he _)
 obtain ⟨d,rfl,q⟩:=q1
 cases r1
 exact wpAny_truthy_bool ⟨H1,I1,q⟩
variable {tA tB':TT} {rest:List Expr}
noncomputable def Th (t u:TT):TT:=fun σ H Q=>t σ H fun c H1=>if c=true then u σ H1 Q else Q false H1
noncomputable def tOr (t u:TT):TT:=fun σ H Q=>t σ H fun c H1=>if c=true then Q true H1 else u σ H1 Q
noncomputable def SV (t:TT):TT:=fun σ H Q=>t σ H fun c H1=>Q (!c) H1
theorem Ng (ha:PT X a tA):PW X (.BoolOp .And [a] pos) tA:=by
 intro wh pins s σ H Q I h
 refine isTrue_and (thn (ha pins s σ H Q I h) fun c s1 e=>?_)
 cases c with
 | true=>exact isTrue_and_nil e
 | false=>exact e
theorem Cp (ha:PT X a tA):PW X (.BoolOp .Or [a] pos) tA:=by
 intro wh pins s σ H Q I h
 refine isTrue_or (thn (ha pins s σ H Q I h) fun c s1 e=>?_)
 cases c with
 | false=>exact isTrue_or_nil e
 | true=>exact e
theorem LM (ha:PT X a tA) (hb:PW X (.BoolOp .And (b :: rest) pos) tB'):PW X (.BoolOp .And (a :: b :: rest) pos) (Th tA tB'):=by
 intro wh pins s σ H Q I h
 refine isTrue_and (thn (ha pins s σ H _ I h) fun c s1 ⟨H1,I1,q1⟩=>?_)
 cases c with
 | true=>exact hb wh pins s1 σ H1 Q I1 q1
 | false=>exact ⟨H1,I1,q1⟩
theorem CF (ha:PT X a tA) (hb:PW X (.BoolOp .Or (b :: rest) pos) tB'):PW X (.BoolOp .Or (a :: b :: rest) pos) (tOr tA tB'):=by
 intro wh pins s σ H Q I h
 refine isTrue_or (thn (ha pins s σ H _ I h) fun c s1 ⟨H1,I1,q1⟩=>?_)
 cases c with
 | true=>exact ⟨H1,I1,q1⟩
 | false=>exact hb wh pins s1 σ H1 Q I1 q1
theorem Bv (ha:PT X a tA):PT X (.UnaryOp .Not a pos) (SV tA):=by
 intro pins s σ H Q I h
 exact isTrue_not (ha pins s σ H (fun c H1=>Q (!c) H1) I h)
noncomputable def Sk (ta tb:TE):TE:=fun σ H Q=>ta σ H fun x H1=>∃c,x=.bl c/\if c=true then tb σ H1 Q else Q (.bl false) H1
noncomputable def Sw (ta:TE):TE:=fun σ H Q=>ta σ H fun x H1=>∃c,x=.bl c/\Q (.bl (!c)) H1
theorem DJ {op} {t:TE} (h:PE X a t):PE X (.BoolOp op [a] pos) t:=fun pins s σ H Q I hw=>BoolOp_one (h pins s σ H Q I hw)
theorem CZ (ha:PE X a ta) (hb:PE X (.BoolOp .And (b :: rest) pos) tb):PE X (.BoolOp .And (a :: b :: rest) pos) (Sk ta tb):=by
 intro pins s σ H Q I h
 refine BoolOp_and (thn (ha pins s σ H _ I h) fun v s1 ⟨x,H1,I1,r1,q1⟩=>?_)
 obtain ⟨c,rfl,q1⟩:=q1
 cases r1
 refine wpAny_truthy_bool ?_
 cases c with
 | true=>exact hb pins s1 σ H1 Q I1 q1
 | false=>exact ⟨.bl false,H1,I1,rfl,q1⟩
theorem Lr (ha:PE X a ta):PE X (.UnaryOp .Not a pos) (Sw ta):=by
 intro pins s σ H Q I h
 refine UnaryOp_ (thn (ha pins s σ H _ I h) fun v s1 ⟨x,H1,I1,r1,q1⟩=>?_)
 obtain ⟨c,rfl,q1⟩:=q1
 cases r1
 exact not_of (wpAny_truthy_bool ⟨.bl (!c),H1,I1,rfl,q1⟩)
end
end L2
namespace L2
open PySem PySem.Spec PyProof.Rows
noncomputable def SqL (K:PySem.W.Frag) (H:Hp) (a:Addr) (xs:List V):Prop :=
 Rd H a (.lst xs) \/
  ∃(o:Obj) (its:Array Value) (n:Nat),K.lookup a=some o/\o.cls=.type "list"/\o.dict=none/\o.data=.seq its n/\its.size<=sizeLine/\AX xs its.toList
noncomputable def SqT (K:PySem.W.Frag) (H:Hp) (a:Addr) (xs:List V):Prop :=
 Rd H a (.tup xs) \/
  ∃(o:Obj) (its:Array Value) (n:Nat),K.lookup a=some o/\o.cls=.type "tuple"/\o.data=.seq its n/\its.size<=sizeLine/\AX xs its.toList
noncomputable def SJ:Value->Option V
 | .none=>some .non
 | .bool b=>some (.bl b)
 | .int i _=>some (.int i)
 | .str x _=>some (.str x)
 | .bytes b _=>some (.byt b)
 | .float b _=>some (.flt b)
 | .ref a=>some (.ref a)
 | .type n=>some (.ty n)
 | _=>none
theorem Bg.abs {x:V} {u:Value} (r:Bg x u):SJ u=some x:=by
 cases x with
 | non=>cases r;rfl
 | bl _=>cases r;rfl
 | int _=>obtain ⟨t,rfl⟩:=r;rfl
 | str _=>obtain ⟨t,rfl⟩:=r;rfl
 | byt _=>obtain ⟨t,rfl⟩:=r;rfl
 | flt _=>obtain ⟨t,rfl⟩:=r;rfl
 | ref _=>cases r;rfl
 | ty _=>cases r;rfl
theorem Bg.inj {x y:V} {u:Value} (r:Bg x u) (q:Bg y u):x=y:=Option.some.inj (r.abs.symm.trans q.abs)
theorem AX.inj:∀{xs ys:List V} {us:List Value},AX xs us->AX ys us->xs=ys
 | _,_,_,.nil,.nil=>rfl
 | _,_,_,.cons r t,.cons r' t'=>by rw [r.inj r',AX.inj t t']
section
variable {X:Cx} {pins:List (Addr × Obj)} {σ:St} {H:Hp} {s:Shared} {a:Addr} {xs ys:List V}
theorem SqL.of {K:PySem.W.Frag} (h:H a=some (.lst xs)):SqL K H a xs:=.inl (.inl h)
theorem SqT.of {K:PySem.W.Frag} (h:H a=some (.tup xs)):SqT K H a xs:=.inl (.inl h)
theorem Inv.list (I:Inv X pins σ H s) (h:SqL X.K H a xs):∃its:List Value,AX xs its/\PlainL s.heap a its.toArray/\xs.length<=sizeLine:=by
 rcases h with h | ⟨o,its,n,hk,hc,hd,hs,hz,r⟩
 ·obtain ⟨z,its,n,r,e⟩:=h.ok I.hok
  exact ⟨its,r,⟨_,n,e,rfl,rfl,rfl⟩,z⟩
 ·refine ⟨its.toList,r,⟨o,n,I.kIn a o hk,hc,hd,by simpa using hs⟩,?_⟩
  have e:=r.length
  simp only [Array.length_toList] at e
  omega
theorem Inv.tuple (I:Inv X pins σ H s) (h:SqT X.K H a xs):∃its:List Value,AX xs its/\IsTup s.heap a its.toArray/\xs.length<=sizeLine:=by
 rcases h with h | ⟨o,its,n,hk,hc,hs,hz,r⟩
 ·obtain ⟨z,its,r,p⟩:=h.ok I.hok
  exact ⟨its,r,p,z⟩
 ·refine ⟨its.toList,r,⟨o,I.kIn a o hk,hc,n,by simpa using hs⟩,?_⟩
  have e:=r.length
  simp only [Array.length_toList] at e
  omega
theorem Inv.list_inj (I:Inv X pins σ H s) (h:SqL X.K H a xs) (h':SqL X.K H a ys):xs=ys:=by
 obtain ⟨its,r,⟨o,n,e,_,_,d⟩,_⟩:=I.list h
 obtain ⟨its',r',⟨o',n',e',_,_,d'⟩,_⟩:=I.list h'
 rw [e] at e';cases e'
 rw [d] at d'
 injection d' with d1 _
 have:its=its':=by simpa using congrArg Array.toList d1
 subst this
 exact r.inj r'
theorem Inv.tuple_inj (I:Inv X pins σ H s) (h:SqT X.K H a xs) (h':SqT X.K H a ys):xs=ys:=by
 obtain ⟨its,r,⟨o,e,_,n,d⟩,_⟩:=I.tuple h
 obtain ⟨its',r',⟨o',e',_,n',d'⟩,_⟩:=I.tuple h'
 rw [e] at e';cases e'
 rw [d] at d'
 injection d' with d1 _
 have:its=its':=by simpa using congrArg Array.toList d1
 subst this
 exact r.inj r'
end
abbrev Cx.wish (X:Cx) (E:Value->Shared->Prop):Cx:={ X with xe:=E }
abbrev Cx.nox (X:Cx):Cx:=X.wish fun _ _=>False
theorem Cx.Ok.wish {X:Cx} (ok:X.Ok) (E:Value->Shared->Prop):(X.wish E).Ok :=
 ⟨ok.mod,ok.kind,ok.glob,ok.blt,ok.above,ok.inj,ok.has,ok.cab,ok.hd,ok.frames,ok.stk,ok.exf,ok.bs,ok.bsz,ok.noex,ok.exfs,ok.funs,ok.frf⟩
theorem Cx.Ok.unwish {X:Cx} {E:Value->Shared->Prop} (ok:(X.wish E).Ok):X.Ok :=
 ⟨ok.mod,ok.kind,ok.glob,ok.blt,ok.above,ok.inj,ok.has,ok.cab,ok.hd,ok.frames,ok.stk,ok.exf,ok.bs,ok.bsz,ok.noex,ok.exfs,ok.funs,ok.frf⟩
section
variable {X:Cx} {pins:List (Addr × Obj)} {σ:St} {H:Hp} {s:Shared} {E:Value->Shared->Prop}
theorem Inv.wish (I:Inv X pins σ H s) (E:Value->Shared->Prop):Inv (X.wish E) pins σ H s:=⟨I.ok.wish E,I.os,I.bare,I.base,I.loc,I.cell,I.free,I.freeC,I.pin,I.hok,I.len⟩
theorem Inv.unwish (I:Inv (X.wish E) pins σ H s):Inv X pins σ H s:=⟨I.ok.unwish,I.os,I.bare,I.base,I.loc,I.cell,I.free,I.freeC,I.pin,I.hok,I.len⟩
theorem SP.unwish {D:Gi} {f:Flow} {s':Shared} (h:SP (X.wish E) pins D f s'):SP X pins D f s':=by
 cases f with
 | next=>obtain ⟨σ',H',I,q⟩:=h;exact ⟨σ',H',I.unwish,q⟩
 | brk=>obtain ⟨σ',H',I,q⟩:=h;exact ⟨σ',H',I.unwish,q⟩
 | cont=>obtain ⟨σ',H',I,q⟩:=h;exact ⟨σ',H',I.unwish,q⟩
 | ret u=>obtain ⟨v,σ',H',I,r,q⟩:=h;exact ⟨v,σ',H',I.unwish,r,q⟩
theorem PSs.nox {st:List Stmt} {t:TS} (h:PSs X.nox st t):PSs X st t:=fun pins s σ H D I hw =>
 wpAny_mono (h pins s σ H D (I.wish _) hw) (fun _ _ q=>q.unwish) fun _ _ z=>False.elim z
end
section
variable {X:Cx} {st:Stmt} {rest:List Stmt} {t u:TS} {e:Expr} {te:TE} {pos:Pos}
noncomputable def Sy:TS:=fun D σ H=>D.nx σ H
noncomputable def SL (t u:TS):TS:=fun D σ H=>t { D with nx:=u D } σ H
theorem AO:PSs X [] Sy:=fun _ _ σ H _ I h=>wpAny_execs_nil ⟨σ,H,I,h⟩
theorem Aj (h1:PS X st t) (h2:PSs X rest u):PSs X (st :: rest) (SL t u):=by
 intro pins s σ H D I h
 refine wpAny_execs_cons (thn (h1 pins s σ H { D with nx:=u D } I h) fun f s1 q=>?_)
 cases f with
 | next =>
   obtain ⟨σ',H',I',q⟩:=q
   exact h2 pins s1 σ' H' D I' q
 | ret v=>exact q
 | brk=>exact q
 | cont=>exact q
theorem Al (h1:PS X st t):PSs X [st] t:=by
 intro pins s σ H D I h
 refine wpAny_execs_cons (thn (h1 pins s σ H D I h) fun f s1 q=>?_)
 cases f with
 | next=>exact wpAny_execs_nil q
 | ret v=>exact q
 | brk=>exact q
 | cont=>exact q
theorem Inv.quiet {pins:List (Addr × Obj)} {σ:St} {H:Hp} {s:Shared} (I:Inv X pins σ H s):interactive X.env=false:=by simp [interactive,I.ok.kind]
noncomputable def S5 (te:TE):TS:=fun D σ H=>te σ H fun _ H1=>D.nx σ H1
theorem BU (he:PE X e te) (hs:swapsWith e none pos.line X.env=pure false:=by rfl):PS X (.Expr e pos) (S5 te):=by
 intro pins s σ H D I h
 exact wpAny_Expr_any (thn (he pins s σ H _ I h) fun v s1 ⟨x,H1,I1,r1,q1⟩=>⟨σ,H1,I1,q1⟩) I.quiet hs
noncomputable def Tg (te:TE):TS:=fun D σ H=>te σ H D.rt
theorem A9 (he:PE X e te):PS X (.Return (some e) pos) (Tg te):=by
 intro pins s σ H D I h
 exact wpAny_Return_some (thn (he pins s σ H _ I h) fun v s1 ⟨x,H1,I1,r1,q1⟩=>⟨x,σ,H1,I1,r1,q1⟩)
noncomputable def Te (c:TT) (t u:TS):TS:=fun D σ H=>c σ H fun b H1=>if b=true then t D σ H1 else u D σ H1
theorem Bj {c:Expr} {a b:List Stmt} {tc:TT} (hc:PT X c tc) (ha:PSs X a t) (hb:PSs X b u):PS X (.If c a b pos) (Te tc t u):=by
 intro pins s σ H D I h
 refine wpAny_If (thn (hc pins s σ H _ I h) fun d s1 ⟨H1,I1,q1⟩=>?_)
 cases d with
 | true=>exact ha pins s1 σ H1 D I1 q1
 | false=>exact hb pins s1 σ H1 D I1 q1
noncomputable def QZ:TS:=fun _ _ _=>False
theorem DO:PS X st QZ:=fun _ _ _ _ _ _ h=>h.elim
end
abbrev TG:=V->St->Hp->(St->Hp->Prop)->Prop
abbrev TGs:=List V->St->Hp->(St->Hp->Prop)->Prop
noncomputable def PG (X:Cx) (target:Expr) (t:TG):Prop :=
 ∀(pins:List (Addr × Obj)) (s:Shared) (σ:St) (H:Hp) (v:V) (u:Value) (Q:St->Hp->Prop),Inv X pins σ H s->Bg v u->t v σ H Q ->
  wpAny (model X.prog X.w) X.A (assign target X.env u) (fun _ s'=>∃σ' H',Inv X pins σ' H' s'/\Q σ' H') X.xe s
noncomputable def PGs (X:Cx) (ts:List Expr) (t:TGs):Prop :=
 ∀(pins:List (Addr × Obj)) (s:Shared) (σ:St) (H:Hp) (vs:List V) (us:List Value) (Q:St->Hp->Prop),Inv X pins σ H s->AX vs us->t vs σ H Q ->
  wpAny (model X.prog X.w) X.A (assignInOrder ((assignEach ts X.env).map (·.2)) us) (fun _ s'=>∃σ' H',Inv X pins σ' H' s'/\Q σ' H') X.xe s
abbrev Rc:=V->V->V->Hp->(Hp->Prop)->Prop
noncomputable def SA (X:Cx) (t:Rc):Prop :=
 ∀(pins:List (Addr × Obj)) (s:Shared) (σ:St) (H:Hp) (o i v:V) (ov iv u:Value) (Q:Hp->Prop),Inv X pins σ H s->Bg o ov->Bg i iv->Bg v u->t o i v H Q ->
  wpAny (model X.prog X.w) X.A (setItem ov iv u) (fun _ s'=>∃H',Inv X pins σ H' s'/\Q H') X.xe s
section
variable {X:Cx} {pos:Pos}
noncomputable def EN (i:Nat):TG:=fun v σ H Q=>Q (σ.set i (some v)) H
theorem AY {i:Nat} {x:Str} (hN:X.N.Nodup) (hi:X.N[i]?=some x) (hx:Loc X.env.scope x) (hf:X.fn x=true\/X.env.scope.names.lookup x=some .local:=by first | exact .inl rfl | exact .inr rfl | assumption):PG X (.Name x pos) (EN i):=by
 intro pins s σ H v u Q I r h
 exact wpAny_assign_Name (Id I hN hi hx r (fun s' I'=>⟨_,H,I',h⟩) hf)
noncomputable def Ro:TGs:=fun vs σ H Q=>vs=[]/\Q σ H
noncomputable def Kz (t:TG) (u:TGs):TGs:=fun vs σ H Q=>∃v r,vs=v :: r/\t v σ H fun σ' H'=>u r σ' H' Q
theorem C9:PGs X [] Ro:=by
 intro pins s σ H vs us Q I r h
 obtain ⟨e,h⟩:=h
 subst e
 cases r
 exact assignInOrder_nil ⟨σ,H,I,h⟩
theorem Bl {e:Expr} {es:List Expr} {t:TG} {u:TGs} (h1:PG X e t) (h2:PGs X es u)
 (hs:(assignEach (e :: es) X.env).map (·.2)=assign e X.env :: (assignEach es X.env).map (·.2):=by rfl):PGs X (e :: es) (Kz t u):=by
 intro pins s σ H vs us Q I r h
 obtain ⟨v,vr,e1,h⟩:=h
 subst e1
 cases r with
 | cons r rr =>
   rw [hs]
   refine assignInOrder_cons (thn (h1 pins s σ H _ _ _ I r h) fun _ s1 ⟨σ1,H1,I1,q1⟩=>?_)
   exact h2 pins s1 σ1 H1 _ _ Q I1 rr q1
noncomputable def RJ (K:PySem.W.Frag) (n:Nat) (t:TGs):TG:=fun v σ H Q=>∃a xs,v=.ref a/\SqT K H a xs/\xs.length=n/\t xs σ H Q
theorem DH {es:List Expr} {k:Nat} {t:TGs} {n:Nat} (hc:X.calm=true) (h:PGs X es t)
 (hn:(assignEach es X.env).length=n:=by rfl) (hst:(assignEach es X.env).findIdx? (·.1)=none:=by rfl):PG X (.Tuple es k pos) (RJ X.K n t):=by
 intro pins s σ H v u Q I r hw
 obtain ⟨a,xs,e1,hq,hl,hw⟩:=hw
 subst e1
 cases r
 obtain ⟨its,rv,ht,hz⟩:=I.tuple hq
 refine assign_Tuple_tuple (I.ok.hd hc) ht (by simp [hn,<- hl,rv.length]) hst fun h' hx=>?_
 have I1:Inv X pins σ H { s with heap:=h' }:=I.kept (t':=s.toks) fun b o e=>hx b o (Nat.ne_of_lt (Heap.lt_size e)) e
 exact h pins _ σ H xs _ Q I1 (by simpa using rv) hw
noncomputable def SD (to ti:TE) (t:Rc):TG:=fun v σ H Q=>to σ H fun o H1=>ti σ H1 fun i H2=>t o i v H2 fun H3=>Q σ H3
theorem D9 {o i:Expr} {to ti:TE} {t:Rc} (ho:PE X o to) (hi:PE X i ti) (hs:SA X t)
 (ha:∀v,assign (.Subscript o i pos) X.env v=(do
  let ov <- holding [v] (eval o X.env)
  let iv <- holding [v,ov] (eval i X.env)
  standAt pos
  holding [v,ov,iv] (setItem ov iv v)
  release [v,ov,iv] []):=by intro _;rfl):PG X (.Subscript o i pos) (SD to ti t):=by
 intro pins s σ H v u Q I r h
 rw [ha]
 refine wpAny_bind (wpAny_holding (thn (ho pins s σ H _ I h) fun ov s1 ⟨x,H1,I1,r1,q1⟩=>?_))
 refine wpAny_bind (wpAny_holding (thn (hi pins s1 σ H1 _ I1 q1) fun iv s2 ⟨y,H2,I2,r2,q2⟩=>?_))
 refine wpAny_bind (wpAny_standAt (wpAny_bind (wpAny_holding (thn (hs pins s2 σ H2 x y v ov iv u _ I2 r1 r2 r q2) fun _ s3 ⟨H3,I3,q3⟩=>?_))))
 exact wpAny_release ⟨σ,H3,I3,q3⟩
noncomputable def Ry (te:TE) (g:TG):TS:=fun D σ H=>te σ H fun x H1=>g x σ H1 D.nx
theorem CV {tg e:Expr} {te:TE} {g:TG} (he:PE X e te) (hg:PG X tg g) (hs:swapsWithSole [tg] e pos.line X.env=pure false:=by rfl) (hw:swappedStores [tg] e X.env=pure none:=by rfl)
 (h1:(assignEach [tg] X.env).map (·.2)=[assign tg X.env]:=by rfl):PS X (.Assign [tg] e pos) (Ry te g):=by
 intro pins s σ H D I h
 refine wpAny_Assign_stores (thn (he pins s σ H _ I h) fun v s1 ⟨x,H1,I1,r1,q1⟩=>?_) hs hw
 rw [h1]
 exact thn (hg pins s1 σ H1 x v _ I1 r1 q1) fun _ s2 q=>q
theorem A7 {i:Nat} {x:Str} {e:Expr} {te:TE} {pos':Pos} (hN:X.N.Nodup) (hi:X.N[i]?=some x) (hx:Loc X.env.scope x) (he:PE X e te) (hs:swapsWith e (some (.Name x pos')) pos.line X.env=pure false:=by rfl) (hf:X.fn x=true\/X.env.scope.names.lookup x=some .local:=by first | exact .inl rfl | exact .inr rfl | assumption) :
 PS X (.Assign [.Name x pos'] e pos) (Ry te (EN i)):=by
 intro pins s σ H D I h
 refine wpAny_Assign_Name (thn (he pins s σ H _ I h) fun v s1 ⟨y,H1,I1,r1,q1⟩=>?_) hs
 exact Id I1 hN hi hx r1 (fun s2 I2=>⟨_,H1,I2,q1⟩) hf
end
section
variable {X:Cx} {pos:Pos}
end
structure It where
 go:Nat->Hp->Prop
 yld:Nat->Hp->V->Hp->Prop
 stop:Nat->Hp->Prop
noncomputable def JF (X:Cx) (pins:List (Addr × Obj)) (H:Hp) (b:Addr):Prop :=
 H b=none/\b≠X.env.locals/\b ∉ X.fs/\(b∈X.ex\/X.s₀.heap.objs.size<=b)/\(∀x c,X.env.cells.lookup x=some c->c≠b)/\∀p∈X.pn++pins,p.1≠b
theorem Inv.fpOk {X:Cx} {pins:List (Addr × Obj)} {σ:St} {H H':Hp} {s:Shared} {b:Addr} (I:Inv X pins σ H s) (hb:s.heap.objs.size<=b) (hn:H' b=none):JF X pins H' b:=by
 refine ⟨hn,Nat.ne_of_gt (Nat.lt_of_lt_of_le I.lt hb),I.nofs hb,.inr (Nat.le_trans I.sz hb),fun x c e z=>?_,fun p hp z=>?_⟩
 ·obtain ⟨v,q⟩:=I.cell x c e
  exact absurd (Nat.lt_of_lt_of_le q.lt (by rw [z];exact hb)) (Nat.lt_irrefl _)
 ·exact absurd (Nat.lt_of_lt_of_le (Heap.lt_size (I.pin p hp).1) (by rw [z];exact hb)) (Nat.lt_irrefl _)
structure Ke (P:Program) (w:World) (K:PySem.W.Frag) (tg:Expr) (J:It) (fp:List Addr) (it:Addr) (tn:Nat->Heap->Prop):Prop where
 mem:it∈fp
 obj:∀i h,tn i h->∀b∈fp,∃o,h.get? b=some o/\∀v,o.data≠.cell v
 keep:∀i h h',tn i h->(∀b∈fp,∀o,h.get? b=some o->h'.get? b=some o)->tn i h'
 item:∀(X:Cx),X.prog=P->X.w=w->X.K=K->X.calm=true->∀(i:Nat) (pins:List (Addr × Obj)) (s:Shared) (σ:St) (H:Hp) (E:Value->Shared->Prop),Inv X pins σ H s->(∀b∈fp,JF X pins H b)->tn i s.heap->J.go i H ->
  wpAny (model P w) X.A (pyNext (.ref it)) (fun r s1=>∃u,r=some u /\
   wpAny (model P w) X.A (letOwnedTupleGo tg (.ref it) u) (fun _ s2=>∃x H',Inv X pins σ H' s2/\Bg x u/\J.yld i H x H'/\tn (i+1) s2.heap/\∀b∈fp,H' b=none) E s1) E s
 done:∀(X:Cx),X.prog=P->X.w=w->X.K=K->X.calm=true->∀(i:Nat) (pins:List (Addr × Obj)) (s:Shared) (σ:St) (H:Hp) (E:Value->Shared->Prop),Inv X pins σ H s->(∀b∈fp,JF X pins H b)->tn i s.heap->J.stop i H ->
  wpAny (model P w) X.A (pyNext (.ref it)) (fun r s1=>r=none/\Inv X pins σ H s1) E s
 self:∀(A:Around) (i:Nat) (s:Shared) (Q:Value->Shared->Prop) (E:Value->Shared->Prop),tn i s.heap->Q (.ref it) s->wpAny (model P w) A (pyIter (.ref it)) Q E s
abbrev TI:=St->Hp->(It->Hp->Prop)->Prop
noncomputable def PIE (X:Cx) (pins:List (Addr × Obj)) (σ:St) (tg:Expr) (R:It->Hp->Prop) (itv:Value) (s2:Shared):Prop :=
 ∃(it:Addr) (fp:List Addr) (tn:Nat->Heap->Prop) (J:It) (H':Hp),itv=.ref it/\Inv X pins σ H' s2/\Ke X.prog X.w X.K tg J fp it tn/\tn 0 s2.heap/\(∀b∈fp,JF X pins H' b)/\R J H'
noncomputable def PI (X:Cx) (tg iter:Expr) (wi:TI):Prop :=
 ∀(pins:List (Addr × Obj)) (s:Shared) (σ:St) (H:Hp) (R:It->Hp->Prop),Inv X pins σ H s->wi σ H R ->
  wpAny (model X.prog X.w) X.A (eval iter X.env) (fun v s1=>wpAny (model X.prog X.w) X.A (pyIter v) (PIE X pins σ tg R) X.xe s1) X.xe s
theorem Oq {M:Model} {A:Around} {E:Value->Shared->Prop} {s:Shared} {tg:Expr} {it:Addr} {u:Value} {o:Obj} {n:String} {vs:Array Value} {Q:Unit->Shared->Prop} (ho:s.heap.get? it=some o) (hc:o.cls=.type n) (hd:o.data=.fields vs)
 (hn:["enumerate","zip","dict_itemiterator","dict_reverseitemiterator","odict_iterator","itertools.zip_longest","itertools.pairwise"].contains n=false) (hQ:Q () s):wpAny M A (letOwnedTupleGo tg (.ref it) u) Q E s:=by
 unfold letOwnedTupleGo
 cases tg <;> first
  | exact wpAny_pure hQ
  | (cases u <;> first
   | exact wpAny_pure hQ
   | (refine wpAny_bind (wpAny_load ho ?_)
      rw [hc,hd]
      show wpAny M A (if (["enumerate","zip","dict_itemiterator","dict_reverseitemiterator","odict_iterator","itertools.zip_longest","itertools.pairwise"].contains n && vs[0]? == some (rawInt _))=true then _ else _) Q E s
      rw [if_neg (by intro h;rw [hn,Bool.false_and] at h;cases h)]
      exact wpAny_pure hQ))
noncomputable def Itl (K:PySem.W.Frag) (a:Addr):It :=
 ⟨fun i H=>∃xs x,SqL K H a xs/\xs[i]?=some x,fun i H x H'=>H'=H/\∀xs,SqL K H a xs->xs[i]?=some x,fun i H=>∃xs,SqL K H a xs/\xs.length<=i⟩
noncomputable def Itt (K:PySem.W.Frag) (a:Addr):It :=
 ⟨fun i H=>∃xs x,SqT K H a xs/\xs[i]?=some x,fun i H x H'=>H'=H/\∀xs,SqT K H a xs->xs[i]?=some x,fun i H=>∃xs,SqT K H a xs/\xs.length<=i⟩
noncomputable def Itr (lo:Int) (n:Nat):It:=⟨fun i _=>i < n,fun i H x H'=>H'=H/\x=.int (lo+i),fun i _=>n<=i⟩
theorem N2 {P:Program} {w:World} {K:PySem.W.Frag} {tg:Expr} (a it:Addr):Ke P w K tg (Itl K a) [it] it (fun i h=>h.IsListIter it a i) where
 mem:=by simp
 obj:=fun i h st b hb=>by
  have e:b=it:=by simpa using hb
  subst e
  obtain ⟨o,e,c,d⟩:=st
  exact ⟨o,e,fun v z=>by rw [d] at z;cases z⟩
 keep:=fun i h h' st k=>st.at fun o e=>k it (by simp) o e
 item:=by
  intro X hP hw hK hc i pins s σ H E I hf st hg
  subst hP hw hK
  obtain ⟨xs,x,hq,hx⟩:=hg
  obtain ⟨its,rv,p,hz⟩:=I.list hq
  obtain ⟨u,hu,ru⟩:=rv.get hx
  obtain ⟨f0,f1,f2,f3,f4,f5⟩:=hf it (by simp)
  refine wpAny_pyNext_list_item st p.isList (x:=u) (by simpa using hu) fun h' st' sb=>?_
  have I1:Inv X pins σ H { s with heap:=h' }:=I.turned (t':=s.toks) (fun b o hb e=>(sb.2 b hb).trans e) f0 f1 f3 f4 f5
  obtain ⟨o,e,c,d⟩:=id st'
  exact ⟨u,rfl,Oq (s:={ s with heap:=h' }) e c d (by decide) ⟨x,H,I1,ru,⟨rfl,fun ys hy=>by rw [I.list_inj hy hq];exact hx⟩,st',fun b hb=>(hf b hb).1⟩⟩
 done:=by
  intro X hP hw hK hc i pins s σ H E I hf st hg
  subst hP hw hK
  obtain ⟨xs,hq,hx⟩:=hg
  obtain ⟨its,rv,p,hz⟩:=I.list hq
  obtain ⟨f0,f1,f2,f3,f4,f5⟩:=hf it (by simp)
  have hl:=rv.length
  exact wpAny_pyNext_list_end (I.ok.hd hc) st p.isList (by simp;omega) fun h' eb=>⟨rfl,I.turned (t':=s.toks) (fun b o hb e=>eb b o hb e) f0 f1 f3 f4 f5⟩
 self:=fun _ _ _ _ _ st h=>wpAny_pyIter_listiter st h
theorem Lu {P:Program} {w:World} {K:PySem.W.Frag} {tg:Expr} (a it:Addr):Ke P w K tg (Itt K a) [it] it (fun i h=>h.IsTupleIter it a i) where
 mem:=by simp
 obj:=fun i h st b hb=>by
  have e:b=it:=by simpa using hb
  subst e
  obtain ⟨o,e,c,d⟩:=st
  exact ⟨o,e,fun v z=>by rw [d] at z;cases z⟩
 keep:=fun i h h' st k=>st.at fun o e=>k it (by simp) o e
 item:=by
  intro X hP hw hK hc i pins s σ H E I hf st hg
  subst hP hw hK
  obtain ⟨xs,x,hq,hx⟩:=hg
  obtain ⟨its,rv,p,hz⟩:=I.tuple hq
  obtain ⟨u,hu,ru⟩:=rv.get hx
  obtain ⟨f0,f1,f2,f3,f4,f5⟩:=hf it (by simp)
  refine wpAny_pyNext_tuple_item st (show s.heap.IsTuple a its.toArray from p) (x:=u) (by simpa using hu) fun h' st' sb=>?_
  have I1:Inv X pins σ H { s with heap:=h' }:=I.turned (t':=s.toks) (fun b o hb e=>(sb.2 b hb).trans e) f0 f1 f3 f4 f5
  obtain ⟨o,e,c,d⟩:=id st'
  exact ⟨u,rfl,Oq (s:={ s with heap:=h' }) e c d (by decide) ⟨x,H,I1,ru,⟨rfl,fun ys hy=>by rw [I.tuple_inj hy hq];exact hx⟩,st',fun b hb=>(hf b hb).1⟩⟩
 done:=by
  intro X hP hw hK hc i pins s σ H E I hf st hg
  subst hP hw hK
  obtain ⟨xs,hq,hx⟩:=hg
  obtain ⟨its,rv,p,hz⟩:=I.tuple hq
  obtain ⟨f0,f1,f2,f3,f4,f5⟩:=hf it (by simp)
  have hl:=rv.length
  exact wpAny_pyNext_tuple_end (I.ok.hd hc) st (show s.heap.IsTuple a its.toArray from p) (by simp;omega) fun h' eb=>⟨rfl,I.turned (t':=s.toks) (fun b o hb e=>eb b o hb e) f0 f1 f3 f4 f5⟩
 self:=fun _ _ _ _ _ st h=>wpAny_pyIter_tupleiter st h
theorem Lw {P:Program} {w:World} {K:PySem.W.Frag} {tg:Expr} (it:Addr) (lo:Int) (n:Nat):Ke P w K tg (Itr lo n) [it] it (fun i h=>IsRangeIter h it (lo+(i:Nat)*1) ((n:Int) - (i:Nat)) 1) where
 mem:=by simp
 obj:=fun i h st b hb=>by
  have e:b=it:=by simpa using hb
  subst e
  exact ⟨_,st,fun v z=>by
   have z':Data.fields _=Data.cell v:=z
   cases z'⟩
 keep:=fun i h h' st k=>k it (by simp) _ st
 item:=by
  intro X hP hw hK hc i pins s σ H E I hf st hg
  subst hP hw hK
  obtain ⟨f0,f1,f2,f3,f4,f5⟩:=hf it (by simp)
  have W:=Walks.range (prog:=X.prog) (w:=X.w) (I.ok.hd hc) it lo 1 n
  refine W.item i s _ _ hg st fun v h' tk hv st' kk=>?_
  obtain ⟨t,rfl⟩:=hv
  have I1:Inv X pins σ H { s with heap:=h',toks:=tk }:=I.turned (fun b o hb e=>kk b o (by simpa using hb) e) f0 f1 f3 f4 f5
  refine ⟨_,rfl,Oq (s:={ s with heap:=h',toks:=tk }) (n:="range_iterator") st' rfl rfl (by decide) ⟨.int (lo+i),H,I1,⟨t,?_⟩,⟨rfl,rfl⟩,st',fun b hb=>(hf b hb).1⟩⟩
  rw [Int.mul_one]
 done:=by
  intro X hP hw hK hc i pins s σ H E I hf st hg
  subst hP hw hK
  obtain ⟨f0,f1,f2,f3,f4,f5⟩:=hf it (by simp)
  exact wpAny_pyNext_range_end (I.ok.hd hc) st (by have:n<=i:=hg;omega) fun h' eb=>⟨rfl,I.turned (t':=s.toks) (fun b o hb e=>eb b o hb e) f0 f1 f3 f4 f5⟩
 self:=fun _ _ _ _ _ st h=>wpAny_pyIter_rangeiter st h
end L2
namespace L2
open PySem PySem.Spec PyProof.Rows
section
variable {X:Cx} {tg:Expr}
noncomputable def RY (K:PySem.W.Frag) (tl:TE):TI:=fun σ H R=>tl σ H fun x H1=>∃a,x=.ref a/\(∃xs,SqL K H1 a xs)/\R (Itl K a) H1
noncomputable def SS (K:PySem.W.Frag) (tl:TE):TI:=fun σ H R=>tl σ H fun x H1=>∃a,x=.ref a/\(∃xs,SqT K H1 a xs)/\R (Itt K a) H1
theorem Bm {l:Expr} {tl:TE} (hl:PE X l tl):PI X tg l (RY X.K tl):=by
 intro pins s σ H R I h
 refine thn (hl pins s σ H _ I h) fun v s1 ⟨x,H1,I1,r1,q1⟩=>?_
 obtain ⟨a,e,⟨xs,hq⟩,q⟩:=q1
 subst e
 cases r1
 obtain ⟨its,rv,p,hz⟩:=I1.list hq
 refine wpAny_pyIter_list p.isList ?_
 refine ⟨s1.heap.objs.size,[s1.heap.objs.size],_,_,H1,rfl,I1.kept (t':=s1.toks) fun b o e=>Heap.get?_push_of_some _ e,N2 a _,⟨_,Heap.get?_push_size _ rfl,rfl,rfl⟩,fun b hb=>?_,q⟩
 have e:b=s1.heap.objs.size:=by simpa using hb
 subst e
 exact I1.fpOk (Nat.le_refl _) (I1.hok.fresh (Nat.le_refl _))
theorem Mg {l:Expr} {tl:TE} (hl:PE X l tl):PI X tg l (SS X.K tl):=by
 intro pins s σ H R I h
 refine thn (hl pins s σ H _ I h) fun v s1 ⟨x,H1,I1,r1,q1⟩=>?_
 obtain ⟨a,e,⟨xs,hq⟩,q⟩:=q1
 subst e
 cases r1
 obtain ⟨its,rv,p,hz⟩:=I1.tuple hq
 refine wpAny_pyIter_tuple (show s1.heap.IsTuple a its.toArray from p) ?_
 refine ⟨s1.heap.objs.size,[s1.heap.objs.size],_,_,H1,rfl,I1.kept (t':=s1.toks) fun b o e=>Heap.get?_push_of_some _ e,Lu a _,⟨_,Heap.get?_push_size _ rfl,rfl,rfl⟩,fun b hb=>?_,q⟩
 have e:b=s1.heap.objs.size:=by simpa using hb
 subst e
 exact I1.fpOk (Nat.le_refl _) (I1.hok.fresh (Nat.le_refl _))
theorem Kh {pins:List (Addr × Obj)} {σ:St} {H:Hp} {s:Shared} {R:It->Hp->Prop} {E:Value->Shared->Prop} {lo hi:Int} {t u v:Tok} {tk:Nat} (I:Inv X pins σ H s) (h1:-(2 ^ 62)<=lo) (h2:lo < 2 ^ 62) (h3:-(2 ^ 62)<=hi) (h4:hi < 2 ^ 62)
 (q:R (Itr lo (hi - lo).toNat) H):wpAny (model X.prog X.w) X.A (pyIter (.ref s.heap.objs.size)) (PIE X pins σ tg R) E { s with heap:=s.heap.push { cls:=.type "range",data:=.fields #[.int lo t,.int hi u,.int 1 v] },toks:=tk }:=by
 refine wpAny_pyIter_range (IsRange.new ..) (small_one h1 h2 h3 h4) ?_
 have I1:Inv X pins σ H { s with heap:=s.heap.push { cls:=.type "range",data:=.fields #[.int lo t,.int hi u,.int 1 v] },toks:=tk }:=I.kept fun b o e=>Heap.get?_push_of_some _ e
 refine ⟨(s.heap.push { cls:=.type "range",data:=.fields #[.int lo t,.int hi u,.int 1 v] }).objs.size,[(s.heap.push { cls:=.type "range",data:=.fields #[.int lo t,.int hi u,.int 1 v] }).objs.size],_,_,H,rfl,
  I1.kept (t':=tk) fun b o e=>Heap.get?_push_of_some _ e,Lw _ lo (hi - lo).toNat,?_,fun b hb=>?_,q⟩
 ·have e1:lo+((0:Nat):Int)*1=lo:=by simp
  have e2:(((hi - lo).toNat:Nat):Int) - ((0:Nat):Int)=Builtin.Range.rangeSize lo hi 1:=by rw [rangeSize_one];split <;> omega
  show IsRangeIter _ _ (lo+((0:Nat):Int)*1) ((((hi - lo).toNat:Nat):Int) - ((0:Nat):Int)) 1
  rw [e1,e2]
  exact Heap.get?_push_size _ rfl
 ·have e:b=(s.heap.push { cls:=.type "range",data:=.fields #[.int lo t,.int hi u,.int 1 v] }).objs.size:=by simpa using hb
  subst e
  exact I1.fpOk (Nat.le_refl _) (I1.hok.fresh (Nat.le_refl _))
noncomputable def RR (ta:TA):TI:=fun σ H R=>ta σ H fun vs H1=>∃j:Int,vs=[.int j]/\-(2 ^ 62)<=j/\j < 2 ^ 62/\R (Itr 0 j.toNat) H1
noncomputable def Sn (ta:TA):TI:=fun σ H R=>ta σ H fun vs H1=>∃i j:Int,vs=[.int i,.int j]/\(-(2 ^ 62)<=i/\i < 2 ^ 62/\-(2 ^ 62)<=j/\j < 2 ^ 62)/\R (Itr i (j - i).toNat) H1
theorem Bw {a:Expr} {ta:TA} {p pos:Pos} (hg:Gl X "range") (hm:X.mg "range"=none) (ha:PA X [a] ta) (hs:starEach [a] X.env=[(false,eval a X.env)]:=by rfl):PI X tg (.Call (.Name "range" p) [a] [] pos) (RR ta):=by
 intro pins s σ H R I h
 refine Call_ (CI I hg hm boot_range (PyProof.Rows.callWith_type1 (thn (ha pos pins s σ H _ I h) fun us s1 ⟨vs,H1,I1,r1,q1⟩=>?_) hs rfl))
 obtain ⟨j,e,q1,q2,q⟩:=q1
 subst e
 cases r1 with
 | cons r rr =>
   cases rr
   obtain ⟨t,rfl⟩:=r
   exact call_range_1 (Kh I1 (by omega) (by omega) q1 q2 (by simpa using q))
theorem IA {a b:Expr} {ta:TA} {p pos:Pos} (hg:Gl X "range") (hm:X.mg "range"=none) (ha:PA X [a,b] ta) (hs:starEach [a,b] X.env=[(false,eval a X.env),(false,eval b X.env)]:=by rfl) (hs2:starEach [b] X.env=[(false,eval b X.env)]:=by rfl) :
 PI X tg (.Call (.Name "range" p) [a,b] [] pos) (Sn ta):=by
 intro pins s σ H R I h
 refine Call_ (CI I hg hm boot_range (PyProof.Rows.callWith_type1 (thn (ha pos pins s σ H _ I h) fun us s1 ⟨vs,H1,I1,r1,q1⟩=>?_) (by rw [hs,hs2]) (by rw [hs2];rfl)))
 obtain ⟨i,j,e,⟨q1,q2,q3,q4⟩,q⟩:=q1
 subst e
 cases r1 with
 | cons r rr =>
   cases rr with
   | cons r' rr =>
     cases rr
     obtain ⟨t,rfl⟩:=r
     obtain ⟨t',rfl⟩:=r'
     exact call_range_2 (Kh I1 q1 q2 q3 q4 q)
noncomputable def Ta (wi:TI) (g:TG) (tb:TS):TS:=fun D σ H=>wi σ H fun J H1=>∃W:Nat->Nat->St->Hp->Prop,(∃m,W 0 m σ H1)/\∀i m σ H,W i m σ H ->
 (J.stop i H/\D.nx σ H)\/(J.go i H/\∃N:St->Hp->Prop,(∀σ' H',N σ' H'->∃m',m' < m/\W (i+1) m' σ' H')/\∀x H',J.yld i H x H'->g x σ H' fun σ2 H2=>tb { D with nx:=N,ct:=N,bk:=D.nx } σ2 H2)
noncomputable def Hu (fp:List Addr) (h:Heap):List (Addr × Obj):=fp.filterMap fun b=>(h.get? b).map fun o=>(b,o)
theorem Ed {fp:List Addr} {h:Heap} {b:Addr} {o:Obj} (hb:b∈fp) (e:h.get? b=some o):(b,o)∈Hu fp h:=mem_filterMap.mpr ⟨b,hb,by rw [e];rfl⟩
theorem Oh {fp:List Addr} {h:Heap} {p:Addr × Obj} (hp:p∈Hu fp h):p.1∈fp/\h.get? p.1=some p.2:=by
 obtain ⟨b,hb,e⟩:=mem_filterMap.mp hp
 cases q:h.get? b with
 | none=>rw [q] at e;cases e
 | some o =>
   rw [q] at e
   have e':(b,o)=p:=Option.some.inj e
   subst e'
   exact ⟨hb,q⟩
theorem Inv.pinned {pins:List (Addr × Obj)} {σ:St} {H:Hp} {s:Shared} {fp:List Addr} (I:Inv X pins σ H s) (hf:∀b∈fp,JF X pins H b) (ho:∀b∈fp,∃o,s.heap.get? b=some o/\∀v,o.data≠.cell v):Inv X (pins++Hu fp s.heap) σ H s :=
 I.pins_of fun p hp=>(mem_append.mp hp).elim (fun z=>I.pin p (mem_append_right _ z)) fun z=>by
  obtain ⟨hb,e⟩:=Oh z
  obtain ⟨f0,f1,f2,_⟩:=hf p.1 hb
  obtain ⟨o,e',d⟩:=ho p.1 hb
  rw [e] at e';cases e'
  exact ⟨e,f0,f1,f2,d⟩
theorem Inv.unpinned {pins pl:List (Addr × Obj)} {σ:St} {H:Hp} {s:Shared} (I:Inv X (pins++pl) σ H s):Inv X pins σ H s:=I.pins_of fun p hp=>I.pin p (mem_append_right _ (mem_append_left _ hp))
theorem B1 {iter:Expr} {body:List Stmt} {wi:TI} {g:TG} {tb:TS} {pos:Pos} (hp:PassesOwn (model X.prog X.w) X.A X.env X.xe) (hc:X.calm=true) (hi:PI X tg iter wi) (hg:PG X tg g) (hb:PSs X body tb)
 (hs:∀x,foldedSetIterable iter X.env x=pure x:=by intro _;rfl):PS X (.For tg iter body [] pos) (Ta wi g tb):=by
 intro pins s σ H D I h
 refine wpAny_For (thn (hi pins s σ H _ I h) fun v s1 h1=>thn h1 fun itv s2 h2=>?_) hs
 obtain ⟨it,fp,tn,J,H2,e,I2,T,st2,f2,W,⟨m0,w0⟩,turn⟩:=h2
 subst e
 have stat:∀{H':Hp},(∀b∈fp,H' b=none)->∀b∈fp,JF X pins H' b:=fun hn b hb=>⟨hn b hb,(f2 b hb).2⟩
 refine codeAny_forLoop_any (fun n s'=>∃i σ' H',Inv X pins σ' H' s'/\tn i s'.heap/\(∀b∈fp,H' b=none)/\W i n σ' H') ?_ m0 ⟨0,σ,H2,I2,st2,fun b hb=>(f2 b hb).1,w0⟩
 rintro n s3 ⟨i,σ3,H3,I3,st3,fr3,w3⟩
 rcases turn i n σ3 H3 w3 with ⟨stop,qn⟩ | ⟨go,N,hN,step⟩
 ·refine wpAny_passesOwn hp (thn (T.done X rfl rfl rfl hc i pins s3 σ3 H3 X.xe I3 (stat fr3) st3 stop) fun r s4 ⟨hr,I4⟩=>?_)
  subst hr
  exact wpAny_execs_nil ⟨σ3,H3,I4,qn⟩
 ·refine wpAny_passesOwn hp (thn (T.item X rfl rfl rfl hc i pins s3 σ3 H3 X.xe I3 (stat fr3) st3 go) fun r s4 ⟨u,hr,h4⟩=>?_)
  subst hr
  refine wpAny_passesOwn hp (thn h4 fun _ s5 ⟨x,H5,I5,r5,y5,st5,fr5⟩=>?_)
  have I5':=I5.pinned (stat fr5) (T.obj _ _ st5)
  refine wpAny_passesOwn hp (thn (hg _ s5 σ3 H5 x u _ I5' r5 (step x H5 y5)) fun _ s6 ⟨σ6,H6,I6,q6⟩=>?_)
  refine wpAny_passesOwn hp (thn (hb _ s6 σ6 H6 _ I6 q6) fun f s7 q7=>?_)
  have again:∀{σ7:St} {H7:Hp},Inv X (pins++Hu fp s5.heap) σ7 H7 s7->N σ7 H7->∃m,m < n/\∃i σ' H',Inv X pins σ' H' s7/\tn i s7.heap/\(∀b∈fp,H' b=none)/\W i m σ' H':=fun {σ7 H7} I7 n7=>by
   obtain ⟨m',hm,w7⟩:=hN σ7 H7 n7
   refine ⟨m',hm,i+1,σ7,H7,I7.unpinned,T.keep _ _ _ st5 fun b hb o e=>(I7.pin (b,o) (mem_append_right _ (mem_append_right _ (Ed hb e)))).1,fun b hb=>?_,w7⟩
   obtain ⟨o,e,d⟩:=T.obj _ _ st5 b hb
   exact (I7.pin (b,o) (mem_append_right _ (mem_append_right _ (Ed hb e)))).2.1
  cases f with
  | next=>obtain ⟨σ7,H7,I7,n7⟩:=q7;exact again I7 n7
  | cont=>obtain ⟨σ7,H7,I7,n7⟩:=q7;exact again I7 n7
  | brk=>obtain ⟨σ7,H7,I7,q7⟩:=q7;exact ⟨σ7,H7,I7.unpinned,q7⟩
  | ret v=>obtain ⟨x7,σ7,H7,I7,r7,q7⟩:=q7;exact ⟨x7,σ7,H7,I7.unpinned,r7,q7⟩
end
theorem BO {K:PySem.W.Frag} {a:Addr} {xs:List V} {g:TG} {tb:TS} {D:Gi} {σ:St} {H:Hp} (Pv:Nat->St->Hp->Prop) (h0:Pv 0 σ H) (hl:∀i σ H,i<=xs.length->Pv i σ H->SqL K H a xs)
 (hs:∀i x σ H,xs[i]?=some x->Pv i σ H->g x σ H fun σ2 H2=>tb { D with nx:=Pv (i+1),ct:=Pv (i+1),bk:=D.nx } σ2 H2) (hd:∀σ H,Pv xs.length σ H->D.nx σ H) :
 ∃W:Nat->Nat->St->Hp->Prop,(∃m,W 0 m σ H)/\∀i m σ H,W i m σ H ->
  ((Itl K a).stop i H/\D.nx σ H)\/((Itl K a).go i H/\∃N:St->Hp->Prop,(∀σ' H',N σ' H'->∃m',m' < m/\W (i+1) m' σ' H')/\∀x H',(Itl K a).yld i H x H'->g x σ H' fun σ2 H2=>tb { D with nx:=N,ct:=N,bk:=D.nx } σ2 H2):=by
 refine ⟨fun i m σ H=>m=xs.length - i/\i<=xs.length/\Pv i σ H,⟨xs.length,by simp,Nat.zero_le _,h0⟩,?_⟩
 rintro i m σ H ⟨rfl,hi,p⟩
 have q:=hl i σ H hi p
 by_cases hlt:i < xs.length
 ·refine .inr ⟨⟨xs,xs[i],q,by simp [hlt]⟩,Pv (i+1),fun σ' H' p'=>⟨xs.length - (i+1),by omega,rfl,hlt,p'⟩,fun x H' y=>?_⟩
  obtain ⟨e,y⟩:=y
  subst e
  exact hs i x σ _ (y xs q) p
 ·have e:i=xs.length:=by omega
  subst e
  exact .inl ⟨⟨xs,q,Nat.le_refl _⟩,hd σ H p⟩
theorem C5 {lo:Int} {n:Nat} {g:TG} {tb:TS} {D:Gi} {σ:St} {H:Hp} (Pv:Nat->St->Hp->Prop) (h0:Pv 0 σ H)
 (hs:∀i σ H,i < n->Pv i σ H->g (.int (lo+i)) σ H fun σ2 H2=>tb { D with nx:=Pv (i+1),ct:=Pv (i+1),bk:=D.nx } σ2 H2) (hd:∀σ H,Pv n σ H->D.nx σ H) :
 ∃W:Nat->Nat->St->Hp->Prop,(∃m,W 0 m σ H)/\∀i m σ H,W i m σ H ->
  ((Itr lo n).stop i H/\D.nx σ H)\/((Itr lo n).go i H/\∃N:St->Hp->Prop,(∀σ' H',N σ' H'->∃m',m' < m/\W (i+1) m' σ' H')/\∀x H',(Itr lo n).yld i H x H'->g x σ H' fun σ2 H2=>tb { D with nx:=N,ct:=N,bk:=D.nx } σ2 H2):=by
 refine ⟨fun i m σ H=>m=n - i/\i<=n/\Pv i σ H,⟨n,by simp,Nat.zero_le _,h0⟩,?_⟩
 rintro i m σ H ⟨rfl,hi,p⟩
 by_cases hlt:i < n
 ·refine .inr ⟨hlt,Pv (i+1),fun σ' H' p'=>⟨n - (i+1),by omega,rfl,hlt,p'⟩,fun x H' y=>?_⟩
  obtain ⟨e,y⟩:=y
  subst e y
  exact hs i σ _ hlt p
 ·have e:i=n:=by omega
  subst e
  exact .inl ⟨Nat.le_refl _,hd σ H p⟩
end L2
namespace L2
open PySem PySem.Spec PyProof.Rows
abbrev R2:=V->V->Hp->VK->Prop
noncomputable def OpR (X:Cx) (f:Value->Value->Sem Value) (r:R2):Prop :=
 ∀(pins:List (Addr × Obj)) (s:Shared) (σ:St) (H:Hp) (x y:V) (v u:Value) (Q:VK),Inv X pins σ H s->Bg x v->Bg y u->r x y H Q ->
  wpAny (model X.prog X.w) X.A (f v u) (EP X pins σ Q) X.xe s
noncomputable def UnR (X:Cx) (f:Value->Sem Value) (r:V->Hp->VK->Prop):Prop :=
 ∀(pins:List (Addr × Obj)) (s:Shared) (σ:St) (H:Hp) (x:V) (v:Value) (Q:VK),Inv X pins σ H s->Bg x v->r x H Q ->
  wpAny (model X.prog X.w) X.A (f v) (EP X pins σ Q) X.xe s
noncomputable def Dg (X:Cx) (f:Value) (r:List V->Hp->VK->Prop):Prop :=
 ∀(pins:List (Addr × Obj)) (s:Shared) (σ:St) (H:Hp) (xs:List V) (us:List Value) (Q:VK),Inv X pins σ H s->AX xs us->r xs H Q ->
  wpAny (model X.prog X.w) X.A (call f us) (EP X pins σ Q) X.xe s
noncomputable def tOp (r:R2) (ta tb:TE):TE:=fun σ H Q=>ta σ H fun x H1=>tb σ H1 fun y H2=>r x y H2 Q
noncomputable def tUn (r:V->Hp->VK->Prop) (ta:TE):TE:=fun σ H Q=>ta σ H fun x H1=>r x H1 Q
noncomputable def rI (C:Int->Int->Prop) (g:Int->Int->V):R2:=fun x y H Q=>∃i j,x=.int i/\y=.int j/\C i j/\Q (g i j) H
noncomputable def rI0 (g:Int->Int->V):R2:=fun x y H Q=>∃i j,x=.int i/\y=.int j/\Q (g i j) H
noncomputable def rU (g:Int->V):V->Hp->VK->Prop:=fun x H Q=>∃i,x=.int i/\Q (g i) H
section
variable {X:Cx} {a b c:Expr} {ta tb tc:TE} {pos:Pos}
theorem Rs (ha:PE X a ta) (hb:PE X b tb) {pins:List (Addr × Obj)} {s:Shared} {σ:St} {H:Hp} {R:V->V->Hp->Prop} (I:Inv X pins σ H s)
 (h:ta σ H fun x H1=>tb σ H1 fun y H2=>R x y H2) {Q:Value->Shared->Prop} {f:Value->Value->Sem Value}
 (hf:∀v u s2 x y H2,Inv X pins σ H2 s2->Bg x v->Bg y u->R x y H2->wpAny (model X.prog X.w) X.A (f v u) Q X.xe s2) :
 wpAny (model X.prog X.w) X.A (eval a X.env) (fun v s₁=>wpAny (model X.prog X.w) X.A (eval b X.env) (fun u s₂=>wpAny (model X.prog X.w) X.A (f v u) Q X.xe s₂) X.xe s₁) X.xe s:=by
 refine thn (ha pins s σ H _ I h) fun v s1 ⟨x,H1,I1,r1,q1⟩=>?_
 refine thn (hb pins s1 σ H1 _ I1 q1) fun u s2 ⟨y,H2,I2,r2,q2⟩=>?_
 exact hf v u s2 x y H2 I2 r1 r2 q2
theorem Ar {op:Operator} {r:R2} (ho:OpR X (binaryOp op) r) (ha:PE X a ta) (hb:PE X b tb):PE X (.BinOp a op b pos) (tOp r ta tb):=by
 intro pins s σ H Q I h
 exact wpAny_BinOp (Rs ha hb I h fun v u s2 x y H2 I2 rx ry q=>ho pins s2 σ H2 x y v u Q I2 rx ry q)
theorem QK {op:UnaryOp} {r:V->Hp->VK->Prop} (ho:UnR X (unaryOp op) r) (ha:PE X a ta):PE X (.UnaryOp op a pos) (tUn r ta):=by
 intro pins s σ H Q I h
 exact UnaryOp_ (thn (ha pins s σ H _ I h) fun v s1 ⟨x,H1,I1,r1,q1⟩=>ho pins s1 σ H1 x v Q I1 r1 q1)
theorem opI {f:Value->Value->Sem Value} {C:Int->Int->Prop} {g:Int->Int->Int}
 (rule:∀(i j:Int) (t u:Tok) (s:Shared) (Q:Value->Shared->Prop) (E:Value->Shared->Prop),C i j->Q (.int (g i j) s.toks) { s with toks:=s.toks+1 }->wpAny (model X.prog X.w) X.A (f (.int i t) (.int j u)) Q E s) :
 OpR X f (rI C fun i j=>.int (g i j)):=by
 intro pins s σ H x y v u Q I rx ry h
 obtain ⟨i,j,rfl,rfl,hc,q⟩:=h
 obtain ⟨t,rfl⟩:=rx
 obtain ⟨t',rfl⟩:=ry
 exact rule i j t t' s _ _ hc ⟨.int (g i j),H,I.tok _,⟨_,rfl⟩,q⟩
theorem Qo {f:Value->Value->Sem Value} {g:Int->Int->Int}
 (rule:∀(i j:Int) (t u:Tok) (s:Shared) (Q:Value->Shared->Prop) (E:Value->Shared->Prop),Q (.int (g i j) s.toks) { s with toks:=s.toks+1 }->wpAny (model X.prog X.w) X.A (f (.int i t) (.int j u)) Q E s) :
 OpR X f (rI0 fun i j=>.int (g i j)):=by
 intro pins s σ H x y v u Q I rx ry h
 obtain ⟨i,j,rfl,rfl,q⟩:=h
 obtain ⟨t,rfl⟩:=rx
 obtain ⟨t',rfl⟩:=ry
 exact rule i j t t' s _ _ ⟨.int (g i j),H,I.tok _,⟨_,rfl⟩,q⟩
theorem PP {f:Value->Value->Sem Value} {g:Int->Int->Bool}
 (rule:∀(i j:Int) (t u:Tok) (s:Shared) (Q:Value->Shared->Prop) (E:Value->Shared->Prop),Q (.bool (g i j)) s->wpAny (model X.prog X.w) X.A (f (.int i t) (.int j u)) Q E s) :
 OpR X f (rI0 fun i j=>.bl (g i j)):=by
 intro pins s σ H x y v u Q I rx ry h
 obtain ⟨i,j,rfl,rfl,q⟩:=h
 obtain ⟨t,rfl⟩:=rx
 obtain ⟨t',rfl⟩:=ry
 exact rule i j t t' s _ _ ⟨.bl (g i j),H,I,rfl,q⟩
noncomputable def Po (i j:Int):Prop:=0<=j/\j<=1000000/\i.natAbs < 2 ^ 64
theorem Mv (k:Nat):(0:Int)<=2 ^ k:=by
 rw [two_pow_cast]
 exact Int.natCast_nonneg _
theorem AW:OpR X (binaryOp .Add) (rI0 fun i j=>.int (i+j)):=Qo fun _ _ _ _ _ _ _ q=>add_int q
theorem Di:OpR X (binaryOp .Sub) (rI0 fun i j=>.int (i - j)):=Qo fun _ _ _ _ _ _ _ q=>sub_int q
theorem Ba:OpR X (binaryOp .Mod) (rI (fun _ j=>j≠0) fun i j=>.int (i.fmod j)):=opI fun _ _ _ _ _ _ _ hc q=>mod_int' hc q
theorem Fs:OpR X (binaryOp .Pow) (rI Po fun i j=>.int (i ^ j.toNat)):=opI fun _ _ _ _ _ _ _ hc q=>pow_int_small hc.1 hc.2.1 hc.2.2 q
theorem M7:OpR X (binaryOp .LShift) (rI Po fun i j=>.int (i*2 ^ j.toNat)):=opI fun _ _ _ _ _ _ _ hc q=>lshift_int_small hc.1 hc.2.1 hc.2.2 q
theorem RI:OpR X (binaryOp .RShift) (rI (fun _ j=>0<=j) fun i j=>.int (i / 2 ^ j.toNat)):=opI fun i j _ _ _ _ _ hc q =>
 rshift_int hc (by rw [Int.fdiv_eq_ediv_of_nonneg i (Mv _)];exact q)
theorem RC:OpR X (binaryOp .BitAnd) (rI0 fun i j=>.int (Builtin.bitAnd i j)):=Qo fun _ _ _ _ _ _ _ q=>and_int q
theorem Sq:OpR X (binaryOp .BitOr) (rI0 fun i j=>.int (Builtin.bitOr i j)):=Qo fun _ _ _ _ _ _ _ q=>or_int q
theorem unI {f:Value->Sem Value} {g:Int->Int}
 (rule:∀(i:Int) (t:Tok) (s:Shared) (Q:Value->Shared->Prop) (E:Value->Shared->Prop),Q (.int (g i) s.toks) { s with toks:=s.toks+1 }->wpAny (model X.prog X.w) X.A (f (.int i t)) Q E s) :
 UnR X f (rU fun i=>.int (g i)):=by
 intro pins s σ H x v Q I rx h
 obtain ⟨i,rfl,q⟩:=h
 obtain ⟨t,rfl⟩:=rx
 exact rule i t s _ _ ⟨.int (g i),H,I.tok _,⟨_,rfl⟩,q⟩
theorem Ps:UnR X (unaryOp .USub) (rU fun i=>.int (-i)):=unI fun _ _ _ _ _ q=>neg_int q
end
noncomputable def RQ:V->V->Bool
 | .non,.non=>true | .non,.int _=>true | .int _,.non=>true | .non,.bl _=>true | .bl _,.non=>true | .non,.str _=>true | .str _,.non=>true
 | .int _,.int _=>true | .bl _,.bl _=>true | .str _,.str _=>true | .byt _,.byt _=>true
 | .int _,.str _=>true | .str _,.int _=>true | .bl _,.str _=>true | .str _,.bl _=>true
 | _,_=>false
noncomputable def rEq:R2:=fun x y H Q=>RQ x y=true/\Q (.bl (decide (x=y))) H
noncomputable def rNe:R2:=fun x y H Q=>RQ x y=true/\Q (.bl (!decide (x=y))) H
theorem No {i j:Int}:decide (V.int i=V.int j)=(i == j):=by
 rw [Bool.eq_iff_iff]
 simp
theorem Pt {i j:Bool}:decide (V.bl i=V.bl j)=(i == j):=by
 rw [Bool.eq_iff_iff]
 simp
theorem MM {i j:Str}:decide (V.str i=V.str j)=(i == j):=by
 rw [Bool.eq_iff_iff]
 simp
theorem Nm {i j:Array UInt8}:decide (V.byt i=V.byt j)=(i.toList == j.toList):=by
 rw [Bool.eq_iff_iff]
 cases i
 cases j
 simp
section
variable {X:Cx} {a b c:Expr} {ta tb tc:TE} {pos:Pos}
theorem Bo {pins:List (Addr × Obj)} {σ:St} {H:Hp} {s:Shared} {Q:VK} {k k':Bool} (I:Inv X pins σ H s) (q:Q (.bl k) H) (e:k=k'):EP X pins σ Q (.bool k') s:=by
 subst e
 exact ⟨.bl k,H,I,rfl,q⟩
theorem C0:OpR X (compareOp .Eq) rEq:=by
 intro pins s σ H x y v u Q I rx ry h
 obtain ⟨hs,q⟩:=h
 cases x with
 | non =>
   cases rx
   cases y with
   | non=>cases ry;exact PySem.EqNone.eq_none_none (Bo I q (by simp))
   | bl j=>cases ry;exact PySem.EqNone.eq_none_bool (Bo I q (by simp))
   | int j=>obtain ⟨t',rfl⟩:=ry;exact PySem.EqNone.eq_none_int (Bo I q (by simp))
   | str j=>obtain ⟨t',rfl⟩:=ry;exact PySem.EqNone.eq_none_str (Bo I q (by simp))
   | _=>exact absurd (show false=true from hs) Bool.false_ne_true
 | bl i =>
   cases rx
   cases y with
   | non=>cases ry;exact PySem.EqNone.eq_bool_none (Bo I q (by simp))
   | bl j=>cases ry;exact eq_bool (Bo I q Pt)
   | str j=>obtain ⟨t',rfl⟩:=ry;exact PySem.EqMixed.eq_bool_str (Bo I q (by simp))
   | _=>exact absurd (show false=true from hs) Bool.false_ne_true
 | int i =>
   obtain ⟨t,rfl⟩:=rx
   cases y with
   | non=>cases ry;exact PySem.EqNone.eq_int_none (Bo I q (by simp))
   | int j=>obtain ⟨t',rfl⟩:=ry;exact eq_int (Bo I q No)
   | str j=>obtain ⟨t',rfl⟩:=ry;exact PySem.EqMixed.eq_int_str (Bo I q (by simp))
   | _=>exact absurd (show false=true from hs) Bool.false_ne_true
 | str i =>
   obtain ⟨t,rfl⟩:=rx
   cases y with
   | non=>cases ry;exact PySem.EqNone.eq_str_none (Bo I q (by simp))
   | bl j=>cases ry;exact PySem.EqMixed.eq_str_bool (Bo I q (by simp))
   | int j=>obtain ⟨t',rfl⟩:=ry;exact PySem.EqMixed.eq_str_int (Bo I q (by simp))
   | str j=>obtain ⟨t',rfl⟩:=ry;exact eq_str (Bo I q MM)
   | _=>exact absurd (show false=true from hs) Bool.false_ne_true
 | byt i =>
   obtain ⟨t,rfl⟩:=rx
   cases y with
   | byt j=>obtain ⟨t',rfl⟩:=ry;exact PySem.W.eq_bytes (Bo I q Nm)
   | _=>exact absurd (show false=true from hs) Bool.false_ne_true
 | _=>cases y <;> exact absurd (show false=true from hs) Bool.false_ne_true
theorem GM:OpR X (compareOp .NotEq) rNe:=by
 intro pins s σ H x y v u Q I rx ry h
 obtain ⟨hs,q⟩:=h
 cases x with
 | non =>
   cases rx
   cases y with
   | non=>cases ry;exact PySem.EqNone.ne_none_none (Bo I q (by simp))
   | bl j=>cases ry;exact PySem.EqNone.ne_none_bool (Bo I q (by simp))
   | int j=>obtain ⟨t',rfl⟩:=ry;exact PySem.EqNone.ne_none_int (Bo I q (by simp))
   | str j=>obtain ⟨t',rfl⟩:=ry;exact PySem.EqNone.ne_none_str (Bo I q (by simp))
   | _=>exact absurd (show false=true from hs) Bool.false_ne_true
 | bl i =>
   cases rx
   cases y with
   | non=>cases ry;exact PySem.EqNone.ne_bool_none (Bo I q (by simp))
   | bl j=>cases ry;exact ne_bool (Bo I q (congrArg not Pt))
   | str j=>obtain ⟨t',rfl⟩:=ry;exact PySem.EqMixed.ne_bool_str (Bo I q (by simp))
   | _=>exact absurd (show false=true from hs) Bool.false_ne_true
 | int i =>
   obtain ⟨t,rfl⟩:=rx
   cases y with
   | non=>cases ry;exact PySem.EqNone.ne_int_none (Bo I q (by simp))
   | int j=>obtain ⟨t',rfl⟩:=ry;exact ne_int (Bo I q (congrArg not No))
   | str j=>obtain ⟨t',rfl⟩:=ry;exact PySem.EqMixed.ne_int_str (Bo I q (by simp))
   | _=>exact absurd (show false=true from hs) Bool.false_ne_true
 | str i =>
   obtain ⟨t,rfl⟩:=rx
   cases y with
   | non=>cases ry;exact PySem.EqNone.ne_str_none (Bo I q (by simp))
   | bl j=>cases ry;exact PySem.EqMixed.ne_str_bool (Bo I q (by simp))
   | int j=>obtain ⟨t',rfl⟩:=ry;exact PySem.EqMixed.ne_str_int (Bo I q (by simp))
   | str j=>obtain ⟨t',rfl⟩:=ry;exact ne_str (Bo I q (congrArg not MM))
   | _=>exact absurd (show false=true from hs) Bool.false_ne_true
 | byt i =>
   obtain ⟨t,rfl⟩:=rx
   cases y with
   | byt j=>obtain ⟨t',rfl⟩:=ry;exact PySem.W.ne_bytes (Bo I q (congrArg not Nm))
   | _=>exact absurd (show false=true from hs) Bool.false_ne_true
 | _=>cases y <;> exact absurd (show false=true from hs) Bool.false_ne_true
theorem Na:OpR X (compareOp .Lt) (rI0 fun i j=>.bl (decide (i < j))):=PP fun _ _ _ _ _ _ _ q=>lt_int q
theorem Iy:OpR X (compareOp .LtE) (rI0 fun i j=>.bl (decide (i<=j))):=PP fun _ _ _ _ _ _ _ q=>le_int q
theorem HZ:OpR X (compareOp .Gt) (rI0 fun i j=>.bl (decide (j < i))):=PP fun _ _ _ _ _ _ _ q=>gt_int q
theorem Se:OpR X (compareOp .GtE) (rI0 fun i j=>.bl (decide (j<=i))):=PP fun _ _ _ _ _ _ _ q=>ge_int q
theorem AR (b:Expr) {op:CmpOp} (h:op≠.In:=by decide) (h2:op≠.NotIn:=by decide):behindInMarks op b=false:=by
 have e1:(op == CmpOp.In)=false:=by cases op <;> first | rfl | exact absurd rfl h
 have e2:(op == CmpOp.NotIn)=false:=by cases op <;> first | rfl | exact absurd rfl h2
 cases b <;> simp [behindInMarks,e1,e2]
theorem Cu {op:CmpOp} {r:R2} (ho:OpR X (compareOp op) r) (ha:PE X a ta) (hb:PE X b tb) (hm:behindInMarks op b=false):PE X (.Compare a [op] [b] pos) (tOp r ta tb):=by
 intro pins s σ H Q I h
 exact wpAny_Compare1 (Rs ha hb I h fun v u s2 x y H2 I2 rx ry q=>ho pins s2 σ H2 x y v u Q I2 rx ry q) hm
noncomputable def RU (t:TE):TT:=fun σ H Q=>t σ H fun x H'=>∃k,x=.bl k/\Q k H'
theorem AQ {op:CmpOp} {r:R2} (ho:OpR X (compareOp op) r) (ha:PE X a ta) (hb:PE X b tb) (hm:behindInMarks op b=false):PT X (.Compare a [op] [b] pos) (RU (tOp r ta tb)):=by
 intro pins s σ H Q I h
 refine wpAny_isTrue_Compare1 (thn (ha pins s σ H _ I h) fun v s1 ⟨x,H1,I1,r1,q1⟩=>thn (hb pins s1 σ H1 _ I1 q1) fun u s2 ⟨y,H2,I2,r2,q2⟩ =>
  thn (ho pins s2 σ H2 x y v u _ I2 r1 r2 q2) fun c s3 ⟨z,H3,I3,r3,k,e,q3⟩=>?_) hm
 subst e
 cases r3
 exact wpAny_truthy_bool ⟨H3,I3,q3⟩
noncomputable def Rn (r r':R2) (ta tb tc:TE):TE:=fun σ H Q=>ta σ H fun x H1=>tb σ H1 fun y H2=>r x y H2 fun z H3=>∃k,z=.bl k /\
 (if k=true then tc σ H3 fun w' H4=>r' y w' H4 Q else Q (.bl false) H3)
theorem Hc {op op':CmpOp} {r r':R2} (ho:OpR X (compareOp op) r) (ho':OpR X (compareOp op') r') (ha:PE X a ta) (hb:PE X b tb) (hc:PE X c tc)
 (hm:lastMarks [op,op'] [b,c]=false:=by with_unfolding_all rfl):PE X (.Compare a [op,op'] [b,c] pos) (Rn r r' ta tb tc):=by
 intro pins s σ H Q I h
 refine Compare_chain (thn (ha pins s σ H _ I h) fun v s1 ⟨x,H1,I1,r1,q1⟩=>chain_link (thn (hb pins s1 σ H1 _ I1 q1) fun u s2 ⟨y,H2,I2,r2,q2⟩ =>
  thn (ho pins s2 σ H2 x y v u _ I2 r1 r2 q2) fun d s3 ⟨z,H3,I3,r3,k,e,q3⟩=>?_)) hm
 subst e
 cases r3
 refine wpAny_truthy_bool ?_
 cases k with
 | false=>exact ite_ff ⟨.bl false,H3,I3,rfl,q3⟩
 | true=>exact ite_tt (chain_last (thn (hc pins s3 σ H3 _ I3 q3) fun w' s4 ⟨z',H4,I4,r4,q4⟩=>ho' pins s4 σ H4 y z' u w' Q I4 r2 r4 q4))
theorem JA:(sizeLine:Nat) < 2 ^ 63:=by rw [sizeLine_eq];decide
theorem FF {x:V} {us:List Value} (r:AX [x] us):∃u,us=[u]/\Bg x u:=by
 cases r with
 | cons r1 r2=>cases r2;exact ⟨_,rfl,r1⟩
theorem Ko {x y:V} {us:List Value} (r:AX [x,y] us):∃u w',us=[u,w']/\Bg x u/\Bg y w':=by
 cases r with
 | cons r1 r2 =>
   cases r2 with
   | cons r3 r4=>cases r4;exact ⟨_,_,rfl,r1,r3⟩
theorem FS (hc:X.calm=true):Dg X (.builtin "max") (fun xs H Q=>∃i j,xs=[.int i,.int j]/\Q (.int (if j > i then j else i)) H):=by
 intro pins s σ H xs us Q I r h
 obtain ⟨i,j,rfl,q⟩:=h
 obtain ⟨u,w',rfl,⟨t,rfl⟩,⟨t',rfl⟩⟩:=Ko r
 refine max_two_ints (I.ok.hd hc) fun h' tk k=>⟨_,H,I.kept k,?_,q⟩
 by_cases hj:j > i
 ·rw [if_pos hj,if_pos hj];exact ⟨_,rfl⟩
 ·rw [if_neg hj,if_neg hj];exact ⟨_,rfl⟩
theorem NK (hc:X.calm=true):Dg X (.builtin "min") (fun xs H Q=>∃i j,xs=[.int i,.int j]/\Q (.int (if j < i then j else i)) H):=by
 intro pins s σ H xs us Q I r h
 obtain ⟨i,j,rfl,q⟩:=h
 obtain ⟨u,w',rfl,⟨t,rfl⟩,⟨t',rfl⟩⟩:=Ko r
 refine min_two_ints (I.ok.hd hc) fun h' tk k=>⟨_,H,I.kept k,?_,q⟩
 by_cases hj:j < i
 ·rw [if_pos hj,if_pos hj];exact ⟨_,rfl⟩
 ·rw [if_neg hj,if_neg hj];exact ⟨_,rfl⟩
end
end L2
namespace L2
open PySem PySem.Spec PyProof.Rows
structure Mi (h:Heap) (x dx C:Addr) (mA:Str->Option Value):Prop where
 obj:h.get? x=some (PySem.W.instObj C dx)
 ns:h.Ns1 dx mA
 ne:dx≠x
theorem Ge {h:Heap} {dx:Addr} {mA:Str->Option Value} (n:h.Ns1 dx mA):∃od,h.get? dx=some od/\∀name,PySem.W.lookIn name od=some (mA name):=by
 obtain ⟨o,es,ep,ho,hd,hk,_,hm⟩:=n
 refine ⟨o,ho,fun name=>?_⟩
 have e:=hm name
 unfold nsFind findBy at e
 rw [<- Array.find?_toList] at e
 unfold PySem.W.lookIn
 rw [hd]
 dsimp only
 split
 ·rename_i y q
  rw [q] at e
  exact congrArg some e
 ·rename_i q
  rw [q] at e
  have a:es.toList.any (·.refKey)=false:=by
   rw [any_eq_false]
   intro y hy
   obtain ⟨z,t,hkey⟩:=hk y (Array.mem_toList_iff.mp hy)
   simp [DictEntry.refKey,hkey]
  have a':¬ es.toList.any (·.refKey)=true:=by rw [a];exact Bool.false_ne_true
  rw [if_neg a']
  exact congrArg some e
theorem Mi.look {h:Heap} {x dx C:Addr} {mA:Str->Option Value} (I:Mi h x dx C mA):∃od,PySem.W.InstAt h x (PySem.W.instObj C dx) C (some od)/\∀name,PySem.W.lookIn name od=some (mA name) :=
 let ⟨od,ho,hl⟩:=Ge I.ns
 ⟨od,⟨I.obj,rfl,rfl,ho⟩,hl⟩
section
variable {prog:Program} {w:World} {A:Around} {E:Value->Shared->Prop} {s:Shared} {K:PySem.W.Frag} {x dx C f:Addr} {mA:Str->Option Value} {name:Str} {v:Value}
theorem Qa {expr:Bool} {Q:Value->Shared->Prop} (X:K.In s.heap) (I:Mi s.heap x dx C mA) (hg:PySem.W.plainGet K C name=true) (hh:PySem.W.hasDictIn K C=true)
 (ha:PySem.W.findIn K (.ref C) name=some none) (hv:mA name=some v) (hv':PySem.W.handedIn v=true) (h:Q v { s with toks:=s.toks+1 }) :
 wpAny (model prog w) A (getAttr (.ref x) name expr) Q E s:=by
 obtain ⟨od,J,hl⟩:=I.look
 exact PySem.W.get_value X J (PySem.W.plainGet_of hg).1 (PySem.W.findObj_own hh ha rfl (by rw [hl,hv])) hv' h
theorem OU {pl:Sem Bool} {Q:Value × List Value->Shared->Prop} (X:K.In s.heap) (I:Mi s.heap x dx C mA) (hg:PySem.W.plainGet K C name=true)
 (hf:PySem.W.findIn K (.ref C) name=some (some (.ref f))) (ht:PySem.W.isFn K (.ref f)=true) (hv:mA name=none) (h:Q (.ref f,[.ref x]) s) :
 wpAny (model prog w) A (getMethod (.ref x) name pl) Q E s:=by
 obtain ⟨od,J,hl⟩:=I.look
 exact PySem.W.method_fn X J (PySem.W.plainGet_of hg).1 (PySem.W.plainGet_of hg).2 hf (beq_iff_eq.mp ht) (by show (PySem.W.lookIn name od).map (·.isSome)=some false;rw [hl,hv];rfl) h
theorem Qg {ns:List Str} {Q:Unit->Shared->Prop} (X:K.In s.heap) (I:Mi s.heap x dx C mA)
 (hs:PySem.W.findIn K (.ref C) "__setattr__"=some (some (.builtin "object.__setattr__"))) (hp:PySem.W.plainOver K C=true) (ht:PySem.W.takerIn K C name=some none) (hh:PySem.W.hasDictIn K C=true)
 (hw:PySem.Within mA ns) (hsz:ns.length<=sizeLine)
 (h:∀h',Mi h' x dx C (fun y=>if y=name then some v else mA y)->Heap.SameBut dx s.heap h'->Q () { s with heap:=h',toks:=s.toks+2 }) :
 wpAny (model prog w) A (setAttr (.ref x) name v) Q E s:=by
 obtain ⟨od,J,hl⟩:=I.look
 refine PySem.W.set_plain X J hs (PySem.W.osa_open (s:={ s with toks:=s.toks+1 }) (r:=none) X J hp ht fun b=>?_)
 obtain ⟨cd,hc,hd'⟩:=PySem.W.any_some hh
 have hx:s.heap.get? x=some ⟨.ref C,some dx,.plain,#[]⟩:=I.obj
 refine wpAny_bind (wpAny_pure (wpAny_bind (wpAny_bind (wpAny_loadPart hx (wpAny_bind (PySem.W.Looks.here (s:={ s with toks:=s.toks+1 }) (PySem.W.looks_clsIn X hc) ?_))))))
 rw [hd']
 refine wpAny_pure (a:=some dx) (wpAny_bind (wpAny_pure (wpAny_bind ?_)))
 refine wpAny_nsSet1 (s:={ s with toks:=s.toks+1 }) I.ns fun h' hn2 hs2=>?_
 obtain ⟨oD,esD,epD,hoD,hdD,hcD⟩:=hn2.count (PySem.Within.cons name v hw)
 refine wpAny_bind (wpAny_lookBehind hoD (by rw [hdD];exact pastItsLine_dict (Nat.le_trans hcD (by rw [length_cons];omega))) ?_)
 exact wpAny_pure (h _ ⟨(hs2.2 _ (Ne.symm I.ne)).trans I.obj,hn2,I.ne⟩ hs2)
theorem OZ {R:Result->Shared->Prop} {vs:List Value} {kw:List (Str × Value)} (X:K.In s.heap) (hm:PySem.W.makesIn K C=true)
 (hi:PySem.W.findIn K (.ref C) "__init__"=some (some (.ref f))) (hf:PySem.W.typeIn K (.ref f)=some (.type "function"))
 (h:codeAny (model prog w) (A.under (.builtin "type.__call__" ⟨.ref C :: vs,kw⟩)) (.call (.ref f) ⟨.ref (s.heap.objs.size+1) :: vs,kw⟩) (PySem.W.InitBack (s.heap.objs.size+1) R)
  { s with heap:=(s.heap.push PySem.W.emptyDict).push (PySem.W.instObj C s.heap.objs.size) }) :
 codeAny (model prog w) A (.call (.ref C) ⟨vs,kw⟩) R s:=by
 obtain ⟨hh,g,d,t,os⟩:=s
 exact PySem.W.make_core (PySem.W.makes_of X hm) (PySem.W.looks_findIn X hi) (fun self=>PySem.W.bind_fn X self hf) (.inl rfl) h
end
noncomputable def CQ (f:Str) (v:V):List (Str × V)->List (Str × V)
 | []=>[(f,v)]
 | (g,x) :: r=>if g=f then (g,v) :: r else (g,x) :: CQ f v r
theorem EY (f g:Str) (v:V):∀fs:List (Str × V),(CQ f v fs).lookup g=if g=f then some v else fs.lookup g
 | []=>by
   show List.lookup g [(f,v)]=_
   by_cases h:g=f
   ·have hb:(g == f)=true:=beq_iff_eq.mpr h
    simp only [List.lookup,hb,if_pos h]
   ·have hb:(g == f)=false:=beq_eq_false_iff_ne.mpr h
    simp only [List.lookup,hb,if_neg h]
 | (k,x) :: r=>by
   have ih:=EY f g v r
   rw [show CQ f v ((k,x) :: r)=(if k=f then (k,v) :: r else (k,x) :: CQ f v r) from rfl]
   by_cases hk:k=f
   ·rw [if_pos hk]
    by_cases h:g=k
    ·have hb:(g == k)=true:=beq_iff_eq.mpr h
     simp only [List.lookup,hb,if_pos (h.trans hk)]
    ·have hb:(g == k)=false:=beq_eq_false_iff_ne.mpr h
     simp only [List.lookup,hb,if_neg (fun e:g=f=>h (e.trans hk.symm))]
   ·rw [if_neg hk]
    by_cases h:g=k
    ·have hb:(g == k)=true:=beq_iff_eq.mpr h
     simp only [List.lookup,hb,if_neg (fun e:g=f=>hk (h.symm.trans e))]
    ·have hb:(g == k)=false:=beq_eq_false_iff_ne.mpr h
     simp only [List.lookup,hb]
     exact ih
theorem DT (f:Str) (v:V):∀fs:List (Str × V),f∈(CQ f v fs).map (·.1)/\∀g,g∈fs.map (·.1)->g∈(CQ f v fs).map (·.1)
 | []=>⟨by simp [CQ],fun g h=>by simp at h⟩
 | (k,x) :: r=>by
   obtain ⟨i1,i2⟩:=DT f v r
   rw [show CQ f v ((k,x) :: r)=(if k=f then (k,v) :: r else (k,x) :: CQ f v r) from rfl]
   by_cases hk:k=f
   ·rw [if_pos hk]
    subst hk
    exact ⟨by simp,fun g h=>by simpa using h⟩
   ·rw [if_neg hk]
    refine ⟨?_,fun g h=>?_⟩
    ·rw [map_cons]
     exact mem_cons_of_mem _ i1
    ·rw [map_cons] at h ⊢
     rcases mem_cons.mp h with e | e
     ·exact mem_cons.mpr (.inl e)
     ·exact mem_cons_of_mem _ (i2 g e)
theorem G1 (f:Str) (v:V):∀fs:List (Str × V),(CQ f v fs).length<=fs.length+1
 | []=>by simp [CQ]
 | (k,x) :: r=>by
   have ih:=G1 f v r
   rw [show CQ f v ((k,x) :: r)=(if k=f then (k,v) :: r else (k,x) :: CQ f v r) from rfl]
   by_cases hk:k=f
   ·rw [if_pos hk,length_cons,length_cons];omega
   ·rw [if_neg hk,length_cons,length_cons];omega
theorem Dl.some_of {v:V} {o:Option Value} (r:Dl (some v) o):∃u,o=some u/\Bg v u:=by
 cases o with
 | none=>exact (show False from r).elim
 | some u=>exact ⟨u,rfl,r⟩
theorem Dl.none_of {o:Option Value} (r:Dl none o):o=none:=by
 cases o with
 | none=>rfl
 | some u=>exact (show False from r).elim
theorem IM {v:V} {u:Value} (r:Bg v u):PySem.W.handedIn u=true:=by
 cases v with
 | non=>cases (show u=Value.none from r);rfl
 | bl b=>cases (show u=Value.bool b from r);rfl
 | int i=>obtain ⟨t,e⟩:=(show ∃t,u=Value.int i t from r);cases e;rfl
 | str x=>obtain ⟨t,e⟩:=(show ∃t,u=Value.str x t from r);cases e;rfl
 | byt b=>obtain ⟨t,e⟩:=(show ∃t,u=Value.bytes b t from r);cases e;rfl
 | flt b=>obtain ⟨t,e⟩:=(show ∃t,u=Value.float b t from r);cases e;rfl
 | ref a=>cases (show u=Value.ref a from r);rfl
 | ty n=>cases (show u=Value.type n from r);rfl
section
variable {P:Program} {w:World} {H H':Hp} {h h':Heap} {a C dx:Addr} {fs fs':List (Str × V)}
theorem GF (hok:HOk P w H h) (e:H a=some (.ins C dx fs)):∃mA,Mi h a dx C mA/\(∀f,Dl (fs.lookup f) (mA f))/\PySem.Within mA (fs.map (·.1))/\fs.length<=1000/\H dx=some (.own a):=by
 obtain ⟨d,z,ne,ob,mA,n,r,q⟩:=(show Bk P w H h a (.ins C dx fs) from hok a _ e)
 exact ⟨mA,⟨ob,n,ne⟩,r,q,z,d⟩
end
structure Cls (K:PySem.W.Frag) (C:Addr):Prop where
 pg:PySem.W.plainGet K C Str.empty=true
 hd:PySem.W.hasDictIn K C=true
 po:PySem.W.plainOver K C=true
 sa:PySem.W.findIn K (.ref C) "__setattr__"=some (some (.builtin "object.__setattr__"))
theorem Cls.get {K:PySem.W.Frag} {C:Addr} (c:Cls K C) (f:Str):PySem.W.plainGet K C f=true:=c.pg
noncomputable def BX (K:PySem.W.Frag) (C:Addr) (f:Str):Prop:=PySem.W.findIn K (.ref C) f=some none
theorem BX.taker {K:PySem.W.Frag} {C:Addr} {f:Str} (n:BX K C f):PySem.W.takerIn K C f=some none:=by
 unfold PySem.W.takerIn
 rw [show PySem.W.findIn K (.ref C) f=some none from n]
 rfl
structure Ib (K:PySem.W.Frag) (C:Addr) (m:Str) (f:Addr):Prop where
 at_:PySem.W.findIn K (.ref C) m=some (some (.ref f))
 fn:PySem.W.isFn K (.ref f)=true
 kp:PySem.W.keepIn K (.ref f)=true
section
variable {X:Cx} {pins:List (Addr × Obj)} {σ:St} {H:Hp} {s:Shared} {a C dx:Addr} {fs:List (Str × V)} {f:Str} {v:V} {A:Around} {E:Value->Shared->Prop}
theorem L9 {b:Bool} {Q:Value->Shared->Prop} (I:Inv X pins σ H s) (e:H a=some (.ins C dx fs)) (c:Cls X.K C) (n:BX X.K C f) (l:fs.lookup f=some v)
 (h:∀u s',Inv X pins σ H s'->Bg v u->Q u s'):wpAny (model X.prog X.w) A (getAttr (.ref a) f b) Q E s:=by
 obtain ⟨mA,O,r,_,_,_⟩:=GF I.hok e
 obtain ⟨u,hu,ru⟩:=Dl.some_of (v:=v) (o:=mA f) (by rw [<- l];exact r f)
 exact Qa I.kIn O (c.get f) c.hd n hu (IM ru) (h u _ (I.tok _) ru)
theorem F6 {m:Str} {g:Addr} {pl:Sem Bool} {Q:Value × List Value->Shared->Prop} (I:Inv X pins σ H s) (e:H a=some (.ins C dx fs)) (c:Cls X.K C) (k:Ib X.K C m g) (l:fs.lookup m=none)
 (h:Q (.ref g,[.ref a]) s):wpAny (model X.prog X.w) A (getMethod (.ref a) m pl) Q E s:=by
 obtain ⟨mA,O,r,_,_,_⟩:=GF I.hok e
 have hn:mA m=none:=Dl.none_of (by rw [<- l];exact r m)
 exact OU I.kIn O (c.get m) k.at_ k.fn hn h
theorem LS {y:V} {u:Value} {Q:Unit->Shared->Prop} (I:Inv X pins σ H s) (e:H a=some (.ins C dx fs)) (c:Cls X.K C) (n:BX X.K C f) (hl:fs.length < 1000) (ry:Bg y u)
 (h:∀s',Inv X pins σ (upd H a (.ins C dx (CQ f y fs))) s'->Q () s'):wpAny (model X.prog X.w) A (setAttr (.ref a) f u) Q E s:=by
 obtain ⟨mA,O,r,wi,_,ho⟩:=GF I.hok e
 have hz:(fs.map (·.1)).length<=sizeLine:=by rw [length_map,sizeLine_eq];omega
 refine Qg I.kIn O c.sa c.po n.taker c.hd wi hz fun h' O' sb=>h _ ?_
 have hd:∃o,h'.get? dx=some o:=let ⟨o,_,_,e',_⟩:=O'.ns;⟨o,e'⟩
 refine I.write (x:=a) (e:=dx) (by rw [e];exact True.intro) (.inr ho) (fun b q hb z=>(sb.2 b hb).trans z) hd ?_
 refine ⟨by rw [A8 O.ne];exact ho,?_,O.ne,O'.obj,_,O'.ns,fun g=>?_,fun g hg=>?_⟩
 ·have:=G1 f y fs;omega
 ·show Dl ((CQ f y fs).lookup g) (if g=f then some u else mA g)
  rw [EY]
  by_cases q:g=f
  ·rw [if_pos q,if_pos q];exact ry
  ·rw [if_neg q,if_neg q];exact r g
 ·by_cases q:g=f
  ·rw [q];exact (DT f y fs).1
  ·refine (DT f y fs).2 g (wi g fun z=>hg ?_)
   show (if g=f then some u else mA g)=none
   rw [if_neg q];exact z
theorem Inv.made (I:Inv X pins σ H s):Inv X pins σ (upd (upd H s.heap.objs.size (.own (s.heap.objs.size+1))) (s.heap.objs.size+1) (.ins C s.heap.objs.size []))
 { s with heap:=(s.heap.push PySem.W.emptyDict).push (PySem.W.instObj C s.heap.objs.size) }:=by
 have e1:(s.heap.push PySem.W.emptyDict).get? s.heap.objs.size=some PySem.W.emptyDict:=Heap.get?_push_size s.heap rfl
 have e2:((s.heap.push PySem.W.emptyDict).push (PySem.W.instObj C s.heap.objs.size)).get? (s.heap.objs.size+1)=some (PySem.W.instObj C s.heap.objs.size):=by
  have:=Heap.get?_push_size (s.heap.push PySem.W.emptyDict) (o:=PySem.W.instObj C s.heap.objs.size) rfl
  rwa [Heap.size_push] at this
 have e3:(s.heap.push PySem.W.emptyDict).Ns s.heap.objs.size (fun _=>none):=⟨PySem.W.emptyDict,#[],_,e1,rfl,(fun e he=>absurd he (by simp)),fun _=>rfl⟩
 have I1:=I.laid (a:=s.heap.objs.size) (o:=.own (s.heap.objs.size+1)) (h':=s.heap.push PySem.W.emptyDict) (t':=s.toks) (fun b u q=>Heap.get?_push_of_some _ q) (Nat.le_refl _) ⟨_,e1⟩
 refine I1.laid (a:=s.heap.objs.size+1) (o:=.ins C s.heap.objs.size []) (t':=s.toks) (fun b u q=>Heap.get?_push_of_some _ q) (Nat.le_of_eq (Heap.size_push _ _)) ?_
 have ne:s.heap.objs.size≠s.heap.objs.size+1:=Nat.ne_of_lt (Nat.lt_succ_self _)
 refine ⟨by rw [A8 ne,Ag],Nat.zero_le _,ne,e2,fun _=>none,(Heap.Ns1.of_empty e3).at fun o q=>Heap.get?_push_of_some _ q,fun _=>True.intro,fun y hy=>absurd rfl hy⟩
theorem MT {prog:Program} {w:World} {env:Env} {e:Expr} {f:Str} {pos:Pos} {s:Shared} {Q:Value->Shared->Prop} (hb:attributeBase e f env (eval e env)=eval e env)
 (h:wpAny (model prog w) A (eval e env) (fun o s₁=>wpAny (model prog w) A (getAttr o f true) Q E s₁) E s):wpAny (model prog w) A (eval (.Attribute e f pos) env) Q E s :=
 Attribute_any_ h (by rw [arm_eval_Attribute,hb])
end
noncomputable def RV (K:PySem.W.Frag) (ta:TE) (f:Str):TE:=fun σ H Q=>ta σ H fun x H1=>∃a C dx fs v,x=.ref a/\H1 a=some (.ins C dx fs)/\Cls K C/\BX K C f/\fs.lookup f=some v/\Q v H1
noncomputable def SX (K:PySem.W.Frag) (ta tv:TE) (f:Str):TS:=fun D σ H=>tv σ H fun y H1=>ta σ H1 fun x H2=>∃a C dx fs,x=.ref a/\H2 a=some (.ins C dx fs)/\Cls K C/\BX K C f/\fs.length < 1000 /\
 D.nx σ (upd H2 a (.ins C dx (CQ f y fs)))
section
variable {X:Cx} {o e value:Expr} {f:Str} {pos pos' tpos:Pos} {ta tv:TE}
theorem FR (he:PE X e ta) (hb:attributeBase e f X.env (eval e X.env)=eval e X.env):PE X (.Attribute e f pos) (RV X.K ta f):=by
 intro pins s σ H Q I h
 refine MT hb (thn (he pins s σ H _ I h) fun u s1 ⟨x,H1,I1,rx,a,C,dx,fs,v,ex,ea,c,n,l,q⟩=>?_)
 subst ex
 obtain rfl:u=Value.ref a:=rx
 exact L9 I1 ea c n l fun u' s2 I2 ru=>⟨v,H1,I2,ru,q⟩
theorem Pf (ha:PE X o ta) (hv:PE X value tv) (hs:swapsWith value (some (.Attribute o f pos')) pos.line X.env=pure false):PS X (.Assign [.Attribute o f pos'] value pos) (SX X.K ta tv f):=by
 intro pins s σ H D I h
 refine plainObj_wpAny_Assign_Attribute (thn (hv pins s σ H _ I h) fun u s1 ⟨y,H1,I1,ry,q⟩=>thn (ha pins s1 σ H1 _ I1 q) fun ov s2 ⟨x,H2,I2,rx,a,C,dx,fs,ex,ea,c,n,l,q2⟩=>?_) hs
 subst ex
 obtain rfl:ov=Value.ref a:=rx
 exact LS I2 ea c n l ry fun s3 I3=>⟨σ,_,I3,q2⟩
end
section
variable {X:Cx} {pins:List (Addr × Obj)} {σ:St} {H:Hp} {s:Shared} {A:Around} {E:Value->Shared->Prop} {Q:Value->Shared->Prop} {c:Value} {b:Bool}
inductive CD (K:PySem.W.Frag) (H:Hp):V->Value->Prop where
 | non:CD K H .non (.type "NoneType")
 | bl (x:Bool):CD K H (.bl x) (.type "bool")
 | int (i:Int):CD K H (.int i) (.type "int")
 | str (x:Str):CD K H (.str x) (.type "str")
 | flt (x:UInt64):CD K H (.flt x) (.type "float")
 | lst {a:Addr} {xs:List V} (e:H a=some (.lst xs)):CD K H (.ref a) (.type "list")
 | frz {a:Addr} {o:Obj} {xs:List V} (e:H a=some (.frz o (.lst xs))):CD K H (.ref a) (.type "list")
 | tup {a:Addr} {xs:List V} (e:H a=some (.tup xs)):CD K H (.ref a) (.type "tuple")
 | dK {a:Addr} {kvs:List (Key × V)} (e:H a=some (.dK kvs)):CD K H (.ref a) (.type "dict")
 | dT {a:Addr} {kvs:List (List Key × V)} (e:H a=some (.dT kvs)):CD K H (.ref a) (.type "dict")
 | ins {a C dx:Addr} {fs:List (Str × V)} (e:H a=some (.ins C dx fs)) (cl:Cls K C) (ha:PySem.W.findIn K (.ref C) "__class__"=some (some (.builtin "object.__class__")))
  (hn:PySem.W.specialIn K (.builtin "object.__class__") "__get__"=some (some (.builtin "getset_descriptor.__get__"))) (htk:PySem.W.takesIn K (.builtin "object.__class__")=some true)
  (hm:PySem.W.mroIn K C (.type "object")=some true):CD K H (.ref a) (.ref C)
theorem NJ {x:V} {u t:Value} (I:Inv X pins σ H s) (rx:Bg x u) (ty:CD X.K H x t) (e:PySem.W.kitOne X.K t c=some b) (h:∀tk,Q (.bool b) { s with toks:=tk }) :
 wpAny (model X.prog X.w) A (call (.builtin "isinstance") [u,c]) Q E s:=by
 cases ty with
 | non=>cases (show u=Value.none from rx);exact PySem.W.kia_one PySem.W.kitx_none I.kIn True.intro e (fun z=>nomatch z) h
 | bl y=>cases (show u=Value.bool y from rx);exact PySem.W.kia_one PySem.W.kitx_bool I.kIn True.intro e (fun z=>nomatch z) h
 | int i=>obtain ⟨t,q⟩:=(show ∃t,u=Value.int i t from rx);cases q;exact PySem.W.kia_one PySem.W.kitx_int I.kIn True.intro e (fun z=>nomatch z) h
 | str y=>obtain ⟨t,q⟩:=(show ∃t,u=Value.str y t from rx);cases q;exact PySem.W.kia_one PySem.W.kitx_str I.kIn True.intro e (fun z=>nomatch z) h
 | flt y=>obtain ⟨t,q⟩:=(show ∃t,u=Value.float y t from rx);cases q;exact PySem.W.kia_one PySem.W.kitx_float I.kIn True.intro e (fun z=>nomatch z) h
 | @lst a xs ea =>
   cases (show u=Value.ref a from rx)
   obtain ⟨_,_,n,_,h1⟩:=(show Bk X.prog X.w H s.heap a (.lst xs) from I.hok a _ ea)
   exact PySem.W.kia_one PySem.W.kitx_list I.kIn ⟨_,h1,rfl⟩ e (fun z=>nomatch z) h
 | @frz a ob xs ea =>
   cases (show u=Value.ref a from rx)
   obtain ⟨_,_,_,n,_,h1⟩:=(show Bk X.prog X.w H s.heap a (.frz ob (.lst xs)) from I.hok a _ ea)
   exact PySem.W.kia_one PySem.W.kitx_list I.kIn ⟨_,h1,rfl⟩ e (fun z=>nomatch z) h
 | @tup a xs ea =>
   cases (show u=Value.ref a from rx)
   obtain ⟨_,_,_,p⟩:=(show Bk X.prog X.w H s.heap a (.tup xs) from I.hok a _ ea)
   obtain ⟨o,h1,h2,_⟩:=p
   exact PySem.W.kia_one PySem.W.kitx_tuple I.kIn ⟨o,h1,h2⟩ e (fun z=>nomatch z) h
 | @dK a kvs ea =>
   cases (show u=Value.ref a from rx)
   obtain ⟨_,_,vs,_,p⟩:=(show Bk X.prog X.w H s.heap a (.dK kvs) from I.hok a _ ea)
   obtain ⟨o,es,ep,h1,h2,_⟩:=p
   exact PySem.W.kia_one PySem.W.kitx_dict I.kIn ⟨o,h1,h2.1⟩ e (fun z=>nomatch z) h
 | @dT a kvs ea =>
   cases (show u=Value.ref a from rx)
   obtain ⟨_,_,xs,_,o,es,ep,h1,h2,_⟩:=(show Bk X.prog X.w H s.heap a (.dT kvs) from I.hok a _ ea)
   exact PySem.W.kia_one PySem.W.kitx_dict I.kIn ⟨o,h1,h2.1⟩ e (fun z=>nomatch z) h
 | @ins a C dx fs ea cl ha hn htk hm =>
   cases (show u=Value.ref a from rx)
   obtain ⟨mA,O,_⟩:=GF I.hok ea
   obtain ⟨od,J,_⟩:=O.look
   exact PySem.W.kia_one (PySem.W.kitx_own (cl.get _) cl.hd ha hn htk hm) I.kIn J e (fun z=>nomatch z) h
end
end L2
namespace L2
open PySem PySem.Spec PyProof.Rows
structure Cq (k:Nat) (A:Around):Prop where
 hd:A.handled=none
 dp:A.depth+3*k+5 < recursionLimit
 un:A.units+16*k+200 < cLine
theorem Cq.mono {j k:Nat} {A:Around} (r:Cq k A) (h:j<=k):Cq j A:=⟨r.hd,by have:=r.dp;omega,by have:=r.un;omega⟩
theorem Cq.deeper {k:Nat} {A:Around} (r:Cq (k+1) A) (env:Env):Cq k (A.deeper env) :=
 ⟨r.hd,by have:=r.dp;show A.depth+1+3*k+5 < _;omega,by have:=r.un;show A.units+3+16*k+200 < _;omega⟩
theorem LE {A:Around} {C:Addr} {us:List Value} {kw:List (Str × Value)}:(A.under (.builtin "type.__call__" ⟨.ref C :: us,kw⟩)).depth=A.depth+1:=by
 first | rfl | simp [Around.under,Code.weight,Code.isCreation,Code.isGuard,Code.isCaller,Code.frames,Code.isFrame,guardIds]
theorem LL {A:Around} {C:Addr} {us:List Value} {kw:List (Str × Value)}:(A.under (.builtin "type.__call__" ⟨.ref C :: us,kw⟩)).units=A.units+1:=by
 first | rfl | simp [Around.under,Code.cUnits,Code.frames,Code.isFrame]
theorem Cq.make {k:Nat} {A:Around} (r:Cq (k+1) A) (C:Addr) (us:List Value) (kw:List (Str × Value)):Cq k (A.under (.builtin "type.__call__" ⟨.ref C :: us,kw⟩)) :=
 ⟨r.hd,by have:=r.dp;rw [LE];omega,by have:=r.un;rw [LL];omega⟩
theorem Cq.depth {k:Nat} {A:Around} (r:Cq k A):A.depth < recursionLimit:=by have:=r.dp;omega
theorem Cq.units {k:Nat} {A:Around} (r:Cq k A):A.units+64 < cLine:=by have:=r.un;omega
theorem Cq.units0 {k:Nat} {A:Around} (r:Cq k A):A.units < cLine:=by have:=r.un;omega
noncomputable def RP:TA:=fun _ H Q=>Q [] H
noncomputable def S4 (ta:TE) (tr:TA):TA:=fun σ H Q=>ta σ H fun x H1=>tr σ H1 fun xs H2=>Q (x :: xs) H2
section
variable {X:Cx} {e:Expr} {es:List Expr} {te:TE} {t:TA} {pos:Pos}
theorem Ah:PA X [] RP:=fun _ _ _ _ H Q I h=>Calls.spliced_nil ⟨[],H,I,.nil,h⟩
theorem Af (ha:PE X e te) (hr:PA X es t) (hs:starEach (e :: es) X.env=(false,eval e X.env) :: starEach es X.env:=by rfl):PA X (e :: es) (S4 te t):=by
 intro pos pins s σ H Q I h
 rw [hs]
 show wpAny _ _ (spliced ((false,eval e X.env) :: backTo pos (starEach es X.env))) _ _ s
 refine Calls.spliced_cons (thn (ha pins s σ H _ I h) fun u s1 ⟨x,H1,I1,r1,q1⟩=>?_)
 exact thn (hr pos pins s1 σ H1 _ I1 q1) fun us s2 ⟨xs,H2,I2,r2,q2⟩=>⟨x :: xs,H2,I2,.cons r1 r2,q2⟩
noncomputable def SI (t:TA):TE:=fun σ H Q=>t σ H fun xs H1=>xs.length<=sizeLine/\∀p,H1 p=none->Q (.ref p) (upd H1 p (.tup xs))
noncomputable def SC (t:TA):TE:=fun σ H Q=>t σ H fun xs H1=>xs.length<=sizeLine/\∀p,H1 p=none->Q (.ref p) (upd H1 p (.lst xs))
theorem AZ {x1} (h:PA X es t):PE X (.Tuple es x1 pos) (SI t):=by
 intro pins s σ H Q I hq
 refine wpAny_Tuple_spliced (thn (h pos pins s σ H _ I hq) fun us s1 ⟨xs,H1,I1,r,z,q⟩=>⟨by rw [<- r.length];exact z,?_⟩)
 have hf:H1 s1.heap.objs.size=none:=I1.hok.fresh (Nat.le_refl _)
 refine ⟨.ref s1.heap.objs.size,upd H1 s1.heap.objs.size (.tup xs),I1.laid (t':=s1.toks) (fun b u e=>Heap.get?_push_of_some _ e) (Nat.le_refl _) ?_,rfl,q _ hf⟩
 exact ⟨z,us,r,⟨_,Heap.get?_push_size _ rfl,rfl,_,rfl⟩⟩
theorem AV (h:PA X es t):PE X (.List es pos) (SC t):=by
 intro pins s σ H Q I hq
 refine wpAny_List_spliced (thn (h pos pins s σ H _ I hq) fun us s1 ⟨xs,H1,I1,r,z,q⟩=>⟨by rw [<- r.length];exact z,?_⟩)
 have hf:H1 s1.heap.objs.size=none:=I1.hok.fresh (Nat.le_refl _)
 refine ⟨.ref s1.heap.objs.size,upd H1 s1.heap.objs.size (.lst xs),I1.laid (t':=s1.toks) (fun b u e=>Heap.get?_push_of_some _ e) (Nat.le_refl _) ?_,rfl,q _ hf⟩
 exact ⟨z,us,0,r,Heap.get?_push_size _ rfl⟩
end
abbrev Sp:=List V->Hp->VK->XK->Prop
abbrev CXT:=List Env->Hp->Shared->XK->Value->Shared->Prop
structure LD (P:Program) (w:World) (K:PySem.W.Frag) (mg:Str->Option Value) (base:Heap) (A:Around) (outer:List Env) (s:Shared) (H:Hp):Prop where
 frames:A.frames=some outer
 mod:Mod K mg base
 bs:∀b o,base.get? b=some o->s.heap.get? b=some o/\H b=none
 bsz:base.objs.size<=s.heap.objs.size
 funs:s.heap.FunFrames base outer
 frf:∀b∈frs outer,H b=none
 hok:HOk P w H s.heap
 bare:AllBare s.gens
noncomputable def CE (outer:List Env) (P:Program) (w:World) (H:Hp) (s:Shared) (Q:VK) (u:Value) (s':Shared):Prop :=
 ∃v H',s'.os=s.os/\AllBare s'.gens/\Un (frs outer) [] H H' s.heap s'.heap/\HOk P w H' s'.heap/\Bg v u/\Q v H'
noncomputable def CR (CX:CXT) (outer:List Env) (P:Program) (w:World) (H:Hp) (s:Shared) (Q:VK) (E:XK) (r:Result) (s':Shared):Prop :=
 match r with
 | .ok (.ret u)=>CE outer P w H s Q u s'
 | .ok _=>False
 | .error e=>CX outer H s E e s'
structure Bd (P:Program) (w:World) (K:PySem.W.Frag) (mg:Str->Option Value) (base:Heap) (CX:CXT) (k:Nat) (f:Addr) (fd:FuncData) (ps:List Str) (sp:Sp):Prop where
 len:∀vs H Q E,sp vs H Q E->vs.length=ps.length
 run:∀(A:Around) (outer:List Env) (s:Shared) (H:Hp) (args:Args) (us:List Value) (vs:List V) (Q:VK) (E:XK),Cq k A->LD P w K mg base A outer s H->BindsTo s fd args (ps.zip us)->AX vs us->sp vs H Q E ->
  codeAny (model P w) A (.call (.ref f) args) (CR CX outer P w H s Q E) s
theorem LD.make {P:Program} {w:World} {K:PySem.W.Frag} {mg:Str->Option Value} {base:Heap} {A:Around} {outer:List Env} {s:Shared} {H:Hp} (e:LD P w K mg base A outer s H) (C:Addr) (us:List Value) (kw:List (Str × Value)) :
 LD P w K mg base (A.under (.builtin "type.__call__" ⟨.ref C :: us,kw⟩)) outer s H:=⟨by first | exact e.frames | (simpa [Around.under,Code.envs,Code.isFrame,pushEnvs] using e.frames),e.mod,e.bs,e.bsz,e.funs,e.frf,e.hok,e.bare⟩
section
variable {X:Cx} {pins:List (Addr × Obj)} {σ:St} {H:Hp} {s s':Shared}
theorem Inv.env0 (I:Inv X pins σ H s):LD X.prog X.w X.K X.mg X.base X.A X.stack s H :=
 ⟨I.ok.frames,I.ok.mod,I.bs,Nat.le_trans I.ok.bsz I.sz,I.stack,I.stkFree,I.hok,I.bare⟩
theorem Inv.after {Q:VK} {u:Value} (I:Inv X pins σ H s) (h:CE X.stack X.prog X.w H s Q u s'):EP X pins σ Q u s':=by
 obtain ⟨v,H',os,bare,un,hok,r,q⟩:=h
 obtain ⟨hh,g,d,t,os'⟩:=s'
 obtain rfl:os'=s.os:=os
 exact ⟨v,H',I.call (h':=hh) (g':=g) (d':=d) (t':=t) (ch:=[]) un hok bare (fun b z=>absurd z (by simp)),r,q⟩
end
noncomputable def S8 (sp:Sp) (dvs:List V) (E:XK) (t:TA):TE:=fun σ H Q=>t σ H fun vs H1=>sp (vs++dvs) H1 Q E
noncomputable def QI (C:Addr) (m:Str) (sp:Sp) (dvs:List V) (E:XK) (ta:TE) (t:TA):TE:=fun σ H Q=>ta σ H fun x H1=>∃a dx fs,x=.ref a/\H1 a=some (.ins C dx fs)/\fs.lookup m=none /\
 t σ H1 fun vs H2=>sp (x :: (vs++dvs)) H2 Q E
noncomputable def Sv (C:Addr) (sp:Sp) (dvs:List V) (E:XK) (t:TA):TE:=fun σ H Q=>t σ H fun vs H1=>∀x dx,H1 x=none->H1 dx=none->dx≠x ->
 sp (.ref x :: (vs++dvs)) (upd (upd H1 dx (.own x)) x (.ins C dx [])) (fun v H2=>v=.non/\Q (.ref x) H2) E
noncomputable def AU (K:PySem.W.Frag) (fd:FuncData) (ps:List Str) (ds:List Value):Prop :=
 ∀(s:Shared) (us:List Value),K.In s.heap->(us++ds).length=ps.length->BindsTo s fd ⟨us,[]⟩ (ps.zip (us++ds))
theorem AU.all {K:PySem.W.Frag} {fd:FuncData} {ps:List Str} (h:∀us:List Value,us.length=ps.length->bindArgs fd ⟨us,[]⟩=pure (ps.zip us)):AU K fd ps []:=fun s us _ hl=>by
 rw [append_nil] at hl ⊢
 exact .of_eq (h us hl)
noncomputable def EA (CX:CXT) (X:Cx) (E:XK):Prop:=∀(pins:List (Addr × Obj)) (σ:St) (H:Hp) (s:Shared) (e:Value) (s':Shared),Inv X pins σ H s->CX X.stack H s E e s'->X.xe e s'
section
variable {X:Cx} {CX:CXT} {k:Nat} {f C:Addr} {fd:FuncData} {ps:List Str} {sp:Sp} {dvs:List V} {ds:List Value} {E:XK} {x m:Str} {p pos apos:Pos} {e o:Expr} {es:List Expr} {ta:TE} {t:TA}
theorem M8 {pins:List (Addr × Obj)} {σ:St} {H:Hp} {s:Shared} {Q:VK} {us:List Value} {vs:List V} (F:Bd X.prog X.w X.K X.mg X.base CX k f fd ps sp) (hr:Cq k X.A) (hb:AU X.K fd ps ds) (hd:AX dvs ds) (hx:EA CX X E)
 (I:Inv X pins σ H s) (r:AX vs us) (h:sp (vs++dvs) H Q E):wpAny (model X.prog X.w) X.A (call (.ref f) us) (EP X pins σ Q) X.xe s:=by
 have r2:AX (vs++dvs) (us++ds):=r.append hd
 have hl:(us++ds).length=ps.length:=by rw [<- r2.length];exact F.len _ _ _ _ h
 refine wpAny_call (codeAny_mono (F.run X.A X.stack s H ⟨us,[]⟩ (us++ds) (vs++dvs) Q E hr I.env0 (hb s us I.kIn hl) r2 h) fun r s' hq=>?_)
 cases r with
 | error e=>exact hx pins σ H s e s' I hq
 | ok fl =>
   cases fl with
   | ret u=>exact I.after hq
   | next=>exact False.elim hq
   | brk=>exact False.elim hq
   | cont=>exact False.elim hq
theorem Aq (F:Bd X.prog X.w X.K X.mg X.base CX k f fd ps sp) (hr:Cq k X.A) (hg:Gl X x) (hm:X.mg x=some (.ref f)) (hk:PySem.W.keepIn X.K (.ref f)=true) (hb:AU X.K fd ps ds) (hd:AX dvs ds) (hx:EA CX X E)
 (ha:PA X (e :: es) t) (hdb:(x == ("__debug__":Str))=false:=by decide) (he:starEach (e :: es) X.env=(false,eval e X.env) :: starEach es X.env:=by rfl) (hpl:(backTo pos (starEach es X.env)).any (·.1)=false:=by rfl) :
 PE X (.Call (.Name x p) (e :: es) [] pos) (S8 sp dvs E t):=by
 intro pins s σ H Q I h
 refine wpAny_Call_Name_kw (DY I hg hm ?_ hdb)
 refine PySem.W.callWith_K (h₀:=X.base) I.ok.mod.kin hk (thn (ha pos pins s σ H _ I h) fun us s1 ⟨vs,H1,I1,r,q⟩=>⟨I1.kIn,?_⟩) he hpl
 exact M8 F hr hb hd hx I1 r q
theorem DW {pl:Sem Bool} (he:PE X o ta) (c:Cls X.K C) (hm:Ib X.K C m f) (F:Bd X.prog X.w X.K X.mg X.base CX k f fd ps sp) (hr:Cq k X.A) (hb:AU X.K fd ps ds) (hd:AX dvs ds) (hx:EA CX X E) (ha:PA X (e :: es) t)
 (hst:starEach (e :: es) X.env=(false,eval e X.env) :: starEach es X.env:=by rfl) (hpl:(backTo pos (starEach es X.env)).any (·.1)=false:=by rfl)
 (ht:eval (.Call (.Attribute o m apos) (e :: es) [] pos) X.env=(do
  let ov <- eval o X.env
  standAt apos.atName
  let (f,first) <- holding [ov] (getMethod ov m pl)
  callWith pos f first (backTo pos (starEach (e :: es) X.env)) (backToKw pos (keywordEach [] X.env))):=by rfl) :
 PE X (.Call (.Attribute o m apos) (e :: es) [] pos) (QI C m sp dvs E ta t):=by
 intro pins s σ H Q I h
 refine PySem.W.methodCall_KW (pl:=pl) (thn (he pins s σ H _ I h) fun u s1 ⟨x,H1,I1,rx,a,dx,fs,ex,ea,l,q⟩=>?_) ht
 subst ex
 obtain rfl:u=Value.ref a:=rx
 refine F6 I1 ea c hm l ?_
 refine PySem.W.callWith_K (first:=[.ref a]) (h₀:=X.base) I.ok.mod.kin hm.kp (thn (ha pos pins s1 σ H1 _ I1 q) fun us s2 ⟨vs,H2,I2,r,q2⟩=>⟨I2.kIn,?_⟩) hst hpl
 exact M8 (us:=.ref a :: us) (vs:=.ref a :: vs) F hr hb hd hx I2 (.cons rfl r) q2
theorem EG {pl:Sem Bool} (he:PE X o ta) (c:Cls X.K C) (hm:Ib X.K C m f) (F:Bd X.prog X.w X.K X.mg X.base CX k f fd ps sp) (hr:Cq k X.A) (hb:AU X.K fd ps ds) (hd:AX dvs ds) (hx:EA CX X E)
 (ht:eval (.Call (.Attribute o m apos) [] [] pos) X.env=(do
  let ov <- eval o X.env
  standAt apos.atName
  let (f,first) <- holding [ov] (getMethod ov m pl)
  callWith pos f first (backTo pos (starEach [] X.env)) (backToKw pos (keywordEach [] X.env))):=by rfl) :
 PE X (.Call (.Attribute o m apos) [] [] pos) (QI C m sp dvs E ta RP):=by
 intro pins s σ H Q I h
 refine PySem.W.methodCall_KW (pl:=pl) (thn (he pins s σ H _ I h) fun u s1 ⟨x,H1,I1,rx,a,dx,fs,ex,ea,l,q⟩=>?_) ht
 subst ex
 obtain rfl:u=Value.ref a:=rx
 refine F6 I1 ea c hm l ?_
 exact PySem.W.callWith_K0 (first:=[.ref a]) I1.kIn hm.kp (M8 (us:=[.ref a]) (vs:=[.ref a]) F hr hb hd hx I1 (.cons rfl .nil) q)
structure Mk (K:PySem.W.Frag) (C f:Addr):Prop where
 makes:PySem.W.makesIn K C=true
 init:PySem.W.findIn K (.ref C) "__init__"=some (some (.ref f))
 fn:PySem.W.isFn K (.ref f)=true
 kp:PySem.W.keepIn K (.ref C)=true
theorem OT {pins:List (Addr × Obj)} {σ:St} {H:Hp} {s:Shared} {Q:VK} {us:List Value} {vs:List V} (M:Mk X.K C f) (F:Bd X.prog X.w X.K X.mg X.base CX k f fd ps sp) (hr:Cq (k+1) X.A) (hb:AU X.K fd ps ds) (hd:AX dvs ds)
 (hx:EA CX X E) (I:Inv X pins σ H s) (r:AX vs us)
 (h:∀x dx,H x=none->H dx=none->dx≠x->sp (.ref x :: (vs++dvs)) (upd (upd H dx (.own x)) x (.ins C dx [])) (fun v H2=>v=.non/\Q (.ref x) H2) E) :
 wpAny (model X.prog X.w) X.A (call (.ref C) us) (EP X pins σ Q) X.xe s:=by
 have hq:=h (s.heap.objs.size+1) s.heap.objs.size (I.hok.fresh (Nat.le_succ _)) (I.hok.fresh (Nat.le_refl _)) (Nat.ne_of_lt (Nat.lt_succ_self _))
 have I2:=Inv.made (C:=C) I
 have r2:AX (V.ref (s.heap.objs.size+1) :: (vs++dvs)) (Value.ref (s.heap.objs.size+1) :: (us++ds)):=.cons rfl (r.append hd)
 have hl:(Value.ref (s.heap.objs.size+1) :: us++ds).length=ps.length:=by
  have e:=r2.length
  rw [F.len _ _ _ _ hq] at e
  exact e.symm
 refine wpAny_call (OZ (f:=f) I.kIn M.makes M.init (beq_iff_eq.mp M.fn) (codeAny_mono (F.run _ X.stack _ _ ⟨Value.ref (s.heap.objs.size+1) :: us,[]⟩ (Value.ref (s.heap.objs.size+1) :: (us++ds)) _ _ E (hr.make C us [])
  (I2.env0.make C us []) (hb _ (Value.ref (s.heap.objs.size+1) :: us) I2.kIn hl) r2 hq) fun r s' hq'=>?_))
 cases r with
 | error e=>exact hx pins σ _ _ e s' I2 hq'
 | ok fl =>
   cases fl with
   | ret u =>
     obtain ⟨v,H',I3,rv,ev,q3⟩:=I2.after hq'
     subst ev
     exact ⟨rv,⟨V.ref (s.heap.objs.size+1),H',I3,rfl,q3⟩⟩
   | next=>exact False.elim hq'
   | brk=>exact False.elim hq'
   | cont=>exact False.elim hq'
theorem Q5 (M:Mk X.K C f) (F:Bd X.prog X.w X.K X.mg X.base CX k f fd ps sp) (hr:Cq (k+1) X.A) (hg:Gl X x) (hm:X.mg x=some (.ref C)) (hb:AU X.K fd ps ds) (hd:AX dvs ds) (hx:EA CX X E)
 (ha:PA X (e :: es) t) (hdb:(x == ("__debug__":Str))=false:=by decide) (he:starEach (e :: es) X.env=(false,eval e X.env) :: starEach es X.env:=by rfl) (hpl:(backTo pos (starEach es X.env)).any (·.1)=false:=by rfl) :
 PE X (.Call (.Name x p) (e :: es) [] pos) (Sv C sp dvs E t):=by
 intro pins s σ H Q I h
 refine wpAny_Call_Name_kw (DY I hg hm ?_ hdb)
 refine PySem.W.callWith_K (h₀:=X.base) I.ok.mod.kin M.kp (thn (ha pos pins s σ H _ I h) fun us s1 ⟨vs,H1,I1,r,q⟩=>⟨I1.kIn,?_⟩) he hpl
 exact OT M F hr hb hd hx I1 r q
end
section
variable {X:Cx} {CX:CXT} {k:Nat} {f C:Addr} {fd:FuncData} {ps ks:List Str} {sp:Sp} {E:XK} {x m:Str} {p pos apos kpos:Pos} {e o:Expr} {es:List Expr} {kws:List Keyword} {te ta:TE} {t tk:TA} {nm:Option Str}
variable {g:List Value->List Value->List Value} {gV:List V->List V->List V}
end
structure AH (N P:List Str) (sc:Scope):Prop where
 kind:sc.kind=.function
 co:sc.isCoroutine=false
 gen:sc.isGenerator=false
 nd:N.Nodup
 pre:N.take P.length=P
 par:∀x∈P,sc.names.lookup x=some .local\/sc.names.lookup x=some .cell
 nofree:∀y∈sc.names,y.2≠.free
theorem Iu {kindOf:Str->Option NameKind} {x:Str}:∀{binds:List (Str × Value)} {m:Str->Option Value},(∀v,(x,v) ∉ binds)->bindL kindOf binds m x=m x
 | [],_,_=>rfl
 | (n,v) :: r,m,h=>by
   unfold bindL
   rw [Iu fun w hw=>h w (mem_cons_of_mem _ hw)]
   split
   ·have:x≠n:=by rintro rfl;exact h v mem_cons_self
    simp [this]
   ·rfl
theorem IL {kindOf:Str->Option NameKind} {x:Str}:∀{binds:List (Str × Value)} {m:Str->Option Value},(∀v,(x,v) ∉ binds)->bindC kindOf binds m x=m x
 | [],_,_=>rfl
 | (n,v) :: r,m,h=>by
   unfold bindC
   rw [IL fun w hw=>h w (mem_cons_of_mem _ hw)]
   split
   ·rfl
   ·have:x≠n:=by rintro rfl;exact h v mem_cons_self
    simp [this]
theorem IJ {kindOf:Str->Option NameKind} {x:Str} {v:Value}:∀{P:List Str} {vs:List Value} {i:Nat} {m:Str->Option Value},P.Nodup->P[i]?=some x->vs[i]?=some v->kindOf x=some .local ->
 bindL kindOf (P.zip vs) m x=some v
 | [],_,_,_,_,h,_,_=>by simp at h
 | _ :: _,[],_,_,_,_,h,_=>by simp at h
 | p :: P,w :: vs,0,m,nd,h1,h2,hk=>by
   simp at h1 h2;subst h1;subst h2
   show bindL kindOf ((p,w) :: P.zip vs) m p=_
   unfold bindL
   rw [Iu fun v hv=>(nodup_cons.mp nd).1 (of_mem_zip hv).1,if_pos hk]
   simp
 | p :: P,w :: vs,i+1,m,nd,h1,h2,hk=>by
   show bindL kindOf ((p,w) :: P.zip vs) m x=_
   unfold bindL
   exact IJ (i:=i) (nodup_cons.mp nd).2 (by simpa using h1) (by simpa using h2) hk
theorem IC {kindOf:Str->Option NameKind} {x:Str} {v:Value}:∀{P:List Str} {vs:List Value} {i:Nat} {m:Str->Option Value},P.Nodup->P[i]?=some x->vs[i]?=some v->kindOf x≠some .local ->
 bindC kindOf (P.zip vs) m x=some v
 | [],_,_,_,_,h,_,_=>by simp at h
 | _ :: _,[],_,_,_,_,h,_=>by simp at h
 | p :: P,w :: vs,0,m,nd,h1,h2,hk=>by
   simp at h1 h2;subst h1;subst h2
   show bindC kindOf ((p,w) :: P.zip vs) m p=_
   unfold bindC
   rw [IL fun v hv=>(nodup_cons.mp nd).1 (of_mem_zip hv).1,if_neg hk]
   simp
 | p :: P,w :: vs,i+1,m,nd,h1,h2,hk=>by
   show bindC kindOf ((p,w) :: P.zip vs) m x=_
   unfold bindC
   exact IC (i:=i) (nodup_cons.mp nd).2 (by simpa using h1) (by simpa using h2) hk
noncomputable def FG (N:List Str) (vs:List V):St:=vs.map some++List.replicate (N.length - vs.length) none
noncomputable def Ip (CX:CXT) (P:Program) (w:World) (K:PySem.W.Frag) (mg:Str->Option Value) (base:Heap) (N:List Str) (qual:Str) (scope:Scope) (f:Addr) (cd:Value) (A:Around) (outer:List Env) (s:Shared) (H:Hp) (E:XK):Cx where
 prog:=P
 w:=w
 K:=K
 mg:=mg
 base:=base
 A:=A.deeper (envOfC qual scope s.heap.objs.size f cd)
 N:=N
 s₀:=s
 H₀:=H
 env:=envOfC qual scope s.heap.objs.size f cd
 outer:=outer
 stack:=envOfC qual scope s.heap.objs.size f cd :: outer
 ex:=[]
 calm:=true
 fn:=fun _=>true
 pn:=[]
 xe:=fun e s'=>wpAny (model P w) (A.deeper (envOfC qual scope s.heap.objs.size f cd)) (leaving (envOfC qual scope s.heap.objs.size f cd) e) (fun _ s''=>CX outer H s E e s'') (fun e' s''=>CX outer H s E e' s'') s'
theorem Lb {sc:Scope} {n:Nat} {x:Str} (h:sc.names.lookup x=some .cell):∃c,(cellsFrom n sc.names []).lookup x=some c:=by
 have q:=PySem.W.cellsFrom_some sc.names n [] (.inl h)
 exact Option.isSome_iff_exists.mp q
theorem N4 {CX:CXT} {P:Program} {w:World} {K:PySem.W.Frag} {mg:Str->Option Value} {base:Heap} {N ps:List Str} {qual:Str} {scope:Scope} {f:Addr} {cd:Value} {A:Around} {outer:List Env} {s s1:Shared} {H:Hp} {E:XK} {us:List Value} {vs:List V}
 (S:AH N ps scope) (hd:A.handled=none) (e0:LD P w K mg base A outer s H) (hl:vs.length=ps.length) (r:AX vs us)
 (x:InCallC s s.heap.objs.size (bindL (envOfC qual scope s.heap.objs.size f cd).kindOf (ps.zip us) fun _=>none) (cellsFrom (s.heap.objs.size+1) scope.names []) (bindC (envOfC qual scope s.heap.objs.size f cd).kindOf (ps.zip us) fun _=>none) s1) :
 Inv (Ip CX P w K mg base N qual scope f cd A outer s H E) [] (FG N vs) H s1:=by
 have hpl:ps.length<=N.length:=by have:=congrArg List.length S.pre;rw [length_take] at this;omega
 obtain ⟨h1,tk,rfl,hk⟩:=x.done
 have noA:∀b:Addr,b ∉ (Ip CX P w K mg base N qual scope f cd A outer s H E).ex:=fun b z=>absurd (show b∈([]:List Addr) from z) (by simp)
 refine ⟨⟨e0.mod,S.kind,rfl,rfl,Nat.le_refl _,fun y z c h1 h2=>?_,fun y hy=>?_,fun y c _ h=>?_,fun _=>hd,Around.frames_deeper e0.frames,.inr ⟨rfl,rfl⟩,fun b z=>absurd z (noA b),e0.bs,e0.bsz,fun b _ _=>noA b,fun b z=>absurd z (noA b),e0.funs,e0.frf⟩,
  rfl,e0.bare,Un.kept hk,⟨_,x.toInCall.ns,fun i y v h1 h2 h3=>?_⟩,fun y c h=>⟨_,x.cell y c h⟩,e0.hok.fresh (Nat.le_refl _),fun y c h=>?_,fun p hp=>absurd (show p∈([]:List (Addr × Obj)) from hp) (by simp),e0.hok.kept hk,?_⟩
 ·exact name_of_addr x.apart (PySem.mem_of_lookup h1) (PySem.mem_of_lookup h2)
 ·have hy:scope.names.lookup y=some .cell\/scope.names.lookup y=some .free:=hy
  rcases hy with hy | hy
  ·exact Lb hy
  ·exact absurd rfl (S.nofree _ (PySem.mem_of_lookup hy))
 ·exact Nat.le_of_lt (x.above y c (PySem.mem_of_lookup h))
 ·have hi:i < vs.length:=by
   unfold FG at h2
   by_cases hi:i < vs.length
   ·exact hi
   ·rw [List.getElem?_append_right (by simpa using hi)] at h2
    rw [List.getElem?_replicate] at h2
    split at h2 <;> cases h2
  have ha:vs[i]?=some v:=by
   unfold FG at h2
   rw [List.getElem?_append_left (by simpa using hi),List.getElem?_map] at h2
   cases e:vs[i]? with
   | none=>rw [e] at h2;cases h2
   | some a=>rw [e] at h2;cases h2;rfl
  obtain ⟨u,hu,rv⟩:=r.get ha
  have hp:ps[i]?=some y:=by
   rw [<- S.pre,List.getElem?_take_of_lt (by omega)];exact h1
  have ndP:ps.Nodup:=by rw [<- S.pre];exact S.nd.sublist (take_sublist _ _)
  refine ⟨u,rv,?_⟩
  rcases S.par y (mem_of_getElem? hp) with k | k
  ·exact .inl ⟨k,IJ ndP hp hu k⟩
  ·obtain ⟨c,e⟩:=Lb (n:=s.heap.objs.size+1) k
   refine .inr ⟨.inl k,c,e,?_⟩
   have q:=x.cell y c e
   rw [IC ndP hp hu (by show scope.names.lookup y≠_;rw [k];decide)] at q
   exact q
 ·exact e0.hok.fresh (Nat.le_of_lt (x.above y c (PySem.mem_of_lookup h)))
 ·unfold FG
  show _=N.length
  rw [length_append,length_map,length_replicate]
  omega
theorem QJ {CX:CXT} {P:Program} {w:World} {K:PySem.W.Frag} {mg:Str->Option Value} {base:Heap} {k:Nat} {f:Addr} {name qual:Str} {params:Arguments} {body:List Stmt} {scope:Scope} {dV kV doc pm cdv ct oc:Value} {an od:Option Addr}
 {osl:Array (Option Value)} {N ps:List Str} {sp:Sp} (lk:K.lookup f=some ⟨oc,od,.func (PySem.W.fnOf name qual params body scope dV kV doc pm an cdv ct),osl⟩) (hcd:PySem.W.codeIn K cdv qual=true) (S:AH N ps scope)
 (len:∀vs H Q E,sp vs H Q E->vs.length=ps.length)
 (hbody:∀(A:Around) (outer:List Env) (s:Shared) (H:Hp) (vs:List V) (Q:VK) (E:XK),Cq k (A.deeper (envOfC qual scope s.heap.objs.size f cdv))->sp vs H Q E ->
  ∃t,PSs (Ip CX P w K mg base N qual scope f cdv A outer s H E) body t/\t { nx:=fun _ H'=>Q .non H',rt:=Q } (FG N vs) H) :
 Bd P w K mg base CX (k+1) f (PySem.W.fnOf name qual params body scope dV kV doc pm an cdv ct) ps sp:=by
 refine ⟨len,fun A outer s H args us vs Q E hr e0 hb r hsp=>?_⟩
 have hl:=len _ _ _ _ hsp
 have KX:K.In s.heap:=e0.mod.kin.keeps fun b o e=>(e0.bs b o e).1
 have lim:s.heap.NoLimit:=e0.mod.nolimit.keeps fun b o e=>(e0.bs b o e).1
 have hkind:∀y∈ps.zip us,scope.names.lookup y.1=some .local\/(scope.names.lookup y.1=some .cell/\((cellsFrom (s.heap.objs.size+1) scope.names []).lookup y.1).isSome=true):=fun ⟨n,v⟩ hy=>by
  rcases S.par n (of_mem_zip hy).1 with q | q
  ·exact .inl q
  ·exact .inr ⟨q,PySem.W.cellsFrom_some _ _ _ (.inl q)⟩
 refine codeAny_call_function hr.depth (KX _ _ lk) rfl S.co S.gen rfl (PySem.W.codeRec_of KX hcd) (hb _ _ _ _ ?_)
 refine wpAny_newFunctionEnv_cells S.kind hkind fun env he s1 x=>?_
 subst he
 refine ⟨lim.keeps x.toInCall.keep,codeAny_func ?_⟩
 obtain ⟨t,ht,hq⟩:=hbody A outer s H vs Q E (hr.deeper _) hsp
 have I:Inv (Ip CX P w K mg base N qual scope f cdv A outer s H E) [] (FG N vs) H s1:=N4 S hr.hd e0 hl r x
 refine wpAny_mono (ht [] s1 (FG N vs) H _ I hq) (fun fl s' hs=>?_) fun e s' hs=>hs
 have fin:∀{σ':St} {H':Hp} {v:V} {u:Value},Inv (Ip CX P w K mg base N qual scope f cdv A outer s H E) [] σ' H' s'->Bg v u->Q v H'->CE outer P w H s Q u s' :=
  fun {σ' H' v u} J rv q=>⟨v,H',J.os,J.bare,J.base,J.hok,rv,q⟩
 cases fl with
 | ret u =>
   obtain ⟨v,σ',H',J,rv,q⟩:=hs
   exact fin J rv q
 | next =>
   obtain ⟨σ',H',J,q⟩:=hs
   exact fin (v:=V.non) (u:=Value.none) J rfl q
 | brk =>
   obtain ⟨_,_,_,q⟩:=hs
   exact False.elim q
 | cont =>
   obtain ⟨_,_,_,q⟩:=hs
   exact False.elim q
end L2
namespace L2
open PySem PySem.Spec PyProof.Rows
section
variable {X:Cx} {x:Str} {p pos:Pos} {e:Expr} {es:List Expr} {t:TA} {id T:String} {r:List V->Hp->VK->Prop}
noncomputable def tCB (r:List V->Hp->VK->Prop) (t:TA):TE:=fun σ H Q=>t σ H fun vs H1=>r vs H1 Q
theorem A6 (hc:Dg X (.builtin id) r) (hg:Gl X x) (hm:X.mg x=none) (hv:bootBuiltins x=some (.builtin id)) (ha:PA X (e :: es) t) (hn:x≠"__name__":=by decide) (hdb:(x == ("__debug__":Str))=false:=by decide)
 (he:starEach (e :: es) X.env=(false,eval e X.env) :: starEach es X.env:=by rfl) (hpl:(backTo pos (starEach es X.env)).any (·.1)=false:=by rfl):PE X (.Call (.Name x p) (e :: es) [] pos) (tCB r t):=by
 intro pins s σ H Q I h
 refine wpAny_Call_Name_kw (CI I hg hm hv ?_ hn hdb)
 exact PyProof.Rows.callWith_builtin1 (thn (ha pos pins s σ H _ I h) fun us s1 ⟨vs,H1,I1,r1,q1⟩=>hc pins s1 σ H1 vs us Q I1 r1 q1) he hpl
theorem Ce (hc:Dg X (.type T) r) (hg:Gl X x) (hm:X.mg x=none) (hv:bootBuiltins x=some (.type T)) (ha:PA X (e :: es) t) (hn:x≠"__name__":=by decide) (hdb:(x == ("__debug__":Str))=false:=by decide)
 (he:starEach (e :: es) X.env=(false,eval e X.env) :: starEach es X.env:=by rfl) (hpl:(backTo pos (starEach es X.env)).any (·.1)=false:=by rfl):PE X (.Call (.Name x p) (e :: es) [] pos) (tCB r t):=by
 intro pins s σ H Q I h
 refine wpAny_Call_Name_kw (CI I hg hm hv ?_ hn hdb)
 exact PyProof.Rows.callWith_type1 (thn (ha pos pins s σ H _ I h) fun us s1 ⟨vs,H1,I1,r1,q1⟩=>hc pins s1 σ H1 vs us Q I1 r1 q1) he hpl
end
end L2
namespace HT
open PySem PyProof.Rows
noncomputable def lexLt:List Int->List Int->Bool
 | [],[]=>false
 | [],_ :: _=>true
 | _ :: _,[]=>false
 | x :: xs,y :: ys=>if x=y then lexLt xs ys else decide (x < y)
theorem lexLt_cons (x y:Int) (xs ys:List Int):lexLt (x :: xs) (y :: ys)=if x=y then lexLt xs ys else decide (x < y):=rfl
theorem Iq:lexLt [] []=false:=rfl
theorem GX (y:Int) (ys:List Int):lexLt [] (y :: ys)=true:=rfl
theorem Hy (x:Int) (xs:List Int):lexLt (x :: xs) []=false:=rfl
theorem OE (A:Around) (s:Shared) (a:Int) (t:Tok) (c:Int) (u:Tok):∃e,SeqAt.EqAt A s (.int a t) (.int c u) e/\(e=true↔a=c) :=
 ⟨(a == c),SeqAt.EqAt.int_int a t c u,by simp⟩
theorem P6 (A:Around) (s:Shared) (a:Int) (t:Tok) (c:Int) (u:Tok) (prog:Program) (w:World) (E:Value->Shared->Prop) (Q:Value->Shared->Prop) (h:Q (.bool (decide (a < c))) s) :
 wpAny (model prog w) A (richCompare .Lt (.int a t) (.int c u)) Q E s :=
 (PyProof.Rows.lt_int h:wpAny (model prog w) A (compareOp .Lt (.int a t) (.int c u)) Q E s)
section
open PySem.SeqAt
open PySem.AutoSeq1 (wpAny_loadPart')
open PySem.MeetsSeq PySem.MeetsSeq2 PySem.MeetsSeq3
theorem tuple_lt_ints (l b:Addr) (items items2:Array Value) (n n2:Nat) (dd dd2:Option Addr) (sl sl2:Array (Option Value)) (ns ms:List Int) (hi:IntsAre items.toList ns) (hj:IntsAre items2.toList ms) :
 Meets (Builtin.«tuple.__lt__» ⟨[.ref l,.ref b],[]⟩)
  (fun _ R s=>s.heap.get? l=some { cls:=.type "tuple",dict:=dd,data:=.seq items n,slots:=sl }/\s.heap.get? b=some { cls:=.type "tuple",dict:=dd2,data:=.seq items2 n2,slots:=sl2 } /\
   R (.ok (.ret (.bool (lexLt ns ms)))) s) :=
 .of_wp fun prog w A R s h=>by
  obtain ⟨hp,g,d,tk,os⟩:=s;obtain ⟨hl,hb,h⟩:=h
  have f2:=AutoSeq1.sub_tuple_tuple
  have z1:items.size=ns.length:=by rw [<- hi.length];simp
  have z2:items2.size=ms.length:=by rw [<- hj.length];simp
  wp_walk using wpAny_loadPart' hl,wpAny_loadPart' hb,wpAny_forIn_list _ (fun rest b s'=>b.1=none/\s'=⟨hp,g,d,tk,os⟩/\∃(vs ws:List Value) (ns' ms':List Int),rest=vs.zip ws /\
   IntsAre vs ns'/\IntsAre ws ms'/\ns'.length+items2.size=ms'.length+items.size/\R (.ok (.ret (.bool (lexLt ns' ms')))) ⟨hp,g,d,tk,os⟩) _
  case turn =>
   rintro ⟨y,x⟩ rest b s' ⟨hb',rfl,vs,ws,ns',ms',hz,hvi,hwi,hlen,hR⟩
   cases hvi with
   | nil=>rw [zip_nil_left] at hz;cases hz
   | cons a t hvi' =>
     cases hwi with
     | nil=>rw [zip_nil_right] at hz;cases hz
     | cons c u hwi' =>
       rw [zip_cons_cons] at hz
       injection hz with hyx hrest
       injection hyx with hy hx
       subst hy hx
       rw [lexLt_cons] at hR
       simp only [length_cons] at hlen
       obtain ⟨e,he,hiff⟩:=OE A.in1 ⟨hp,g,d,tk,os⟩ a t c u
       refine wpAny_bind (he prog w _ _ ?_)
       cases e with
       | true =>
         rw [if_pos (hiff.mp rfl)] at hR
         wp_walk
         exact ⟨rfl,rfl,_,_,_,_,hrest,hvi',hwi',by omega,hR⟩
       | false =>
         rw [if_neg (fun q=>absurd (hiff.mpr q) Bool.false_ne_true)] at hR
         have hri:=P6 A.in1 ⟨hp,g,d,tk,os⟩ a t c u prog w
         wp_walk using hri
         exact ⟨_,rfl,by simpa using hR⟩
  case fin =>
   rintro ⟨b1,b2⟩ s' ⟨hb',rfl,vs,ws,ns',ms',hz,hvi,hwi,hlen,hR⟩
   simp only at hb'
   subst hb'
   have hv:lexLt ns' ms'=decide (items.size < items2.size):=by
    cases hvi with
    | nil =>
      cases hwi with
      | nil =>
        simp only [length_nil] at hlen
        rw [Iq]
        exact (decide_eq_false (by omega)).symm
      | cons c u hw =>
        simp only [length_nil,length_cons] at hlen
        rw [GX]
        exact (decide_eq_true (by omega)).symm
    | cons a t hv =>
      cases hwi with
      | nil =>
        simp only [length_nil,length_cons] at hlen
        rw [Hy]
        exact (decide_eq_false (by omega)).symm
      | cons c u hw =>
        rw [zip_cons_cons] at hz
        cases hz
   rw [hv] at hR
   wp_walk
   exact ⟨_,rfl,by simpa [Builtin.Tuple.tupleCompareSizes] using hR⟩
  case h =>
   exact ⟨rfl,rfl,items.toList,items2.toList,ns,ms,rfl,hi,hj,by omega,h⟩
end
section
variable {prog:Program} {w:World} {A:Around} {E:Value->Shared->Prop} {s:Shared}
theorem lt_tupInts {l b:Addr} {items items2:Array Value} {ns ms:List Int} {Q:Value->Shared->Prop} (hl:IsTup s.heap l items) (hb:IsTup s.heap b items2) (hi:IntsAre items.toList ns) (hj:IntsAre items2.toList ms)
 (hu:A.units < cLine) (h:Q (.bool (lexLt ns ms)) s):wpAny (model prog w) A (compareOp .Lt (.ref l) (.ref b)) Q E s:=by
 obtain ⟨⟨cls,dd,data,sl⟩,ho,hc,n,hd⟩:=id hl
 obtain ⟨⟨cls2,dd2,data2,sl2⟩,ho2,hc2,n2,hd2⟩:=id hb
 simp only at hc hd hc2 hd2
 subst hc hd hc2 hd2
 exact richCompare_meets_room (op:=.Lt) ⟨_,ho,rfl⟩ ⟨_,ho2,rfl⟩ PySem.F.slot_tuple_lt PySem.F.entry_tuple_lt (PySem.F.args_tuple_lt_2 _ _) (tuple_lt_ints l b items items2 n n2 dd dd2 sl sl2 ns ms hi hj)
  ⟨ho,ho2,show Value.bool (lexLt ns ms)≠Value.notImplemented/\Q (.bool (lexLt ns ms)) s from ⟨(fun x=>nomatch x),h⟩⟩ hu
noncomputable def sIx (n d:Nat):Option Int->Nat
 | none=>d
 | some v=>if v < 0 then (v+(n:Int)).toNat else min v.toNat n
theorem sIx_none (n d:Nat):sIx n d none=d:=rfl
theorem sIx_nat (n d k:Nat):sIx n d (some (k:Int))=min k n:=by
 show (if (k:Int) < 0 then ((k:Int)+(n:Int)).toNat else min (k:Int).toNat n)=min k n
 rw [if_neg (by omega),Int.toNat_natCast]
end
end HT
namespace L2
open PySem PySem.Spec PyProof.Rows
abbrev TO:=St->Hp->(Option Int->Hp->Prop)->Prop
noncomputable def PO (X:Cx) (e:Option Expr) (t:TO):Prop :=
 ∀(pins:List (Addr × Obj)) (s:Shared) (σ:St) (H:Hp) (Q:Option Int->Hp->Prop),Inv X pins σ H s->t σ H Q ->
  wpAny (model X.prog X.w) X.A (evalPart e X.env) (fun u s'=>∃o H',Inv X pins σ H' s'/\IsPart u o/\Q o H') X.xe s
noncomputable def Qc:TO:=fun _ H Q=>Q none H
noncomputable def RS (t:TE):TO:=fun σ H Q=>t σ H fun x H1=>∃i,x=.int i/\Q (some i) H1
theorem BW {ns:List Int}:∀{us:List Value},AX (ns.map V.int) us->IntsAre us ns:=by
 induction ns with
 | nil=>intro us r;rw [map_nil] at r;cases r;exact .nil
 | cons n ns ih =>
   intro us r
   rw [map_cons] at r
   cases r with
   | cons r1 r2 =>
     obtain ⟨t,e⟩:=r1
     subst e
     exact .cons n t (ih r2)
section
variable {X:Cx} {e:Expr} {te:TE} {lo hi:Option Expr} {tl th:TO} {pos p2:Pos}
theorem C3:PO X none Qc:=by
 intro pins s σ H Q I h
 rw [evalPart_none]
 exact wpAny_pure ⟨none,H,I,.none,h⟩
theorem Cy (h:PE X e te):PO X (some e) (RS te):=by
 intro pins s σ H Q I hw
 rw [evalPart_some]
 refine thn (h pins s σ H _ I hw) fun u s1 ⟨x,H1,I1,r1,q1⟩=>?_
 obtain ⟨i,rfl,q⟩:=q1
 obtain ⟨t,rfl⟩:=r1
 exact ⟨some i,H1,I1,.int i t,q⟩
noncomputable def SlR (X:Cx) (r:V->Option Int->Option Int->Hp->VK->Prop):Prop :=
 ∀(pins:List (Addr × Obj)) (s:Shared) (σ:St) (H:Hp) (x:V) (v vl vu:Value) (lo hi:Option Int) (sl:Addr) (Q:VK),Inv X pins σ H s->Bg x v->s.heap.IsSliceOf sl vl vu .none->IsPart vl lo->IsPart vu hi->r x lo hi H Q ->
  ∃T id,typeLookup (.type T) "__getitem__"=pure (some (.builtin id))/\s.TypeIs v T/\wpAny (model X.prog X.w) X.A (getItem v (.ref sl)) (EP X pins σ Q) X.xe s
noncomputable def tSl (r:V->Option Int->Option Int->Hp->VK->Prop) (te:TE) (tl th:TO):TE:=fun σ H Q=>te σ H fun x H1=>tl σ H1 fun l H2=>th σ H2 fun u H3=>r x l u H3 Q
theorem Ca {r:V->Option Int->Option Int->Hp->VK->Prop} (hr:SlR X r) (he:PE X e te) (hl:PO X lo tl) (hu:PO X hi th):PE X (.Subscript e (.Slice lo hi none p2) pos) (tSl r te tl th):=by
 intro pins s σ H Q I h
 refine Subscript_ (thn (he pins s σ H _ I h) fun v s1 ⟨x,H1,I1,r1,q1⟩=>?_)
 refine wpAny_Slice (thn (hl pins s1 σ H1 _ I1 q1) fun vl s2 ⟨l,H2,I2,pl,q2⟩=>thn (hu pins s2 σ H2 _ I2 q2) fun vu s3 ⟨u,H3,I3,pu,q3⟩=>?_)
 rw [evalPart_none]
 refine wpAny_pure ?_
 have I4:Inv X pins σ H3 { s3 with heap:=s3.heap.push { cls:=.type "slice",data:=.fields #[vl,vu,.none] } }:=I3.kept (t':=s3.toks) fun b ob q=>Heap.get?_push_of_some _ q
 obtain ⟨T,id,hT,ht,hg⟩:=hr pins { s3 with heap:=s3.heap.push { cls:=.type "slice",data:=.fields #[vl,vu,.none] } } σ H3 x v vl vu l u s3.heap.objs.size Q I4 r1 (Heap.IsSliceOf.new ..) pl pu q3
 show wpAny (model X.prog X.w) X.A (subscriptTail e (.Slice lo hi none p2) v (.ref s3.heap.objs.size)) (EP X pins σ Q) X.xe { s3 with heap:=s3.heap.push { cls:=.type "slice",data:=.fields #[vl,vu,.none] } }
 exact tail_any (ops:=[.ref s3.heap.objs.size,v]) ht hT hg (by with_unfolding_all rfl)
noncomputable def Ik (xs:List V) (lo hi:Option Int):List V:=(xs.drop (HT.sIx xs.length 0 lo)).take (HT.sIx xs.length xs.length hi - HT.sIx xs.length 0 lo)
theorem Lc (xs:List V) (lo hi:Option Int):(Ik xs lo hi).length<=xs.length:=by
 unfold Ik
 rw [length_take,length_drop]
 omega
end
end L2
namespace L2
open PySem PySem.Spec PyProof.Rows
noncomputable def ixN (n:Nat) (i:Int):Option Nat:=if 0<=i then (if i < n then some i.toNat else none) else if -(n:Int)<=i then some (i+n).toNat else none
noncomputable def atI {α:Type} (xs:List α) (i:Int):Option α:=(ixN xs.length i).bind fun j=>xs[j]?
theorem MX {n:Nat} {i:Int} {j:Nat} (h:ixN n i=some j):seqIndex? i n=some j/\j < n/\-(n:Int)<=i/\i < n:=by
 unfold ixN at h
 by_cases h0:0<=i
 ·rw [if_pos h0] at h
  by_cases h1:i < n
  ·rw [if_pos h1] at h
   have e:i.toNat=j:=Option.some.inj h
   exact ⟨by rw [seqIndex_of h0 h1,e],by omega,by omega,h1⟩
  ·rw [if_neg h1] at h;cases h
 ·rw [if_neg h0] at h
  by_cases h1:-(n:Int)<=i
  ·rw [if_pos h1] at h
   have e:(i+n).toNat=j:=Option.some.inj h
   exact ⟨by rw [seqIndex_neg (by omega) h1,e],by omega,h1,by omega⟩
  ·rw [if_neg h1] at h;cases h
theorem Nj {α:Type} {xs:List α} {i:Int} {v:α} (h:atI xs i=some v):∃j,seqIndex? i xs.length=some j/\xs[j]?=some v/\j < xs.length/\-(xs.length:Int)<=i/\i < xs.length:=by
 unfold atI at h
 cases e:ixN xs.length i with
 | none=>rw [e] at h;cases h
 | some j =>
   rw [e] at h
   obtain ⟨h1,h2,h3,h4⟩:=MX e
   exact ⟨j,h1,h,h2,h3,h4⟩
theorem BE {α:Type} {xs:List α} {j:Nat} {v:α} (h:xs[j]?=some v):atI xs (j:Int)=some v:=by
 have hj:j < xs.length:=(List.getElem?_eq_some_iff.mp h).1
 have e:ixN xs.length (j:Int)=some j:=by
  unfold ixN
  rw [if_pos (by omega),if_pos (by omega)];simp
 unfold atI;rw [e];exact h
noncomputable def Qh (b:Expr):Prop:=∀o i,subscripted b false o i=operate [o,i] (getItem o i)
noncomputable def IxR (X:Cx) (r:R2):Prop :=
 ∀(value slice:Expr) (pins:List (Addr × Obj)) (s:Shared) (σ:St) (H:Hp) (x y:V) (v u:Value) (Q:VK),Inv X pins σ H s->Bg x v->Bg y u->r x y H Q ->
  subscripted slice false v u=operate [v,u] (getItem v u)->wpAny (model X.prog X.w) X.A (subscriptTail value slice v u) (EP X pins σ Q) X.xe s
noncomputable def MtR (X:Cx) (id:String) (r:V->List V->Hp->VK->Prop):Prop :=
 ∀(pins:List (Addr × Obj)) (s:Shared) (σ:St) (H:Hp) (x:V) (xs:List V) (v:Value) (us:List Value) (Q:VK),Inv X pins σ H s->Bg x v->AX xs us->r x xs H Q ->
  wpAny (model X.prog X.w) X.A (call (.builtin id) (v :: us)) (EP X pins σ Q) X.xe s
section
variable {X:Cx} {a b:Expr} {ta tb:TE} {pos:Pos}
theorem AN {r:R2} (hr:IxR X r) (ha:PE X a ta) (hb:PE X b tb) (hs:Qh b):PE X (.Subscript a b pos) (tOp r ta tb):=by
 intro pins s σ H Q I h
 exact Subscript_ (Rs ha hb I h fun v u s2 x y H2 I2 rx ry q=>hr a b pins s2 σ H2 x y v u Q I2 rx ry q (hs _ _))
noncomputable def RX (K:PySem.W.Frag):R2:=fun x y H Q=>∃p xs i v,x=.ref p/\y=.int i/\SqL K H p xs/\atI xs i=some v/\Q v H
noncomputable def S0 (K:PySem.W.Frag):R2:=fun x y H Q=>∃p xs i v,x=.ref p/\y=.int i/\SqT K H p xs/\atI xs i=some v/\Q v H
theorem AI:IxR X (RX X.K):=by
 intro value slice pins s σ H x y v u Q I rx ry h hs
 obtain ⟨p,xs,i,z,rfl,rfl,hq,he,q⟩:=h
 cases rx
 obtain ⟨t,rfl⟩:=ry
 obtain ⟨its,r,pl,hz⟩:=I.list hq
 obtain ⟨j,h1,h2,h3,h4,h5⟩:=Nj he
 obtain ⟨w,ew,rw'⟩:=r.get h2
 have hl:=r.length
 have hn:=JA
 have fin:EP X pins σ Q w s:=⟨z,H,I,rw',q⟩
 by_cases h0:0<=i
 ·have hj:i.toNat=j:=by
   rw [seqIndex_of h0 h5] at h1
   exact Option.some.inj h1
  exact item_listR pl.isList h0 (by omega) (by rw [hj];simpa using ew) fin hs
 ·have hj:(i+(its.toArray.size:Int)).toNat=j:=by
   rw [seqIndex_neg (by omega) h4] at h1
   rw [size_toArray,<- hl]
   exact Option.some.inj h1
  exact subscriptTail_builtinR (x:=w) pl.isList.typeIs slot_list_getitem.lookup
   (wpAny_getItem_list_neg (Q:=fun r s'=>r=w/\EP X pins σ Q r s') pl.isList (by omega) (by rw [size_toArray] <;> omega) (by omega) (by rw [hj];simpa using ew) ⟨rfl,fin⟩) hs
theorem B8:IxR X (S0 X.K):=by
 intro value slice pins s σ H x y v u Q I rx ry h hs
 obtain ⟨p,xs,i,z,rfl,rfl,hq,he,q⟩:=h
 cases rx
 obtain ⟨t,rfl⟩:=ry
 obtain ⟨its,r,pl,hz⟩:=I.tuple hq
 obtain ⟨j,h1,h2,h3,h4,h5⟩:=Nj he
 obtain ⟨w,ew,rw'⟩:=r.get h2
 have hl:=r.length
 have hn:=JA
 have fin:EP X pins σ Q w s:=⟨z,H,I,rw',q⟩
 exact subscriptTail_builtinR (x:=w) pl.typeIs slot_tuple_getitem.lookup
  (getItem_tuple (j:=j) (Q:=fun r s'=>r=w/\EP X pins σ Q r s') pl (by omega) (by omega) (by rw [size_toArray,<- hl];exact h1) (by simpa using ew) ⟨rfl,fin⟩) hs
theorem LB (its:List Value) (n j:Nat) (u:Value):Obj.mapSeq (·.setIfInBounds j u) { cls:=.type "list",data:=.seq its.toArray n }={ cls:=.type "list",data:=.seq (its.set j u).toArray n }:=by
 simp [Obj.mapSeq]
theorem Inv.lst {pins:List (Addr × Obj)} {σ:St} {H:Hp} {s:Shared} {p:Addr} {xs:List V} (I:Inv X pins σ H s) (h:H p=some (.lst xs)) :
 ∃(its:List Value) (n:Nat),AX xs its/\s.heap.get? p=some { cls:=.type "list",data:=.seq its.toArray n }/\xs.length<=sizeLine:=by
 obtain ⟨z,its,n,r,e⟩:=I.hok p _ h
 exact ⟨its,n,r,e,z⟩
theorem Inv.lstUpd {pins:List (Addr × Obj)} {σ:St} {H:Hp} {s:Shared} {p:Addr} {xs ys:List V} {its its':List Value} {n n':Nat} {f:Obj->Obj} (I:Inv X pins σ H s) (h:H p=some (.lst xs))
 (ho:s.heap.get? p=some { cls:=.type "list",data:=.seq its.toArray n }) (hf:f { cls:=.type "list",data:=.seq its.toArray n }={ cls:=.type "list",data:=.seq its'.toArray n' }) (r:AX ys its') (hz:ys.length<=sizeLine) (t:Nat) :
 Inv X pins σ (upd H p (.lst ys)) { s with heap:=s.heap.update p f,toks:=t }:=by
 have e:(s.heap.update p f).get? p=some { cls:=.type "list",data:=.seq its'.toArray n' }:=by
  rw [Heap.get?_update_self f ho (by rw [hf] <;> rfl),hf]
 refine I.write (x:=p) (e:=p) (by rw [h];trivial) (.inl rfl) (fun b u hb q=>(Heap.get?_update_other _ _ (Ne.symm hb)).trans q) ⟨_,e⟩ ?_
 exact ⟨hz,its',n',r,e⟩
noncomputable def RZ:V->V->V->Hp->(Hp->Prop)->Prop:=fun o i v H Q=>∃p xs k j,o=.ref p/\i=.int k/\H p=some (.lst xs)/\ixN xs.length k=some j/\Q (upd H p (.lst (xs.set j v)))
theorem Cm:SA X RZ:=by
 intro pins s σ H o i v ov iv u Q I ro ri rv h
 obtain ⟨p,xs,k,j,rfl,rfl,hp,hj,q⟩:=h
 cases ro
 obtain ⟨t,rfl⟩:=ri
 obtain ⟨its,n,r,ho,hz⟩:=I.lst hp
 obtain ⟨h1,h2,h3,h4⟩:=MX hj
 have hl:=r.length
 have hn:=JA
 have I':Inv X pins σ (upd H p (.lst (xs.set j v))) { s with heap:=s.heap.update p (Obj.mapSeq (·.setIfInBounds j u)) } :=
  I.lstUpd hp ho (LB its n j u) (r.set rv j) (by rw [length_set];exact hz) s.toks
 by_cases h0:0<=k
 ·have hk:k.toNat=j:=by
   rw [seqIndex_of h0 h4] at h1
   exact Option.some.inj h1
  exact PySem.W.ki_setAt ho h0 (by omega) (by rw [size_toArray,<- hl];exact h4) (by rw [hk];exact ⟨_,I',q⟩)
 ·have hk:(k+(its.toArray.size:Int)).toNat=j:=by
   rw [seqIndex_neg (by omega) h3] at h1
   rw [size_toArray,<- hl]
   exact Option.some.inj h1
  exact PySem.W.ki_setBack ho (by omega) (by rw [size_toArray,<- hl];exact h3) (by omega) (by rw [hk];exact ⟨_,I',q⟩)
theorem JD (lo hi:Option Int) (n:Nat):(sliceBounds lo hi none n).1=((HT.sIx n 0 lo:Nat):Int)/\(sliceBounds lo hi none n).2.1=((HT.sIx n n hi:Nat):Int)/\(sliceBounds lo hi none n).2.2=1:=by
 refine ⟨?_,?_,rfl⟩
 ·cases lo with
  | none=>simp [sliceBounds,HT.sIx]
  | some i =>
    simp only [sliceBounds,HT.sIx,Option.getD_none,show (1:Int) > 0 by decide,if_true]
    by_cases h:i < 0
    ·simp only [h,if_true] <;> omega
    ·simp only [h,if_false] <;> omega
 ·cases hi with
  | none=>simp [sliceBounds,HT.sIx]
  | some i =>
    simp only [sliceBounds,HT.sIx,Option.getD_none,show (1:Int) > 0 by decide,if_true]
    by_cases h:i < 0
    ·simp only [h,if_true] <;> omega
    ·simp only [h,if_false] <;> omega
theorem Il (its:List Value) (lo hi:Option Int):slicePick its.toArray lo hi none=((its.drop (HT.sIx its.length 0 lo)).take (HT.sIx its.length its.length hi - HT.sIx its.length 0 lo)).toArray:=by
 obtain ⟨h1,h2,h3⟩:=JD lo hi its.toArray.size
 unfold slicePick
 rw [h1,h2,h3]
 simp only [sliceRange_one,pick_run,size_toArray] <;> rfl
noncomputable def SH (K:PySem.W.Frag):V->Option Int->Option Int->Hp->VK->Prop:=fun x lo hi H Q=>∃a xs,x=.ref a/\SqL K H a xs/\∀p,H p=none->Q (.ref p) (upd H p (.lst (Ik xs lo hi)))
theorem Cw:SlR X (SH X.K):=by
 intro pins s σ H x v vl vu lo hi sl Q I rx hs pl pu h
 obtain ⟨a,xs,rfl,hx,q⟩:=h
 cases rx
 obtain ⟨its,r,ht,hz⟩:=I.list hx
 have hlen:=r.length
 refine ⟨"list",_,slot_list_getitem.lookup,ht.isList.typeIs,?_⟩
 refine wpAny_getItem_list_slice ht.isList hs pl pu .none (by simp) ?_ (by rw [size_toArray] <;> omega)
 rw [Il,<- hlen]
 refine ⟨.ref s.heap.objs.size,_,I.laid (t':=s.toks) (o:=.lst (Ik xs lo hi)) (fun b ob q=>Heap.get?_push_of_some _ q) (Nat.le_refl _) ?_,rfl,q _ (I.hok.fresh (Nat.le_refl _))⟩
 exact ⟨Nat.le_trans (Lc xs lo hi) hz,_,0,(r.drop (HT.sIx xs.length 0 lo)).take (HT.sIx xs.length xs.length hi - HT.sIx xs.length 0 lo),Heap.get?_push_size _ rfl⟩
theorem AG:Dg X (.builtin "len") (fun xs H Q=>∃p ys,xs=[.ref p]/\(SqL X.K H p ys\/SqT X.K H p ys)/\Q (.int ys.length) H):=by
 intro pins s σ H xs us Q I r h
 obtain ⟨p,ys,rfl,hq,q⟩:=h
 obtain ⟨u,rfl,rx⟩:=FF r
 cases rx
 have hn:=JA
 rcases hq with hq | hq
 ·obtain ⟨its,r',pl,hz⟩:=I.list hq
  have hlen:=r'.length
  exact Calls.call_len_list pl.isList (by simp only [size_toArray] <;> omega) ⟨.int ys.length,H,I.tok _,⟨s.toks+1,by rw [size_toArray,hlen]⟩,q⟩
 ·obtain ⟨its,r',pl,hz⟩:=I.tuple hq
  have hlen:=r'.length
  exact len_tuple pl (by simp only [size_toArray] <;> omega) ⟨.int ys.length,H,I.tok _,⟨s.toks+1,by rw [size_toArray,hlen]⟩,q⟩
theorem BK:Dg X (.type "list") (fun xs H Q=>∃p ys,xs=[.ref p]/\(SqL X.K H p ys\/SqT X.K H p ys)/\∀l,H l=none->Q (.ref l) (upd H l (.lst ys))):=by
 intro pins s σ H xs us Q I r h
 obtain ⟨p,ys,rfl,hq,q⟩:=h
 obtain ⟨u,rfl,rx⟩:=FF r
 cases rx
 have fin:∀(its:List Value),AX ys its->ys.length<=sizeLine->∀(h':Heap) (c':Nat),(∀b o',s.heap.get? b=some o'->h'.get? b=some o') ->
  h'.get? s.heap.objs.size=some { cls:=.type "list",dict:=none,data:=.seq its.toArray c',slots:=#[] }->EP X pins σ Q (.ref s.heap.objs.size) { s with heap:=h' }:=fun its r' hz h' c' kp e =>
  ⟨.ref s.heap.objs.size,_,I.laid (t':=s.toks) kp (Nat.le_refl _) (show Bk X.prog X.w _ h' _ (.lst ys) from ⟨hz,its,c',r',e⟩),rfl,q _ (I.hok.fresh (Nat.le_refl _))⟩
 rcases hq with hq | hq
 ·obtain ⟨its,r',pl,hz⟩:=I.list hq
  have hlen:=r'.length
  obtain ⟨o,ho,hc,n,hd⟩:=pl.isList
  exact call_list_seq p (.inl rfl) ho hc hd (fun h' c' kp e=>fin its r' hz h' c' kp e) (by simp only [size_toArray] <;> omega)
 ·obtain ⟨its,r',pl,hz⟩:=I.tuple hq
  have hlen:=r'.length
  obtain ⟨o,ho,hc,n,hd⟩:=pl
  exact call_list_seq p (.inr rfl) ho hc hd (fun h' c' kp e=>fin its r' hz h' c' kp e) (by simp only [size_toArray] <;> omega)
theorem Fl:Dg X (.type "tuple") (fun xs H Q=>∃p ys,xs=[.ref p]/\((SqL X.K H p ys/\∀l,H l=none->Q (.ref l) (upd H l (.tup ys)))\/(SqT X.K H p ys/\Q (.ref p) H))):=by
 intro pins s σ H xs us Q I r h
 obtain ⟨p,ys,rfl,h⟩:=h
 obtain ⟨u,rfl,rx⟩:=FF r
 cases rx
 rcases h with ⟨hq,q⟩ | ⟨hq,q⟩
 ·obtain ⟨its,r',pl,hz⟩:=I.list hq
  have hlen:=r'.length
  refine call_tuple_list pl.isList (fun h' kp=>?_) (by simp only [size_toArray] <;> omega)
  have I1:Inv X pins σ H { s with heap:=h' }:=I.kept (t':=s.toks) kp
  have I2:Inv X pins σ (upd H h'.objs.size (.tup ys)) { s with heap:=h'.push { cls:=.type "tuple",data:=.seq its.toArray } } :=
   I1.laid (t':=s.toks) (fun b o e=>Heap.get?_push_of_some _ e) (Nat.le_refl _) (show Bk X.prog X.w _ _ _ (.tup ys) from ⟨hz,its,r',IsTup.new _ _⟩)
  exact ⟨.ref h'.objs.size,_,I2,rfl,q _ (I1.hok.fresh (Nat.le_refl _))⟩
 ·obtain ⟨its,r',pl,hz⟩:=I.tuple hq
  exact call_tuple_same pl ⟨.ref p,H,I,rfl,q⟩
noncomputable def tyV (K:PySem.W.Frag) (T:String) (x:V) (H:Hp):Prop:=match x with
 | .str _=>T="str"
 | .int _=>T="int"
 | .ref p=>(T="list"/\∃xs,SqL K H p xs)\/(T="tuple"/\∃o,K.lookup p=some o/\o.cls=.type "tuple"/\o.dict=none) \/
  (T="dict"/\((∃kvs,H p=some (.dK kvs))\/∃kvs,H p=some (.dT kvs)))\/(T="set"/\∃S n,H p=some (.set S n))
 | _=>False
theorem O4 {pins:List (Addr × Obj)} {σ:St} {H:Hp} {s:Shared} {T:String} {x:V} {v:Value} (I:Inv X pins σ H s) (r:Bg x v) (ty:tyV X.K T x H) :
 s.TypeIs v T/\∀a,v=.ref a->∃ob,s.heap.get? a=some ob/\ob.dict=none:=by
 cases x with
 | str z =>
   obtain ⟨t,rfl⟩:=r
   cases (show T="str" from ty)
   exact ⟨typeIs_str s z t,fun _ e=>nomatch e⟩
 | int i =>
   obtain ⟨t,rfl⟩:=r
   cases (show T="int" from ty)
   exact ⟨typeIs_int s i t,fun _ e=>nomatch e⟩
 | ref p =>
   cases r
   rcases ty with ⟨rfl,xs,hq⟩ | ⟨rfl,o,hk,hc,hd⟩ | ⟨rfl,hk⟩ | ⟨rfl,S,n,hk⟩
   ·obtain ⟨its,_,pl,_⟩:=I.list hq
    refine ⟨pl.isList.typeIs,fun a e=>?_⟩
    cases e
    obtain ⟨o,n,e,c,hd,_⟩:=pl
    exact ⟨o,e,hd⟩
   ·refine ⟨⟨o,I.kIn p o hk,hc⟩,fun a e=>?_⟩
    cases e
    exact ⟨o,I.kIn _ o hk,hd⟩
   ·have z:∃o,s.heap.get? p=some o/\o.ExactDict:=by
     rcases hk with ⟨kvs,hk⟩ | ⟨kvs,hk⟩
     ·obtain ⟨_,_,_,_,o,_,_,e,ex,_⟩:=I.hok p _ hk
      exact ⟨o,e,ex⟩
     ·obtain ⟨_,_,_,_,o,_,_,e,ex,_⟩:=I.hok p _ hk
      exact ⟨o,e,ex⟩
    obtain ⟨o,e,ex⟩:=z
    refine ⟨⟨o,e,ex.1⟩,fun a e2=>?_⟩
    cases e2
    exact ⟨o,e,ex.2.1⟩
   ·obtain ⟨o,_,_,_,e,ex,_⟩:=I.hok p _ hk
    refine ⟨⟨o,e,ex.1⟩,fun a e2=>?_⟩
    cases e2
    exact ⟨o,e,ex.2.1⟩
 | _=>exact False.elim ty
noncomputable def SM (K:PySem.W.Frag) (T:String) (r:V->List V->Hp->VK->Prop) (to:TE):TE:=fun σ H Q=>to σ H fun x H1=>tyV K T x H1/\r x [] H1 Q
noncomputable def tBM (K:PySem.W.Frag) (T:String) (r:V->List V->Hp->VK->Prop) (to:TE) (t:TA):TE:=fun σ H Q=>to σ H fun x H1=>tyV K T x H1/\t σ H1 fun xs H2=>r x xs H2 Q
variable {o e:Expr} {es:List Expr} {to:TE} {t:TA} {name:Str} {apos cpos:Pos} {T id:String} {r:V->List V->Hp->VK->Prop}
theorem Pz (pa:PlainAttrs T) (slot:Slot T name id) (hty:typeOf (.builtin id)=pure (.type "method_descriptor")) (hm:MtR X id r) (ho:PE X o to)
 (hbase:attributeBase o name X.env (eval o X.env)=eval o X.env:=by rfl) (hline:(apos.endLine == cpos.line)=true:=by rfl):PE X (.Call (.Attribute o name apos) [] [] cpos) (SM X.K T r to):=by
 intro pins s σ H Q I h
 refine wpAny_Call_method0_late hbase hline (thn (ho pins s σ H _ I h) fun v s1 ⟨x,H1,I1,r1,ty,q1⟩=>?_)
 obtain ⟨h1,h2⟩:=O4 I1 r1 ty
 exact ⟨T,id,pa,slot,hty,h1,h2,Calls.callWith_builtin rfl (PySem.evalArgs_none (hm pins s1 σ H1 x [] v [] Q I1 r1 .nil q1))⟩
theorem DR (pa:PlainAttrs T) (slot:Slot T name id) (hty:typeOf (.builtin id)=pure (.type "method_descriptor")) (hm:MtR X id r) (ho:PE X o to) (ha:PA X (e :: es) t)
 (hbase:attributeBase o name X.env (eval o X.env)=eval o X.env:=by rfl)
 (hfew:((backTo cpos (starEach (e :: es) X.env)).all (fun x=>!x.1) && (backToKw cpos (keywordEach [] X.env)).all (fun x=>x.1.isSome)
  && decide ((e :: es).length+([]:List Keyword).length+(if ([]:List Keyword).isEmpty then 0 else 1) < 30))=true:=by rfl)
 (hline:(apos.endLine == cpos.line)=true:=by rfl) (hs:starEach (e :: es) X.env=(false,eval e X.env) :: starEach es X.env:=by rfl) (hplain:(backTo cpos (starEach es X.env)).any (·.1)=false:=by rfl) :
 PE X (.Call (.Attribute o name apos) (e :: es) [] cpos) (tBM X.K T r to t):=by
 intro pins s σ H Q I h
 refine wpAny_Call_method_late hbase hfew hline rfl (thn (ho pins s σ H _ I h) fun v s1 ⟨x,H1,I1,r1,ty,q1⟩=>?_)
 obtain ⟨h1,h2⟩:=O4 I1 r1 ty
 refine ⟨T,id,pa,slot,hty,h1,h2,?_⟩
 have hA:=ha cpos pins s1 σ H1 _ I1 q1
 rw [hs] at hA ⊢
 refine Calls.callWith_builtin (by show (false || (backTo cpos (starEach es X.env)).any (·.1))=false;rw [hplain] <;> rfl) (Calls.evalArgs_plain ?_)
 exact thn hA fun us s2 ⟨vs,H2,I2,r2,q2⟩=>hm pins s2 σ H2 x vs v us Q I2 r1 r2 q2
end
end L2
namespace L2
open PySem PySem.Spec PyProof.Rows
noncomputable def MtM (X:Cx) (id:String) (r:V->List V->Hp->VK->Prop):Prop :=
 ∀(pins:List (Addr × Obj)) (s:Shared) (σ:St) (H:Hp) (x:V) (xs:List V) (v:Value) (us:List Value) (Q:VK),Inv X pins σ H s->Bg x v->AX xs us->r x xs H Q ->
  wpAny (model X.prog X.w) X.A (call (.builtin id) (v :: us)) (EP X pins σ Q) X.xe s
theorem AX.one:∀{x:V} {us:List Value},AX [x] us->∃u,us=[u]/\Bg x u
 | _,_,.cons r .nil=>⟨_,rfl,r⟩
theorem AX.zero:∀{us:List Value},AX [] us->us=[]
 | _,.nil=>rfl
theorem AX.reverse {xs:List V} {us:List Value} (h:AX xs us):AX xs.reverse us.reverse:=by
 induction h with
 | nil=>exact .nil
 | cons r t ih=>rw [reverse_cons,reverse_cons];exact AX.append ih (.cons r .nil)
theorem AX.rep {xs:List V} {us:List Value} (h:AX xs us):∀k:Nat,AX (List.replicate k xs).flatten (List.replicate k us).flatten
 | 0=>.nil
 | k+1=>by
   rw [replicate_succ,replicate_succ,flatten_cons,flatten_cons]
   exact AX.append h (AX.rep h k)
theorem Ja (its:List Value):∀(k:Nat) (acc:List Value),
 List.foldl (fun x1 x2=>x1++x2) acc.toArray (List.replicate k its.toArray)=(acc++(List.replicate k its).flatten).toArray
 | 0,acc=>by simp
 | k+1,acc=>by
   have e:acc.toArray++its.toArray=(acc++its).toArray:=by simp
   have e2:(acc++its)++(List.replicate k its).flatten=acc++(List.replicate (k+1) its).flatten:=by
    rw [replicate_succ,flatten_cons,append_assoc]
   rw [<- e2,<- Ja its k (acc++its),<- e,replicate_succ,foldl_cons]
section
variable {X:Cx} {pins:List (Addr × Obj)} {σ:St} {H:Hp} {s:Shared} {l b:Addr} {xs ys zs:List V}
theorem Inv.lset {its its':List Value} {n:Nat} {f:Array Value->Array Value} {t':Nat} (I:Inv X pins σ H s) (hH:H l=some (.lst xs))
 (e:s.heap.get? l=some { cls:=.type "list",data:=.seq its.toArray n }) (hf:f its.toArray=its'.toArray) (hv:AX ys its') (hz:ys.length<=sizeLine) :
 Inv X pins σ (upd H l (.lst ys)) { s with heap:=s.heap.update l (Obj.mapSeq f),toks:=t' }:=by
 have q:=PySem.IsL.update e f
 rw [hf] at q
 refine I.write (x:=l) (e:=l) (by rw [hH];exact trivial) (.inl rfl) (fun b' u hb hu=>(Heap.get?_update_other s.heap (Obj.mapSeq f) (Ne.symm hb)).trans hu) ⟨_,q⟩ ?_
 exact ⟨hz,its',_,hv,q⟩
theorem Inv.lnew {its:List Value} {t':Nat} (I:Inv X pins σ H s) (hv:AX ys its) (hz:ys.length<=sizeLine) :
 Inv X pins σ (upd H s.heap.objs.size (.lst ys)) { s with heap:=s.heap.push { cls:=.type "list",data:=.seq its.toArray },toks:=t' } :=
 I.laid (fun _ _ q=>Heap.get?_push_of_some _ q) (Nat.le_refl _) ⟨hz,its,0,hv,Heap.get?_push_size _ rfl⟩
theorem Inv.fresh (I:Inv X pins σ H s):H s.heap.objs.size=none:=I.hok.fresh (Nat.le_refl _)
theorem Inv.lstM (I:Inv X pins σ H s) (hH:H l=some (.lst xs)):xs.length<=sizeLine/\∃(its:List Value) (n:Nat),AX xs its/\xs.length=its.length/\s.heap.get? l=some { cls:=.type "list",data:=.seq its.toArray n }:=by
 obtain ⟨z,its,n,r,e⟩:=I.hok l _ hH
 exact ⟨z,its,n,r,r.length,e⟩
theorem JO {n:Nat} (h:n<=sizeLine):Builtin.List.listTooLong n=false:=by
 unfold Builtin.List.listTooLong
 exact decide_eq_false (by omega)
end
section
variable {X:Cx}
noncomputable def Qx:V->List V->Hp->VK->Prop:=fun x vs H Q=>∃l xs y,x=.ref l/\vs=[y]/\H l=some (.lst xs)/\xs.length < sizeLine/\Q .non (upd H l (.lst (xs++[y])))
theorem BR:MtM X "list.append" Qx:=by
 intro pins s σ H x vs v us Q I rx rv h
 obtain ⟨l,xs,y,rfl,rfl,hH,hz,q⟩:=h
 cases rx
 obtain ⟨u,rfl,ru⟩:=rv.one
 obtain ⟨z,its,n,r,hl,e⟩:=I.lstM hH
 refine call_meets F.slot_list_append ⟨_,e,rfl⟩ F.entry_list_append (F.args_list_append_2 _ _) (PySem.list_append l its.toArray n u (by rw [size_toArray];omega)) ⟨e,?_⟩
 refine ⟨.non,_,I.lset (its':=its++[u]) hH e (by simp) (r.append (.cons ru .nil)) ?_,rfl,q⟩
 rw [length_append,length_singleton]
 omega
noncomputable def Q8:V->List V->Hp->VK->Prop:=fun x vs H Q=>∃l b xs zs,x=.ref l/\vs=[.ref b]/\H l=some (.lst xs)/\H b=some (.lst zs)/\xs.length+zs.length<=sizeLine/\Q .non (upd H l (.lst (xs++zs)))
theorem NX:MtM X "list.extend" Q8:=by
 intro pins s σ H x vs v us Q I rx rv h
 obtain ⟨l,b,xs,zs,rfl,rfl,hH,hB,hz,q⟩:=h
 cases rx
 obtain ⟨u,rfl,ru⟩:=rv.one
 cases ru
 obtain ⟨z,its,n,r,hl,e⟩:=I.lstM hH
 obtain ⟨z2,its2,n2,r2,hl2,e2⟩:=I.lstM hB
 have hsz:its.toArray.size+its2.toArray.size<=sizeLine:=by rw [size_toArray,size_toArray];omega
 have hlong:¬ (!its.toArray.isEmpty && Builtin.List.listTooLong (its.toArray.size+its2.toArray.size))=true:=by
  rw [JO hsz,Bool.and_false]
  exact Bool.false_ne_true
 refine call_meets F.slot_list_extend ⟨_,e,rfl⟩ F.entry_list_extend (F.args_list_extend_2 _ _)
  (AutoSeq1.list_extend_list_list_0 l its.toArray n b its2.toArray n2 hlong (by rw [size_toArray];omega) (by omega)) ⟨e,e2,?_⟩
 refine ⟨.non,_,I.lset (its':=its++its2) hH e (by simp) (r.append r2) ?_,rfl,q⟩
 rw [length_append]
 omega
noncomputable def R7:V->List V->Hp->VK->Prop:=fun x vs H Q=>∃l xs,x=.ref l/\vs=[]/\H l=some (.lst xs)/\Q .non (upd H l (.lst []))
theorem Pi:MtM X "list.clear" R7:=by
 intro pins s σ H x vs v us Q I rx rv h
 obtain ⟨l,xs,rfl,rfl,hH,q⟩:=h
 cases rx
 have hus:=rv.zero
 subst hus
 obtain ⟨z,its,n,r,hl,e⟩:=I.lstM hH
 refine call_meets F.slot_list_clear ⟨_,e,rfl⟩ F.entry_list_clear (F.args_list_clear_1 _) (AutoSeq1.list_clear_list_0 l its.toArray n (by rw [size_toArray];omega)) ⟨e,?_⟩
 exact ⟨.non,_,I.lset (its':=[]) (ys:=[]) hH e rfl .nil (Nat.zero_le _),rfl,q⟩
noncomputable def SE:R2:=fun x y H Q=>∃l b xs zs,x=.ref l/\y=.ref b/\H l=some (.lst xs)/\H b=some (.lst zs)/\xs.length+zs.length<=sizeLine/\∀p,H p=none->Q (.ref p) (upd H p (.lst (xs++zs)))
theorem Cj:OpR X (binaryOp .Add) SE:=by
 intro pins s σ H x y v u Q I rx ry h
 obtain ⟨l,b,xs,zs,rfl,rfl,hH,hB,hz,q⟩:=h
 cases rx
 cases ry
 obtain ⟨z,its,n,r,hl,e⟩:=I.lstM hH
 obtain ⟨z2,its2,n2,r2,hl2,e2⟩:=I.lstM hB
 refine PySem.P.add_list e e2 ?_ (by rw [size_toArray,size_toArray];omega)
 have ea:its.toArray++its2.toArray=(its++its2).toArray:=by simp
 rw [ea]
 exact ⟨.ref _,_,I.lnew (t':=s.toks) (r.append r2) (by rw [length_append];omega),rfl,q _ I.fresh⟩
noncomputable def SZ:R2:=fun x y H Q=>∃l k xs,x=.ref l/\y=.int k/\H l=some (.lst xs)/\-(2 ^ 63)<=k/\k < 2 ^ 63/\xs.length*k.toNat<=sizeLine /\
 ∀p,H p=none->Q (.ref p) (upd H p (.lst (List.replicate k.toNat xs).flatten))
theorem Qr {α:Type} (xs:List α) (k:Nat):(List.replicate k xs).flatten.length=k*xs.length:=by
 induction k with
 | zero=>simp
 | succ k ih=>rw [replicate_succ,flatten_cons,length_append,ih,Nat.succ_mul,Nat.add_comm]
theorem QS:OpR X (binaryOp .Mult) SZ:=by
 intro pins s σ H x y v u Q I rx ry h
 obtain ⟨l,k,xs,rfl,rfl,hH,h1,h2,hz,q⟩:=h
 cases rx
 obtain ⟨t,rfl⟩:=ry
 obtain ⟨z,its,n,r,hl,e⟩:=I.lstM hH
 have hlen:its.toArray.size*k.toNat<=sizeLine:=by rw [size_toArray,<- hl];exact hz
 have hcap:¬ its.toArray.size*k.toNat > (2 ^ 63 - 1) / 8:=by
  have:(sizeLine:Nat)<=(2 ^ 63 - 1) / 8:=by decide
  omega
 have hfit:¬ (!Builtin.List.listFitsIndex k)=true:=by
  rw [fitsIndex_both h1 h2]
  exact Bool.false_ne_true
 have hlong:¬ Builtin.List.listTooLong (its.toArray.size*k.toNat)=true:=by
  rw [JO hlen]
  exact Bool.false_ne_true
 have hnew:List.foldl (fun x1 x2=>x1++x2) #[] (List.replicate (if its.toArray.isEmpty=true then 0 else k.toNat) its.toArray)=(List.replicate k.toNat its).flatten.toArray:=by
  have f0:∀m:Nat,List.foldl (fun x1 x2=>x1++x2) #[] (List.replicate m its.toArray)=(List.replicate m its).flatten.toArray:=fun m=>by
   have:=Ja its m []
   rw [nil_append] at this
   exact this
  rw [f0]
  cases its with
  | nil=>simp
  | cons a r'=>rw [if_neg (by simp)]
 refine wpAny_binaryOp_repeat_ref (T:="list") (U:="int") (by decide) ⟨_,e,rfl⟩ (fun s'=>typeIs_int s' k t) noFill_list_mul F.fills_int_mul F.slot_int_rmul repeat_list F.slot_int_index.lookup
  (call_meets F.slot_int_rmul (typeIs_int s k t) F.entry_int_rmul (F.args_int_rmul_2 _ _) (int___rmul___int_list k t l its.toArray n)
   ⟨e,rfl,⟨_,e,rfl⟩,call_meets F.slot_list_mul ⟨_,e,rfl⟩ F.entry_list_mul (F.args_list_mul_2 _ _) (AutoListH.list___mul___list_int_3 l its.toArray n k t hfit hcap hlong) ⟨e,?_⟩⟩)
 rw [hnew]
 exact ⟨.ref _,_,I.lnew (t':=s.toks) (r.rep k.toNat) (by rw [Qr,Nat.mul_comm];exact hz),rfl,q _ I.fresh⟩
end
section
variable {prog:Program} {w:World} {A:Around} {E:Value->Shared->Prop} {s:Shared}
set_option maxRecDepth 100000 in
end
section
variable {X:Cx}
end
end L2
namespace Att
open PySem PySem.W PySem.Calls PyProof.Rows
theorem G4 {P:Params} {h:Heap}:∀(ns:List Int) (vs:List Value),WellAll P h vs (ns.map WData.int)->IntsAre vs ns:=by
 intro ns
 induction ns with
 | nil =>
   intro vs w
   rw [map_nil] at w
   cases w
   exact .nil
 | cons n ns ih =>
   intro vs w
   rw [map_cons] at w
   cases w with
   | cons a b =>
     cases a
     exact .cons _ _ (ih _ b)
theorem NR {l:OpenLaw} {n:Nat} (hn:l.most=some n) {P:Params} {h:Heap} {args:List WData} {vals:List Value}
 (hpre:l.row.toRowW.claim.pre args=true) (hwl:WellAll P h vals args) :
 ∃a vs ns,vals=[Value.ref a]/\args=[WData.list (ns.map WData.int)]/\h.get? a=some { cls:=.type "list",data:=.seq vs.toArray }/\IntsAre vs ns/\ns.length<=n:=by
 have hsh:WShape.hasAll [] args [.list .int]=true:=(pre_splitW hpre).1
 have hc:l.pre.holds [] { args:=args }=true:=(pre_splitW hpre).2
 obtain ⟨d,r,rfl,h1,h2⟩:=hasAllW_cons hsh
 obtain rfl:=hasAllW_nil h2
 obtain ⟨xs,rfl,h3⟩:=hasW_list h1
 obtain ⟨ns,rfl⟩:=items_int h3
 have hlen:ns.length<=n:=by
  unfold OpenLaw.pre at hc
  have h4:(WTm.not (.lt (.lit (.int (n:Int))) (.len (.arg 0)))).holds [] { args:=[.list (ns.map .int)] }=true:=by
   have h4:=(holds_andW hc).1
   rw [hn] at h4
   exact h4
  have h5:=condW_of h4 (w_not (w_lt w_lit (w_len_list (w_arg rfl))))
  rw [length_map] at h5
  refine Nat.le_of_not_lt fun q=>?_
  have q':(n:Int) < ((ns.length:Nat):Int):=by omega
  first
   | (rw [decide_eq_true q'] at h5;exact absurd h5 (by decide))
   | (simp at h5;omega)
 cases hwl with
 | cons w1 w2 =>
   cases w2
   cases w1 with
   | list ho hall=>exact ⟨_,_,ns,rfl,rfl,ho,G4 ns _ hall,hlen⟩
theorem NP (l:OpenLaw) (args:List WData):l.row.toRowW.claim.post args (.bool true) args=true :=
 postW_of (r:=l.row.toRowW) (X:=(true == true))
  (show WShape.has [] (.bool true) .bool=true by first | rfl | decide | simp [WShape.has,WShape.arms,WShape.armsAll])
  (show (WTm.eq .res (.lit (.bool true))).value [] { args:=args,res:=some (.bool true),after:=args }=some (.bool (true == true)) from w_eq_bool (w_res rfl) w_lit) rfl
theorem attach_call {l:OpenLaw} {n:Nat} {q:Program} {loose:List Str} {XP:(Str->Option Value)->Heap->Prop} {YP:World->Heap->Prop} {d:DefRec}
 (hn:l.most=some n) (hdf:d.params.defaults=[])
 (call:∀(w:World) (s₀ s₁:Shared) (mg mb:Str->Option Value) (fa:Addr) (o:Obj) (pm cd doc:Value) (a:Addr) (vs:List Value) (ns:List Int),
  Ground q loose [] XP w s₀ mg mb s₁.heap->YP w s₁.heap ->
  s₁.heap.get? fa=some o->o.data=.func (docDef d.name d.params d.body d.scope pm cd doc)->s₁.heap.CodeRec cd d.name->mg d.name=some (.ref fa) ->
  s₁.heap.get? a=some { cls:=.type "list",data:=.seq vs.toArray }->IntsAre vs ns->ns.length<=n->s₁.gens=#[] ->
  codeAny (model l.prog w) callerA (.call (.ref fa) ⟨[.ref a],[]⟩) (fun r s'=>r=.ok (.ret (.bool true))/\OldK s₁.heap s'.heap/\s'.os=s₁.os/\AllBare s'.gens) s₁) :
 WalkO q loose XP YP l.row.toRowW d [] (fun f vs=>PySem.call f vs):=by
 intro w s₀ s₁ mg mb G Y fa o pm cd doc dV kV ho hd hcd hD hmg hg args vals as hpre hlay hrd hwl hlo
 obtain rfl:dV=.none:=Dflts.none hD hdf
 obtain rfl:kV=.none:=Dflts.noKw hD
 obtain ⟨a,vs,ns,rfl,rfl,hobj,hints,hlen⟩:=NR hn hpre hwl
 refine enter_call (codeAny_mono (call w s₀ s₁ mg mb fa o pm cd doc a vs ns G Y ho (fd_plain hd) hcd hmg hobj hints hlen hg) fun r s' hq=>?_)
 obtain ⟨rfl,h2,h3,h4⟩:=hq
 exact ⟨.inl ⟨.bool true,.bool true,[],rfl,fun _=>rfl,.bool true,NP l _,fun _=>⟨List.Pairwise.nil,fun _ hm=>(nomatch hm)⟩⟩,h2,h3,h4⟩
section
variable {prog:Program} {w:World} {A:Around} {E:Value->Shared->Prop} {s:Shared} {K:Frag}
end
end Att
namespace L2
open PySem PySem.Spec PyProof.Rows
theorem FZ:∀{vs:List Value} {ns:List Int},IntsAre vs ns->AX (ns.map V.int) vs
 | _,_,.nil=>.nil
 | _,_,.cons n t h=>.cons ⟨t,rfl⟩ (FZ h)
noncomputable def QT (H:Hp):Prop:=∀b,H b=none\/∃o xs,H b=some (.frz o (.lst xs))
theorem OO {P:Program} {w:World} {K:PySem.W.Frag} {mg mb:Str->Option Value} {CX:CXT} {k:Nat} {fa a:Addr} {fd:FuncData} {x:Str} {sp:Sp} {s₁:Shared} {vs:List Value} {ns:List Int}
 (KX:K.In s₁.heap) (hns:s₁.heap.Ns mainGlobals mg) (hb:s₁.heap.Ns builtinsNs mb) (hbb:∀x:Str,x≠"__name__"->mb x=bootBuiltins x) (hlim:s₁.heap.NoLimit) (hg:s₁.gens=#[])
 (ha:s₁.heap.get? a=some { cls:=.type "list",data:=.seq vs.toArray }) (hi:IntsAre vs ns) (hl:ns.length<=sizeLine) (hr:Cq k callerA)
 (F:∀base:Heap,K.In base->base.Ns mainGlobals mg->Bd P w K mg base CX k fa fd [x] sp) (hbind:∀(s:Shared) (u:Value),BindsTo s fd ⟨[u],[]⟩ [(x,u)])
 (hsp:∀H:Hp,QT H->SqL K H a (ns.map V.int)->sp [.ref a] H (fun v _=>v=.bl true) fun _ _ _=>False)
 (hCX:∀H e s',CX [] H s₁ (fun _ _ _=>False) e s'->False) :
 codeAny (model P w) callerA (.call (.ref fa) ⟨[.ref a],[]⟩) (fun r s'=>r=.ok (.ret (.bool true))/\OldK s₁.heap s'.heap/\s'.os=s₁.os/\AllBare s'.gens) s₁:=by
 have rv:=FZ hi
 have lenV:=hi.length
 have core:∀H:Hp,QT H->SqL K H a (ns.map V.int)->HOk P w H s₁.heap->(∀b,H b≠none->b=a)->(H a≠none->K.lookup a=none) ->
  codeAny (model P w) callerA (.call (.ref fa) ⟨[.ref a],[]⟩) (fun r s'=>r=.ok (.ret (.bool true))/\OldK s₁.heap s'.heap/\s'.os=s₁.os/\AllBare s'.gens) s₁:=by
  intro H hO hS hok hA hK
  have base_of:∀{b:Addr} {o:Obj},s₁.heap.get? b=some o->H b=none->(Jj s₁.heap H).get? b=some o:=fun e n=>P8 e n
  have noA:∀{b:Addr} {o:Obj} {es:Array DictEntry} {ep:Nat},s₁.heap.get? b=some o->o.data=.dict es ep->H b=none:=fun {b o es ep} e d=>by
   cases q:H b with
   | none=>rfl
   | some u =>
     have e':b=a:=hA b (by rw [q];simp)
     subst e'
     rw [ha] at e;cases e
     have d':Data.seq vs.toArray _=Data.dict es ep:=d
     cases d'
  have nsK:∀{b:Addr} {m:Str->Option Value},s₁.heap.Ns b m->(Jj s₁.heap H).Ns b m:=fun {b m} ⟨o,es,ep,e,d,r⟩=>⟨o,es,ep,base_of e (noA e d),d,r⟩
  have hKb:K.In (Jj s₁.heap H):=fun b o e=>base_of (KX b o e) (by
   cases q:H b with
   | none=>rfl
   | some u =>
     have e':b=a:=hA b (by rw [q];simp)
     subst e'
     rw [hK (by rw [q];simp)] at e;cases e)
  have hM:Mod K mg (Jj s₁.heap H):=⟨hKb,nsK hns,⟨mb,nsK hb,hbb⟩,let ⟨mc,h1,h2⟩:=hlim;⟨mc,nsK h1,h2⟩⟩
  have e0:LD P w K mg (Jj s₁.heap H) callerA [] s₁ H:=⟨rfl,hM,fun b o e=>Qy e,Nat.le_of_eq (NL _ _),trivial,fun b hb=>absurd (show b∈([]:List Addr) from hb) (by simp),hok,.of_eq hg⟩
  refine codeAny_mono ((F _ hKb (nsK hns)).run callerA [] s₁ H ⟨[.ref a],[]⟩ [.ref a] [.ref a] _ _ hr e0 (hbind s₁ (.ref a)) (.cons rfl .nil) (hsp H hO hS)) fun r s' h=>?_
  cases r with
  | error e=>exact (hCX H e s' h).elim
  | ok fl =>
    cases fl with
    | next=>exact False.elim h
    | brk=>exact False.elim h
    | cont=>exact False.elim h
    | ret u =>
      obtain ⟨v,H',os,bare,un,hok',r',q⟩:=h
      have q':v=.bl true:=q
      subst q'
      obtain rfl:u=Value.bool true:=r'
      refine ⟨rfl,OldK.of_keep fun b o e=>?_,os,bare⟩
      cases q:H b with
      | none=>exact un.keep b o e q (by intro z;exact absurd (show b∈([]:List Addr) from z) (by simp)) (by simp)
      | some u =>
        rcases hO b with z | ⟨ob,xs,z⟩
        ·rw [q] at z;cases z
        ·have z2:=un.frzs b ob _ z
         obtain ⟨e1,_⟩:=hok b _ z
         obtain ⟨e2,_⟩:=hok' b _ z2
         rw [e] at e1;cases e1
         exact e2
 cases hk:K.lookup a with
 | some o =>
   have e:=KX a o hk
   rw [ha] at e
   cases e
   refine core (fun _=>none) (fun _=>.inl rfl) (.inr ⟨_,vs.toArray,_,hk,rfl,rfl,rfl,by rw [size_toArray,lenV];exact hl,by simpa using rv⟩) (fun b u z=>by have z':(none:Option HO)=some u:=z;cases z') (fun b z=>absurd rfl z) fun z=>absurd rfl z
 | none =>
   refine core (fun b=>if b=a then some (.frz { cls:=.type "list",data:=.seq vs.toArray } (.lst (ns.map V.int))) else none) (fun b=>?_) (.inl (.inr ⟨{ cls:=.type "list",data:=.seq vs.toArray },if_pos rfl⟩)) (fun b u z=>?_) (fun b z=>?_) fun _=>hk
   ·by_cases hb:b=a
    ·exact .inr ⟨_,_,if_pos hb⟩
    ·exact .inl (if_neg hb)
   ·by_cases hb:b=a
    ·have z':=(if_pos hb).symm.trans z
     cases z'
     subst hb
     exact ⟨ha,by rw [length_map];exact hl,vs,_,rv,ha⟩
    ·have z':=(if_neg hb).symm.trans z
     cases z'
   ·by_cases hb:b=a
    ·exact hb
    ·exact absurd (if_neg hb) z
end L2
namespace L2
open PySem PySem.Spec PyProof.Rows
theorem walk_of {l:PySem.W.OpenLaw} {n k:Nat} {q:Program} {loose:List Str} {XP:(Str->Option Value)->Heap->Prop} {YP:World->Heap->Prop} {d:DefRec} {K:Params->PySem.W.Frag} {CX:World->CXT} {sp:World->Sp} {x:Str}
 (hn:l.most=some n) (hn2:n<=sizeLine) (hdf:d.params.defaults=[]) (hr:Cq k callerA)
 (hY:∀(w:World) (h:Heap),YP w h->(K w.params).In h)
 (F:∀(w:World) (mg:Str->Option Value) (fa:Addr) (h:Heap),(K w.params).In h->h.Ns mainGlobals mg->mg d.name=some (.ref fa) ->
  ∃fd:FuncData,(∀(s:Shared) (u:Value),BindsTo s fd ⟨[u],[]⟩ [(x,u)]) /\
   ∀base:Heap,(K w.params).In base->base.Ns mainGlobals mg->Bd l.prog w (K w.params) mg base (CX w) k fa fd [x] (sp w))
 (hsp:∀(w:World) (H:Hp) (a:Addr) (ns:List Int),ns.length<=n->QT H->SqL (K w.params) H a (ns.map V.int)->sp w [.ref a] H (fun v _=>v=.bl true) fun _ _ _=>False)
 (hCX:∀(w:World) (H:Hp) (s:Shared) (e:Value) (s':Shared),CX w [] H s (fun _ _ _=>False) e s'->False) :
 PySem.W.WalkO q loose XP YP l.row.toRowW d [] (fun f vs=>PySem.call f vs):=by
 refine Att.attach_call hn hdf fun w s₀ s₁ mg mb fa o pm cd doc a vs ns G Y ho hd hcd hmg hobj hints hlen hg=>?_
 have KX:=hY w _ Y
 obtain ⟨fd,hb,hF⟩:=F w mg fa _ KX G.T.g hmg
 exact OO KX G.T.g G.T.b G.T.builtins G.T.nolimit hg hobj hints (Nat.le_trans hlen hn2) hr hF hb (fun H hO hS=>hsp w H a ns hlen hO hS) fun H e s'=>hCX w H s₁ e s'
end L2
namespace L2
open PySem PySem.Spec PyProof.Rows
def CT (s:Stmt) (j:Nat):Stmt:=match s with
 | .ClassDef _ _ _ body _ _ _ _ _ _ _=>body.getD j (.Pass ⟨0,0,0,0⟩)
 | _=>.Pass ⟨0,0,0,0⟩
noncomputable def Jx (s:Stmt):Arguments:=match s with
 | .FunctionDef _ a _ _ _ _ _ _ _ _=>a
 | _=>{ posonlyargs:=[],args:=[],vararg:=none,kwonlyargs:=[],kw_defaults:=[],kwarg:=none,defaults:=[] }
noncomputable def FP (s:Stmt):List Stmt:=match s with
 | .FunctionDef _ _ b _ _ _ _ _ _ _=>b
 | _=>[]
noncomputable def Am (s:Stmt):Scope:=match s with
 | .FunctionDef _ _ _ _ _ _ sc _ _ _=>sc
 | _=>{ kind:=.function,names:=[],isGenerator:=false,isCoroutine:=false }
abbrev CX0:CXT:=fun _ _ _ _ _ _=>False
abbrev E0:XK:=fun _ _ _=>False
theorem AF {X:Cx}:EA CX0 X E0:=fun _ _ _ _ _ _ _ h=>h.elim
structure Fun (K:PySem.W.Frag) (x qual:Str) (st:Stmt) (f:Addr) (fd:FuncData):Prop where
 ex:∃(oc:Value) (od:Option Addr) (kV doc pm:Value) (an:Option Addr) (cdv ct:Value) (osl:Array (Option Value)),
  fd=PySem.W.fnOf x qual (Jx st) (FP st) (Am st) .none kV doc pm an cdv ct/\K.lookup f=some ⟨oc,od,.func fd,osl⟩/\PySem.W.codeIn K cdv qual=true
 kp:PySem.W.keepIn K (.ref f)=true
section
variable {P:Program} {w:World} {K:PySem.W.Frag} {mg:Str->Option Value} {base:Heap}
theorem Fun.ok {x qual:Str} {st:Stmt} {f:Addr} {fd:FuncData} {N ps:List Str} {k:Nat} {sp:Sp} (F:Fun K x qual st f fd) (S:AH N ps (Am st)) (len:∀vs H Q E,sp vs H Q E->vs.length=ps.length)
 (hbody:∀(cdv:Value) (A:Around) (outer:List Env) (s:Shared) (H:Hp) (vs:List V) (Q:VK) (E:XK),Cq k (A.deeper (envOfC qual (Am st) s.heap.objs.size f cdv))->sp vs H Q E ->
  ∃t,PSs (Ip CX0 P w K mg base N qual (Am st) f cdv A outer s H E).nox (FP st) t/\t { nx:=fun _ H'=>Q .non H',rt:=Q } (FG N vs) H):Bd P w K mg base CX0 (k+1) f fd ps sp:=by
 obtain ⟨oc,od,kV,doc,pm,an,cdv,ct,osl,rfl,lk,hcd⟩:=F.ex
 refine QJ lk hcd S len fun A outer s H vs Q E hr hsp=>?_
 obtain ⟨t,h,q⟩:=hbody cdv A outer s H vs Q E hr hsp
 exact ⟨t,h.nox,q⟩
theorem fun_mk {x qual:Str} {st:Stmt} {f:Addr} {oc:Value} {od an:Option Addr} {osl:Array (Option Value)} {kV doc pm cdv ct:Value} (l:K.lookup f=some ⟨oc,od,.func (PySem.W.fnOf x qual (Jx st) (FP st) (Am st) .none kV doc pm an cdv ct),osl⟩)
 (c:PySem.W.codeIn K cdv qual=true) (k:PySem.W.keepIn K (.ref f)=true):Fun K x qual st f (PySem.W.fnOf x qual (Jx st) (FP st) (Am st) .none kV doc pm an cdv ct):=⟨⟨oc,od,kV,doc,pm,an,cdv,ct,osl,rfl,l,c⟩,k⟩
end
theorem Bq {n:Nat} (h:n<=1000):n < sizeLine:=Nat.lt_of_le_of_lt h (by decide)
section
variable {X:Cx}
theorem pv (i:Nat) {x:Str} {pos:Pos} (hN:X.N[i]?=some x:=by rfl) (hv:Vis X.env.scope x:=by first | exact Or.inl rfl | exact Or.inr (Or.inl rfl) | exact Or.inr (Or.inr rfl)) (hd:(x == ("__debug__":Str))=false:=by decide)
 (hcd:(x == ("__classdict__":Str))=false:=by decide):PE X (.Name x pos) (Sf i):=Rf hN hv hd hcd
end
theorem NA {A B:Prop} (h:B):if false=true then A else B:=by
 rw [if_neg Bool.false_ne_true]
 exact h
theorem Od {A B:Prop} (h:A):if true=true then A else B:=by
 rw [if_pos rfl]
 exact h
theorem G6 {c A B:Prop} [Decidable c] (h1:c->A) (h2:¬ c->B):if c then A else B:=by
 by_cases h:c
 ·rw [if_pos h]
  exact h1 h
 ·rw [if_neg h]
  exact h2 h
noncomputable def AJ (H H':Hp):Prop:=∀b o,H b=some o->H' b=some o
theorem AJ.trans {H H1 H2:Hp} (a:AJ H H1) (b:AJ H1 H2):AJ H H2:=fun c o h=>b c o (a c o h)
theorem AJ.seq {K:PySem.W.Frag} {H H':Hp} {a:Addr} {xs:List V} (e:AJ H H') (h:SqL K H a xs):SqL K H' a xs:=by
 rcases h with (h | ⟨o,h⟩) | h
 ·exact .inl (.inl (e _ _ h))
 ·exact .inl (.inr ⟨o,e _ _ h⟩)
 ·exact .inr h
end L2
namespace L2
open PySem PySem.Spec PyProof.Rows
section
variable {κ:Type} [DecidableEq κ]
noncomputable def BP (kvs:List (κ × V)) (k:κ):Option V:=(kvs.find? fun kv=>decide (kv.1=k)).map (·.2)
noncomputable def DI (kvs:List (κ × V)) (k:κ) (v:V):List (κ × V) :=
 if (kvs.any fun kv=>decide (kv.1=k))=true then kvs.map (fun kv=>if kv.1=k then (kv.1,v) else kv) else kvs++[(k,v)]
theorem BZ {p:κ × V} {r:List (κ × V)} {k:κ} (e:p.1=k):BP (p :: r) k=some p.2:=by simp [BP,List.find?_cons,e]
theorem Cc {p:κ × V} {r:List (κ × V)} {k:κ} (e:¬ p.1=k):BP (p :: r) k=BP r k:=by simp [BP,List.find?_cons,e]
theorem CH (k:κ):∀kvs:List (κ × V),(kvs.any fun kv=>decide (kv.1=k))=(BP kvs k).isSome
 | []=>rfl
 | p :: r=>by
   rw [any_cons]
   by_cases e:p.1=k
   ·simp only [BZ e,decide_eq_true e,Bool.true_or,Option.isSome_some]
   ·rw [Cc e,decide_eq_false e,Bool.false_or];exact CH k r
theorem Ki (k j:κ) (y:V):∀kvs:List (κ × V),BP (kvs.map fun kv=>if kv.1=k then (kv.1,y) else kv) j=(BP kvs j).map fun x=>if j=k then y else x
 | []=>rfl
 | p :: r=>by
   have ih:=Ki k j y r
   rw [map_cons]
   by_cases h:p.1=k
   ·rw [if_pos h]
    by_cases e:p.1=j
    ·rw [BZ (p:=(p.1,y)) e,BZ e,Option.map_some,if_pos (e.symm.trans h)]
    ·rw [Cc (p:=(p.1,y)) e,Cc e,ih]
   ·rw [if_neg h]
    by_cases e:p.1=j
    ·rw [BZ (p:=p) e,BZ e,Option.map_some,if_neg (fun z=>h (e.trans z))]
    ·rw [Cc (p:=p) e,Cc e,ih]
theorem IH (k j:κ) (y:V):∀kvs:List (κ × V),BP kvs k=none->BP (kvs++[(k,y)]) j=if j=k then some y else BP kvs j
 | [],_=>by
   by_cases e:k=j
   ·rw [if_pos e.symm];exact BZ (p:=(k,y)) e
   ·rw [if_neg (fun z=>e z.symm)];exact Cc (p:=(k,y)) e
 | p :: r,hn=>by
   rw [cons_append]
   have hk:¬ p.1=k:=fun z=>by rw [BZ z] at hn;cases hn
   rw [Cc hk] at hn
   have ih:=IH k j y r hn
   by_cases e:p.1=j
   ·rw [BZ e,BZ e,if_neg (fun z=>hk (e.trans z))]
   ·rw [Cc e,Cc e,ih]
theorem OK (kvs:List (κ × V)) (k j:κ) (y:V):BP (DI kvs k y) j=if j=k then some y else BP kvs j:=by
 unfold DI
 by_cases a:(kvs.any fun kv=>decide (kv.1=k))=true
 ·rw [if_pos a,Ki]
  rw [CH] at a
  by_cases e:j=k
  ·obtain ⟨x,hx⟩:=Option.isSome_iff_exists.mp a
   rw [if_pos e,e,hx,Option.map_some,if_pos rfl]
  ·rw [if_neg e]
   cases BP kvs j with
   | none=>rfl
   | some x=>rw [Option.map_some,if_neg e]
 ·rw [if_neg a]
  refine IH k j y kvs ?_
  rw [CH] at a
  cases q:BP kvs k with
  | none=>rfl
  | some x=>rw [q] at a;exact (a rfl).elim
theorem Gp (kvs:List (κ × V)) (k:κ) (v:V):(DI kvs k v).length<=kvs.length+1:=by
 unfold DI
 split
 ·rw [length_map];omega
 ·rw [length_append,length_cons,length_nil];omega
theorem P9 {kvs:List (κ × V)} {k:κ} (v:V) (h:BP kvs k=none):DI kvs k v=kvs++[(k,v)]:=by
 unfold DI
 rw [CH,h]
 exact if_neg (by decide)
theorem Dl.isSome_eq {o:Option V} {u:Option Value} (r:Dl o u):o.isSome=u.isSome:=by
 cases o with
 | none=>cases u with
   | none=>rfl
   | some _=>exact (show False from r).elim
 | some _=>cases u with
   | none=>exact (show False from r).elim
   | some _=>rfl
theorem Dl.getD {o:Option V} {u:Option Value} {d:V} {d':Value} (r:Dl o u) (rd:Bg d d'):Bg (o.getD d) (u.getD d'):=by
 cases o with
 | none=>cases u with
   | none=>exact rd
   | some _=>exact (show False from r).elim
 | some _=>cases u with
   | none=>exact (show False from r).elim
   | some _=>exact r
theorem KV.val {kvs:List (κ × V)} {vs:List (κ × Value)} (r:KV kvs vs) (k:κ):Dl (BP kvs k) (valueAt vs k):=by
 unfold KV at r
 induction r with
 | nil=>exact True.intro
 | @cons p q ps qs h t ih =>
   obtain ⟨h1,h2⟩:=h
   by_cases e:p.1=k
   ·have e':q.1=k:=h1.symm.trans e
    have b:valueAt (q :: qs) k=some q.2:=by simp [valueAt,List.find?_cons,e']
    rw [BZ e,b];exact h2
   ·have e':¬ q.1=k:=fun z=>e (h1.trans z)
    have b:valueAt (q :: qs) k=valueAt qs k:=by simp [valueAt,List.find?_cons,e']
    rw [Cc e,b];exact ih
theorem KV.any {kvs:List (κ × V)} {vs:List (κ × Value)} (r:KV kvs vs) (k:κ):(kvs.any fun kv=>decide (kv.1=k))=vs.any fun kv=>decide (kv.1=k):=by
 unfold KV at r
 induction r with
 | nil=>rfl
 | cons h t ih=>rw [any_cons,any_cons,ih,h.1]
theorem KV.repl {kvs:List (κ × V)} {vs:List (κ × Value)} (r:KV kvs vs) (k:κ) {y:V} {u:Value} (ry:Bg y u) :
 KV (kvs.map fun kv=>if kv.1=k then (kv.1,y) else kv) (vs.map fun kv=>if kv.1=k then (kv.1,u) else kv):=by
 unfold KV at r ⊢
 induction r with
 | nil=>exact .nil
 | @cons p q ps qs h t ih =>
   rw [map_cons,map_cons]
   refine .cons ?_ ih
   obtain ⟨h1,h2⟩:=h
   by_cases e:p.1=k
   ·rw [if_pos e,if_pos (h1.symm.trans e)];exact ⟨h1,ry⟩
   ·rw [if_neg e,if_neg (fun z=>e (h1.trans z))];exact ⟨h1,h2⟩
theorem KV.put {kvs:List (κ × V)} {vs:List (κ × Value)} (r:KV kvs vs) (k:κ) {y:V} {u:Value} (ry:Bg y u):KV (DI kvs k y) (stored vs k u):=by
 unfold DI stored
 rw [r.any k]
 by_cases e:(vs.any fun kv=>decide (kv.1=k))=true
 ·rw [if_pos e,if_pos e];exact r.repl k ry
 ·rw [if_neg e,if_neg e];exact Paired.snoc r ⟨rfl,ry⟩
theorem KV.length {kvs:List (κ × V)} {vs:List (κ × Value)} (r:KV kvs vs):kvs.length=vs.length:=Paired.length r
end
theorem MJ {P:Program} {w:World} {k:Key} {u:Value} (r:Bg (kV k) u):(BJ P w).is k u=true:=by
 cases k with
 | inl i=>obtain ⟨t,e⟩:=(show ∃t,u=Value.int i t from r);subst e;exact JL P w i t
 | inr x=>obtain ⟨t,e⟩:=(show ∃t,u=Value.str x t from r);subst e;exact Kk P w x t
theorem IO {P:Program} {w:World}:∀{ks:List Key} {us:List Value},AX (ks.map kV) us->ItemsAre (BJ P w) ks us
 | [],_,r=>by rw [map_nil] at r;cases r;exact .nil
 | k :: ks,_,r=>by
   rw [map_cons] at r
   cases r with
   | cons h t=>exact .cons (MJ h) (IO t)
abbrev KT (H:Hp):List (List Key × V)->List (List Key × Addr × Value)->Prop:=Paired fun p q=>p.1=q.1/\H q.2.1=some (.tup (p.1.map kV))/\Bg p.2 q.2.2
theorem KT.val {H:Hp} {kvs:List (List Key × V)} {xs:List (List Key × Addr × Value)} (r:KT H kvs xs) (k:List Key):Dl (BP kvs k) ((atKey xs k).map (·.2)):=by
 induction r with
 | nil=>exact True.intro
 | @cons p q ps qs h t ih =>
   obtain ⟨h1,_,h2⟩:=h
   by_cases e:p.1=k
   ·have e':q.1=k:=h1.symm.trans e
    have b:atKey (q :: qs) k=some q.2:=by simp [atKey,List.find?_cons,e']
    rw [BZ e,b];exact h2
   ·have e':¬ q.1=k:=fun z=>e (h1.trans z)
    have b:atKey (q :: qs) k=atKey qs k:=by simp [atKey,List.find?_cons,e']
    rw [Cc e,b];exact ih
theorem KT.repl {H:Hp} {kvs:List (List Key × V)} {xs:List (List Key × Addr × Value)} (r:KT H kvs xs) (k:List Key) {y:V} {u:Value} (ry:Bg y u) :
 KT H (kvs.map fun kv=>if kv.1=k then (kv.1,y) else kv) (xs.map (putAt k u)):=by
 induction r with
 | nil=>exact .nil
 | @cons p q ps qs h t ih =>
   rw [map_cons,map_cons]
   refine .cons ?_ ih
   obtain ⟨h1,h2,h3⟩:=h
   unfold putAt
   by_cases e:p.1=k
   ·rw [if_pos e,if_pos (h1.symm.trans e)];exact ⟨h1,h2,ry⟩
   ·rw [if_neg e,if_neg (fun z=>e (h1.trans z))];exact ⟨h1,h2,h3⟩
theorem KT.put {H:Hp} {kvs:List (List Key × V)} {xs:List (List Key × Addr × Value)} (r:KT H kvs xs) (k:List Key) {b:Addr} {y:V} {u:Value} (hb:H b=some (.tup (k.map kV))) (ry:Bg y u) :
 KT H (DI kvs k y) (storedH xs k b u):=by
 have e:(kvs.any fun kv=>decide (kv.1=k))=(atKey xs k).isSome:=by
  rw [CH,(r.val k).isSome_eq,Option.isSome_map]
 unfold DI storedH
 rw [e]
 by_cases q:(atKey xs k).isSome=true
 ·rw [if_pos q,if_pos q];exact r.repl k ry
 ·rw [if_neg q,if_neg q];exact Paired.snoc r ⟨rfl,hb,ry⟩
theorem KT.keeps {H H':Hp} {kvs:List (List Key × V)} {xs:List (List Key × Addr × Value)} (r:KT H kvs xs) (ht:∀b ys,H b=some (.tup ys)->H' b=some (.tup ys)):KT H' kvs xs :=
 Paired.mapP r fun _ _ z=>⟨z.1,ht _ _ z.2.1,z.2.2⟩
section
variable {P:Program} {w:World} {H:Hp} {h:Heap} {a:Addr}
theorem QP {u:HO} (ok:HOk P w H h) (e:Rd H a u):Bk P w H h a u:=e.ok ok
theorem Kg {kvs:List (Key × V)} (ok:HOk P w H h) (e:Rd H a (.dK kvs)):kvs.length<=sizeLine/\(a == sysModules)=false/\∃vs,KV kvs vs/\h.DictOf (BJ P w) a vs :=
 show Bk P w H h a (.dK kvs) from QP ok e
theorem RW {kvs:List (Key × V)} (ok:HOk P w H h) (e:H a=some (.dK kvs)):kvs.length<=sizeLine/\(a == sysModules)=false/\∃vs,KV kvs vs/\h.DictOf (BJ P w) a vs:=Kg ok (.inl e)
theorem Jl {ks:List Key} (ok:HOk P w H h) (e:H a=some (.tup (ks.map kV))):(tupleKind (BJ P w)).is h ks a:=by
 obtain ⟨_,its,r,o,h1,h2,n,h3⟩:=(show Bk P w H h a (.tup (ks.map kV)) from ok a _ e)
 exact ⟨o,its.toArray,n,h1,h2,h3,by simpa using IO r⟩
theorem IQ {kvs:List (List Key × V)} (ok:HOk P w H h) (e:Rd H a (.dT kvs)):kvs.length<=sizeLine/\(a == sysModules)=false /\
 ∃xs,KT H kvs xs/\h.DictOfH (tupleKind (BJ P w)) a xs:=by
 obtain ⟨z,y,xs,r,o,es,ep,h1,h2,h3,h4,h5⟩:=(show Bk P w H h a (.dT kvs) from QP ok e)
 refine ⟨z,y,xs,r,o,es,ep,h1,h2,h3,h4,fun x hx=>?_,h5⟩
 have all:∀{l:List (List Key × V)} {m:List (List Key × Addr × Value)},KT H l m->∀x∈m,(tupleKind (BJ P w)).is h x.1 x.2.1:=by
  intro l m q
  induction q with
  | nil=>intro x hx;exact nomatch hx
  | @cons p q ps qs hq t ih =>
    intro x hx
    rcases mem_cons.mp hx with e | hx
    ·subst e
     exact Jl ok (by rw [<- hq.1];exact hq.2.1)
    ·exact ih x hx
 exact all r x hx
theorem Sx {kvs:List (List Key × V)} (ok:HOk P w H h) (e:H a=some (.dT kvs)):kvs.length<=sizeLine/\(a == sysModules)=false /\
 ∃xs,KT H kvs xs/\h.DictOfH (tupleKind (BJ P w)) a xs:=IQ ok (.inl e)
end
noncomputable def FH (H:Hp) (a:Addr) (y:V) (r:Option V):Prop :=
 (∃kvs k,Rd H a (.dK kvs)/\y=kV k/\r=BP kvs k)\/∃kvs k b,Rd H a (.dT kvs)/\y=.ref b/\H b=some (.tup (k.map kV))/\r=BP kvs k
noncomputable def L7 (H:Hp) (a:Addr) (y v:V) (H':Hp):Prop :=
 (∃kvs k,H a=some (.dK kvs)/\y=kV k/\kvs.length < sizeLine/\H'=upd H a (.dK (DI kvs k v))) \/
 ∃kvs k b,H a=some (.dT kvs)/\y=.ref b/\H b=some (.tup (k.map kV))/\kvs.length < sizeLine/\H'=upd H a (.dT (DI kvs k v))
theorem FH.t {H:Hp} {a b:Addr} {kvs:List (List Key × V)} {k:List Key} (e:H a=some (.dT kvs)) (eb:H b=some (.tup (k.map kV))):FH H a (.ref b) (BP kvs k):=.inr ⟨kvs,k,b,.inl e,rfl,eb,rfl⟩
theorem L7.t {H:Hp} {a b:Addr} {kvs:List (List Key × V)} {k:List Key} {v:V} (e:H a=some (.dT kvs)) (eb:H b=some (.tup (k.map kV))) (hl:kvs.length < sizeLine) :
 L7 H a (.ref b) v (upd H a (.dT (DI kvs k v))):=.inr ⟨kvs,k,b,e,rfl,eb,hl,rfl⟩
section
variable {X:Cx} {pins:List (Addr × Obj)} {σ:St} {H:Hp} {s:Shared} {a:Addr} {y v:V} {u r:Value} {o:Option V} {A:Around} {E:Value->Shared->Prop}
theorem Inv.big (I:Inv X pins σ H s):sysModules < s.heap.objs.size:=by
 have h:mainGlobals < s.heap.objs.size:=(I.mod.glob.keeps I.bk).lt
 exact Nat.lt_trans (by decide) h
theorem On {Q:Value->Shared->Prop} (hu:A.units+1 < cLine) (I:Inv X pins σ H s) (g:FH H a y (some v)) (ry:Bg y u) (h:∀w' s',Inv X pins σ H s'->Bg v w'->Q w' s') :
 wpAny (model X.prog X.w) A (getItem (.ref a) u) Q E s:=by
 rcases g with ⟨kvs,k,e,ey,l⟩ | ⟨kvs,k,b,e,ey,eb,l⟩
 ·subst ey
  obtain ⟨z,hd,vs,rel,dd⟩:=Kg I.hok e
  obtain ⟨w',hw,rw'⟩:=Dl.some_of (v:=v) (o:=valueAt vs k) (by rw [l];exact rel.val k)
  exact wpAny_getItem_of (MJ ry) dd.mapOf hw (h w' _ (I.tok _) rw')
 ·subst ey
  cases (show u=Value.ref b from ry)
  obtain ⟨z,hd,xs,rel,dd⟩:=IQ I.hok e
  obtain ⟨w',hw,rw'⟩:=Dl.some_of (v:=v) (o:=(atKey xs k).map (·.2)) (by rw [l];exact rel.val k)
  obtain ⟨p,hp,hp2⟩:=Option.map_eq_some_iff.mp hw
  refine wpAny_getItem_heap (tupleKind_room_in1 hu) (Jl I.hok eb) dd hp ?_
  rw [hp2]
  exact h w' _ (I.tok _) rw'
theorem Nq {h':Heap} {t':Nat} {ob:HO} (I:Inv X pins σ H s) (mu:Mut (H a)) (hs:Heap.SameBut a s.heap h') (he:∃q,h'.get? a=some q) (new:Bk X.prog X.w (upd H a ob) h' a ob) :
 Inv X pins σ (upd H a ob) { s with heap:=h',toks:=t' } :=
 I.write (x:=a) (e:=a) mu (.inl rfl) (fun b q hb z=>(hs.2 b hb).trans z) he new
theorem Ru {P:Program} {w:World} {H':Hp} {h':Heap} {kvs:List (Key × V)} {vs:List (Key × Value)} (z:kvs.length<=sizeLine) (hd:(a == sysModules)=false) (rel:KV kvs vs) (dd:h'.DictOf (BJ P w) a vs) :
 Bk P w H' h' a (.dK kvs):=⟨z,hd,vs,rel,dd⟩
theorem Om {H':Hp} {Q:Unit->Shared->Prop} (hu:A.units+1 < cLine) (I:Inv X pins σ H s) (g:L7 H a y v H') (ry:Bg y u) (rv:Bg v r) (h:∀s',Inv X pins σ H' s'->Q () s') :
 wpAny (model X.prog X.w) A (setItem (.ref a) u r) Q E s:=by
 rcases g with ⟨kvs,k,e,ey,l,eH⟩ | ⟨kvs,k,b,e,ey,eb,l,eH⟩
 ·subst ey eH
  obtain ⟨z,hd,vs,rel,dd⟩:=RW I.hok e
  have hz:vs.length<=sizeLine:=by rw [<- rel.length];exact z
  have hl:(DI kvs k v).length<=sizeLine:=by have:=Gp kvs k v;omega
  refine wpAny_setItem_pairs (hsz:=hz) (MJ ry) dd fun h' dd' hs=>h _ ?_
  have he:∃q,h'.get? a=some q:=let ⟨q,_,_,hq,_⟩:=dd';⟨q,hq⟩
  exact Nq I (by rw [e];exact True.intro) hs he (Ru hl hd (rel.put k rv) dd')
 ·subst ey eH
  cases (show u=Value.ref b from ry)
  obtain ⟨z,hd,xs,rel,dd⟩:=Sx I.hok e
  have hz:xs.length<=sizeLine:=by rw [<- Paired.length rel];exact z
  have hl:(DI kvs k v).length<=sizeLine:=by have:=Gp kvs k v;omega
  refine wpAny_setItem_heap (hsz:=hz) (tupleKind_room_in1 hu) (Jl I.hok eb) dd fun h' dd' hs=>h _ ?_
  obtain ⟨q,es,ep,hq,h2,h3,h4,_,h5⟩:=dd'
  refine Nq I (by rw [e];exact True.intro) hs ⟨q,hq⟩ ⟨hl,hd,_,(rel.put k eb rv).keeps fun c ys ec=>?_,q,es,ep,hq,h2,h3,h4,h5⟩
  rw [A8 (CO ec e (fun z=>nomatch z))]
  exact ec
end
section
variable {X:Cx} {pins:List (Addr × Obj)} {σ:St} {H:Hp} {s:Shared} {a:Addr} {kvs:List (Key × V)} {k:Key} {u:Value} {A:Around} {E:Value->Shared->Prop}
end
noncomputable def S6 (i:Expr):Prop:=∀ov iv,subscripted i false ov iv=operate [ov,iv] (getItem ov iv)
theorem Qf {prog:Program} {w:World} {A:Around} {E:Value->Shared->Prop} {s:Shared} {env:Env} {value slice:Expr} {pos:Pos} {T id:String} {Q:Value->Shared->Prop}
 (hl:typeLookup (.type T) "__getitem__"=pure (some (.builtin id))) (hs:S6 slice)
 (h:wpAny (model prog w) A (eval value env) (fun o s₁=>wpAny (model prog w) A (eval slice env) (fun i s₂=>s₂.TypeIs o T/\wpAny (model prog w) A (getItem o i) Q E s₂) E s₁) E s) :
 wpAny (model prog w) A (eval (.Subscript value slice pos) env) Q E s:=by
 refine Subscript_ (wpAny_mono h (fun o s₁ h₁=>wpAny_mono h₁ (fun i s₂ h₂=>?_) fun _ _ x=>x) fun _ _ x=>x)
 obtain ⟨hT,h₂⟩:=h₂
 unfold subscriptTail
 refine wpAny_bind ?_
 rw [getitemInPython_of_ne hT.not_modules]
 refine wpAny_bind (wpAny_specialOf hT hl ?_)
 have fin:wpAny (model prog w) A (subscripted slice false o i) (fun r s₃=>wpAny (model prog w) A (letTemporaryGo value o r >>= fun _=>pure r) Q E s₃) E s₂:=by
  rw [hs o i]
  exact wpAny_operating (wpAny_mono h₂ (fun r s₃ h₃=>wpAny_bind (wpAny_letTemporaryGo (wpAny_pure h₃))) fun _ _ x=>x)
 first
  | exact wpAny_pure (wpAny_bind fin)
  | exact wpAny_bind (wpAny_pure (wpAny_bind fin))
  | exact wpAny_bind fin
theorem KR {X:Cx} {pins:List (Addr × Obj)} {σ:St} {H:Hp} {s:Shared} {a:Addr} {y:V} {o:Option V} (I:Inv X pins σ H s) (g:FH H a y o):s.TypeIs (.ref a) "dict":=by
 rcases g with ⟨kvs,k,e,_,_⟩ | ⟨kvs,k,b,e,_,_,_⟩
 ·obtain ⟨_,_,vs,_,dd⟩:=Kg I.hok e
  exact dd.typeIs
 ·obtain ⟨_,_,xs,_,dd⟩:=IQ I.hok e
  exact dd.typeIs
noncomputable def Sj (td ty:TE):TE:=fun σ H Q=>td σ H fun x H1=>ty σ H1 fun y H2=>∃a v,x=.ref a/\FH H2 a y (some v)/\Q v H2
noncomputable def S7 (td ty tv:TE):TS:=fun D σ H=>tv σ H fun v H1=>td σ H1 fun x H2=>ty σ H2 fun y H3=>∃a H4,x=.ref a/\L7 H3 a y v H4/\D.nx σ H4
section
variable {X:Cx} {o i e value:Expr} {pos pos' tpos:Pos} {td ty tv:TE}
theorem Ju (hu:X.A.units+1 < cLine) (ho:PE X o td) (hi:PE X i ty) (hs:S6 i):PE X (.Subscript o i pos) (Sj td ty):=by
 intro pins s σ H Q I h
 refine Qf PySem.F.slot_dict_getitem.lookup hs (thn (ho pins s σ H _ I h) fun u s1 ⟨x,H1,I1,rx,q1⟩=>thn (hi pins s1 σ H1 _ I1 q1) fun iv s2 ⟨y,H2,I2,ry,a,v,ex,g,q2⟩=>?_)
 subst ex
 obtain rfl:u=Value.ref a:=rx
 exact ⟨KR I2 g,On hu I2 g ry fun w' s3 I3 rw'=>⟨v,H2,I3,rw',q2⟩⟩
theorem Jw (hu:X.A.units+1 < cLine) (ho:PE X o td) (hi:PE X i ty) (hv:PE X value tv) (hs:swapsWith value (some (.Subscript o i pos')) pos.line X.env=pure false) :
 PS X (.Assign [.Subscript o i pos'] value pos) (S7 td ty tv):=by
 intro pins s σ H D I h
 refine wpAny_Assign_Subscript (thn (hv pins s σ H _ I h) fun r s1 ⟨v,H1,I1,rv,q1⟩=>thn (ho pins s1 σ H1 _ I1 q1) fun u s2 ⟨x,H2,I2,rx,q2⟩=>thn (hi pins s2 σ H2 _ I2 q2) fun iv s3 ⟨y,H3,I3,ry,a,H4,ex,g,q3⟩=>?_) hs
 subst ex
 obtain rfl:u=Value.ref a:=rx
 exact Om hu I3 g ry rv fun s4 I4=>⟨σ,H4,I4,q3⟩
end
theorem OR {P:Program} {w:World} {H:Hp} (h:Heap) (hb:sysModules < h.objs.size):Bk P w H (h.push { cls:=.type "dict",data:=.dict #[] }) h.objs.size (.dT []) :=
 ⟨Nat.zero_le _,beq_eq_false_iff_ne.mpr (Ne.symm (Nat.ne_of_lt hb)),[],.nil,_,#[],0,Heap.get?_push_size _ rfl,⟨rfl,rfl,rfl⟩,rfl,rfl,nodup_nil⟩
noncomputable def QY:TE:=fun _ H Q=>∀p,H p=none->Q (.ref p) (upd H p (.dT []))
section
variable {X:Cx} {pos:Pos}
theorem Hl:PE X (.Dict [] [] pos) QY:=fun pins s σ H Q I h =>
 wpAny_Dict_empty ⟨.ref s.heap.objs.size,_,I.laid (a:=s.heap.objs.size) (o:=.dT []) (t':=s.toks) (fun _ _ q=>Heap.get?_push_of_some _ q) (Nat.le_refl _) (OR s.heap I.big),rfl,h _ (I.hok.fresh (Nat.le_refl _))⟩
end
structure M2 (X:Cx) (o:Expr) (m:Str) (apos:Pos) (e f:Expr) (cpos:Pos):Prop where
 base:attributeBase o m X.env (eval o X.env)=eval o X.env
 few:((backTo cpos (starEach [e,f] X.env)).all (fun x=>!x.1) && (backToKw cpos (keywordEach [] X.env)).all (fun x=>x.1.isSome)
  && decide (([e,f]:List Expr).length+([]:List Keyword).length+(if ([]:List Keyword).isEmpty then 0 else 1) < 30))=true
 line:(apos.endLine == cpos.line)=true
 trees:backTo cpos (starEach [e,f] X.env)=[(false,eval e X.env),(false,eval f X.env)]
noncomputable def IsD (H:Hp) (a:Addr):Prop:=(∃kvs,Rd H a (.dK kvs))\/∃kvs,Rd H a (.dT kvs)
theorem RH {X:Cx} {pins:List (Addr × Obj)} {σ:St} {H:Hp} {s:Shared} {a:Addr} (I:Inv X pins σ H s) (d:IsD H a) :
 s.TypeIs (.ref a) "dict"/\(∀b,Value.ref a=.ref b->∃ob,s.heap.get? b=some ob/\ob.dict=none)/\(a == sysModules)=false:=by
 rcases d with ⟨kvs,e⟩ | ⟨kvs,e⟩
 ·obtain ⟨_,hd,vs,_,dd⟩:=Kg I.hok e
  refine ⟨dd.typeIs,fun b q=>?_,hd⟩
  cases q
  obtain ⟨ob,_,_,h1,h2,_⟩:=dd
  exact ⟨ob,h1,h2.2.1⟩
 ·obtain ⟨_,hd,xs,_,dd⟩:=IQ I.hok e
  refine ⟨dd.typeIs,fun b q=>?_,hd⟩
  cases q
  obtain ⟨ob,_,_,h1,h2,_⟩:=dd
  exact ⟨ob,h1,h2.2.1⟩
section
variable {X:Cx} {pins:List (Addr × Obj)} {σ:St} {H:Hp} {s:Shared} {a:Addr} {y d:V} {u r:Value} {o:Option V} {A:Around} {E:Value->Shared->Prop}
theorem R6 {Q:Value->Shared->Prop} (hu:A.units+1 < cLine) (I:Inv X pins σ H s) (g:FH H a y o) (ry:Bg y u) (rd:Bg d r) (h:∀w' s',Inv X pins σ H s'->Bg (o.getD d) w'->Q w' s') :
 wpAny (model X.prog X.w) A (call (.builtin "dict.get") [.ref a,u,r]) Q E s:=by
 rcases g with ⟨kvs,k,e,ey,l⟩ | ⟨kvs,k,b,e,ey,eb,l⟩
 ·subst ey
  obtain ⟨z,hd,vs,rel,dd⟩:=Kg I.hok e
  refine call_meetsIn PySem.F.slot_dict_get dd.typeIs PySem.F.entry_dict_get (PySem.F.args_dict_get_3 _ _ _) (meets_dict_get_default (BJ X.prog X.w) a (MJ ry) hd r) ⟨_,dd.mapOf,h _ _ (I.tok _) ?_⟩
  rw [l]
  exact (rel.val k).getD rd
 ·subst ey
  cases (show u=Value.ref b from ry)
  obtain ⟨z,hd,xs,rel,dd⟩:=IQ I.hok e
  refine call_meetsIn PySem.F.slot_dict_get dd.typeIs PySem.F.entry_dict_get (PySem.F.args_dict_get_3 _ _ _) (meetsH_dict_get_default (tupleKind (BJ X.prog X.w)) a b hd r) ⟨tupleKind_room_in1 hu,k,xs,Jl I.hok eb,dd,h _ _ (I.tok _) ?_⟩
  rw [l]
  exact (rel.val k).getD rd
end
noncomputable def Rj (td ty tx:TE):TE:=fun σ H Q=>td σ H fun x H1=>∃a,x=.ref a/\IsD H1 a/\ty σ H1 fun y H2=>tx σ H2 fun z H3=>∃o,FH H3 a y o/\Q (o.getD z) H3
section
variable {X:Cx} {o e f:Expr} {apos cpos:Pos} {td ty tx:TE}
theorem EB (hu:X.A.units+1 < cLine) (ho:PE X o td) (he:PE X e ty) (hf:PE X f tx) (m:M2 X o "get" apos e f cpos):PE X (.Call (.Attribute o "get" apos) [e,f] [] cpos) (Rj td ty tx):=by
 intro pins s σ H Q I h
 refine wpAny_Call_method m.base m.few m.line PySem.F.plainAttrs_dict PySem.F.slot_dict_get PySem.F.type_dict_get (thn (ho pins s σ H _ I h) fun u s1 ⟨x,H1,I1,rx,a,ex,d,q1⟩=>?_)
 subst ex
 obtain rfl:u=Value.ref a:=rx
 obtain ⟨t1,t2,_⟩:=RH I1 d
 refine ⟨t1,t2,?_⟩
 rw [m.trees]
 refine Calls.callWith_builtin rfl (Calls.evalArgs_plain (Calls.spliced_cons (thn (he pins s1 σ H1 _ I1 q1) fun iv s2 ⟨y,H2,I2,ry,q2⟩ =>
  Calls.spliced_cons (thn (hf pins s2 σ H2 _ I2 q2) fun fv s3 ⟨z,H3,I3,rz,ov,g,q3⟩=>Calls.spliced_nil ?_))))
 exact R6 hu I3 g ry rz fun w' s4 I4 rw'=>⟨_,H3,I4,rw',q3⟩
end
section
variable {X:Cx} {pins:List (Addr × Obj)} {σ:St} {H:Hp} {s:Shared} {a:Addr} {kvs:List (Key × V)} {A:Around} {E:Value->Shared->Prop}
end
section
variable {X:Cx} {pins:List (Addr × Obj)} {σ:St} {H:Hp} {s:Shared} {a:Addr} {y:V} {u:Value} {A:Around} {E:Value->Shared->Prop}
end
end L2
namespace L2
open PySem PySem.Spec PyProof.Rows
section
variable {κ:Type} [DecidableEq κ]
theorem KE {kvs:List (κ × V)} {k:κ} (h:BP kvs k=none):¬ k∈kvs.map (·.1):=by
 intro m
 obtain ⟨p,hp,e⟩:=mem_map.mp m
 have q:(kvs.any fun kv=>decide (kv.1=k))=true:=any_eq_true.mpr ⟨p,hp,decide_eq_true e⟩
 rw [CH,h] at q
 exact absurd q (by simp)
theorem Qj {kvs:List (κ × V)} {k:κ} {v:V} (h:BP kvs k=some v):k∈kvs.map (·.1):=by
 have q:(kvs.any fun kv=>decide (kv.1=k))=true:=by
  rw [CH,h]
  all_goals rfl
 obtain ⟨p,hp,e⟩:=any_eq_true.mp q
 exact mem_map.mpr ⟨p,hp,of_decide_eq_true e⟩
theorem Nb:∀{l:List κ} {k:κ},l.Nodup->¬ k∈l->(l++[k]).Nodup
 | [],k,_,_=>by simp
 | a :: r,k,h,hk=>by
   obtain ⟨h1,h2⟩:=nodup_cons.mp h
   show (a :: (r++[k])).Nodup
   refine nodup_cons.mpr ⟨fun m=>?_,Nb h2 fun m=>hk (mem_cons.mpr (Or.inr m))⟩
   rcases mem_append.mp m with q | q
   ·exact h1 q
   ·exact hk (mem_cons.mpr (Or.inl (mem_singleton.mp q).symm))
theorem QD {kvs:List (κ × V)} {k:κ} (v:V) (hn:(kvs.map (·.1)).Nodup) (h:BP kvs k=none):((DI kvs k v).map (·.1)).Nodup:=by
 rw [P9 v h,map_append]
 exact Nb hn (KE h)
end
end L2
namespace L2
open PySem PySem.Spec PyProof.Rows
noncomputable def Sz (n:Nat) (x:Int):Prop:=x.natAbs < 2 ^ n
section
variable {m n:Nat} {x y:Int}
theorem Sz.bits (h:Sz n x):Builtin.Int.intBits x<=n:=intBits_le_iff.mpr h
theorem Sz.of_bits (h:Builtin.Int.intBits x<=n):Sz n x:=intBits_le_iff.mp h
theorem Sz.mono (h:Sz m x) (l:m<=n):Sz n x:=.of_bits (Nat.le_trans h.bits l)
theorem Sz.mul (h:Sz m x) (k:Sz n y):Sz (m+n) (x*y):=.of_bits (intBits_mul_le h.bits k.bits)
theorem Sz.add (h:Sz m x) (k:Sz n y):Sz (max m n+1) (x+y):=.of_bits (intBits_add_le h.bits k.bits)
theorem Sz.sub (h:Sz m x) (k:Sz n y):Sz (max m n+1) (x - y):=.of_bits (intBits_sub_le h.bits k.bits)
theorem Sz.neg (h:Sz m x):Sz m (-x):=.of_bits (intBits_neg_le h.bits)
theorem Sz.fdiv (h:Sz m x):Sz m (x.fdiv y):=.of_bits (intBits_fdiv_le h.bits)
theorem szd (n:Nat) {x:Int} (h:decide (x.natAbs < 2 ^ n)=true:=by decide +kernel):Sz n x:=(show x.natAbs < 2 ^ n from of_decide_eq_true h)
theorem Dq (h:-(2 ^ n:Nat) < x) (k:x < (2 ^ n:Nat)):Sz n x:=by
 unfold Sz
 generalize 2 ^ n=p at h k ⊢
 omega
end
noncomputable def Pm (i j:Int):Prop:=∃m n,Sz m i/\Sz n j/\m+n<=134217728
theorem RF {i j:Int} {m n:Nat} (h:Sz m i) (k:Sz n j) (l:decide (m+n<=134217728)=true:=by decide +kernel):Pm i j:=⟨m,n,h,k,of_decide_eq_true l⟩
noncomputable def SB (_ j:Int):Prop:=j≠0/\Sz 9000 j
section
variable {X:Cx}
theorem BA:OpR X (binaryOp .Mult) (rI Pm fun i j=>.int (i*j)):=opI fun _ _ _ _ _ _ _ hc q =>
 mul_int q (let ⟨_,_,a,b,c⟩:=hc;IntMulOk.of_le a.bits b.bits c)
theorem Bf:OpR X (binaryOp .FloorDiv) (rI SB fun i j=>.int (i.fdiv j)):=opI fun _ j _ _ _ _ _ hc q =>
 floordiv_int hc.1 q (.inl (PyProof.noPylong_of_log2 ((Nat.log2_lt (by have:=hc.1;omega)).mpr hc.2)))
theorem JY (ns ms:List Int):((List.range (min ns.length ms.length)).all (fun j=>ns.getD j 0 == ms.getD j 0) && ns.length == ms.length)=decide (ns=ms):=by
 rw [Bool.eq_iff_iff]
 simp only [Bool.and_eq_true,all_eq_true,mem_range,beq_iff_eq,decide_eq_true_eq]
 constructor
 ·rintro ⟨h,l⟩
  refine ext_getElem l fun i h1 h2=>?_
  have:=h i (by omega)
  simpa [getD_eq_getElem?_getD,h1,h2] using this
 ·rintro rfl
  exact ⟨fun _ _=>rfl,rfl⟩
theorem R5 (hu:X.A.units < cLine):OpR X (compareOp .Eq) (fun x y H Q=>∃(a b:Addr) (ns ms:List Int),x=.ref a/\y=.ref b/\SqT X.K H a (ns.map V.int)/\SqT X.K H b (ms.map V.int)/\Q (.bl (decide (ns=ms))) H):=by
 intro pins s σ H x y v u Q I rx ry h
 obtain ⟨a,b,ns,ms,rfl,rfl,ha,hb,q⟩:=h
 cases rx
 cases ry
 obtain ⟨its,rv,ht,_⟩:=I.tuple ha
 obtain ⟨its2,rv2,ht2,_⟩:=I.tuple hb
 have l1:ns.length=its.length:=by rw [<- rv.length,length_map]
 have l2:ms.length=its2.length:=by rw [<- rv2.length,length_map]
 refine SeqAt.eq_tupleAt (e:=fun j=>ns.getD j 0 == ms.getD j 0) (show s.heap.IsTuple a its.toArray from ht) (show s.heap.IsTuple b its2.toArray from ht2) hu (fun j h1 h2=>?_) ?_
 ·have h1':j < ns.length:=by rw [l1];simpa using h1
  have h2':j < ms.length:=by rw [l2];simpa using h2
  obtain ⟨u1,e1,r1⟩:=rv.get (i:=j) (x:=.int ns[j]) (by rw [List.getElem?_map,List.getElem?_eq_getElem h1'] <;> rfl)
  obtain ⟨u2,e2,r2⟩:=rv2.get (i:=j) (x:=.int ms[j]) (by rw [List.getElem?_map,List.getElem?_eq_getElem h2'] <;> rfl)
  obtain ⟨t1,rfl⟩:=r1
  obtain ⟨t2,rfl⟩:=r2
  have f1:its.toArray[j]=.int ns[j] t1:=by
   have:=(List.getElem?_eq_some_iff.mp e1).2
   simpa using this
  have f2:its2.toArray[j]=.int ms[j] t2:=by
   have:=(List.getElem?_eq_some_iff.mp e2).2
   simpa using this
  rw [f1,f2]
  have g1:ns.getD j 0=ns[j]:=by simp [getD_eq_getElem?_getD,h1']
  have g2:ms.getD j 0=ms[j]:=by simp [getD_eq_getElem?_getD,h2']
  show SeqAt.EqAt X.A.in1 s (.int ns[j] t1) (.int ms[j] t2) (ns.getD j 0 == ms.getD j 0)
  rw [g1,g2]
  exact SeqAt.EqAt.int_int _ _ _ _
 ·have e:((List.range (min its.toArray.size its2.toArray.size)).all (fun j=>ns.getD j 0 == ms.getD j 0) && its.toArray.size == its2.toArray.size)=decide (ns=ms):=by
   rw [size_toArray,size_toArray,<- l1,<- l2]
   exact JY ns ms
  rw [e]
  exact ⟨.bl _,H,I,rfl,q⟩
theorem Cb:Dg X (.builtin "isinstance") (fun xs H Q=>∃x t c b,xs=[x,.ty c]/\CD X.K H x t/\PySem.W.kitOne X.K t (.type c)=some b/\Q (.bl b) H):=by
 intro pins s σ H xs us Q I rv h
 obtain ⟨x,t,c,b,rfl,ty,e,q⟩:=h
 obtain ⟨u,u',rfl,r1,r2⟩:=Ko rv
 cases (show u'=Value.type c from r2)
 exact NJ I r1 ty e fun tk=>⟨.bl b,H,I.tok tk,rfl,q⟩
end
section
variable {K:PySem.W.Frag}
theorem EO:PySem.W.kitOne K (.type "int") (.type "int")=some true:=by
 show (if ((Value.type "int") == (Value.type "int"))=true then some true else (if PySem.W.kitMeta "int"=true then (PySem.fastBuiltinMro "int").map (·.contains (Value.type "int")) else none))=some true
 decide +kernel
theorem DX:PySem.W.kitOne K (.type "int") (.type "bool")=some false:=by
 show (if ((Value.type "int") == (Value.type "bool"))=true then some true else (if PySem.W.kitMeta "bool"=true then (PySem.fastBuiltinMro "int").map (·.contains (Value.type "bool")) else none))=some false
 decide +kernel
theorem Io:PySem.W.kitOne K (.type "bool") (.type "bool")=some true:=by
 show (if ((Value.type "bool") == (Value.type "bool"))=true then some true else (if PySem.W.kitMeta "bool"=true then (PySem.fastBuiltinMro "bool").map (·.contains (Value.type "bool")) else none))=some true
 decide +kernel
theorem CL:PySem.W.kitOne K (.type "tuple") (.type "tuple")=some true:=by
 show (if ((Value.type "tuple") == (Value.type "tuple"))=true then some true else (if PySem.W.kitMeta "tuple"=true then (PySem.fastBuiltinMro "tuple").map (·.contains (Value.type "tuple")) else none))=some true
 decide +kernel
theorem Fk:PySem.W.kitOne K (.type "list") (.type "list")=some true:=by
 show (if ((Value.type "list") == (Value.type "list"))=true then some true else (if PySem.W.kitMeta "list"=true then (PySem.fastBuiltinMro "list").map (·.contains (Value.type "list")) else none))=some true
 decide +kernel
end
noncomputable def Tb (c:TT) (t u:TS):TS:=fun D σ H=>∃M:St->Hp->Prop,(c σ H fun b H1=>if b=true then t { D with nx:=M } σ H1 else u { D with nx:=M } σ H1)/\∀σ' H',M σ' H'->D.nx σ' H'
theorem Lf {X:Cx} {c:Expr} {a b:List Stmt} {tc:TT} {t u:TS} {pos:Pos} (hc:PT X c tc) (ha:PSs X a t) (hb:PSs X b u):PS X (.If c a b pos) (Tb tc t u):=by
 intro pins s σ H D I h
 obtain ⟨M,h,hM⟩:=h
 have up:∀(f:Flow) (s':Shared),SP X pins { D with nx:=M } f s'->SP X pins D f s':=fun f s' q=>by
  cases f with
  | next =>
    obtain ⟨σ',H',I',q⟩:=q
    exact ⟨σ',H',I',hM σ' H' q⟩
  | ret v=>exact q
  | brk=>exact q
  | cont=>exact q
 refine wpAny_If (thn (hc pins s σ H _ I h) fun d s1 ⟨H1,I1,q1⟩=>?_)
 cases d with
 | true=>exact thn (ha pins s1 σ H1 _ I1 q1) up
 | false=>exact thn (hb pins s1 σ H1 _ I1 q1) up
theorem Rp:Po 10 40:=⟨by decide,by decide,by decide⟩
theorem B0 {n:Nat} (h:n<=1000):n<=sizeLine:=Nat.le_of_lt (Bq h)
theorem Q2 {ns:List Int} {k:Int} (h0:0<=k) (h:k < (ns.length:Int)):∃v:Int,atI (ns.map V.int) k=some (.int v):=by
 have hk:k.toNat < ns.length:=by omega
 have ek:k=((k.toNat:Nat):Int):=by omega
 have q:atI (ns.map V.int) ((k.toNat:Nat):Int)=some (.int ns[k.toNat]):=BE (by rw [List.getElem?_map,List.getElem?_eq_getElem hk] <;> rfl)
 rw [<- ek] at q
 exact ⟨_,q⟩
end L2
namespace L2
open PySem PySem.Spec PyProof.Rows
noncomputable def Cx.inComp (X:Cx) (Nc:List Str) (sc:Scope) (cl:List (Str × Addr)) (s:Shared) (H:Hp) (ex:List Addr):Cx :=
 { X with N:=Nc,s₀:=s,H₀:=H,env:=compEnvC sc cl s.heap.objs.size X.env,outer:=X.stack,stack:=X.stack,ex:=ex,fn:=fun _=>false,pn:=[],xe:=fun _ _=>False }
theorem Ly {env:Env} {f:Str × NameKind->List (Str × Addr)->Sem (ForInStep (List (Str × Addr)))}
 (hf:∀n k r,f (n,k) r=if (k == NameKind.free)=true then (cellOf env n >>= fun c=>pure (ForInStep.yield ((n,c) :: r))) else pure (ForInStep.yield r)) :
 ∀(l:List (Str × NameKind)) (cs:List (Str × Addr)),(∀x∈l,x.2=.free->∃c,env.cells.lookup x.1=some c) ->
  ∃cl,(forIn l cs f:Sem (List (Str × Addr)))=pure cl/\(∀p∈cl,p∈cs\/env.cells.lookup p.1=some p.2)/\(∀p∈cs,p∈cl)/\∀x∈l,x.2=.free->∃c,(x.1,c)∈cl:=by
 intro l
 induction l with
 | nil =>
   intro cs _
   exact ⟨cs,by rw [forIn_nil],fun p hp=>.inl hp,fun p hp=>hp,fun x hx=>absurd hx (by simp)⟩
 | cons y r ih =>
   intro cs h
   obtain ⟨n,k⟩:=y
   by_cases hk:k=.free
   ·subst hk
    obtain ⟨c,hc⟩:=h (n,.free) (by simp) rfl
    have e:cellOf env n=pure c:=by
     unfold cellOf
     rw [show env.cells.lookup n=some c from hc]
    obtain ⟨cl,h1,h2,h3,h4⟩:=ih ((n,c) :: cs) fun x hx=>h x (mem_cons_of_mem _ hx)
    refine ⟨cl,?_,fun p hp=>?_,fun p hp=>h3 p (mem_cons_of_mem _ hp),fun x hx hf'=>?_⟩
    ·rw [forIn_cons,hf,if_pos (by decide),e]
     simp only [pure_bind]
     exact h1
    ·rcases h2 p hp with z | z
     ·rcases mem_cons.mp z with z | z
      ·subst z;exact .inr hc
      ·exact .inl z
     ·exact .inr z
    ·rcases mem_cons.mp hx with z | z
     ·subst z;exact ⟨c,h3 _ (by simp)⟩
     ·exact h4 x z hf'
   ·have hb:(k == NameKind.free)=false:=by simpa using hk
    obtain ⟨cl,h1,h2,h3,h4⟩:=ih cs fun x hx=>h x (mem_cons_of_mem _ hx)
    refine ⟨cl,?_,h2,h3,fun x hx hf'=>?_⟩
    ·rw [forIn_cons,hf,hb,if_neg (by decide)]
     simp only [pure_bind]
     exact h1
    ·rcases mem_cons.mp hx with z | z
     ·subst z;exact absurd hf' hk
     ·exact h4 x z hf'
theorem HM {α:Type}:∀{l:List (Str × α)} {n:Str} {c:α},(n,c)∈l->∃d,l.lookup n=some d
 | (k,v) :: r,n,c,h=>by
   rw [lookup_cons]
   cases hx:(n == k) with
   | true=>exact ⟨v,rfl⟩
   | false =>
     rcases mem_cons.mp h with z | z
     ·cases z
      simp at hx
     ·exact HM z
theorem Ft {env:Env} {sc:Scope} (h:∀x∈sc.names,x.2=.free->∃c,env.cells.lookup x.1=some c) :
 ∃cl,closureFor sc env=pure cl/\(∀y c,cl.lookup y=some c->env.cells.lookup y=some c)/\∀x∈sc.names,x.2=.free->∃c,cl.lookup x.1=some c:=by
 obtain ⟨cl,h1,h2,_,h4⟩:=Ly (env:=env) (f:=fun x r=>if (x.2 == NameKind.free)=true then (cellOf env x.1 >>= fun c=>pure (ForInStep.yield ((x.1,c) :: r))) else pure (ForInStep.yield r)) (fun _ _ _=>rfl) sc.names [] h
 refine ⟨cl,?_,fun y c e=>?_,fun x hx hf=>?_⟩
 ·unfold closureFor
  have:(forIn sc.names ([]:List (Str × Addr)) fun x r=>(match x with | (name,kind)=>if (kind == NameKind.free)=true then (do let __do_lift <- cellOf env name;pure (ForInStep.yield ((name,__do_lift) :: r))) else pure (ForInStep.yield r)):Sem (List (Str × Addr)))=pure cl:=h1
  first
   | (simp only [this,pure_bind];done)
   | (simp only [h1,pure_bind];done)
   | (rw [show (forIn sc.names ([]:List (Str × Addr)) _:Sem (List (Str × Addr)))=pure cl from h1];rfl)
 ·rcases h2 (y,c) (PySem.mem_of_lookup e) with z | z
  ·exact absurd z (by simp)
  ·exact z
 ·obtain ⟨c,hc⟩:=h4 x hx hf
  exact HM hc
theorem Dk (env:Env):∀(names:List (Str × NameKind)) (y:Str),
 (names.map fun (n,k)=>if (k == NameKind.free && env.scope.kind == .function && env.kindOf n == some .cell) then (n,NameKind.cell) else (n,k)).lookup y
  = (names.lookup y).map fun k=>if (k == NameKind.free && env.scope.kind == .function && env.kindOf y == some .cell) then NameKind.cell else k
 | [],y=>rfl
 | (n,k) :: r,y=>by
   have ih:=Dk env r y
   rw [map_cons]
   dsimp only
   cases hx:(y == n) with
   | true =>
     have e:y=n:=by simpa using hx
     subst e
     by_cases c:(k == NameKind.free && env.scope.kind == .function && env.kindOf y == some .cell)=true
     ·rw [if_pos c];simp only [lookup_cons,hx,Option.map_some];rw [if_pos c]
     ·rw [if_neg c];simp only [lookup_cons,hx,Option.map_some];rw [if_neg c]
   | false =>
     by_cases c:(k == NameKind.free && env.scope.kind == .function && env.kindOf n == some .cell)=true
     ·rw [if_pos c];simp only [lookup_cons,hx];exact ih
     ·rw [if_neg c];simp only [lookup_cons,hx];exact ih
noncomputable def LH (X:Cx) (ifs:List Expr) (t:TT):Prop :=
 ∀(pins:List (Addr × Obj)) (s:Shared) (σ:St) (H:Hp) (Q:Bool->Hp->Prop),Inv X pins σ H s->t σ H Q ->
  wpAny (model X.prog X.w) X.A (forIn ifs true fun c r=>if r=true then do let ok <- isTrue c X.env (eval c X.env);pure (ForInStep.yield ok) else pure (ForInStep.yield r)) (TP X pins σ Q) X.xe s
noncomputable def RT:TT:=fun _ H Q=>Q true H
theorem yes {σ:St} {H:Hp} {Q:Bool->Hp->Prop} (h:Q true H):RT σ H Q:=h
theorem B7 {X:Cx}:LH X [] RT:=by
 intro pins s σ H Q I h
 rw [forIn_nil]
 exact wpAny_pure ⟨H,I,h⟩
theorem Eh {X:Cx} {c:Expr} {t:TT} (hc:PT X c t):LH X [c] t:=by
 intro pins s σ H Q I h
 rw [forIn_cons,if_pos rfl]
 refine wpAny_bind (wpAny_bind (thn (hc pins s σ H Q I h) fun b s1 q=>wpAny_pure ?_))
 dsimp only
 rw [forIn_nil]
 exact wpAny_pure q
theorem Hq {α:Type} {t:Sem α} {Q Q':α->Shared->Prop} {M:Model} {A:Around} {E:Value->Shared->Prop} {s:Shared} (h:wpAny M A t Q (fun _ _=>False) s) (hQ:∀a s,Q a s->Q' a s):wpAny M A t Q' E s:=wpAny_mono h hQ fun _ _ z=>z.elim
noncomputable def QQ (wi:TI) (tt:TT) (te:TE):TE:=fun σ H Q=>wi σ H fun J H1=>∀D,H1 D=none->∃W:Nat->Nat->List V->Hp->Prop,(∃m,W 0 m [] (upd H1 D (.lst [])))/\∀i m ys H2,W i m ys H2 ->
 H2 D=some (.lst ys)/\((J.stop i H2/\Q (.ref D) H2)\/(J.go i H2/\ys.length < sizeLine/\∀x H3,J.yld i H2 x H3->tt (σ++[some x]) H3 fun b H4=>if b=true then te (σ++[some x]) H4 fun y H5=>H5 D=some (.lst ys)/\∃m',m' < m/\W (i+1) m' (ys++[y]) (upd H5 D (.lst (ys++[y])))
  else ∃m',m' < m/\W (i+1) m' ys H4))
structure IV (N Nc:List Str) (x:Str) (sc fsc:Scope):Prop where
 kind:sc.kind=.function
 cell:∀y∈sc.names,y.2≠.cell
 nm:∀y∈sc.names,y.2=.local->sc.names.lookup y.1=some .local
 own:sc.names.lookup x=some .local
 fr:∀y∈sc.names,y.2=.free->fsc.names.lookup y.1=some .cell\/fsc.names.lookup y.1=some .free
 len:Nc.length=N.length+1
 nd:Nc.Nodup
 last:Nc[N.length]?=some x
 slot:((List.range N.length).all fun i=>match Nc[i]? with
  | some y=>(match sc.names.lookup y with | some .free=>N[i]? == some y | some .local=>false | some .cell=>false | _=>true)
  | none=>true)=true
theorem IV.at {N Nc:List Str} {x:Str} {sc fsc:Scope} (C:IV N Nc x sc fsc) {i:Nat} {y:Str} (hi:i < N.length) (h:Nc[i]?=some y):sc.names.lookup y≠some .local/\sc.names.lookup y≠some .cell/\(sc.names.lookup y=some .free->N[i]?=some y):=by
 have q:=all_eq_true.mp C.slot i (mem_range.mpr hi)
 rw [h] at q
 dsimp only at q
 cases e:sc.names.lookup y with
 | none=>exact ⟨fun z=>(nomatch z),fun z=>(nomatch z),fun z=>(nomatch z)⟩
 | some k =>
   rw [e] at q
   cases k with
   | «local»=>exact absurd (show false=true from q) Bool.false_ne_true
   | cell=>exact absurd (show false=true from q) Bool.false_ne_true
   | free=>exact ⟨fun z=>(nomatch z),fun z=>(nomatch z),fun _=>by simpa using q⟩
   | _=>exact ⟨fun z=>(nomatch z),fun z=>(nomatch z),fun z=>(nomatch z)⟩
section
variable {X:Cx} {elt iter:Expr} {x:Str} {px pos:Pos} {ifs:List Expr} {sc fsc:Scope} {N Nc:List Str} {wi:TI} {tt:TT} {te:TE}
structure RG (X:Cx) (pins:List (Addr × Obj)) (H:Hp) (C:Addr):Prop where
 free:H C=none
 ne:C≠X.env.locals
 new:X.s₀.heap.objs.size<=C
 cells:∀x c,X.env.cells.lookup x=some c->c≠C
 pins:∀p∈X.pn++pins,p.1≠C
theorem Inv.sameBut {pins:List (Addr × Obj)} {σ:St} {H:Hp} {s:Shared} {C:Addr} {h':Heap} (I:Inv X pins σ H s) (c:RG X pins H C) (k:Heap.SameBut C s.heap h'):Inv X pins σ H { s with heap:=h' } :=
 I.turned (t':=s.toks) (it:=C) (fun b o hb e=>(k.2 b hb).trans e) c.free c.ne (.inr c.new) c.cells c.pins
theorem P2 {σ:St} {o v:Option V}:(σ++[o]).set σ.length v=σ++[v]:=by
 rw [set_append_right _ _ (Nat.le_refl _),Nat.sub_self]
 rfl
end
theorem BN {lo:Int} {n:Nat} {tt:TT} {te:TE} {σ:St} {H1:Hp} {Q:Addr->Hp->Prop} (hn:n<=sizeLine) (Pv:Addr->Nat->List V->Hp->Prop)
 (h0:∀D,H1 D=none->Pv D 0 [] (upd H1 D (.lst []))) (hD:∀D i ys H,Pv D i ys H->H D=some (.lst ys)/\ys.length<=i)
 (hs:∀D i ys H (K1:VK) (K2:Hp->Prop),H1 D=none->i < n->Pv D i ys H->(∀y H5,H5 D=some (.lst ys)->Pv D (i+1) (ys++[y]) (upd H5 D (.lst (ys++[y])))->K1 y H5)->(∀H4,Pv D (i+1) ys H4->K2 H4) ->
  tt (σ++[some (.int (lo+i))]) H fun b H4=>if b=true then te (σ++[some (.int (lo+i))]) H4 K1 else K2 H4)
 (hd:∀D ys H,H1 D=none->Pv D n ys H->Q D H) :
 ∀D,H1 D=none->∃W:Nat->Nat->List V->Hp->Prop,(∃m,W 0 m [] (upd H1 D (.lst [])))/\∀i m ys H2,W i m ys H2 ->
  H2 D=some (.lst ys)/\(((Itr lo n).stop i H2/\Q D H2)\/((Itr lo n).go i H2/\ys.length < sizeLine/\∀x H3,(Itr lo n).yld i H2 x H3->tt (σ++[some x]) H3 fun b H4=>if b=true then te (σ++[some x]) H4 fun y H5=>H5 D=some (.lst ys)/\∃m',m' < m/\W (i+1) m' (ys++[y]) (upd H5 D (.lst (ys++[y])))
   else ∃m',m' < m/\W (i+1) m' ys H4)):=by
 intro D hDn
 refine ⟨fun i m ys H=>m=n - i/\i<=n/\Pv D i ys H,⟨n,rfl,Nat.zero_le _,h0 D hDn⟩,?_⟩
 rintro i m ys H2 ⟨rfl,hi,p⟩
 obtain ⟨e,l⟩:=hD D i ys H2 p
 refine ⟨e,?_⟩
 by_cases hlt:i < n
 ·refine .inr ⟨hlt,Nat.lt_of_le_of_lt l (Nat.lt_of_lt_of_le hlt hn),fun x H3 y=>?_⟩
  obtain ⟨e1,e2⟩:=y
  subst e1 e2
  exact hs D i ys _ _ _ hDn hlt p (fun y H5 h5 p5=>⟨h5,n - (i+1),by omega,rfl,hlt,p5⟩) fun H4 p4=>⟨n - (i+1),by omega,rfl,hlt,p4⟩
 ·have ei:i=n:=by omega
  subst ei
  exact .inl ⟨Nat.le_refl _,hd D ys H2 hDn p⟩
theorem BQ {K:PySem.W.Frag} {a:Addr} {xs:List V} {tt:TT} {te:TE} {σ:St} {H1:Hp} {Q:Addr->Hp->Prop} (hn:xs.length<=sizeLine) (Pv:Addr->Nat->List V->Hp->Prop)
 (h0:∀D,H1 D=none->Pv D 0 [] (upd H1 D (.lst []))) (hD:∀D i ys H,Pv D i ys H->H D=some (.lst ys)/\ys.length<=i) (hl:∀D i ys H,H1 D=none->Pv D i ys H->SqL K H a xs)
 (hs:∀D i x ys H (K1:VK) (K2:Hp->Prop),H1 D=none->xs[i]?=some x->Pv D i ys H->(∀y H5,H5 D=some (.lst ys)->Pv D (i+1) (ys++[y]) (upd H5 D (.lst (ys++[y])))->K1 y H5)->(∀H4,Pv D (i+1) ys H4->K2 H4) ->
  tt (σ++[some x]) H fun b H4=>if b=true then te (σ++[some x]) H4 K1 else K2 H4)
 (hd:∀D ys H,H1 D=none->Pv D xs.length ys H->Q D H) :
 ∀D,H1 D=none->∃W:Nat->Nat->List V->Hp->Prop,(∃m,W 0 m [] (upd H1 D (.lst [])))/\∀i m ys H2,W i m ys H2 ->
  H2 D=some (.lst ys)/\(((Itl K a).stop i H2/\Q D H2)\/((Itl K a).go i H2/\ys.length < sizeLine/\∀x H3,(Itl K a).yld i H2 x H3->tt (σ++[some x]) H3 fun b H4=>if b=true then te (σ++[some x]) H4 fun y H5=>H5 D=some (.lst ys)/\∃m',m' < m/\W (i+1) m' (ys++[y]) (upd H5 D (.lst (ys++[y])))
   else ∃m',m' < m/\W (i+1) m' ys H4)):=by
 intro D hDn
 refine ⟨fun i m ys H=>m=xs.length - i/\i<=xs.length/\Pv D i ys H,⟨xs.length,rfl,Nat.zero_le _,h0 D hDn⟩,?_⟩
 rintro i m ys H2 ⟨rfl,hi,p⟩
 obtain ⟨e,l⟩:=hD D i ys H2 p
 have q:=hl D i ys H2 hDn p
 refine ⟨e,?_⟩
 by_cases hlt:i < xs.length
 ·refine .inr ⟨⟨xs,xs[i],q,by simp [hlt]⟩,Nat.lt_of_le_of_lt l (Nat.lt_of_lt_of_le hlt hn),fun x H3 y=>?_⟩
  obtain ⟨e1,y⟩:=y
  subst e1
  exact hs D i x ys _ _ _ hDn (y xs q) p (fun y H5 h5 p5=>⟨h5,xs.length - (i+1),by omega,rfl,hlt,p5⟩) fun H4 p4=>⟨xs.length - (i+1),by omega,rfl,hlt,p4⟩
 ·have ei:i=xs.length:=by omega
  subst ei
  exact .inl ⟨⟨xs,q,Nat.le_refl _⟩,hd D ys H2 hDn p⟩
section
variable {X:Cx}
theorem Hd (K:PySem.W.Frag) (h:X.K=K:=by rfl):IxR X (RX K):=by subst h;exact AI
theorem GE (K:PySem.W.Frag) (h:X.K=K:=by rfl):IxR X (S0 K):=by subst h;exact B8
end
end L2
namespace L2
open PySem PySem.Spec PyProof.Rows
section
variable {X:Cx}
noncomputable def SQ (K:PySem.W.Frag):R2:=fun x y H Q=>∃(a b:Addr) (ns ms:List Int),x=.ref a/\y=.ref b/\SqL K H a (ns.map V.int)/\SqL K H b (ms.map V.int)/\Q (.bl (!decide (ns=ms))) H
theorem RE (hu:X.A.units+64 < cLine):OpR X (compareOp .NotEq) (SQ X.K):=by
 intro pins s σ H x y v u Q I rx ry h
 obtain ⟨a,b,ns,ms,rfl,rfl,ha,hb,q⟩:=h
 cases rx
 cases ry
 obtain ⟨its,rv,ht,_⟩:=I.list ha
 obtain ⟨its2,rv2,ht2,_⟩:=I.list hb
 exact PySem.W.ne_intsK ht.isList (BW rv) ht2.isList (BW rv2) hu ⟨.bl _,H,I,rfl,q⟩
theorem FC (hc:X.calm=true):Dg X (.builtin "sum") (fun xs H Q=>∃(p:Addr) (ns:List Int),xs=[.ref p]/\SqL X.K H p (ns.map V.int)/\Q (.int ns.sum) H):=by
 intro pins s σ H xs us Q I rv h
 obtain ⟨p,ns,rfl,hS,q⟩:=h
 obtain ⟨u,rfl,r⟩:=FF rv
 cases r
 obtain ⟨its,rv,pl,hz⟩:=I.list hS
 have hi:=BW rv
 obtain ⟨xs,e⟩:=hi.allInts.items
 have en:xs.toList.map (·.1)=ns:=by
  have:=nums_intItems xs
  rw [<- e,show its.toArray.toList=its from rfl,hi.numsOf] at this
  exact this.symm
 refine sum_intListG (I.ok.hd hc) (by rw [<- e];exact pl.isList) fun h' tk t' hk=>?_
 rw [preSum_eq,take_of_length_le (by simp),en]
 exact ⟨.int ns.sum,H,I.kept hk,⟨_,rfl⟩,q⟩
theorem Qu:MtR X "int.bit_length" (fun x xs H Q=>∃i:Int,x=.int i/\xs=[]/\Q (.int (Builtin.Int.intBits i:Nat)) H):=by
 intro pins s σ H x xs v us Q I rx rv h
 obtain ⟨i,rfl,rfl,q⟩:=h
 obtain ⟨t,rfl⟩:=rx
 cases rv
 exact call_int_bit_length ⟨.int _,H,I.tok _,⟨_,rfl⟩,q⟩
end
theorem EM {xs:List V} {j:Nat}:Ik xs none (some (j:Int))=xs.take j:=by
 unfold Ik
 rw [HT.sIx_none,HT.sIx_nat,drop_zero,Nat.sub_zero]
 by_cases h:j<=xs.length
 ·rw [Nat.min_eq_left h]
 ·rw [Nat.min_eq_right (by omega),take_of_length_le (Nat.le_refl _),take_of_length_le (by omega)]
end L2
namespace L2
open PySem PySem.Spec PyProof.Rows
noncomputable def Rec (h:Heap) (e:Addr) (cls:Value) (od T:Option Addr) (fl:Value):Prop :=
 ∃oe vs,h.get? e=some oe/\oe.cls=cls/\oe.dict=od/\oe.data=.fields vs/\vs[2]?=some .none /\
  match T with
  | none=>vs[1]?=some .none
  | some t=>vs[1]?=some (.ref t)/\t≠e/\∃oT ts,h.get? t=some oT/\oT.data=.fields ts/\ts[3]?=some fl
structure Jr (fs xs:List Addr) (h h':Heap):Prop where
 keep:∀b o,h.get? b=some o->b ∉ fs->b ∉ xs->h'.get? b=some o
 slot:∀b o,h.get? b=some o->b∈fs->b ∉ xs->∃sl,h'.get? b=some { o with slots:=sl }
 there:∀b o,h.get? b=some o->∃o',h'.get? b=some o'
theorem Jr.any {fs xs:List Addr} {h h':Heap} (k:Jr fs xs h h') {b:Addr} {o:Obj} (e:h.get? b=some o) (n:b ∉ xs):∃sl,h'.get? b=some { o with slots:=sl }:=by
 by_cases hb:b∈fs
 ·exact k.slot b o e hb n
 ·exact ⟨o.slots,k.keep b o e hb n⟩
theorem Jr.mono {fs fs' xs xs':List Addr} {h h':Heap} (k:Jr fs xs h h') (hf:∀b∈fs,b∈fs') (hx:∀b∈xs,b∈xs'):Jr fs' xs' h h' :=
 ⟨fun b o e n m=>k.keep b o e (fun z=>n (hf b z)) fun z=>m (hx b z),fun b o e _ m=>k.any e fun z=>m (hx b z),k.there⟩
theorem Nk (f:Array Value->Array Value) (o:Obj):(Obj.mapFields f o).dict=o.dict:=by
 obtain ⟨c,d,dt,sl⟩:=o
 cases dt <;> rfl
section
variable {M:Model} {A:Around} {E:Value->Shared->Prop} {s:Shared} {env:Env} {outer:List Env} {L e:Addr} {base:Heap}
theorem JQ {oe:Obj} {vs:Array Value} {head:Value} {nx:Bool} {Q:Unit->Shared->Prop} (fr:A.frames=some (env :: outer)) (hl:s.heap.FunFrames base (env :: outer)) (hf:env.frame=some L)
 (he:s.heap.get? e=some oe) (hd:oe.data=.fields vs) (sz:1 < vs.size)
 (k:∀h' oT ts,Jr (frs (env :: outer)) [e] s.heap h'->h'.get? e=some (oe.mapFields (·.setIfInBounds 1 (.ref s.heap.objs.size)))->h'.get? s.heap.objs.size=some oT->oT.data=.fields ts->ts[3]?=some (rawInt L)->Q () { s with heap:=h' }) :
 wpAny M A (do let a <- frameOf env;let pl <- entryPlaceOf L nx;let b <- EntryCells.newEntry head a .none (rawInt L) .none pl;setField (.ref e) 1 b) Q E s:=by
 have ne:e ∉ frs (env :: outer):=fun hm=>by
  obtain ⟨_,o,ho,hn⟩:=hl.mem hm
  rw [he] at ho
  cases ho
  exact hn vs hd
 refine wpAny_bind (wpAny_frameOf_fun fr hl hf fun h₁ q=>?_)
 obtain ⟨q1,q2,q3⟩:=q
 refine wpAny_bind (wpAny_entryPlaceOf fun pl hp=>?_)
 simp only [EntryCells.newEntry,newFields]
 refine wpAny_bind (wpAny_newObj_type ?_ (hp.sizeOk5 _ _ _ _ _))
 rw [q1]
 generalize hT:({ cls:=.type "traceback",dict:=none,data:=.fields ([head,Value.ref L,.none,rawInt L,.none]++(if pl.isEmpty then List.replicate 6 Value.none else pl)).toArray }:Obj)=oT
 have e1:h₁.get? e=some oe:=(q2 e ne).trans he
 have e2:(h₁.push oT).get? e=some oe:=Heap.get?_push_of_some _ e1
 have lt:s.heap.objs.size≠e:=Nat.ne_of_gt (Heap.lt_size he)
 have hT0:(h₁.push oT).get? s.heap.objs.size=some oT:=by
  have:=Heap.get?_push_size h₁ (o:=oT) (by rw [<- hT];rfl)
  rw [q1] at this
  exact this
 refine wpAny_setField e2 hd sz ?_
 have d3:=Obj.data_mapFields hd (·.setIfInBounds 1 (Value.ref s.heap.objs.size))
 have oth:∀b o,b≠e->h₁.get? b=some o->((h₁.push oT).update e (Obj.mapFields (·.setIfInBounds 1 (Value.ref s.heap.objs.size)))).get? b=some o:=fun b o hb z=>by
  rw [Heap.get?_update_other _ _ (Ne.symm hb)]
  exact Heap.get?_push_of_some _ z
 have es:=Heap.get?_update_self (Obj.mapFields (·.setIfInBounds 1 (Value.ref s.heap.objs.size))) e2 (Obj.isFreed_of_fields d3)
 refine k _ oT _ ⟨fun b o z hb hx=>?_,fun b o z hb hx=>?_,fun b o z=>?_⟩ es ?_ (by rw [<- hT]) ?_
 ·exact oth b o (fun y=>hx (by rw [y];exact mem_singleton.mpr rfl)) ((q2 b hb).trans z)
 ·obtain ⟨sl,z1⟩:=q3 b o z
  exact ⟨sl,oth b _ (fun y=>hx (by rw [y];exact mem_singleton.mpr rfl)) z1⟩
 ·by_cases hb:b=e
  ·rw [hb];exact ⟨_,es⟩
  ·obtain ⟨sl,z1⟩:=q3 b o z
   exact ⟨_,oth b _ hb z1⟩
 ·rw [Heap.get?_update_other _ _ (Ne.symm lt)];exact hT0
 ·rcases hp with rfl | ⟨_,_,_,_,_,_,_,rfl⟩ <;> simp
theorem OA {cls:Value} {od T:Option Addr} {fl:Value} {Q:Unit->Shared->Prop} (fr:A.frames=some (env :: outer)) (hl:s.heap.FunFrames base (env :: outer)) (hf:env.frame=some L) (R:Rec s.heap e cls od T fl)
 (k:∀h' t,Rec h' e cls od (some t) (rawInt L)->(T=some t\/t=s.heap.objs.size)->Jr (frs (env :: outer)) (e :: T.toList) s.heap h'->Q () { s with heap:=h' }):wpAny M A (noteFrame (.ref e) env) Q E s:=by
 obtain ⟨oe,vs,he,hc,ho,hd,h2,hT⟩:=R
 have lt:s.heap.objs.size≠e:=Nat.ne_of_gt (Heap.lt_size he)
 unfold noteFrame
 simp only [hf]
 cases T with
 | none =>
   have h1:vs[1]?=some Value.none:=hT
   have sz:=(Array.getElem?_eq_some_iff.mp h1).1
   refine wpAny_bind (wpAny_field he hd h1 ?_)
   rw [if_neg (by decide)]
   refine JQ fr hl hf he hd sz fun h' oT ts kp e' t1 t2 t3=>k h' _ ?_ (.inr rfl) kp
   exact ⟨_,_,e',by rw [Obj.cls_mapFields];exact hc,by rw [Nk];exact ho,Obj.data_mapFields hd _,by rw [Array.getElem?_setIfInBounds_ne (by decide)];exact h2,by simp [sz],lt,oT,ts,t1,t2,t3⟩
 | some t =>
   obtain ⟨h1,ne,oT,ts,ht,hdt,h3⟩:=hT
   have sz:=(Array.getElem?_eq_some_iff.mp h1).1
   have sz3:=(Array.getElem?_eq_some_iff.mp h3).1
   refine wpAny_bind (wpAny_field he hd h1 ?_)
   rw [if_pos (show (Value.ref t != Value.none)=true from by simp)]
   refine wpAny_bind (wpAny_field ht hdt h3 ?_)
   by_cases hh:fl=rawInt L
   ·subst hh
    rw [if_pos (show (rawInt L == rawInt L)=true from by simp)]
    exact wpAny_pure (k s.heap t ⟨oe,vs,he,hc,ho,hd,h2,h1,ne,oT,ts,ht,hdt,h3⟩ (.inl rfl) ⟨fun _ _ z _ _=>z,fun _ o z _ _=>⟨o.slots,z⟩,fun _ o z=>⟨o,z⟩⟩)
   ·rw [if_neg (show ¬ ((fl == rawInt L)=true) from by simpa using hh)]
    refine wpAny_bind (wpAny_setField ht hdt sz3 ?_)
    have oth:∀b,b≠t->(s.heap.update t (Obj.mapFields (·.setIfInBounds 3 Value.none))).get? b=s.heap.get? b:=fun b hb=>Heap.get?_update_other _ _ (Ne.symm hb)
    have nf:∀b o,s.heap.get? b=some o->(∀vs,o.data≠.fields vs)->b≠t:=fun b o hb hnf q=>by
     rw [q,ht] at hb
     cases hb
     exact hnf ts hdt
    have ts':=Heap.get?_update_self (Obj.mapFields (·.setIfInBounds 3 Value.none)) ht (Obj.isFreed_of_fields (Obj.data_mapFields hdt _))
    have zs:(s.heap.update t (Obj.mapFields (·.setIfInBounds 3 Value.none))).objs.size=s.heap.objs.size:=by first | exact Heap.size_update _ _ _ | simp [Heap.update]
    refine JQ (s:={ s with heap:=s.heap.update t (Obj.mapFields (·.setIfInBounds 3 Value.none)) }) fr (hl.of_keeps fun b o hb hnf=>⟨o,(oth b (nf b o hb hnf)).trans hb,rfl⟩) hf ((oth e (Ne.symm ne)).trans he) hd sz
     fun h' oT' ts'' kp e' t1 t2 t3=>k h' _ ?_ (.inr zs) ?_
    ·rw [show ({ s with heap:=s.heap.update t (Obj.mapFields (·.setIfInBounds 3 Value.none)) }:Shared).heap.objs.size=s.heap.objs.size from zs] at *
     exact ⟨_,_,e',by rw [Obj.cls_mapFields];exact hc,by rw [Nk];exact ho,Obj.data_mapFields hd _,by rw [Array.getElem?_setIfInBounds_ne (by decide)];exact h2,by simp [sz],lt,oT',ts'',t1,t2,t3⟩
    ·refine ⟨fun b o z hb hx=>?_,fun b o z hb hx=>?_,fun b o z=>?_⟩
     ·have hbe:b≠e:=fun y=>hx (by rw [y];simp)
      have hbt:b≠t:=fun y=>hx (by rw [y];simp)
      exact kp.keep b o ((oth b hbt).trans z) hb (by simpa using hbe)
     ·have hbe:b≠e:=fun y=>hx (by rw [y];simp)
      have hbt:b≠t:=fun y=>hx (by rw [y];simp)
      exact kp.slot b o ((oth b hbt).trans z) hb (by simpa using hbe)
     ·by_cases hbt:b=t
      ·rw [hbt];exact kp.there t _ ts'
      ·exact kp.there b o ((oth b hbt).trans z)
theorem Lp {cls:Value} {od:Option Addr} {t:Addr} {fl:Value} {f:Option Addr} {Q:Unit->Shared->Prop} (R:Rec s.heap e cls od (some t) fl)
 (k:∀h',Rec h' e cls od (some t) (f.elim .none fun a=>rawInt a)->Jr [] [t] s.heap h'->Q () { s with heap:=h' }):wpAny M A (setFlight (.ref e) f) Q E s:=by
 obtain ⟨oe,vs,he,hc,ho,hd,h2,h1,ne,oT,ts,ht,hdt,h3⟩:=R
 have sz3:=(Array.getElem?_eq_some_iff.mp h3).1
 unfold setFlight
 refine wpAny_bind (wpAny_field he hd h1 ?_)
 rw [if_pos (show (Value.ref t != Value.none)=true from by simp)]
 have oth:∀b,b≠t->(s.heap.update t (Obj.mapFields (·.setIfInBounds 3 (f.elim .none fun a=>rawInt a)))).get? b=s.heap.get? b:=fun b hb=>Heap.get?_update_other _ _ (Ne.symm hb)
 have ts':=Heap.get?_update_self (Obj.mapFields (·.setIfInBounds 3 (f.elim .none fun a=>rawInt a))) ht (Obj.isFreed_of_fields (Obj.data_mapFields hdt _))
 refine wpAny_setField ht hdt sz3 (k _ ?_ ⟨fun b o z _ hx=>(oth b fun y=>hx (by rw [y];simp)).trans z,fun b o z _ hx=>⟨o.slots,(oth b fun y=>hx (by rw [y];simp)).trans z⟩,fun b o z=>?_⟩)
 ·exact ⟨oe,vs,(oth e (Ne.symm ne)).trans he,hc,ho,hd,h2,h1,ne,_,_,ts',Obj.data_mapFields hdt _,by simp [sz3]⟩
 ·by_cases hbt:b=t
  ·rw [hbt];exact ⟨_,ts'⟩
  ·exact ⟨o,(oth b hbt).trans z⟩
end
end L2
namespace L2
open PySem PySem.Spec PyProof.Rows
structure Jp (X:Cx) (pins:List (Addr × Obj)) (H:Hp) (b:Addr):Prop where
 un:H b=none
 new:X.s₀.heap.get? b=none
 loc:b≠X.env.locals
 cel:∀x c,X.env.cells.lookup x=some c->c≠b
 pin:∀p∈X.pn++pins,p.1≠b
noncomputable def Fly (X:Cx) (pins:List (Addr × Obj)) (H:Hp) (e:Addr) (cls:Value) (od:Option Addr) (s:Shared):Prop :=
 ∃T fl,Rec s.heap e cls od T fl/\∀b∈e :: T.toList,Jp X pins H b
noncomputable def NM (X:Cx) (pins:List (Addr × Obj)) (H:Hp) (e:Addr) (cls:Value) (od:Option Addr) (fl:Value) (s:Shared):Prop :=
 ∃t,Rec s.heap e cls od (some t) fl/\∀b∈[e,t],Jp X pins H b
structure Gc (X:Cx):Prop where
 stk:X.stack=X.env :: X.outer
 fr:X.env.frame=some X.env.locals
 ex:X.ex=[]
theorem HOk.there {P:Program} {w:World} {H:Hp} {h:Heap} {a:Addr} {o:HO} (k:HOk P w H h) (z:H a=some o):∃ob,h.get? a=some ob:=by
 have x:=k a o z
 cases o with
 | lst xs=>obtain ⟨_,_,_,_,e⟩:=x;exact ⟨_,e⟩
 | tup xs=>obtain ⟨_,_,_,ob,e,_⟩:=x;exact ⟨ob,e⟩
 | dK kvs=>obtain ⟨_,_,_,_,ob,_,_,e,_⟩:=x;exact ⟨ob,e⟩
 | dT kvs=>obtain ⟨_,_,_,_,ob,_,_,e,_⟩:=x;exact ⟨ob,e⟩
 | set S n=>obtain ⟨ob,_,_,_,e,_⟩:=x;exact ⟨ob,e⟩
 | ins C dx fs=>obtain ⟨_,_,_,e,_⟩:=x;exact ⟨_,e⟩
 | own y=>exact x
 | xd fs=>obtain ⟨_,⟨ob,_,_,e,_⟩,_⟩:=x;exact ⟨ob,e⟩
 | rng lo hi=>obtain ⟨_,_,_,e⟩:=x;exact ⟨_,e⟩
 | frz ob u=>obtain ⟨e,_⟩:=x;exact ⟨ob,e⟩
 | tbl ps=>exact ⟨_,(show h.get? a=some _ from x)⟩
 | met f y=>exact ⟨_,(show h.get? a=some _ from x)⟩
 | ext φ=>obtain ⟨_,e,_⟩:=x;exact e
section
variable {X:Cx} {pins:List (Addr × Obj)} {σ:St} {H:Hp} {s:Shared} {e:Addr} {cls:Value} {od:Option Addr}
theorem Inv.mine {b:Addr} (B:Gc X) (I:Inv X pins σ H s) (hb:s.heap.get? b=none):Jp X pins H b where
 un:=by
  cases z:H b with
  | none=>rfl
  | some o =>
    obtain ⟨ob,y⟩:=I.hok.there z
    rw [hb] at y;cases y
 new:=by
  cases z:X.s₀.heap.get? b with
  | none=>rfl
  | some o =>
    obtain ⟨ob,y⟩:=I.base.there b o z (by rw [B.ex];simp)
    rw [hb] at y;cases y
 loc:=fun z=>by
  obtain ⟨m,⟨o,_,_,y,_⟩,_⟩:=I.loc
  rw [<- z,hb] at y;cases y
 cel:=fun x c y z=>by
  obtain ⟨v,o,ho,_⟩:=I.cell x c y
  rw [z,hb] at ho;cases ho
 pin:=fun p hp z=>by
  have y:=(I.pin p hp).1
  rw [z,hb] at y;cases y
theorem Inv.kept2 {xs:List Addr} {h':Heap} (I:Inv X pins σ H s) (k:Jr (frs X.stack) xs s.heap h') (hx:∀b∈xs,Jp X pins H b):Inv X pins σ H { s with heap:=h' }:=by
 have tr:∀c w,H c=some w->c ∉ frs X.stack/\c ∉ xs:=fun c w z=>⟨fun y=>(by rw [I.stkFree c y] at z;cases z),fun y=>(by rw [(hx c y).un] at z;cases z)⟩
 have sub:∀b∈X.fs,b∈frs X.stack:=fun b hb=>by
  rcases I.ok.stk with z | ⟨z,_⟩
  ·rw [z];exact hb
  ·rw [z]
   unfold frs
   rw [filterMap_cons]
   split
   ·exact hb
   ·exact mem_cons_of_mem _ hb
 have nf:∀b,b∈frs X.stack->b ∉ X.fs->b=X.env.locals:=fun b hb hn=>by
  rcases mem_cons.mp (I.stkSub b hb) with z | z
  ·exact z
  ·exact absurd z hn
 refine ⟨I.ok,I.os,I.bare,⟨fun b o z n hb he=>?_,fun b o z n hb he=>?_,I.base.free,fun b o z he=>?_,I.base.tups,I.base.frzs,I.base.tbls⟩,?_,fun x c z=>?_,I.free,I.freeC,fun p hp=>?_,fun b u z=>?_,I.len⟩
 ·have y:=I.base.keep b o z n hb he
  have nx:b ∉ xs:=fun q=>by rw [(hx b q).new] at z;cases z
  refine k.keep b o y (fun q=>?_) nx
  have:=nf b q hb
  exact absurd (Nat.lt_of_lt_of_le (Heap.lt_size z) I.ok.above) (by rw [this];exact Nat.lt_irrefl _)
 ·obtain ⟨sl,y⟩:=I.base.slot b o z n hb he
  have nx:b ∉ xs:=fun q=>by rw [(hx b q).new] at z;cases z
  obtain ⟨sl',y'⟩:=k.any y nx
  exact ⟨sl',y'⟩
 ·obtain ⟨o',y⟩:=I.base.there b o z he
  exact k.there b o' y
 ·obtain ⟨m,⟨o,es,ep,ho,r⟩,hl⟩:=I.loc
  obtain ⟨sl,y⟩:=k.any ho fun q=>(hx _ q).loc rfl
  refine ⟨m,⟨_,es,ep,y,r⟩,fun i x v e1 e2 e3=>?_⟩
  obtain ⟨u,ru,l⟩:=hl i x v e1 e2 e3
  refine ⟨u,ru,?_⟩
  rcases l with l | ⟨kd,c,e,oc,hoc,hd⟩
  ·exact .inl l
  ·obtain ⟨sl,y⟩:=k.any hoc fun q=>(hx _ q).cel x c e rfl
   exact .inr ⟨kd,c,e,_,y,hd⟩
 ·obtain ⟨v,o,ho,hd⟩:=I.cell x c z
  obtain ⟨sl,y⟩:=k.any ho fun q=>(hx _ q).cel x c z rfl
  exact ⟨v,_,y,hd⟩
 ·obtain ⟨e,n,ne,nfs,d⟩:=I.pin p hp
  exact ⟨k.keep p.1 p.2 e (fun q=>ne (nf _ q nfs)) fun q=>(hx _ q).pin p hp rfl,n,ne,nfs,d⟩
 ·refine (I.hok b u z).stay (fun c v hc q=>?_) (fun _ q=>q) fun _ _ q=>q
  have t:∃w,H c=some w:=by
   rcases hc with y | y
   ·exact ⟨u,by rw [y];exact z⟩
   ·exact ⟨_,y⟩
  obtain ⟨w,t⟩:=t
  exact k.keep c v q (tr c w t).1 (tr c w t).2
theorem Inv.note {A:Around} {E:Value->Shared->Prop} {Q:Unit->Shared->Prop} (B:Gc X) (fr:A.frames=some X.stack) (I:Inv X pins σ H s) (F:Fly X pins H e cls od s)
 (k:∀s',Inv X pins σ H s'->NM X pins H e cls od (rawInt X.env.locals) s'->Q () s'):wpAny (model X.prog X.w) A (noteFrame (.ref e) X.env) Q E s:=by
 obtain ⟨T,fl,R,hm⟩:=F
 have st:=I.stack
 rw [B.stk] at st fr
 refine OA fr st B.fr R fun h' t R' ht kp=>k _ (I.kept2 (by rw [B.stk];exact kp) hm) ⟨t,R',fun b hb=>?_⟩
 rcases mem_cons.mp hb with z | z
 ·rw [z];exact hm e (by simp)
 ·have z':b=t:=by simpa using z
  rcases ht with y | y
  ·rw [z'];exact hm t (by rw [y];simp)
  ·exact I.mine B (by rw [z',y];exact Heap.get?_none_of_le (Nat.le_refl _))
theorem Inv.flight {A:Around} {E:Value->Shared->Prop} {Q:Unit->Shared->Prop} {fl:Value} {f:Option Addr} (I:Inv X pins σ H s) (F:NM X pins H e cls od fl s)
 (k:∀s',Inv X pins σ H s'->NM X pins H e cls od (f.elim .none fun a=>rawInt a) s'->Q () s'):wpAny (model X.prog X.w) A (setFlight (.ref e) f) Q E s:=by
 obtain ⟨t,R,hm⟩:=F
 refine Lp R fun h' R' kp=>k _ (I.kept2 (kp.mono (fun _ z=>absurd z (by simp)) fun b z=>z) fun b hb=>?_) ⟨t,R',hm⟩
 have z:b=t:=by simpa using hb
 rw [z];exact hm t (by simp)
theorem NM.fly {fl:Value} (F:NM X pins H e cls od fl s):Fly X pins H e cls od s:=by
 obtain ⟨t,R,hm⟩:=F
 exact ⟨some t,fl,R,hm⟩
theorem Jp.less {b:Addr} (m:Jp X pins H b):Jp X [] H b:=⟨m.un,m.new,m.loc,m.cel,fun p hp=>m.pin p (by rw [append_nil] at hp;exact mem_append_left _ hp)⟩
theorem Fly.less (F:Fly X pins H e cls od s):Fly X [] H e cls od s:=by
 obtain ⟨T,fl,R,hm⟩:=F
 exact ⟨T,fl,R,fun b hb=>(hm b hb).less⟩
theorem Inv.nopins (I:Inv X pins σ H s):Inv X [] σ H s:=I.pins_of fun _ z=>absurd z (by simp)
end
noncomputable def Lj (X:Cx) (W:St->XK) (ev:Value) (s:Shared):Prop:=∃σ H e cls od,ev=.ref e/\Inv X [] σ H s/\Fly X [] H e cls od s/\W σ cls od H
abbrev Cx.wants (X:Cx) (W:St->XK):Cx:=X.wish (Lj X W)
theorem QR {X:Cx} {W:St->XK} (B:Gc X):PassesOwn (model X.prog X.w) X.A X.env (Lj X W):=by
 rintro ev s ⟨σ,H,e,cls,od,rfl,I,F,w⟩
 unfold notedBy
 refine I.note B I.ok.frames F fun s1 I1 F1=>?_
 unfold cameBackBy
 obtain ⟨t,R,hm⟩:=id F1
 obtain ⟨oe,vs,he,_,_,hd,_,h1,_⟩:=R
 refine wpAny_bind (wpAny_field he hd h1 ?_)
 dsimp only
 rw [if_neg (show ¬ ((Value.ref t == Value.none)=true) from by simp)]
 refine I1.flight F1 fun s2 I2 F2=>?_
 exact ⟨σ,H,e,cls,od,rfl,I2,F2.fly,w⟩
noncomputable def CX1 (P:Program) (w:World):CXT:=fun outer H s E ev s'=>∃e cls od H' t,ev=.ref e/\s'.os=s.os/\AllBare s'.gens/\Un (frs outer) [] H H' s.heap s'.heap/\HOk P w H' s'.heap /\
 Rec s'.heap e cls od (some t) .none/\(∀b∈[e,t],H' b=none/\s.heap.get? b=none)/\E cls od H'
theorem KY {X:Cx} {P:Program} {w:World}:EA (CX1 P w) X E0:=by
 rintro _ _ _ _ _ _ _ ⟨_,_,_,_,_,_,_,_,_,_,_,_,z⟩
 exact z.elim
section
variable {X:Cx} {pins:List (Addr × Obj)} {σ:St} {H:Hp} {s s':Shared} {E:XK} {ev:Value}
theorem Inv.flew (B:Gc X) (I:Inv X pins σ H s) (h:CX1 X.prog X.w X.stack H s E ev s'):∃e cls od H',ev=.ref e/\Inv X pins σ H' s'/\Fly X pins H' e cls od s'/\E cls od H':=by
 obtain ⟨e,cls,od,H',t,rfl,os,bare,un,hok,R,hm,q⟩:=h
 have I':Inv X pins σ H' s':=I.call' (ch:=[]) os un hok bare fun _ z=>absurd z (by simp)
 refine ⟨e,cls,od,H',rfl,I',⟨some t,.none,R,fun b hb=>?_⟩,q⟩
 obtain ⟨m1,m2⟩:=hm b hb
 have q:=I.mine B m2
 exact ⟨m1,q.new,q.loc,q.cel,q.pin⟩
end
theorem Rt {P:Program} {w:World} {K:PySem.W.Frag} {mg:Str->Option Value} {base:Heap} {N:List Str} {qual:Str} {sc:Scope} {f:Addr} {cd:Value} {A:Around} {outer:List Env} {s:Shared} {H:Hp} {E:XK} {ev:Value} {s1:Shared}
 (h:Lj (Ip (CX1 P w) P w K mg base N qual sc f cd A outer s H E) (fun _=>E) ev s1):(Ip (CX1 P w) P w K mg base N qual sc f cd A outer s H E).xe ev s1:=by
 obtain ⟨σ,H1,e,cls,od,rfl,I,F,q⟩:=h
 show wpAny _ _ (leaving _ _) _ _ _
 unfold leaving
 have B:Gc (Ip (CX1 P w) P w K mg base N qual sc f cd A outer s H E):=⟨rfl,rfl,rfl⟩
 refine wpAny_bind (I.note B I.ok.frames F fun s2 I2 F2=>I2.flight F2 fun s3 I3 F3=>?_)
 obtain ⟨t,R,hm⟩:=F3
 exact ⟨e,cls,od,H1,t,rfl,I3.os,I3.bare,I3.base,I3.hok,R,fun b hb=>⟨(hm b hb).un,(hm b hb).new⟩,q⟩
theorem Fun.okX {P:Program} {w:World} {K:PySem.W.Frag} {mg:Str->Option Value} {base:Heap} {x qual:Str} {st:Stmt} {f:Addr} {fd:FuncData} {N ps:List Str} {k:Nat} {sp:Sp} (F:Fun K x qual st f fd) (S:AH N ps (Am st)) (len:∀vs H Q E,sp vs H Q E->vs.length=ps.length)
 (hbody:∀(cdv:Value) (A:Around) (outer:List Env) (s:Shared) (H:Hp) (vs:List V) (Q:VK) (E:XK),Cq k (A.deeper (envOfC qual (Am st) s.heap.objs.size f cdv))->sp vs H Q E ->
  ∃t,PSs ((Ip (CX1 P w) P w K mg base N qual (Am st) f cdv A outer s H E).wants fun _=>E) (FP st) t/\t { nx:=fun _ H'=>Q .non H',rt:=Q } (FG N vs) H):Bd P w K mg base (CX1 P w) (k+1) f fd ps sp:=by
 obtain ⟨oc,od,kV,doc,pm,an,cdv,ct,osl,rfl,lk,hcd⟩:=F.ex
 refine QJ lk hcd S len fun A outer s H vs Q E hr hsp=>?_
 obtain ⟨t,h,q⟩:=hbody cdv A outer s H vs Q E hr hsp
 refine ⟨t,fun pins s1 σ H1 D I hw=>?_,q⟩
 exact wpAny_mono (h pins s1 σ H1 D (I.wish _) hw) (fun _ _ z=>z.unwish) fun ev s2 z=>Rt z
noncomputable def Rb (sp:Sp) (dvs:List V) (W:St->XK) (t:TA):TE:=fun σ H Q=>t σ H fun vs H1=>sp (vs++dvs) H1 Q (W σ)
section
variable {X:Cx} {W:St->XK} {k:Nat} {f:Addr} {fd:FuncData} {ps:List Str} {sp:Sp} {dvs:List V} {ds:List Value} {x:Str} {p pos:Pos} {e:Expr} {es:List Expr} {t:TA}
theorem Ni {pins:List (Addr × Obj)} {σ:St} {H:Hp} {s:Shared} {Q:VK} {us:List Value} {vs:List V} (B:Gc X) (F:Bd X.prog X.w X.K X.mg X.base (CX1 X.prog X.w) k f fd ps sp) (hr:Cq k X.A) (hb:AU X.K fd ps ds) (hd:AX dvs ds)
 (I:Inv (X.wants W) pins σ H s) (r:AX vs us) (h:sp (vs++dvs) H Q (W σ)):wpAny (model X.prog X.w) X.A (call (.ref f) us) (EP (X.wants W) pins σ Q) (Lj X W) s:=by
 have r2:AX (vs++dvs) (us++ds):=r.append hd
 have hl:(us++ds).length=ps.length:=by rw [<- r2.length];exact F.len _ _ _ _ h
 refine wpAny_call (codeAny_mono (F.run X.A X.stack s H ⟨us,[]⟩ (us++ds) (vs++dvs) Q (W σ) hr I.unwish.env0 (hb s us I.kIn hl) r2 h) fun r s' hq=>?_)
 cases r with
 | error ev =>
   obtain ⟨e,cls,od,H',rfl,I',F',q⟩:=I.unwish.flew B hq
   exact ⟨σ,H',e,cls,od,rfl,I'.nopins,F'.less,q⟩
 | ok fl =>
   cases fl with
   | ret u=>exact I.after hq
   | next=>exact False.elim hq
   | brk=>exact False.elim hq
   | cont=>exact False.elim hq
theorem Ky (B:Gc X) (F:Bd X.prog X.w X.K X.mg X.base (CX1 X.prog X.w) k f fd ps sp) (hr:Cq k X.A) (hg:Gl X x) (hm:X.mg x=some (.ref f)) (hk:PySem.W.keepIn X.K (.ref f)=true) (hb:AU X.K fd ps ds) (hd:AX dvs ds)
 (ha:PA (X.wants W) (e :: es) t) (hdb:(x == ("__debug__":Str))=false:=by decide) (he:starEach (e :: es) X.env=(false,eval e X.env) :: starEach es X.env:=by rfl) (hpl:(backTo pos (starEach es X.env)).any (·.1)=false:=by rfl) :
 PE (X.wants W) (.Call (.Name x p) (e :: es) [] pos) (Rb sp dvs W t):=by
 intro pins s σ H Q I h
 refine wpAny_Call_Name_kw (DY I hg hm ?_ hdb)
 refine PySem.W.callWith_K (h₀:=X.base) I.ok.mod.kin hk (thn (ha pos pins s σ H _ I h) fun us s1 ⟨vs,H1,I1,r,q⟩=>⟨I1.kIn,?_⟩) he hpl
 exact Ni B F hr hb hd I1 r q
end
end L2
namespace L2
open PySem PySem.Spec PyProof.Rows
abbrev Fp:List Value:=[.type "ValueError",.type "Exception",.type "BaseException",.type "object"]
abbrev LC (K:PySem.W.Frag) (C:Addr):Prop:=PySem.W.excIn K C Fp "ValueError.__new__"=true
theorem Nr {K:PySem.W.Frag} {h:Heap} {C:Addr} (X:K.In h) (q:LC K C):∃bm N nm qn bs hd sn sub ab col dd k0 k1 k2 k3 k5 mN,
 h.get? C=some (excClassObj nm qn C N bs bm hd sn sub ab col dd k0 k1 k2 k3 k5 "ValueError.__new__")/\h.Ns N mN/\mN "__init__"=none/\OwnTail h Fp bm:=by
 unfold LC PySem.W.excIn at q
 split at q
 ·rename_i d1 c1 s1 look
  split at q
  ·rename_i C1 bm j0 j1 j2 j3 n1 j5 e1 e2
   simp only [Bool.and_eq_true,beq_iff_eq,Bool.not_eq_true'] at q
   obtain ⟨⟨⟨⟨⟨r1,r2⟩,r3⟩,r4⟩,r5⟩,r6⟩:=q
   subst r1 r2
   obtain ⟨nm,bs,mro,ns,qn,hd,sn,sub,ab,col,del⟩:=c1
   dsimp only at e1 r3 r5 r6
   subst e1 r3
   have es:s1=#[j0,j1,j2,j3,some (.builtin "ValueError.__new__"),j5]:=Array.toList_inj.mp (by rw [e2])
   subst es
   exact ⟨bm,ns,nm,qn,bs,hd,sn,sub,ab,col,d1,j0,j1,j2,j3,j5,_,X _ _ look,.of_isNs (PySem.W.isNs_of_in X r5),PySem.W.nsMap_none_of_in X r5 r6,PySem.W.tail_of_in X r4⟩
  ·exact absurd q Bool.false_ne_true
 ·exact absurd q Bool.false_ne_true
noncomputable def QU (C:Addr) (W:St->XK) (t:TA):TS:=fun _ σ H=>t σ H fun vs H1=>vs.length<=sizeLine/\W σ (.ref C) none H1
section
variable {X:Cx} {W:St->XK} {C:Addr} {x:Str} {p cpos pos:Pos} {e:Expr} {es:List Expr} {t:TA}
theorem Inv.raised {pins:List (Addr × Obj)} {σ:St} {H:Hp} {s:Shared} {h':Heap} {a:Addr} {us:List Value} (B:Gc X) (I:Inv X pins σ H s) (m:Heap.MadeExcOf s.heap h' a (.ref C) us) (w:W σ (.ref C) none H) :
 Lj X W (.ref a) { s with heap:=h' }:=by
 obtain ⟨t,m1,_,_⟩:=m.there
 refine ⟨σ,H,a,.ref C,none,rfl,(I.kept m.keeps).nopins,⟨none,.none,⟨_,_,m1,rfl,rfl,rfl,rfl,rfl⟩,fun b hb=>?_⟩,w⟩
 have z:b=a:=by simpa using hb
 have q:=I.nopins.mine B m.new
 rw [z]
 exact q
theorem GN (B:Gc X) (hc:X.calm=true) (hg:Gl X x) (hm:X.mg x=some (.ref C)) (q:LC X.K C) (ha:PA (X.wants W) (e :: es) t) (hdb:(x == ("__debug__":Str))=false:=by decide)
 (he:starEach (e :: es) X.env=(false,eval e X.env) :: starEach es X.env:=by rfl) (hpl:(backTo cpos (starEach es X.env)).any (·.1)=false:=by rfl) :
 PS (X.wants W) (.Raise (some (.Call (.Name x p) (e :: es) [] cpos)) none pos) (QU C W t):=by
 intro pins s σ H D I h
 obtain ⟨bm,N,nm,qn,bs,hd,sn,sub,ab,col,dd,k0,k1,k2,k3,k5,mN,hC,hN,hni,TL⟩:=Nr I.ok.mod.kin q
 refine wpAny_Raise_call_subT (C:=C) (nm:=nm) (q:=qn) (N:=N) (bs:=bs) (bm:=bm) (hdct:=hd) (sn:=sn) (sub:=sub) (ab:=ab) (col:=col) (dd:=dd) (k0:=k0) (k1:=k1) (k2:=k2) (k3:=k3) (k5:=k5) (mN:=mN)
  PySem.F.excBase_ValueError (TL.hasType PySem.F.excBase_ValueError.hasBase) (I.ok.hd hc) (by show (backTo cpos (starEach (e :: es) X.env)).any (·.1)=false;rw [he];show (false || (backTo cpos (starEach es X.env)).any (·.1))=false;rw [hpl];rfl) hni (DY I hg hm ⟨rfl,?_⟩ hdb)
 have hA:=ha cpos pins s σ H _ I h
 rw [he] at hA ⊢
 refine Calls.evalArgs_plain (thn hA fun us s1 ⟨vs,H1,I1,r,lv,w⟩=>?_)
 refine ⟨rfl,?_,I1.bk _ _ hC,hN.keeps I1.bk,TL.keeps I1.bk,fun h' a m=>I1.unwish.raised B m w⟩
 show us.length<=sizeLine
 rw [<- r.length];exact lv
end
noncomputable def KK (e:Addr) (cls:Value) (od:Option Addr):Heap->Prop:=fun h=>∃oe vs,h.get? e=some oe/\oe.cls=cls/\oe.dict=od/\oe.data=.fields vs/\vs[2]?=some .none
abbrev hoX (e:Addr) (cls:Value) (od:Option Addr):HO:=.ext (KK e cls od)
theorem KK.ok {P:Program} {w:World} {H:Hp} {h:Heap} {e:Addr} {cls:Value} {od:Option Addr} (x:KK e cls od h):Bk P w H h e (hoX e cls od):=by
 refine ⟨x,?_,fun h1 h2 y k=>?_⟩
 ·obtain ⟨oe,_,z,_⟩:=x;exact ⟨oe,z⟩
 ·obtain ⟨oe,vs,z,r⟩:=y;exact ⟨oe,vs,k _ z,r⟩
section
variable {X:Cx} {pins:List (Addr × Obj)} {σ:St} {H:Hp} {s:Shared} {e:Addr} {cls:Value} {od:Option Addr}
theorem Inv.track {o:HO} (I:Inv X pins σ H s) (m:Jp X pins H e) (ok:Bk X.prog X.w (upd H e o) s.heap e o):Inv X pins σ (upd H e o) s:=by
 have nt:∀b u,H b=some u->b≠e:=fun b u z=>Bt z m.un
 refine ⟨I.ok,I.os,I.bare,⟨I.base.keep,I.base.slot,fun b ob z n hx=>?_,I.base.there,fun b xs z=>?_,fun b ob u z=>?_,fun b ps z=>?_⟩,I.loc,I.cell,?_,fun x c z=>?_,fun p hp=>?_,fun b u z=>?_,I.len⟩
 ·rw [A8 fun y=>by rw [y,m.new] at z;cases z]
  exact I.base.free b ob z n hx
 ·have y:=I.base.tups b xs z
  rw [A8 (nt b _ y)];exact y
 ·have y:=I.base.frzs b ob u z
  rw [A8 (nt b _ y)];exact y
 ·obtain ⟨more,y⟩:=I.base.tbls b ps z
  exact ⟨more,by rw [A8 (nt b _ y)];exact y⟩
 ·rw [A8 (Ne.symm m.loc)];exact I.free
 ·rw [A8 (m.cel x c z)];exact I.freeC x c z
 ·obtain ⟨z,n,r⟩:=I.pin p hp
  exact ⟨z,by rw [A8 (m.pin p hp)];exact n,r⟩
 ·by_cases hb:b=e
  ·subst hb;rw [Ag] at z;cases z;exact ok
  ·rw [A8 hb] at z
   exact (I.hok b u z).stay (fun c v _ y=>y) (fun c y=>by rw [A8 (nt c _ y)];exact y) fun c xs y=>by rw [A8 (nt c _ y)];exact y
end
abbrev Cx.suite (X:Cx) (e:Addr):Cx:={ X with A:=X.A.mark (some (.ref e)),calm:=false,xe:=fun _ _=>False }
theorem Inv.suite {X:Cx} {pins:List (Addr × Obj)} {σ:St} {H:Hp} {s:Shared} (I:Inv X pins σ H s) (e:Addr):Inv (X.suite e) pins σ H s :=
 ⟨⟨I.ok.mod,I.ok.kind,I.ok.glob,I.ok.blt,I.ok.above,I.ok.inj,I.ok.has,I.ok.cab,(fun z=>absurd (show false=true from z) Bool.false_ne_true),I.ok.frames,I.ok.stk,I.ok.exf,I.ok.bs,I.ok.bsz,I.ok.noex,I.ok.exfs,I.ok.funs,I.ok.frf⟩,I.os,I.bare,I.base,I.loc,I.cell,I.free,I.freeC,I.pin,I.hok,I.len⟩
theorem Inv.unsuite {X:Cx} {pins:List (Addr × Obj)} {σ:St} {H:Hp} {s:Shared} {e:Addr} (ok:X.Ok) (I:Inv (X.suite e) pins σ H s):Inv X pins σ H s :=
 ⟨ok,I.os,I.bare,I.base,I.loc,I.cell,I.free,I.freeC,I.pin,I.hok,I.len⟩
abbrev Cx.pin (X:Cx) (pins:List (Addr × Obj)):Cx:={ X with pn:=X.pn++pins }
theorem Cx.Ok.pin {X:Cx} (ok:X.Ok) (pins:List (Addr × Obj)):(X.pin pins).Ok :=
 ⟨ok.mod,ok.kind,ok.glob,ok.blt,ok.above,ok.inj,ok.has,ok.cab,ok.hd,ok.frames,ok.stk,ok.exf,ok.bs,ok.bsz,ok.noex,ok.exfs,ok.funs,ok.frf⟩
theorem Inv.pnd {X:Cx} {pins:List (Addr × Obj)} {σ:St} {H:Hp} {s:Shared} (I:Inv X pins σ H s):Inv (X.pin pins) [] σ H s :=
 ⟨I.ok.pin pins,I.os,I.bare,I.base,I.loc,I.cell,I.free,I.freeC,fun p hp=>I.pin p (by rw [append_nil] at hp;exact hp),I.hok,I.len⟩
theorem Inv.unpnd {X:Cx} {pins:List (Addr × Obj)} {σ:St} {H:Hp} {s:Shared} (ok:X.Ok) (I:Inv (X.pin pins) [] σ H s):Inv X pins σ H s :=
 ⟨ok,I.os,I.bare,I.base,I.loc,I.cell,I.free,I.freeC,fun p hp=>I.pin p (by rw [append_nil];exact hp),I.hok,I.len⟩
theorem Fly.unpinned {X:Cx} {pins:List (Addr × Obj)} {H:Hp} {s:Shared} {e:Addr} {cls:Value} {od:Option Addr} (F:Fly (X.pin pins) [] H e cls od s):Fly X pins H e cls od s:=by
 obtain ⟨T,fl,R,hm⟩:=F
 exact ⟨T,fl,R,fun b hb=>let m:=hm b hb;⟨m.un,m.new,m.loc,m.cel,fun p hp=>m.pin p (by rw [append_nil];exact hp)⟩⟩
abbrev TH:=Value->Option Addr->TS
noncomputable def PH (X:Cx) (hs:List ExceptHandler) (th:TH):Prop:=∀(pins:List (Addr × Obj)) (s:Shared) (σ:St) (H:Hp) (D:Gi) (e:Addr) (cls:Value) (od:Option Addr),Inv X pins σ H s->NM X pins H e cls od .none s->th cls od D σ H ->
 wpAny (model X.prog X.w) X.A (handleBy (.ref e) X.env hs) (SP X pins D) X.xe s
noncomputable def SO (tb:(St->XK)->TS) (th:TH):TS:=fun D σ H=>tb (fun σ' cls od H'=>th cls od D σ' H') D σ H
theorem Rw {X:Cx} {body:List Stmt} {h₀:ExceptHandler} {hs:List ExceptHandler} {pos:Pos} {tb:(St->XK)->TS} {th:TH} (B:Gc X) (hb:∀pins W,PSs ((X.pin pins).wants W) body (tb W)) (hh:PH X (h₀ :: hs) th) :
 PS X (.Try body (h₀ :: hs) [] [] pos) (SO tb th):=by
 intro pins s σ H D I h
 have un:∀f s',SP ((X.pin pins).wants fun σ' cls od H'=>th cls od D σ' H') [] D f s'->SP X pins D f s':=fun f s' z=>by
  have z:=z.unwish
  cases f with
  | next=>obtain ⟨σ',H',J,q⟩:=z;exact ⟨σ',H',J.unpnd I.ok,q⟩
  | brk=>obtain ⟨σ',H',J,q⟩:=z;exact ⟨σ',H',J.unpnd I.ok,q⟩
  | cont=>obtain ⟨σ',H',J,q⟩:=z;exact ⟨σ',H',J.unpnd I.ok,q⟩
  | ret u=>obtain ⟨v,σ',H',J,r,q⟩:=z;exact ⟨v,σ',H',J.unpnd I.ok,r,q⟩
 refine wpAny_Try_except (wpAny_mono (hb pins (fun σ' cls od H'=>th cls od D σ' H') [] s σ H D (I.pnd.wish _) h) (fun f s1 z=>?_) fun ev s1 z=>?_)
 ·cases f with
  | next=>exact wpAny_execs_nil (un .next s1 z)
  | brk=>exact un _ s1 z
  | cont=>exact un _ s1 z
  | ret u=>exact un _ s1 z
 ·obtain ⟨σ1,H1,e,cls,od,rfl,J,F,q⟩:=z
  have J':=J.unpnd I.ok
  refine J'.note B J'.ok.frames F.unpinned fun s2 I2 F2=>I2.flight F2 fun s3 I3 F3=>?_
  exact hh pins s3 σ1 H1 D e cls od I3 F3 q
structure CP (K:PySem.W.Frag) (C:Addr):Prop where
 ty:PySem.W.typeIn K (.ref C)=some (.type "type")
 ex:PySem.W.mroIn K C (.type "BaseException")=some true
theorem CP.isTy {K:PySem.W.Frag} {C:Addr} (c:CP K C) {M:Model} {h:Heap} (X:K.In h):PySem.W.Looks M h (isType (.ref C)) true:=by
 obtain ⟨cd,h1,_⟩:=Option.bind_eq_some_iff.mp c.ex
 unfold PySem.W.clsIn at h1
 split at h1
 ·rename_i look
  intro A Q E s k q
  unfold isType loadHead
  exact wpAny_bind (wpAny_loadPart (k _ _ (X _ _ look)) (wpAny_pure q))
 ·cases h1
theorem NT {K:PySem.W.Frag} {M:Model} {A:Around} {E:Value->Shared->Prop} {s:Shared} {e C:Addr} {cls:Value} {b:Bool} {Q:Bool->Shared->Prop} (X:K.In s.heap) (c:CP K C) (he:∃oe,s.heap.get? e=some oe/\oe.cls=cls)
 (hs:PySem.W.subIn K cls (.ref C)=some b) (h:Q b s):wpAny M A (excMatches (.ref e) (.ref C)) Q E s:=by
 obtain ⟨oe,e1,e2⟩:=he
 have L2:PySem.W.Looks M s.heap (isExcClass (.ref C)) true:=by
  unfold isExcClass
  refine (c.isTy X).andThen ?_
  simp only [if_true]
  exact PySem.W.looks_mroIn X c.ex
 have L3:PySem.W.Looks M s.heap (typeOf (.ref e)) cls:=e2 ▸ (PySem.W.Looks.ld e1).andThen .now
 have L4:PySem.W.Looks M s.heap (isSubtype cls (.ref C)) b:=PySem.W.looks_subIn X hs
 have LT:PySem.W.Looks M s.heap (isInstance (.ref C) (.type "tuple")) false:=(PySem.W.looks_typeIn X c.ty).andThen (PySem.W.Looks.of_pure tc_notTuple)
 obtain ⟨hp,g,d,tk,os⟩:=s
 unfold excMatches
 refine wpAny_bind (LT.at ?_)
 simp only [Bool.false_eq_true,if_false]
 refine wpAny_bind (wpAny_pure ?_)
 simp only [forIn_cons,forIn_nil]
 refine wpAny_bind (wpAny_bind (wpAny_bind (L2.at ?_)))
 simp only [Bool.not_true,Bool.false_eq_true,if_false]
 refine wpAny_pure (wpAny_pure (wpAny_bind (L3.at (wpAny_bind (wpAny_bind (wpAny_bind (L4.at ?_)))))))
 cases b with
 | true=>simp only [if_true];exact wpAny_pure (wpAny_pure (wpAny_pure h))
 | false=>simp only [Bool.false_eq_true,if_false];exact wpAny_pure (wpAny_pure (wpAny_pure h))
noncomputable def S1 (D:Gi) (i:Nat):Gi:={ nx:=fun σ H=>D.nx (σ.set i none) H,rt:=D.rt,bk:=fun σ H=>D.bk (σ.set i none) H,ct:=fun σ H=>D.ct (σ.set i none) H }
noncomputable def SW (K:PySem.W.Frag) (C:Addr) (i:Nat) (ts:Addr->TS) (tr:TH):TH:=fun cls od D σ H=>∃b,PySem.W.subIn K cls (.ref C)=some b /\
 if b=true then ∀e,H e=none->ts e (S1 D i) (σ.set i (some (.ref e))) (upd H e (hoX e cls od)) else tr cls od D σ H
section
variable {X:Cx} {pins:List (Addr × Obj)} {σ:St} {H:Hp} {s:Shared} {e C:Addr} {cls:Value} {od:Option Addr} {x n:Str} {i:Nat} {np pos:Pos} {b₀:Stmt} {suite:List Stmt} {rest:List ExceptHandler} {ts:TS} {tr:TH}
theorem Inv.forget {h':Heap} {v:Option Value} {m:Str->Option Value} {tk:Nat} (I:Inv X pins σ H s) (hN:X.N.Nodup) (hi:X.N[i]?=some n) (hn:s.heap.Ns X.env.locals m) (hl:∀(j:Nat) (y:Str) (v:V),X.N[j]?=some y->σ[j]?=some (some v)->Vis X.env.scope y->∃u,Bg v u/\So X.env s.heap m y u)
 (hn':h'.Ns X.env.locals (fun y=>if y=n then v else m y)) (hs:Heap.SameBut X.env.locals s.heap h'):Inv X pins (σ.set i none) H { s with heap:=h',toks:=tk }:=by
 have iσ:i < σ.length:=by rw [I.len];exact (List.getElem?_eq_some_iff.mp hi).1
 have old:∀b o,X.s₀.heap.get? b=some o->b≠X.env.locals:=fun b o z=>Nat.ne_of_lt (Nat.lt_of_lt_of_le (Heap.lt_size z) I.ok.above)
 refine ⟨I.ok,I.os,I.bare,⟨fun b o z n hb hx=>?_,fun b o z n hb hx=>?_,I.base.free,fun b o z hx=>?_,I.base.tups,I.base.frzs,I.base.tbls⟩,⟨_,hn',fun j y v' e1 e2 e3=>?_⟩,fun y c z=>?_,I.free,I.freeC,fun p hp=>?_,fun b u z=>?_,by simpa using I.len⟩
 ·exact (hs.2 b (old b o z)).trans (I.base.keep b o z n hb hx)
 ·obtain ⟨sl,y⟩:=I.base.slot b o z n hb hx
  exact ⟨sl,(hs.2 b (old b o z)).trans y⟩
 ·obtain ⟨o',y⟩:=I.base.there b o z hx
  exact ⟨o',(hs.2 b (old b o z)).trans y⟩
 ·by_cases hj:j=i
  ·subst hj
   rw [List.getElem?_set_self iσ] at e2
   cases e2
  ·rw [List.getElem?_set_ne (Ne.symm hj)] at e2
   obtain ⟨u,r,q⟩:=hl j y v' e1 e2 e3
   refine ⟨u,r,?_⟩
   rcases q with ⟨k,q⟩ | ⟨k,c,q,z⟩
   ·refine .inl ⟨k,?_⟩
    have:y≠n:=fun z=>hj (GK hN e1 (z ▸ hi))
    simp [this,q]
   ·exact .inr ⟨k,c,q,z.sameBut hs (I.cne y c q)⟩
 ·obtain ⟨w,q⟩:=I.cell y c z
  exact ⟨w,q.sameBut hs (I.cne y c z)⟩
 ·obtain ⟨z,n,ne,r⟩:=I.pin p hp
  exact ⟨(hs.2 p.1 ne).trans z,n,ne,r⟩
 ·refine (I.hok b u z).stay (fun c w hc q=>(hs.2 c ?_).trans q) (fun _ q=>q) fun _ _ q=>q
  rintro rfl
  rcases hc with y | y
  ·rw [<- y,I.free] at z;cases z
  ·rw [I.free] at y;cases y
theorem S2 {ts:Addr->TS} (B:Gc X) (hc:CP X.K C) (hg:Gl X x) (hm:X.mg x=some (.ref C)) (nd:X.N.Nodup) (hi:X.N[i]?=some n) (hl:X.env.scope.names.lookup n=some .local) (hs:∀e,PSs (X.suite e) (b₀ :: suite) (ts e)) (hr:PH X rest tr)
 (hdb:(x == ("__debug__":Str))=false:=by decide):PH X (.ExceptHandler (some (.Name x np)) (some n) (b₀ :: suite) pos :: rest) (SW X.K C i ts tr):=by
 intro pins s σ H D e cls od I F h
 obtain ⟨b,sb,h⟩:=h
 have I0:Inv (X.suite e) pins σ H s:=I.suite e
 have rec0:∃oe,s.heap.get? e=some oe/\oe.cls=cls:=by
  obtain ⟨t,⟨oe,_,z,y,_⟩,_⟩:=F
  exact ⟨oe,z,y⟩
 refine wpAny_handleBy_cons (codeAny_handlers_test (DY (X:=X.suite e) I0 hg hm (NT I.kIn hc rec0 sb ?_) hdb)) (by intro z;cases z)
 cases b with
 | false=>exact hr pins s σ H D e cls od I F h
 | true =>
   have h:=h
   rw [if_pos rfl] at h
   refine codeAny_handlers_suite_as ?_
   refine Inv.flight (X:=X.suite e) (f:=none) I0 (let ⟨t,R,hm⟩:=F;⟨t,R,fun b hb=>let m:=hm b hb;⟨m.un,m.new,m.loc,m.cel,m.pin⟩⟩) fun s1 I1 F1=>?_
   obtain ⟨t,R,hm1⟩:=F1
   have m:=hm1 e (by simp)
   have xo:KK e cls od s1.heap:=let ⟨oe,vs,r1,r2,r3,r4,r5,_⟩:=R;⟨oe,vs,r1,r2,r3,r4,r5⟩
   have I2:=I1.track (o:=hoX e cls od) m xo.ok
   refine Id (X:=X.suite e) (v:=.ref e) I2 nd hi (.inl hl) rfl (fun s2 I3=>?_) (.inr hl)
   refine wpAny_mono (hs e pins s2 _ _ (S1 D i) I3 (h e m.un)) (fun f s3 z=>?_) fun _ _ z=>z.elim
   have fin:∀(σ3:St) (H3:Hp) (Q:Unit->Shared->Prop),Inv (X.suite e) pins σ3 H3 s3->(∀s4,Inv X pins (σ3.set i none) H3 s4->Q () s4)->wpAny (model X.prog X.w) X.A (do bindName X.env n .none;unbindBehindTheSuite X.env n pos) Q X.xe s3:=fun σ3 H3 Q J k=>by
    have J':=J.unsuite I.ok
    obtain ⟨m0,hn,hlk⟩:=id J'.loc
    exact wpAny_nameGoes_keeps hl hn (by rw [I.ok.kind];rfl) fun h' v hn' hs'=>k _ (J'.forget nd hi hn hlk hn' hs')
   cases f with
   | next=>obtain ⟨σ3,H3,J,q⟩:=z;exact fin σ3 H3 _ J fun s4 J4=>⟨_,H3,J4,q⟩
   | brk=>obtain ⟨σ3,H3,J,q⟩:=z;exact fin σ3 H3 _ J fun s4 J4=>⟨_,H3,J4,q⟩
   | cont=>obtain ⟨σ3,H3,J,q⟩:=z;exact fin σ3 H3 _ J fun s4 J4=>⟨_,H3,J4,q⟩
   | ret u=>obtain ⟨v,σ3,H3,J,r,q⟩:=z;exact fin σ3 H3 _ J fun s4 J4=>⟨v,_,H3,J4,r,q⟩
theorem Pe:PH X [] fun _ _ _ _ _=>False:=fun _ _ _ _ _ _ _ _ _ _ z=>z.elim
end
end L2
namespace L2
open PySem PySem.Spec PyProof.Rows
structure XGet (K:PySem.W.Frag) (C:Addr):Prop where
 ga:PySem.W.findIn K (.ref C) "__getattribute__"=some (some (.builtin "BaseException.__getattribute__"))
 gh:PySem.W.findIn K (.ref C) "__getattr__"=some none
 be:PySem.W.mroIn K C (.type "BaseException")=some true
section
variable {prog:Program} {w:World} {A:Around} {E:Value->Shared->Prop} {s:Shared} {K:PySem.W.Frag} {a C:Addr} {o:Obj} {od:Option Obj} {name:Str} {tk:Tok}
theorem Jc {r:Builtin.ObjectAttr.Found} {Q:Fin->Shared->Prop} (X:K.In s.heap) (I:PySem.W.InstAt s.heap a o C od) (hf:PySem.W.findObj K C od name=some r)
 (h:wpAny (model prog w) A (match r with | .value v=>ret v | .bind g b=>Builtin.ObjectAttr.bindTo g b (.ref a) (.ref C) | .missing=>unsupported "no") Q E s) (hr:r≠.missing) :
 wpAny (model prog w) A (Builtin.«object.__getattribute__» ⟨[.ref a,.str name tk],[]⟩) Q E s:=by
 obtain ⟨hh,g,d,t,os⟩:=s
 have L0:=I.type (M:=model prog w)
 have L1:=PySem.W.looks_find (M:=model prog w) X I hf
 unfold Builtin.«object.__getattribute__»
 refine wpAny_bind (wpAny_pure ?_)
 refine wpAny_bind (wpAny_pure ?_)
 refine wpAny_bind (L0.at (wpAny_bind (L1.at ?_)))
 cases r with
 | value v=>exact h
 | bind g b=>exact h
 | missing=>exact absurd rfl hr
theorem N1 {M:Model} {v:Value} {Q:Unit->Shared->Prop} (c:XGet K C) (X:K.In s.heap) (I:PySem.W.InstAt s.heap a o C od) (h:Q () s):wpAny M A (checkBuiltinCall "BaseException.__getattribute__" ⟨[.ref a,v],[]⟩) Q E s:=by
 obtain ⟨hh,g,d,t,os⟩:=s
 have kd:builtinKind "BaseException.__getattribute__"=some .slot:=by decide +kernel
 have sp:splitId "BaseException.__getattribute__"=some ("BaseException","__getattribute__"):=by decide +kernel
 have L0:=I.type (M:=M)
 have L1:=PySem.W.looks_mroIn (M:=M) X c.be
 have LI:PySem.W.Looks M hh (isInstance (.ref a) (.type "BaseException")) true:=L0.andThen L1
 have ha:=PySem.F.args_bexc_ga (.ref a) v
 simp only [checkBuiltinCall,kd,sp]
 refine wpAny_bind (LI.at ?_)
 repeat (any_goals (first | assumption | wp_step))
theorem KO {fill ex:Bool} {Q:Value->Shared->Prop} (c:XGet K C) (X:K.In s.heap) (I:PySem.W.InstAt s.heap a o C od)
 (h:wpAny (model prog w) A.in1 (Builtin.«object.__getattribute__» ⟨[.ref a,.str name tk],[]⟩) (fun fin s'=>match fin with | .done (.ret v)=>wpAny (model prog w) A (handedOut v) Q E s' | _=>False) (fun _ _=>False) s) :
 wpAny (model prog w) A (getAttrBy (.ref a) (.str name tk) fill ex) Q E s:=by
 have L0:=I.type (M:=model prog w)
 have L1:=PySem.W.looks_findIn (M:=model prog w) X c.ga
 have L2:=PySem.W.looks_findIn (M:=model prog w) X c.gh
 have f3:=PySem.F.attr_ValueError.ga.bind (.ref a)
 have n0:(Value.builtin "BaseException.__getattribute__" == Value.builtin "object.__getattribute__")=false:=by decide +kernel
 have n1:(onTheHeap (Value.ref C) && Value.builtin "BaseException.__getattribute__" == Value.builtin "object.__getattribute__")=false:=by rw [n0,Bool.and_false]
 have n2:(ex && onTheHeap (Value.builtin "BaseException.__getattribute__"))=false:=by cases ex <;> rfl
 have ck:=fun (E':Value->Shared->Prop) (Q':Unit->Shared->Prop) (z:Q' () s)=>N1 (M:=model prog w) (A:=A.in1) (E:=E') (v:=.str name tk) (Q:=Q') c X I z
 obtain ⟨hh,g,d,t,os⟩:=s
 unfold getAttrBy
 refine wpAny_holding (wpAny_bind (L0.at (wpAny_bind (L1.at ?_))))
 simp only [n1,Bool.false_eq_true,if_false]
 unfold getAttrByItsOwn hookBefore
 refine wpAny_bind ?_
 rw [if_pos (show onTheHeap (Value.ref C)=true from rfl)]
 refine L2.at ?_
 refine wpAny_bind (wpAny_attempt ?_)
 unfold callGetattribute
 simp only [n2,Bool.false_eq_true,if_false]
 refine wpAny_holding ?_
 unfold boundAndCalled
 refine wpAny_bind (wpAny_of_eq f3 ?_)
 refine wpAny_call (codeAny_call_builtin PySem.F.attr_ValueError.ga.plain PySem.F.entry_bexc_ga (ck _ _ ?_))
 refine wpAny_mono h (fun fin s' z=>?_) fun _ _ z=>z.elim
 rcases fin with (_ | _ | _ | _) | _ <;> first | exact z | exact z.elim
theorem LQ {ex:Bool} {v:Value} {Q:Value->Shared->Prop} (c:XGet K C) (X:K.In s.heap) (I:PySem.W.InstAt s.heap a o C od) (hf:PySem.W.findObj K C od name=some (.value v)) (hv:PySem.W.handedIn v=true) (h:Q v { s with toks:=s.toks+1 }) :
 wpAny (model prog w) A (getAttr (.ref a) name ex) Q E s:=by
 unfold getAttr
 refine wpAny_bind (wpAny_mkText ?_)
 refine KO (s:={ s with toks:=s.toks+1 }) c X I (Jc (s:={ s with toks:=s.toks+1 }) X I hf ?_ (by intro z;cases z))
 exact wpAny_pure (PySem.W.handed_on hv h)
theorem Mf {Q:Option Value->Shared->Prop} (c:XGet K C) (X:K.In s.heap) (I:PySem.W.InstAt s.heap a o C od) (hf:PySem.W.findObj K C od "__class__"=some (.bind (.builtin "getset_descriptor.__get__") (.builtin "object.__class__"))) (hm:PySem.W.mroIn K C (.type "object")=some true)
 (h:Q (some (.ref C)) { s with toks:=s.toks+1 }):wpAny (model prog w) A (getAttr? (.ref a) "__class__") Q E s:=by
 unfold getAttr? getAttrBy?
 refine wpAny_bind (wpAny_mkText (wpAny_bind (wpAny_attempt ?_)))
 refine KO (s:={ s with toks:=s.toks+1 }) c X I (Jc (s:={ s with toks:=s.toks+1 }) X I hf ?_ (by intro z;cases z))
 show wpAny _ _ (holding _ _ >>= ret) _ _ _
 refine wpAny_bind (wpAny_holding (wpAny_call (PySem.W.class_get (s:={ s with toks:=s.toks+1 }) X I hm ?_)))
 exact wpAny_pure (PySem.W.handed_on rfl (wpAny_pure h))
end
structure Ii (K:PySem.W.Frag) (C:Addr):Prop extends XGet K C where
 cl:PySem.W.findIn K (.ref C) "__class__"=some (some (.builtin "object.__class__"))
 gt:PySem.W.specialIn K (.builtin "object.__class__") "__get__"=some (some (.builtin "getset_descriptor.__get__"))
 tk:PySem.W.takesIn K (.builtin "object.__class__")=some true
 ob:PySem.W.mroIn K C (.type "object")=some true
theorem Ii.find {K:PySem.W.Frag} {C:Addr} (c:Ii K C) (od:Option Obj):PySem.W.findObj K C od "__class__"=some (.bind (.builtin "getset_descriptor.__get__") (.builtin "object.__class__")):=by
 obtain ⟨cd,h1,_⟩:=Option.bind_eq_some_iff.mp c.ob
 unfold PySem.W.findObj
 rw [h1,Option.bind_some,c.cl,Option.bind_some]
 simp only [c.gt,Option.bind_some,c.tk]
theorem KK.inst {h:Heap} {e C:Addr} (x:KK e (.ref C) none h):∃o,PySem.W.InstAt h e o C none:=by
 obtain ⟨o,vs,h1,h2,h3,h4,_⟩:=x
 refine ⟨o,h1,h2,?_,?_⟩
 ·unfold PySem.W.notCls;rw [h4]
 ·rw [h3];trivial
theorem KK.instD {h:Heap} {e C dx:Addr} {od:Obj} (x:KK e (.ref C) (some dx) h) (hd:h.get? dx=some od):∃o,PySem.W.InstAt h e o C (some od):=by
 obtain ⟨o,vs,h1,h2,h3,h4,_⟩:=x
 refine ⟨o,h1,h2,?_,?_⟩
 ·unfold PySem.W.notCls;rw [h4]
 ·rw [h3];exact hd
theorem JT {K:PySem.W.Frag} {e C:Addr} {od:Option Obj} (c:Ii K C):PySem.W.KitX K (.ref e) (.ref C) (fun h=>∃o,PySem.W.InstAt h e o C od):=by
 have cd:∃c' d' cd sl,K.lookup C=some ⟨c',d',.cls cd,sl⟩:=by
  obtain ⟨cd,h1,_⟩:=Option.bind_eq_some_iff.mp c.ob
  unfold PySem.W.clsIn at h1
  split at h1
  ·rename_i look;exact ⟨_,_,_,_,look⟩
  ·cases h1
 obtain ⟨c',d',cd,sl,look⟩:=cd
 refine ⟨fun M h X ⟨o,I⟩=>I.type,fun M h X _=>?_,fun h tp dd its n sl' X z=>?_,fun {_ _ _ _ _ s} X ⟨o,I⟩ q=>Mf c.toXGet X I (c.find od) c.ob q⟩
 ·intro A Q E s k q
  unfold isType loadHead
  exact wpAny_bind (wpAny_loadPart (k _ _ (X _ _ look)) (wpAny_pure q))
 ·refine Bool.eq_false_iff.mpr fun q=>?_
  obtain rfl:C=tp:=Value.ref.inj (beq_iff_eq.mp q)
  cases (X _ _ look).symm.trans z
noncomputable def XdO (dx:Addr) (fs:List (Str × V)):Heap->Prop:=fun h=>∃mA,h.Ns1 dx mA/\(∀f,Dl (fs.lookup f) (mA f))/\PySem.Within mA (fs.map (·.1))
abbrev hoD (dx:Addr) (fs:List (Str × V)):HO:=.ext (XdO dx fs)
theorem XdO.ok {P:Program} {w:World} {H:Hp} {h:Heap} {dx:Addr} {fs:List (Str × V)} (x:XdO dx fs h):Bk P w H h dx (hoD dx fs):=by
 refine ⟨x,?_,fun h1 h2 y k=>?_⟩
 ·obtain ⟨mA,⟨o,_,_,z,_⟩,_⟩:=x;exact ⟨o,z⟩
 ·obtain ⟨mA,n,r⟩:=y
  exact ⟨mA,n.at fun o q=>k o q,r⟩
noncomputable def Hw (H:Hp) (od:Option Addr):Prop:=od=none\/∃dx fs,od=some dx/\H dx=some (hoD dx fs)
section
variable {X:Cx}
theorem MU {pins:List (Addr × Obj)} {σ:St} {H:Hp} {s:Shared} {e C:Addr} {od:Option Addr} (I:Inv X pins σ H s) (c:Ii X.K C) (ha:H e=some (hoX e (.ref C) od)) (hd:Hw H od) :
 ∃P:Heap->Prop,P s.heap/\PySem.W.KitX X.K (.ref e) (.ref C) P:=by
 obtain ⟨xo,_,_⟩:=(show Bk X.prog X.w H s.heap e (hoX e (.ref C) od) from I.hok e _ ha)
 rcases hd with rfl | ⟨dx,fs,rfl,hx⟩
 ·exact ⟨_,xo.inst,JT c⟩
 ·obtain ⟨ob,y⟩:=I.hok.there hx
  exact ⟨_,xo.instD y,JT (od:=some ob) c⟩
noncomputable def Qd:V->Option Value
 | .ref a=>some (.ref a)
 | .ty n=>some (.type n)
 | _=>none
theorem KG {c:V} {u v:Value} (h:Qd c=some u) (r:Bg c v):v=u:=by
 cases c with
 | ref a=>cases h;exact r
 | ty n=>cases h;exact r
 | _=>cases h
theorem Km:∀{cs:List V} {us vs:List Value},cs.map Qd=us.map some->AX cs vs->vs=us
 | [],[],_,_,.nil=>rfl
 | [],_ :: _,_,h,_=>by cases h
 | _ :: _,[],_,h,_=>by cases h
 | c :: cs,u :: us,_,h,.cons r rs=>by
   rw [map_cons,map_cons] at h
   injection h with h1 h2
   rw [KG h1 r,Km h2 rs]
noncomputable def Tc (K:PySem.W.Frag):List V->Hp->VK->Prop:=fun xs H Q=>∃e C od c u b,xs=[.ref e,c]/\H e=some (hoX e (.ref C) od)/\Hw H od/\Ii K C/\Qd c=some u/\PySem.W.kitOne K (.ref C) u=some b/\Q (.bl b) H
theorem F7 {K:PySem.W.Frag} (hK:X.K=K:=by rfl):Dg X (.builtin "isinstance") (Tc K):=by
 subst hK
 intro pins s σ H xs us Q I rv h
 obtain ⟨e,C,od,c,u,b,rfl,ha,hd,ck,rc,k,q⟩:=h
 obtain ⟨u1,u2,rfl,r1,r2⟩:=Ko rv
 obtain rfl:u1=Value.ref e:=r1
 obtain rfl:=KG rc r2
 obtain ⟨P,p,Z⟩:=MU I ck ha hd
 exact PySem.W.kia_one Z I.kIn p k (fun z=>nomatch z) fun tk=>⟨.bl b,H,I.tok tk,rfl,q⟩
noncomputable def Sa (K:PySem.W.Frag):List V->Hp->VK->Prop:=fun xs H Q=>∃e C od t cs us b,xs=[.ref e,.ref t]/\H e=some (hoX e (.ref C) od)/\Hw H od/\Ii K C/\SqT K H t cs/\cs.map Qd=us.map some/\PySem.W.kitAny K (.ref C) us=some b/\Q (.bl b) H
theorem Iz {K:PySem.W.Frag} (hK:X.K=K:=by rfl):Dg X (.builtin "isinstance") (Sa K):=by
 subst hK
 intro pins s σ H xs us Q I rv h
 obtain ⟨e,C,od,t,cs,vs,b,rfl,ha,hd,ck,ht,rc,k,q⟩:=h
 obtain ⟨u1,u2,rfl,r1,r2⟩:=Ko rv
 obtain rfl:u1=Value.ref e:=r1
 obtain rfl:u2=Value.ref t:=r2
 obtain ⟨P,p,Z⟩:=MU I ck ha hd
 obtain ⟨its,rt,tt,_⟩:=I.tuple ht
 obtain rfl:=Km rc rt
 obtain ⟨⟨c1,d1,dt,sl⟩,h1,h2,n,h3⟩:=tt
 dsimp only at h2 h3
 subst h2 h3
 exact PySem.W.kia_tup Z I.kIn p h1 k (fun z=>nomatch z) fun tk=>⟨.bl b,H,I.tok tk,rfl,q⟩
noncomputable def Sr (K:PySem.W.Frag) (ta:TE) (f:Str):TE:=fun σ H Q=>ta σ H fun x H1=>∃e C dx fs v,x=.ref e/\H1 e=some (hoX e (.ref C) (some dx))/\H1 dx=some (hoD dx fs)/\XGet K C/\PySem.W.hasDictIn K C=true/\BX K C f/\fs.lookup f=some v/\Q v H1
theorem Np {K:PySem.W.Frag} {e:Expr} {f:Str} {pos:Pos} {ta:TE} (he:PE X e ta) (hb:attributeBase e f X.env (eval e X.env)=eval e X.env) (hK:X.K=K:=by rfl):PE X (.Attribute e f pos) (Sr K ta f):=by
 subst hK
 intro pins s σ H Q I h
 refine MT hb (thn (he pins s σ H _ I h) fun u s1 ⟨x,H1,I1,rx,e,C,dx,fs,v,ex,ea,ed,c,hd,na,l,q⟩=>?_)
 subst ex
 obtain rfl:u=Value.ref e:=rx
 obtain ⟨xo,_,_⟩:=(show Bk X.prog X.w H1 s1.heap e (hoX e (.ref C) (some dx)) from I1.hok e _ ea)
 obtain ⟨⟨mA,ns,r,_⟩,_,_⟩:=(show Bk X.prog X.w H1 s1.heap dx (hoD dx fs) from I1.hok dx _ ed)
 obtain ⟨od,hod,hl⟩:=Ge ns
 obtain ⟨o,J⟩:=xo.instD hod
 obtain ⟨v',hv,rv⟩:=Dl.some_of (v:=v) (o:=mA f) (by rw [<- l];exact r f)
 exact LQ c I1.kIn J (PySem.W.findObj_own hd na rfl (by rw [hl,hv])) (IM rv) ⟨v,H1,I1.tok _,rv,q⟩
end
end L2
namespace L2
open PySem PySem.Spec PyProof.Rows
section
variable {X:Cx}
end
section
variable {K:PySem.W.Frag} {H H':Hp} {x:V} {b:Bool}
theorem En {T c:String} (h:(if ((Value.type T) == (Value.type c))=true then some true else (if PySem.W.kitMeta c=true then (PySem.fastBuiltinMro T).map (·.contains (Value.type c)) else none))=some b):PySem.W.kitOne K (.type T) (.type c)=some b:=h
noncomputable def Wh (K:PySem.W.Frag) (H:Hp) (x:V) (b:Bool):Prop:=∃t b1 b2,CD K H x t/\PySem.W.kitOne K t (.type "int")=some b1/\PySem.W.kitOne K t (.type "bool")=some b2/\(b1 && !b2)=b
theorem Wh.int (i:Int):Wh K H (.int i) true:=⟨_,_,_,.int i,EO,DX,rfl⟩
theorem Wh.bl (c:Bool):Wh K H (.bl c) false:=⟨_,true,true,.bl c,En (by decide +kernel),Io,rfl⟩
theorem Wh.non:Wh K H .non false:=⟨_,false,false,.non,En (by decide +kernel),En (by decide +kernel),rfl⟩
theorem Wh.str (z:Str):Wh K H (.str z) false:=⟨_,false,false,.str z,En (by decide +kernel),En (by decide +kernel),rfl⟩
theorem Wh.tup {a:Addr} {xs:List V} (h:H a=some (.tup xs)):Wh K H (.ref a) false:=⟨_,false,false,.tup h,En (by decide +kernel),En (by decide +kernel),rfl⟩
theorem Wh.lst {a:Addr} {xs:List V} (h:H a=some (.lst xs)):Wh K H (.ref a) false:=⟨_,false,false,.lst h,En (by decide +kernel),En (by decide +kernel),rfl⟩
theorem CD.same {t:Value} (e:AJ H H') (h:CD K H x t):CD K H' x t:=by
 cases h with
 | non=>exact .non
 | bl c=>exact .bl c
 | int i=>exact .int i
 | str z=>exact .str z
 | flt z=>exact .flt z
 | lst q=>exact .lst (e _ _ q)
 | frz q=>exact .frz (e _ _ q)
 | tup q=>exact .tup (e _ _ q)
 | dK q=>exact .dK (e _ _ q)
 | dT q=>exact .dT (e _ _ q)
 | ins q cl ha hn htk hm=>exact .ins (e _ _ q) cl ha hn htk hm
theorem Wh.same (e:AJ H H') (h:Wh K H x b):Wh K H' x b:=by
 obtain ⟨t,b1,b2,ty,r⟩:=h
 exact ⟨t,b1,b2,ty.same e,r⟩
end
section
variable {K:PySem.W.Frag} {A B:Addr}
theorem CP.some {C:Addr} (c:CP K C):(PySem.W.clsIn K C).isSome=true:=by
 obtain ⟨cd,h1,_⟩:=Option.bind_eq_some_iff.mp c.ex
 rw [h1];rfl
theorem LR {b:Bool} (c:CP K B) (h:PySem.W.subIn K (.ref A) (.ref B)=some b) (s:PySem.W.subIn K (.ref A) (.ref A)=some true):PySem.W.kitOne K (.ref A) (.ref B)=some b:=by
 unfold PySem.W.kitOne
 by_cases e:A=B
 ·subst e
  rw [h] at s
  cases s
  rw [if_pos (beq_self_eq_true _)]
 ·rw [if_neg (fun q=>e (Value.ref.inj (beq_iff_eq.mp q)))]
  show (if ((PySem.W.clsIn K B).isSome && PySem.W.typeIn K (.ref B) == some (.type "type"))=true then PySem.W.subIn K (.ref A) (.ref B) else none)=_
  rw [c.some,c.ty,if_pos (by rfl)]
  exact h
theorem Mq {T:String} {b:Bool} (m:PySem.W.kitMeta T=true) (h:PySem.W.subIn K (.ref A) (.type T)=some b):PySem.W.kitOne K (.ref A) (.type T)=some b:=by
 unfold PySem.W.kitOne
 rw [if_neg (fun q=>by cases beq_iff_eq.mp q)]
 show (if PySem.W.kitMeta T=true then PySem.W.subIn K (.ref A) (.type T) else none)=_
 rw [if_pos m]
 exact h
theorem Fq:PySem.W.kitMeta "ValueError"=true:=by decide +kernel
end
end L2
namespace L2
open PySem PySem.Spec PyProof.Rows
end L2
namespace L2
open PySem PySem.Spec PyProof.Rows
theorem Lv (self:Value) {P C:Addr}:PySem.refuseLoop self "__setattr__" (.ref C :: .ref P :: Fp)=pure ():=by
 rw [refuseLoop_ref,refuseLoop_ref]
 first
  | rfl
  | kernel_rfl
structure Je (K:PySem.W.Frag) (C P f:Addr):Prop where
 obj:∃nm qn N bs sn sub ab col dd k0 k1 k2 k3 k5,K.lookup C=some (excClassObj nm qn C N bs (.ref P :: Fp) true sn sub ab col dd k0 k1 k2 k3 k5 "ValueError.__new__")/\PySem.W.nsOkIn K N=true/\PySem.W.nsIn K N "__init__"=some (some (.ref f))
 up:LC K P
 fn:PySem.W.typeIn K (.ref f)=some (.type "function")
 sa:PySem.W.findIn K (.ref C) "__setattr__"=some (some (.builtin "object.__setattr__"))
theorem Je.cls {K:PySem.W.Frag} {C P f:Addr} (c:Je K C P f):∃cd,PySem.W.clsIn K C=some cd/\cd.mro=.ref C :: .ref P :: Fp/\cd.hasDict=true:=by
 obtain ⟨nm,qn,N,bs,sn,sub,ab,col,dd,k0,k1,k2,k3,k5,look,_⟩:=c.obj
 unfold PySem.W.clsIn
 rw [look]
 exact ⟨_,rfl,rfl,rfl⟩
section
variable {prog:Program} {w:World} {A:Around} {E:Value->Shared->Prop} {s:Shared} {K:PySem.W.Frag} {C P f x:Addr} {ox:Obj} {od:Option Obj} {name:Str} {v:Value}
theorem ID {Q:Unit->Shared->Prop} (c:Je K C P f) (n:BX K C name) (X:K.In s.heap) (I:PySem.W.InstAt s.heap x ox C od)
 (h:∀b tk,wpAny (model prog w) A.in1 (Builtin.ObjectAttr.storeInOwnDict (.ref x) (.ref C) (.str name tk) name v b) (fun fin s'=>fin=.done (.ret .none)/\Q () s') (fun _ _=>False) { s with toks:=s.toks+1 }) :
 wpAny (model prog w) A (setAttr (.ref x) name v) Q E s:=by
 refine PySem.W.set_plain X I c.sa ?_
 obtain ⟨cd,hc,hm,_⟩:=c.cls
 have SF:=PySem.F.store_object
 have Lm:PySem.W.Looks (model prog w) s.heap (mroOf (.ref C)) cd.mro:=(PySem.W.looks_clsIn X hc).andThen .now
 have ob:PySem.W.mroIn K C (.type "object")=some true:=by
  unfold PySem.W.mroIn
  rw [hc,Option.bind_some,hm]
  rfl
 have sub:PySem.W.Looks (model prog w) s.heap (isInstance (.ref x) (.type "object")) true:=I.type.andThen (PySem.W.looks_mroIn X ob)
 have Ln:=PySem.W.looks_findIn (M:=model prog w) X (show PySem.W.findIn K (.ref C) name=some none from n)
 have Lt:=I.type (M:=model prog w)
 generalize s.toks=tk at h ⊢
 have h:=h
 refine codeAny_call_builtin SF.slot.plain SF.entry (@PySem.W.check_slot (model prog w) _ _ { s with toks:=tk+1 } "object.__setattr__" "object" "__setattr__" (.ref x) [.str name tk,v] [] _ SF.kind SF.split sub (SF.args (.ref x) (.str name tk) v) ?_)
 rw [PySem.W.osa_eq,refuse_eq]
 refine wpAny_bind (wpAny_bind (Lt.here (s:={ s with toks:=tk+1 }) (wpAny_bind (Lm.here (s:={ s with toks:=tk+1 }) ?_))))
 rw [hm,Lv]
 refine wpAny_pure (wpAny_bind (Lt.here (s:={ s with toks:=tk+1 }) (wpAny_bind (Ln.here (s:={ s with toks:=tk+1 }) (wpAny_bind (wpAny_pure ?_))))))
 refine wpAny_mono (h _ tk) (fun fin s' z=>?_) fun _ _ z=>z.elim
 obtain ⟨rfl,q⟩:=z
 exact q
theorem O2 {dx:Addr} {mA:Str->Option Value} {ns:List Str} {Q:Unit->Shared->Prop} (c:Je K C P f) (n:BX K C name) (X:K.In s.heap) (hx:s.heap.get? x=some ox) (h1:ox.cls=.ref C) (h2:ox.dict=some dx) (h3:PySem.W.notCls ox=true)
 (hn:s.heap.Ns1 dx mA) (hw:PySem.Within mA ns) (hz:ns.length<=sizeLine)
 (h:∀h',(h'.Ns1 dx fun y=>if y=name then some v else mA y)->Heap.SameBut dx s.heap h'->Q () { s with heap:=h',toks:=s.toks+2 }):wpAny (model prog w) A (setAttr (.ref x) name v) Q E s:=by
 obtain ⟨od,hod,_⟩:=Ge hn
 have I:PySem.W.InstAt s.heap x ox C (some od):=⟨hx,h1,h3,by rw [h2];exact hod⟩
 refine ID c n X I fun b tk=>?_
 obtain ⟨cd,hc,_,hd⟩:=c.cls
 obtain ⟨oc,odi,oda,osl⟩:=ox
 dsimp only at h1 h2
 subst h1 h2
 refine wpAny_bind (wpAny_pure (wpAny_bind (wpAny_bind (wpAny_loadPart hx (wpAny_bind (PySem.W.Looks.here (s:={ s with toks:=s.toks+1 }) (PySem.W.looks_clsIn X hc) ?_))))))
 rw [hd]
 refine wpAny_pure (a:=some dx) (wpAny_bind (wpAny_pure (wpAny_bind ?_)))
 refine wpAny_nsSet1 (s:={ s with toks:=s.toks+1 }) hn fun h' q1 q2=>?_
 obtain ⟨o3,es,ep,r1,r2,r3⟩:=q1.count (PySem.Within.cons name v hw)
 refine wpAny_bind (wpAny_lookBehind r1 (by rw [r2];exact pastItsLine_dict (Nat.le_trans r3 (by rw [length_cons];omega))) ?_)
 exact wpAny_pure ⟨rfl,h _ q1 q2⟩
theorem OM {vs:Array Value} {Q:Unit->Shared->Prop} (c:Je K C P f) (n:BX K C name) (X:K.In s.heap) (hx:s.heap.get? x=some ox) (h1:ox.cls=.ref C) (h2:ox.dict=none) (h3:ox.data=.fields vs)
 (h:∀h',(h'.Ns1 s.heap.objs.size fun y=>if y=name then some v else none)->Heap.SameBut s.heap.objs.size ((s.heap.push { cls:=.type "dict",data:=.dict #[] }).update x fun o=>{ o with dict:=some s.heap.objs.size }) h'->Q () { s with heap:=h',toks:=s.toks+2 }) :
 wpAny (model prog w) A (setAttr (.ref x) name v) Q E s:=by
 have I:PySem.W.InstAt s.heap x ox C none:=⟨hx,h1,by unfold PySem.W.notCls;rw [h3],by rw [h2];trivial⟩
 refine ID c n X I fun b tk=>?_
 obtain ⟨cd,hc,_,hd⟩:=c.cls
 obtain ⟨oc,odi,oda,osl⟩:=ox
 dsimp only at h1 h2 h3
 subst h1 h2 h3
 refine wpAny_bind (wpAny_pure (wpAny_bind (wpAny_bind (wpAny_loadPart hx (wpAny_bind (PySem.W.Looks.here (s:={ s with toks:=s.toks+1 }) (PySem.W.looks_clsIn X hc) ?_))))))
 rw [hd]
 have sz:∀u:Obj,(s.heap.push u).get? x=some ⟨.ref C,none,.fields vs,osl⟩:=fun u=>Heap.get?_push_of_some _ hx
 have e1:(s.heap.push { cls:=.type "dict",data:=.dict #[] }).get? s.heap.objs.size=some { cls:=.type "dict",data:=.dict #[] }:=Heap.get?_push_size s.heap rfl
 have ne:s.heap.objs.size≠x:=Nat.ne_of_gt (Heap.lt_size hx)
 have e2:((s.heap.push { cls:=.type "dict",data:=.dict #[] }).update x fun o=>{ o with dict:=some s.heap.objs.size }).get? s.heap.objs.size=some { cls:=.type "dict",data:=.dict #[] }:=by
  rw [Heap.get?_update_other _ _ (Ne.symm ne)]
  exact e1
 have n0:((s.heap.push { cls:=.type "dict",data:=.dict #[] }).update x fun o=>{ o with dict:=some s.heap.objs.size }).Ns s.heap.objs.size (fun _=>none):=⟨_,#[],_,e2,rfl,(fun e he=>absurd he (by simp)),fun _=>rfl⟩
 show wpAny (model prog w) A.in1 (alloc { cls:=.type "dict",data:=.dict #[] } >>= fun d=>update x (fun o=>{ o with dict:=some d }) >>= fun _=>dictMade (.ref C) x d) _ _ _
 refine wpAny_bind (wpAny_alloc ?_)
 refine wpAny_bind (wpAny_update (sz _) ?_)
 refine wpAny_pure (a:=some s.heap.objs.size) ?_
 refine wpAny_bind (wpAny_pure (wpAny_bind ?_))
 refine wpAny_nsSet1 (Heap.Ns1.of_empty n0) fun h' q1 q2=>?_
 obtain ⟨o3,es,ep,r1,r2,r3⟩:=q1.count (ns:=[name]) (fun y hy=>by
  by_cases z:y=name
  ·rw [z];simp
  ·exact absurd (show (if y=name then some v else none)=none by rw [if_neg z]) hy)
 refine wpAny_bind (wpAny_lookBehind r1 (by rw [r2];exact pastItsLine_dict (Nat.le_trans r3 (by show 1<=sizeLine+1;decide))) ?_)
 exact wpAny_pure ⟨rfl,h _ q1 q2⟩
end
noncomputable def OY (e:Addr) (cls:Value) (od:Option Addr) (vs:Array Value):Heap->Prop:=fun h=>∃oe,h.get? e=some oe/\oe.cls=cls/\oe.dict=od/\oe.data=.fields vs
abbrev hoV (e:Addr) (cls:Value) (od:Option Addr) (vs:Array Value):HO:=.ext (OY e cls od vs)
theorem OY.ok {P:Program} {w:World} {H:Hp} {h:Heap} {e:Addr} {cls:Value} {od:Option Addr} {vs:Array Value} (x:OY e cls od vs h):Bk P w H h e (hoV e cls od vs):=by
 refine ⟨x,?_,fun h1 h2 y k=>?_⟩
 ·obtain ⟨oe,z,_⟩:=x;exact ⟨oe,z⟩
 ·obtain ⟨oe,z,r⟩:=y;exact ⟨oe,k _ z,r⟩
noncomputable def Td (H:Hp) (od:Option Addr) (fs:List (Str × V)):Prop:=(od=none/\fs=[])\/∃dx,od=some dx/\H dx=some (hoD dx fs)
noncomputable def Sl (K:PySem.W.Frag) (ta tv:TE) (f:Str):TS:=fun D σ H=>tv σ H fun y H1=>ta σ H1 fun x H2=>∃e C P fi od ws fs,x=.ref e/\H2 e=some (hoV e (.ref C) od ws)/\Td H2 od fs/\Je K C P fi/\BX K C f/\fs.length < 1000 /\
 ∀dx H3,(∀b,b≠e->b≠dx->H3 b=H2 b)->(od=some dx\/od=none/\H2 dx=none)->dx≠e->H3 e=some (hoV e (.ref C) (some dx) ws)->H3 dx=some (hoD dx (CQ f y fs))->D.nx σ H3
theorem M9 {X:Cx} {o value:Expr} {f:Str} {pos pos':Pos} {ta tv:TE} (ha:PE X o ta) (hv:PE X value tv) (hs:swapsWith value (some (.Attribute o f pos')) pos.line X.env=pure false):PS X (.Assign [.Attribute o f pos'] value pos) (Sl X.K ta tv f):=by
 intro pins s σ H D I h
 refine plainObj_wpAny_Assign_Attribute (thn (hv pins s σ H _ I h) fun u s1 ⟨y,H1,I1,ry,q⟩=>thn (ha pins s1 σ H1 _ I1 q) fun ov s2 ⟨x,H2,I2,rx,e,C,P,fi,od,ws,fs,ex,ea,bag,c,n,l,q2⟩=>?_) hs
 subst ex
 obtain rfl:ov=Value.ref e:=rx
 obtain ⟨⟨oe,o1,o2,o3,o4⟩,_,_⟩:=(show Bk X.prog X.w H2 s2.heap e (hoV e (.ref C) od ws) from I2.hok e _ ea)
 have nc:PySem.W.notCls oe=true:=by unfold PySem.W.notCls;rw [o4]
 rcases bag with ⟨rfl,rfl⟩ | ⟨dx,rfl,hd⟩
 ·refine OM c n I2.kIn o1 o2 o3 o4 fun h' q1 sb=>?_
  have fr:H2 s2.heap.objs.size=none:=I2.hok.fresh (Nat.le_refl _)
  have ne:s2.heap.objs.size≠e:=Nat.ne_of_gt (Heap.lt_size o1)
  have e1:(s2.heap.push { cls:=.type "dict",data:=.dict #[] }).get? s2.heap.objs.size=some { cls:=.type "dict",data:=.dict #[] }:=Heap.get?_push_size s2.heap rfl
  have n1:(s2.heap.push { cls:=.type "dict",data:=.dict #[] }).Ns s2.heap.objs.size (fun _=>none):=⟨_,#[],_,e1,rfl,(fun e he=>absurd he (by simp)),fun _=>rfl⟩
  have J1:=I2.laid (a:=s2.heap.objs.size) (o:=hoD s2.heap.objs.size []) (t':=s2.toks) (h':=s2.heap.push { cls:=.type "dict",data:=.dict #[] }) (fun b u z=>Heap.get?_push_of_some _ z) (Nat.le_refl _) (XdO.ok ⟨fun _=>none,Heap.Ns1.of_empty n1,fun _=>True.intro,fun y hy=>absurd rfl hy⟩)
  have ea1:upd H2 s2.heap.objs.size (hoD s2.heap.objs.size []) e=some (hoV e (.ref C) none ws):=by rw [A8 (Ne.symm ne)];exact ea
  have oe1:(s2.heap.push { cls:=.type "dict",data:=.dict #[] }).get? e=some oe:=Heap.get?_push_of_some _ o1
  have oe2:=Heap.get?_update_self (fun o:Obj=>{ o with dict:=some s2.heap.objs.size }) oe1 (by
   show ({ oe with dict:=some s2.heap.objs.size }:Obj).isFreed=false
   exact Obj.isFreed_of_fields (vs:=ws) o4)
  have J2:=J1.write (x:=e) (e:=e) (o:=hoV e (.ref C) (some s2.heap.objs.size) ws) (t':=s2.toks) (h':=(s2.heap.push { cls:=.type "dict",data:=.dict #[] }).update e fun o=>{ o with dict:=some s2.heap.objs.size })
   (by rw [ea1];exact True.intro) (.inl rfl) (fun b u hb z=>(Heap.get?_update_other _ _ (Ne.symm hb)).trans z) ⟨_,oe2⟩ (OY.ok ⟨_,oe2,o2,rfl,o4⟩)
  have hdx:upd (upd H2 s2.heap.objs.size (hoD s2.heap.objs.size [])) e (hoV e (.ref C) (some s2.heap.objs.size) ws) s2.heap.objs.size=some (hoD s2.heap.objs.size []):=by rw [A8 ne,Ag]
  have J3:=J2.write (x:=s2.heap.objs.size) (e:=s2.heap.objs.size) (o:=hoD s2.heap.objs.size [(f,y)]) (t':=s2.toks+2) (h':=h')
   (by rw [hdx];exact True.intro) (.inl rfl) (fun b u hb z=>(sb.2 b hb).trans z) (let ⟨o,_,_,z,_⟩:=q1;⟨o,z⟩) (XdO.ok ⟨_,q1,fun g=>by
    show Dl (List.lookup g [(f,y)]) (if g=f then some u else none)
    by_cases z:g=f
    ·rw [if_pos z,z,lookup_cons,beq_self_eq_true];exact ry
    ·rw [if_neg z,lookup_cons,beq_eq_false_iff_ne.mpr z];exact True.intro,fun g hg=>by
    by_cases z:g=f
    ·rw [z];simp
    ·exact absurd (show (if g=f then some u else none)=none by rw [if_neg z]) hg⟩)
  refine ⟨σ,_,J3,q2 s2.heap.objs.size _ (fun b h1 h2=>?_) (.inr ⟨rfl,fr⟩) ne ?_ Ag⟩
  ·rw [A8 h2,A8 h1,A8 h2]
  ·rw [A8 (Ne.symm ne),Ag]
 ·obtain ⟨⟨mA,ns,r,wi⟩,_,_⟩:=(show Bk X.prog X.w H2 s2.heap dx (hoD dx fs) from I2.hok dx _ hd)
  have ne:dx≠e:=fun z=>by
   obtain ⟨o5,_,_,z1,z2,_⟩:=ns
   rw [z,o1] at z1
   cases z1
   rw [o4] at z2
   cases z2
  refine O2 c n I2.kIn o1 o2 o3 nc ns wi (by rw [length_map,sizeLine_eq];omega) fun h' q1 sb=>?_
  have J3:=I2.write (x:=dx) (e:=dx) (o:=hoD dx (CQ f y fs)) (t':=s2.toks+2) (h':=h') (by rw [hd];exact True.intro) (.inl rfl) (fun b u hb z=>(sb.2 b hb).trans z) (let ⟨o,_,_,z,_⟩:=q1;⟨o,z⟩) (XdO.ok ⟨_,q1,fun g=>by
   show Dl ((CQ f y fs).lookup g) (if g=f then some u else mA g)
   rw [EY]
   by_cases z:g=f
   ·rw [if_pos z,if_pos z];exact ry
   ·rw [if_neg z,if_neg z];exact r g,fun g hg=>by
   by_cases z:g=f
   ·rw [z];exact (DT f y fs).1
   ·refine (DT f y fs).2 g (wi g fun k=>hg ?_)
    show (if g=f then some u else mA g)=none
    rw [if_neg z];exact k⟩)
  refine ⟨σ,_,J3,q2 dx _ (fun b h1 h2=>by rw [A8 h2]) (.inl rfl) ne ?_ Ag⟩
  rw [A8 (Ne.symm ne)];exact ea
end L2
namespace L2
open PySem PySem.Spec PyProof.Rows
section
variable {prog:Program} {w:World} {A:Around} {E:Value->Shared->Prop} {h:Heap} {g:Array GenState} {d:Drawn} {t:Nat} {os:OsState}
variable {nm q:Str} {C N:Addr} {bs bm:List Value} {hd:Bool} {sn:List Str} {sub:List Value} {ab:Bool} {col:Option Bool} {dd:Option Addr} {k0 k1 k2 k3 k5:Option Value}
theorem LK {mN:Str->Option Value} {us:List Value} {fi:Addr} {oi:Obj} {Q:Fin->Shared->Prop} (TL:OwnTail h Fp bm) (hC:h.get? C=some (excClassObj nm q C N bs bm hd sn sub ab col dd k0 k1 k2 k3 k5 "ValueError.__new__"))
 (hn:h.Ns N mN) (hi:mN "__init__"=some (.ref fi)) (hf:h.get? fi=some oi) (hfc:oi.cls=.type "function") (hz:us.length<=sizeLine)
 (k:∀h' e,Heap.MadeExcOf h h' e (.ref C) us->wpAny (model prog w) A (call (.ref fi) (.ref e :: us)) (fun r s'=>r=.none/\Q (.done (.ret (.ref e))) s') E ⟨h',g,d,t,os⟩) :
 wpAny (model prog w) A (Builtin.«type.__call__» ⟨.ref C :: us,[]⟩) Q E ⟨h,g,d,t,os⟩:=by
 have F:=PySem.F.excBase_ValueError
 repeat (first | (with_reducible refine wpAny_loadPart_at hC ?_) | (with_reducible refine wpAny_madeBy_exc hC ?_) | wp_step)
 refine codeAny_call_builtin_code (Code.quiet_builtin _ F.quiet) (wpAny_check_new_subT F TL hC (codeAny_exc_new_subT F TL hC ?_ hz))
 show wpAny _ _ _ _ _ _
 have up:∀b o,h.get? b=some o->((h.push { cls:=.type "tuple",data:=.seq us.toArray }).push { cls:=.ref C,data:=.fields #[.ref h.objs.size,.none,.none,.none,.bool false,.none] }).get? b=some o:=fun b o z=>Heap.get?_push_of_some _ (Heap.get?_push_of_some _ z)
 have at_:((h.push { cls:=.type "tuple",data:=.seq us.toArray }).push { cls:=.ref C,data:=.fields #[.ref h.objs.size,.none,.none,.none,.bool false,.none] }).get? (h.objs.size+1)=some { cls:=.ref C,data:=.fields #[.ref h.objs.size,.none,.none,.none,.bool false,.none] }:=by heap_get
 have cc:(Value.ref C :: bm).contains (.ref C)=true:=by simp
 have hC1:=up _ _ hC
 unfold isInstance
 repeat (first | (with_reducible refine wpAny_loadPart_at at_ ?_) | (with_reducible refine wpAny_isSubtype_exc hC1 ?_;rw [cc]) | wp_step)
 show wpAny _ _ (typeLookup (.ref C) _) _ _ _
 refine wpAny_typeLookup_tail hC1 (hn.keeps up) (TL.keeps up) F.mroIs F.init.lookup ?_
 rw [hi]
 refine wpAny_holding (wpAny_bind ?_)
 unfold bindSpecial
 refine wpAny_bind (wpAny_typeOf (T:="function") ⟨_,up _ _ hf,hfc⟩ ?_)
 rw [if_pos (by decide)]
 refine wpAny_pure (wpAny_bind (wpAny_mono (k _ (h.objs.size+1) ⟨up,Heap.get?_none_of_le (Nat.le_succ _),h.objs.size,at_,Heap.get?_none_of_le (Nat.le_refl _),?_⟩) (fun r s' z=>?_) fun _ _ y=>y))
 ·exact Heap.get?_push_of_some _ (Heap.get?_push_at rfl rfl)
 ·obtain ⟨rfl,z⟩:=z
  wp_walk
  exact z
theorem LP {mN:Str->Option Value} {us:List Value} {fi:Addr} {oi:Obj} {Q:Value->Shared->Prop} (TL:OwnTail h Fp bm) (hC:h.get? C=some (excClassObj nm q C N bs bm hd sn sub ab col dd k0 k1 k2 k3 k5 "ValueError.__new__"))
 (hn:h.Ns N mN) (hi:mN "__init__"=some (.ref fi)) (hf:h.get? fi=some oi) (hfc:oi.cls=.type "function") (hz:us.length<=sizeLine)
 (k:∀h' e,Heap.MadeExcOf h h' e (.ref C) us->wpAny (model prog w) (A.under (.builtin "type.__call__" ⟨.ref C :: us,[]⟩)) (call (.ref fi) (.ref e :: us)) (fun r s'=>r=.none/\Q (.ref e) s') E ⟨h',g,d,t,os⟩) :
 wpAny (model prog w) A (call (.ref C) us) Q E ⟨h,g,d,t,os⟩:=by
 have f1:=tc_lookup
 have f2:=tc_bind (.ref C)
 have ty:(⟨h,g,d,t,os⟩:Shared).TypeIs (.ref C) "type":=⟨_,hC,rfl⟩
 refine wpAny_call (codeAny_of_tree ?_)
 show wpAny _ _ (callAny (.ref C) _) _ _ _
 repeat (any_goals (first | assumption | (with_reducible refine wpAny_loadPart_at hC ?_) | wp_step))
 refine ⟨rfl,codeAny_call_builtin_at (Code.quiet_builtin _ (by decide +kernel)) entry_typeCall (wpAny_check_type_call_sub hC (LK TL hC hn hi hf hfc hz fun h' e m=>?_))⟩
 exact k h' e m
end
theorem Nv {prog:Program} {w:World} {A:Around} {E:Value->Shared->Prop} {s:Shared} {env:Env} {K:PySem.W.Frag} {C:Addr} {x:Sem Value} {Q:Flow->Shared->Prop} (c:CP K C) (hh:A.handled=none)
 (h:wpAny (model prog w) A x (fun v s1=>∃e oe vs,v=.ref e/\K.In s1.heap/\s1.heap.get? e=some oe/\oe.cls=.ref C/\oe.data=.fields vs/\vs[1]?=some .none/\E (.ref e) s1) E s) :
 wpAny (model prog w) A (raiseStmt env (some x) none) Q E s:=by
 unfold raiseStmt
 refine wpAny_bind (wpAny_mono h (fun v s1 z=>?_) fun _ _ y=>y)
 obtain ⟨e,oe,vs,rfl,X,o1,o2,o3,o4,q⟩:=z
 obtain ⟨hp,g,d,tk,os⟩:=s1
 have LT:PySem.W.Looks (model prog w) hp (typeOf (.ref e)) (.ref C):=o2 ▸ (PySem.W.Looks.ld o1).andThen .now
 have L0:PySem.W.Looks (model prog w) hp (isType (.ref e)) false:=by
  intro A' Q' E' s' k z
  unfold isType loadHead
  refine wpAny_bind (wpAny_loadPart (k _ _ o1) ?_)
  rw [o3]
  exact wpAny_pure z
 have L1:PySem.W.Looks (model prog w) hp (isExcClass (.ref e)) false:=by
  unfold isExcClass
  refine L0.andThen ?_
  simp only [Bool.false_eq_true,if_false]
  exact .now
 have L2:PySem.W.Looks (model prog w) hp (isInstance (.ref e) (.type "BaseException")) true:=LT.andThen (PySem.W.looks_mroIn X c.ex)
 have L3:PySem.W.Looks (model prog w) hp (typeOf (.ref C)) (.type "type"):=PySem.W.looks_typeIn X c.ty
 refine wpAny_bind (wpAny_pure ?_)
 refine wpAny_bind (wpAny_holding ?_)
 unfold excFromValue
 refine wpAny_bind (L1.at ?_)
 simp only [Bool.false_eq_true,if_false]
 refine wpAny_bind (L2.at ?_)
 simp only [if_true]
 refine wpAny_pure ?_
 refine wpAny_bind (L0.at ?_)
 simp only [Bool.false_eq_true,if_false]
 unfold raisedInstance
 refine wpAny_bind (wpAny_bind (LT.at (wpAny_bind (L3.at ?_))))
 rw [if_pos (by decide)]
 refine wpAny_pure (wpAny_bind ?_)
 unfold setFlight
 refine wpAny_bind (wpAny_field o1 o3 o4 ?_)
 rw [if_neg (by decide)]
 exact wpAny_pure (wpAny_raiseNew_none hh q)
noncomputable def del (H:Hp) (a:Addr):Hp:=fun b=>if b=a then none else H b
theorem ED {H:Hp} {a b:Addr} (h:b≠a):del H a b=H b:=by unfold del;rw [if_neg h]
theorem He {H:Hp} {a:Addr}:del H a a=none:=by unfold del;rw [if_pos rfl]
theorem Inv.untrack {X:Cx} {pins:List (Addr × Obj)} {σ:St} {H:Hp} {s:Shared} {e:Addr} {φ:Heap->Prop} (I:Inv X pins σ H s) (h:H e=some (.ext φ)):Inv X pins σ (del H e) s:=by
 have nx:∀b u,H b=some u->u≠.ext φ->b≠e:=fun b u z n y=>by rw [y,h] at z;cases z;exact n rfl
 have no:∀b,H b=none->del H e b=none:=fun b z=>by
  by_cases y:b=e
  ·rw [y,He]
  ·rw [ED y];exact z
 refine ⟨I.ok,I.os,I.bare,⟨I.base.keep,I.base.slot,fun b ob z n hx=>no b (I.base.free b ob z n hx),I.base.there,fun b xs z=>?_,fun b ob u z=>?_,fun b ps z=>?_⟩,I.loc,I.cell,no _ I.free,fun x c z=>no _ (I.freeC x c z),fun p hp=>?_,fun b u z=>?_,I.len⟩
 ·have y:=I.base.tups b xs z
  rw [ED (nx b _ y (fun z=>by cases z))];exact y
 ·have y:=I.base.frzs b ob u z
  rw [ED (nx b _ y (fun z=>by cases z))];exact y
 ·obtain ⟨more,y⟩:=I.base.tbls b ps z
  exact ⟨more,by rw [ED (nx b _ y (fun z=>by cases z))];exact y⟩
 ·obtain ⟨z,n,r⟩:=I.pin p hp
  exact ⟨z,no _ n,r⟩
 ·by_cases hb:b=e
  ·subst hb;rw [He] at z;cases z
  ·rw [ED hb] at z
   exact (I.hok b u z).stay (fun c v _ y=>y) (fun c y=>by rw [ED (nx c _ y (fun z=>by cases z))];exact y) fun c xs y=>by rw [ED (nx c _ y (fun z=>by cases z))];exact y
noncomputable def Le (C:Addr) (ns:List Str):Sp:=fun vs H Q _=>∃e ws args,vs=.ref e :: args/\args.length=ns.length/\H e=some (hoV e (.ref C) none ws) /\
 ∀dx H',(∀b,b≠e->b≠dx->H' b=H b)->H dx=none->dx≠e->H' e=some (hoV e (.ref C) (some dx) ws)->H' dx=some (hoD dx (ns.zip args))->Q .non H'
noncomputable def Qi (C:Addr) (ns:List Str) (W:St->XK) (t:TA):TS:=fun _ σ H=>t σ H fun vs H1=>vs.length=ns.length/\vs.length<=sizeLine/\∀dx,H1 dx=none->W σ (.ref C) (some dx) (upd H1 dx (hoD dx (ns.zip vs)))
theorem Q1 {K:PySem.W.Frag} {h:Heap} {N:Addr} {mN:Str->Option Value} {n:Str} {v:Value} (X:K.In h) (G:h.Ns N mN) (e:PySem.W.nsIn K N n=some (some v)):mN n=some v:=by
 obtain ⟨o,es,ep,g1,g2,_,g4⟩:=G
 unfold PySem.W.nsIn at e
 split at e
 ·rename_i look
  have z:=(X _ _ look).symm.trans g1
  cases z
  cases g2
  split at e
  ·rename_i en found
   cases e
   rw [<- g4]
   unfold nsFind findBy
   rw [<- Array.find?_toList]
   rw [found]
   rfl
  ·split at e
   ·cases e
   ·cases e
 ·cases e
section
variable {X:Cx} {W:St->XK} {C P fi:Addr} {k:Nat} {fd:FuncData} {ps ns:List Str} {x:Str} {p cpos pos:Pos} {e:Expr} {es:List Expr} {t:TA}
theorem Nw (B:Gc X) (hc:X.calm=true) (hr:Cq (k+1) X.A) (hg:Gl X x) (hm:X.mg x=some (.ref C)) (ic:Je X.K C P fi) (c:CP X.K C) (hk:PySem.W.keepIn X.K (.ref C)=true) (F:Bd X.prog X.w X.K X.mg X.base CX0 k fi fd ps (Le C ns)) (hb:AU X.K fd ps [])
 (ha:PA (X.wants W) (e :: es) t) (hdb:(x == ("__debug__":Str))=false:=by decide) (he:starEach (e :: es) X.env=(false,eval e X.env) :: starEach es X.env:=by rfl) (hpl:(backTo cpos (starEach es X.env)).any (·.1)=false:=by rfl) :
 PS (X.wants W) (.Raise (some (.Call (.Name x p) (e :: es) [] cpos)) none pos) (Qi C ns W t):=by
 intro pins s σ H D I h
 have main:wpAny (model X.prog X.w) X.A (eval (.Call (.Name x p) (e :: es) [] cpos) X.env) (fun v s1=>∃a oe vs,v=.ref a/\X.K.In s1.heap/\s1.heap.get? a=some oe/\oe.cls=.ref C/\oe.data=.fields vs/\vs[1]?=some .none/\Lj X W (.ref a) s1) (Lj X W) s:=by
  refine wpAny_Call_Name_kw (DY (X:=X.wants W) I hg hm ?_ hdb)
  refine PySem.W.callWith_K (h₀:=X.base) I.ok.mod.kin hk (thn (ha cpos pins s σ H _ I h) fun us s1 ⟨vs,H1,I1,r,l1,l2,q⟩=>⟨I1.kIn,?_⟩) he hpl
  obtain ⟨nm,qn,N,bs,sn,sub,ab,col,dd,k0,k1,k2,k3,k5,look,nok,ini⟩:=ic.obj
  have KX:X.K.In s1.heap:=I1.kIn
  obtain ⟨bm',N',nm',qn',bs',hd',sn',sub',ab',col',dd',j0,j1,j2,j3,j5,mN',hP,hN',hni',_⟩:=Nr KX ic.up
  have TL:OwnTail s1.heap Fp (.ref P :: Fp):=.own hP hN' hni' .base
  have G:s1.heap.Ns N (s1.heap.nsMap N):=.of_isNs (PySem.W.isNs_of_in KX nok)
  have fn:∃oi,s1.heap.get? fi=some oi/\oi.cls=.type "function":=by
   have z:=ic.fn
   unfold PySem.W.typeIn at z
   obtain ⟨oi,z1,z2⟩:=Option.map_eq_some_iff.mp z
   exact ⟨oi,KX _ _ z1,z2⟩
  obtain ⟨oi,f1,f2⟩:=fn
  have hz:us.length<=sizeLine:=by rw [<- r.length];exact l2
  have mine:=fun (h':Heap) (a:Addr) (m:Heap.MadeExcOf s1.heap h' a (.ref C) us)=>I1.unwish.mine B m.new
  have I1':=I1
  have KXs:=KX _ _ look
  obtain ⟨hp,g,d,tk,os⟩:=s1
  refine LP TL KXs G (Q1 KX G ini) f1 f2 hz fun h' a m=>?_
  obtain ⟨tu,m1,_,_⟩:=m.there
  have mi:=mine h' a m
  have J:Inv (X.wants W) pins σ H1 ⟨h',g,d,tk,os⟩:=I1'.kept (h':=h') (t':=tk) m.keeps
  have J2:=J.track (o:=hoV a (.ref C) none #[.ref tu,.none,.none,.none,.bool false,.none]) ⟨mi.un,mi.new,mi.loc,mi.cel,mi.pin⟩ (OY.ok ⟨_,m1,rfl,rfl,rfl⟩)
  have rv:AX (V.ref a :: vs) (Value.ref a :: us):=.cons rfl r
  have sp:Le C ns (V.ref a :: vs) (upd H1 a (hoV a (.ref C) none #[.ref tu,.none,.none,.none,.bool false,.none])) (fun v H'=>v=.non/\∃dx,(∀b,b≠a->b≠dx->H' b=H1 b)/\H1 dx=none/\dx≠a/\H' a=some (hoV a (.ref C) (some dx) #[.ref tu,.none,.none,.none,.bool false,.none])/\H' dx=some (hoD dx (ns.zip vs))) E0 :=
   ⟨a,_,vs,rfl,l1,Ag,fun dx H' z1 z2 z3 z4 z5=>⟨rfl,dx,fun b y1 y2=>(z1 b y1 y2).trans (A8 y1),by rw [A8 z3] at z2;exact z2,z3,z4,z5⟩⟩
  have hl:(Value.ref a :: us++[]).length=ps.length:=by
   rw [append_nil,<- rv.length]
   exact F.len _ _ _ _ sp
  refine wpAny_call (codeAny_mono (F.run _ X.stack _ _ ⟨Value.ref a :: us,[]⟩ (Value.ref a :: us++[]) (V.ref a :: vs) _ _ (hr.make C us []) (J2.unwish.env0.make C us []) (hb _ (Value.ref a :: us) J2.kIn hl) (by rw [append_nil];exact rv) sp) fun rr s3 z=>?_)
  cases rr with
  | error e=>exact False.elim z
  | ok fl =>
    cases fl with
    | next=>exact False.elim z
    | brk=>exact False.elim z
    | cont=>exact False.elim z
    | ret u =>
      obtain ⟨v,H3,I3,rv3,ev,dx,y1,y2,y3,y4,y5⟩:=J2.after z
      subst ev
      have I4:=I3.unwish.untrack y4
      obtain ⟨⟨oe,w1,w2,w3,w4⟩,_,_⟩:=(show Bk X.prog X.w H3 s3.heap a (hoV a (.ref C) (some dx) _) from I3.hok a _ y4)
      have eH:del H3 a=upd H1 dx (hoD dx (ns.zip vs)):=by
       funext b
       by_cases z1:b=a
       ·rw [z1,He,A8 (Ne.symm y3)];exact mi.un.symm
       ·rw [ED z1]
        by_cases z2:b=dx
        ·rw [z2,Ag];exact y5
        ·rw [A8 z2];exact y1 b z1 z2
      rw [eH] at I4
      refine ⟨rv3,a,oe,_,rfl,I3.kIn,w1,w2,w4,rfl,σ,_,a,.ref C,some dx,rfl,I4.nopins,⟨none,.none,⟨oe,_,w1,w2,w3,w4,rfl,rfl⟩,fun b hb'=>?_⟩,q dx y2⟩
      have z:b=a:=by simpa using hb'
      rw [z]
      exact (Jp.less ⟨by rw [A8 (Ne.symm y3)];exact mi.un,mi.new,mi.loc,mi.cel,mi.pin⟩)
 rw [arm_exec_Raise]
 simp only [evalOpt,Option.map]
 exact wpAny_bind (wpAny_standAt (Nv c (I.ok.hd hc) (wpAny_bind (wpAny_mono main (fun v s1 z=>wpAny_bind (wpAny_standAt (wpAny_pure z))) fun _ _ y=>y))))
end
end L2
namespace L2
open PySem PySem.Spec PyProof.Rows
mutual
inductive Rep (K:PySem.W.Frag) (H:Hp):V->PyData->Prop
 | non:Rep K H .non .none
 | bl (b:Bool):Rep K H (.bl b) (.bool b)
 | int (i:Int):Rep K H (.int i) (.int i)
 | str (x:Str):Rep K H (.str x) (.str x)
 | lst {a:Addr} {xs:List V} {ds:List PyData}:SqL K H a xs->Reps K H xs ds->Rep K H (.ref a) (.list ds)
 | tup {a:Addr} {xs:List V} {ds:List PyData}:SqT K H a xs->Reps K H xs ds->Rep K H (.ref a) (.tuple ds)
inductive Reps (K:PySem.W.Frag) (H:Hp):List V->List PyData->Prop
 | nil:Reps K H [] []
 | cons {x:V} {xs:List V} {d:PyData} {ds:List PyData}:Rep K H x d->Reps K H xs ds->Reps K H (x :: xs) (d :: ds)
end
section
variable {K:PySem.W.Frag} {H H':Hp}
mutual
theorem Rep.same (e:AJ H H'):∀{x:V} {d:PyData},Rep K H x d->Rep K H' x d
 | _,_,.non=>.non
 | _,_,.bl b=>.bl b
 | _,_,.int i=>.int i
 | _,_,.str x=>.str x
 | _,_,.lst h r=>.lst (e.seq h) (Reps.same e r)
 | _,_,.tup h r=>.tup (by
  rcases h with (h | ⟨o,h⟩) | h
  ·exact .inl (.inl (e _ _ h))
  ·exact .inl (.inr ⟨o,e _ _ h⟩)
  ·exact .inr h) (Reps.same e r)
theorem Reps.same (e:AJ H H'):∀{xs:List V} {ds:List PyData},Reps K H xs ds->Reps K H' xs ds
 | _,_,.nil=>.nil
 | _,_,.cons r t=>.cons (Rep.same e r) (Reps.same e t)
end
theorem Reps.ints:∀(ns:List Int),Reps K H (ns.map V.int) (ns.map PyData.int)
 | []=>.nil
 | n :: ns=>.cons (.int n) (Reps.ints ns)
end
section
variable {X:Cx} {pins:List (Addr × Obj)} {σ:St} {H:Hp} {s:Shared}
mutual
theorem Inv.reads (I:Inv X pins σ H s):∀{x:V} {d:PyData},Rep X.K H x d->∀{v:Value},Bg x v->∃as,Reads s.heap v d as
 | _,_,.non,v,r=>by cases (show v=Value.none from r);exact ⟨_,.none⟩
 | _,_,.bl b,v,r=>by cases (show v=Value.bool b from r);exact ⟨_,.bool b⟩
 | _,_,.int i,v,r=>by obtain ⟨t,e⟩:=(show ∃t,v=Value.int i t from r);cases e;exact ⟨_,.int i t⟩
 | _,_,.str x,v,r=>by obtain ⟨t,e⟩:=(show ∃t,v=Value.str x t from r);cases e;exact ⟨_,.str x t⟩
 | _,_,.lst (a:=a) h rs,v,r=>by
   cases (show v=Value.ref a from r)
   obtain ⟨its,rv,⟨o,n,e1,e2,_,e4⟩,_⟩:=I.list h
   obtain ⟨as,q⟩:=Inv.readsAll I rs rv
   exact ⟨_,.list e1 e2 e4 q⟩
 | _,_,.tup (a:=a) h rs,v,r=>by
   cases (show v=Value.ref a from r)
   obtain ⟨its,rv,⟨o,e1,e2,n,e4⟩,_⟩:=I.tuple h
   obtain ⟨as,q⟩:=Inv.readsAll I rs rv
   exact ⟨_,.tuple e1 e2 e4 q⟩
theorem Inv.readsAll (I:Inv X pins σ H s):∀{xs:List V} {ds:List PyData},Reps X.K H xs ds->∀{vs:List Value},AX xs vs->∃as,ReadsAll s.heap vs ds as
 | _,_,.nil,_,.nil=>⟨_,.nil⟩
 | _,_,.cons r t,_,.cons q u=>by
   obtain ⟨a1,h1⟩:=Inv.reads I r q
   obtain ⟨a2,h2⟩:=Inv.readsAll I t u
   exact ⟨_,.cons h1 h2⟩
end
noncomputable def SY (K:PySem.W.Frag):R2:=fun x y H Q=>∃d e,Rep K H x d/\Rep K H y e/\PySem.SeqAt.shaped d=true/\PySem.SeqAt.shaped e=true/\Q (.bl (PyData.eqv d e)) H
noncomputable def Tf (K:PySem.W.Frag):R2:=fun x y H Q=>∃d e,Rep K H x d/\Rep K H y e/\PySem.SeqAt.shaped d=true/\PySem.SeqAt.shaped e=true/\Q (.bl (!PyData.eqv d e)) H
theorem D6 {K:PySem.W.Frag} (hu:X.A.units+64 < cLine) (hK:X.K=K:=by rfl):OpR X (compareOp .Eq) (SY K):=by
 subst hK
 intro pins s σ H x y v u Q I rx ry h
 obtain ⟨d,e,hx,hy,s1,s2,q⟩:=h
 obtain ⟨as,r1⟩:=I.reads hx rx
 obtain ⟨bs,r2⟩:=I.reads hy ry
 exact eq_dataH r1 r2 s1 s2 hu ⟨.bl _,H,I,rfl,q⟩
theorem HL {K:PySem.W.Frag} (hu:X.A.units+64 < cLine) (hK:X.K=K:=by rfl):OpR X (compareOp .NotEq) (Tf K):=by
 subst hK
 intro pins s σ H x y v u Q I rx ry h
 obtain ⟨d,e,hx,hy,s1,s2,q⟩:=h
 obtain ⟨as,r1⟩:=I.reads hx rx
 obtain ⟨bs,r2⟩:=I.reads hy ry
 exact ne_dataH r1 r2 s1 s2 hu ⟨.bl _,H,I,rfl,q⟩
end
end L2
namespace L2
open PySem PySem.Spec PyProof.Rows
theorem NQ:typeLookup (.type "list_reverseiterator") "__len__"=pure none:=by rw [typeLookup_type,builtinLookup_eq_fast];kernel_rfl
theorem Pn:typeLookup (.type "list_reverseiterator") "__length_hint__"=pure (some (.builtin "list_reverseiterator.__length_hint__")):=by rw [typeLookup_type,builtinLookup_eq_fast];kernel_rfl
section
variable {prog:Program} {w:World} {A:Around} {E:Value->Shared->Prop} {s:Shared}
theorem OB {I:Addr} {Q:Bool->Shared->Prop} (hT:s.TypeIs (.ref I) "list_reverseiterator") (h:Q false s):wpAny (model prog w) A (Builtin.List.listLengthHint (.ref I)) Q E s:=by
 unfold Builtin.List.listLengthHint
 refine wpAny_bind (wpAny_specialOf hT NQ ?_)
 show wpAny _ A (specialOf (Value.ref I) (Str.ofString "__length_hint__") >>= _) _ _ _
 refine wpAny_bind (wpAny_specialOf hT Pn ?_)
 generalize hid:("list_reverseiterator.__length_hint__":String)=id0
 wp_delta
 rw [show splitId id0=some ("list_reverseiterator","__length_hint__") from by subst hid;decide +kernel]
 subst hid
 refine wpAny_bind (wpAny_isInstance (b:=true) hT (by rw [isSubtype_type];kernel_rfl) ?_)
 exact wpAny_pure h
theorem NH {items acc:Array Value} (h:ItemsOf (fun i v=>items[items.size - 1 - i]?=some v) acc items.size):acc=items.toList.reverse.toArray:=by
 obtain ⟨h1,h2⟩:=h
 apply Array.ext
 ·simpa using h1
 ·intro i hi hj
  have e:items[items.size - 1 - i]?=some acc[i]:=h2 i acc[i] (by simp [hi])
  have hi':i < items.size:=by omega
  rw [Array.getElem?_eq_getElem (by omega)] at e
  simp only [getElem_toArray,getElem_reverse,Array.getElem_toList,Array.length_toList]
  exact (Option.some.inj e).symm
theorem Mh {I l S:Addr} {items:Array Value} {R:Result->Shared->Prop} {c₀:Nat} (hh:A.handled=none) (hne:l≠I) (hit:s.heap.IsRevIter I l ((items.size:Int) - 1)) (hl:s.heap.IsList l items)
 (hSI:S≠I) (hSl:S≠l) (hz:items.size<=sizeLine) (hS:s.heap.get? S=some { cls:=.type "list",data:=.seq #[] c₀ })
 (hR:∀s' c',Moved [S,I] (fun a b=>b=a) s s'->s'.heap.get? S=some { cls:=.type "list",dict:=none,data:=.seq items.toList.reverse.toArray c',slots:=#[] }->R (.ok (.ret .none)) s') :
 wpAny (model prog w) A.in1 (Builtin.List.listExtendWith (.ref S) (.ref I) .none)
  (fun fin s'=>match fin with | .done f=>R (.ok f) s' | .again c'=>c'.quiet=true/\codeAny (model prog w) A c' R s') (fun e s'=>R (.error e) s') s:=by
 have W:=(Walks.listRev (prog:=prog) (w:=w) (A:=A.in1) hh I l hne items).toS
 have st:(0:Nat)<=items.size/\s.heap.IsRevIter I l ((items.size:Int) - 1 - ((0:Nat):Int))/\s.heap.IsList l items:=⟨Nat.zero_le _,by simpa using hit,hl⟩
 have hT:=hit.typeIs
 unfold Builtin.List.listExtendWith
 refine wpAny_bind (wpAny_typeOf hT ?_)
 have h1:Builtin.List.listSameRef (.ref S) (.ref I)=false:=by simp [Builtin.List.listSameRef,hSI]
 rw [if_neg (by rw [h1];decide)]
 refine wpAny_bind (wpAny_pyIter_revIter hit ?_)
 refine wpAny_bind (wpAny_holding (OB hT ?_))
 rw [if_neg (by decide)]
 refine wpAny_pure ⟨plainId_quiet F.plain_extend_loop _,codeAny_extend_loopS W hz S (by simp [hSI,hSl]) .none items.size 0 _ _ _ rfl (Nat.zero_le _) st hS (ItemsOf.nil _) fun s' acc c' hm hS' hacc=>?_⟩
 rw [NH hacc] at hS'
 exact hR s' c' hm hS'
theorem Ih {I l:Addr} {items:Array Value} {Q:Value->Shared->Prop} (hh:A.handled=none) (hne:l≠I) (hit:s.heap.IsRevIter I l ((items.size:Int) - 1)) (hl:s.heap.IsList l items) (hz:items.size<=sizeLine)
 (hQ:∀h' tk c',(∀b o,b≠I->s.heap.get? b=some o->h'.get? b=some o)->h'.get? s.heap.objs.size=some { cls:=.type "list",dict:=none,data:=.seq items.toList.reverse.toArray c',slots:=#[] } ->
  Q (.ref s.heap.objs.size) { s with heap:=h',toks:=tk }):wpAny (model prog w) A (call (.type "list") [.ref I]) Q E s:=by
 refine callType_codes (Q₁:=fun obj s₁=>obj=.ref s.heap.objs.size/\s₁={ s with heap:=s.heap.push { cls:=.type "list",data:=.seq #[] } }) F.called_list (F.typeCall_list_1 _) F.entry_list_init (code_list_new _ ⟨rfl,rfl⟩) ?_
 rintro obj s₁ ⟨rfl,rfl⟩
 have hS:(s.heap.push { cls:=.type "list",data:=.seq #[] }).get? s.heap.objs.size=some { cls:=.type "list",data:=.seq #[] }:=Heap.get?_push_size _ rfl
 refine ⟨⟨_,hS,rfl⟩,F.args_list_init_2 _ _,?_⟩
 have lI:I < s.heap.objs.size:=by obtain ⟨o,ho,_⟩:=hit;exact Heap.lt_size ho
 have ll:l < s.heap.objs.size:=by obtain ⟨o,ho,_⟩:=hl;exact Heap.lt_size ho
 show wpAny _ A.in1.in1 (do let old <- Builtin.List.listItems (.ref s.heap.objs.size);Builtin.List.listUpdate (.ref s.heap.objs.size) (fun _=>#[]);letGo old.toList.reverse;Builtin.List.listExtendWith (.ref s.heap.objs.size) (.ref I) .none) _ _ _
 refine wpAny_bind ?_
 unfold Builtin.List.listItems
 refine wpAny_bind (wpAny_seqItems hS rfl (wpAny_pure ?_))
 show wpAny _ A.in1.in1 (updateSeq s.heap.objs.size (fun _=>#[]) >>= fun _=>letGo (#[]:Array Value).toList.reverse >>= fun _=>Builtin.List.listExtendWith (.ref s.heap.objs.size) (.ref I) .none) _ _ _
 refine wpAny_bind (wpAny_updateSeq hS rfl ?_)
 have hS₂:=Heap.get?_update_self (Obj.mapSeq (fun _=>(#[]:Array Value))) hS rfl
 have oth:∀b o,s.heap.get? b=some o->((s.heap.push { cls:=.type "list",data:=.seq #[] }).update s.heap.objs.size (Obj.mapSeq (fun _=>(#[]:Array Value)))).get? b=some o :=
  fun b o e=>(Heap.get?_update_other _ _ (Ne.symm (Nat.ne_of_lt (Heap.lt_size e)))).trans (Heap.get?_push_of_some _ e)
 refine wpAny_bind (wpAny_letGo ?_)
 refine Mh (A:=A.in1) hh hne (hit.at (oth I)) (hl.at (oth l)) (Ne.symm (Nat.ne_of_lt lI)) (Ne.symm (Nat.ne_of_lt ll)) hz hS₂ fun s' c' hm hS'=>?_
 refine ⟨rfl,?_⟩
 rw [Moved.eq_with hm]
 exact hQ s'.heap s'.toks c' (fun b o hb e=>hm.heap b o (by simp [hb,Nat.ne_of_lt (Heap.lt_size e)]) (oth b o e)) hS'
end
section
variable {X:Cx} {e:Expr} {te:TE} {p p2 pos pos2:Pos}
noncomputable def SG (K:PySem.W.Frag) (te:TE):TE:=fun σ H Q=>te σ H fun x H1=>∃a ys,x=.ref a/\SqL K H1 a ys/\∀l,H1 l=none->Q (.ref l) (upd H1 l (.lst ys.reverse))
theorem Hj (hc:X.calm=true) (hg:Gl X "list") (hm:X.mg "list"=none) (hg2:Gl X "reversed") (hm2:X.mg "reversed"=none) (he:PE X e te)
 (hs:starEach [e] X.env=[(false,eval e X.env)]:=by rfl)
 (hs2:starEach [(.Call (.Name "reversed" p2) [e] [] pos2:Expr)] X.env=[(false,eval (.Call (.Name "reversed" p2) [e] [] pos2) X.env)]:=by rfl) :
 PE X (.Call (.Name "list" p) [.Call (.Name "reversed" p2) [e] [] pos2] [] pos) (SG X.K te):=by
 intro pins s σ H Q I h
 refine wpAny_Call_Name_kw (CI I hg hm boot_list ?_ (by decide) (by decide))
 refine callWith_type1 ?_ hs2 rfl
 rw [hs2]
 refine Calls.spliced_cons ?_
 refine wpAny_Call_Name_kw (CI I hg2 hm2 boot_reversed ?_ (by decide) (by decide))
 refine callWith_type1 ?_ hs rfl
 rw [hs]
 refine Calls.spliced_cons (thn (he pins s σ H _ I h) fun u s1 ⟨x,H1,I1,r1,a,ys,hx,hq,q⟩=>?_)
 subst hx
 cases r1
 refine Calls.spliced_nil ?_
 obtain ⟨its,rv,pl,hz⟩:=I1.list hq
 have hl:=pl.isList
 have hlen:=rv.length
 refine call_reversed_list hl ?_
 refine Calls.spliced_nil ?_
 have la:a < s1.heap.objs.size:=by obtain ⟨o,ho,_⟩:=hl;exact Heap.lt_size ho
 refine Ih (items:=its.toArray) (I1.ok.hd hc) (Nat.ne_of_lt la) ⟨_,Heap.get?_push_size _ rfl,rfl,rfl⟩ (hl.at fun o e=>Heap.get?_push_of_some _ e) (by simp only [size_toArray];omega) fun h' tk c' kp eS=>?_
 have kp':∀b o,s1.heap.get? b=some o->h'.get? b=some o:=fun b o e=>kp b o (Nat.ne_of_lt (Heap.lt_size e)) (Heap.get?_push_of_some _ e)
 have hp:s1.heap.objs.size<=(s1.heap.push (revObj a ((its.toArray.size:Int) - 1))).objs.size:=by simp [Heap.push]
 refine ⟨.ref _,_,I1.laid (t':=tk) kp' hp (show Bk X.prog X.w _ h' _ (.lst ys.reverse) from ⟨by simpa using hz,its.reverse,c',rv.reverse,by simpa using eS⟩),rfl,q _ (I1.hok.fresh hp)⟩
end
end L2
namespace L2
open PySem PySem.W PySem.Spec PyProof.Rows
section
variable {O:KeyOrd} {ky:Nat->O.α} {n:Nat} {cmp:Nat->Nat->(Bool->Shared->Prop)->Shared->Prop} {J:Shared->Prop}
noncomputable def kk (ky:Nat->O.α) (p:Array Nat) (i:Nat):O.α:=ky (p.getD i 0)
noncomputable def Srt (ky:Nat->O.α) (p:Array Nat) (m:Nat):Prop:=∀i j,i<=j->j < m->O.kle (kk ky p i) (kk ky p j)
noncomputable def Fal (ky:Nat->O.α) (p:Array Nat) (m:Nat):Prop:=∀i j,i<=j->j < m->O.kle (kk ky p j) (kk ky p i)
noncomputable def Prm (n:Nat) (p:Array Nat):Prop:=p.toList.Perm (List.range n)
noncomputable def Js (O:KeyOrd) (ky:Nat->O.α) (n:Nat) (cmp:Nat->Nat->(Bool->Shared->Prop)->Shared->Prop) (J:Shared->Prop):Prop :=
 ∀i j (C:Bool->Shared->Prop) s,i < n->j < n->J s->(∀s',J s'->C (O.blt (ky i) (ky j)) s')->cmp i j C s
theorem Prm.size {p:Array Nat} (h:Prm n p):p.size=n:=by
 have:=h.length_eq
 rw [length_range] at this
 exact this
theorem Prm.lt {p:Array Nat} (h:Prm n p) {k:Nat} (hk:k < n):p.getD k 0 < n:=by
 have hz:=h.size
 have e:p.getD k 0=p[k]'(by omega):=by simp [Array.getD,hz,hk]
 rw [e]
 exact mem_range.mp (h.mem_iff.mp (by simp))
theorem Prm.rev {p:Array Nat} (h:Prm n p) (i j:Nat):Prm n (kas_rev p i j):=(mirror_perm p i j _).toList.trans h
theorem Prm.bub {p:Array Nat} (h:Prm n p) (k d:Nat):Prm n (bubble p k d):=(bubble_perm p k d).toList.trans h
theorem FE {p q:Array Nat} {i j:Nat} (e:p[i]?=q[j]?):p.getD i 0=q.getD j 0:=by
 rw [Array.getD_eq_getD_getElem?,Array.getD_eq_getD_getElem?,e]
theorem FY {p:Array Nat} {i j:Nat} (hj:j<=p.size) (k:Nat):kk ky (kas_rev p i j) k=if i<=k/\k < j then kk ky p (i+j - 1 - k) else kk ky p k:=by
 have e:=getElem?_mirror_all (xs:=p) (i:=i) hj k
 unfold kk kas_rev
 by_cases c:i<=k/\k < j
 ·rw [if_pos c] at e ⊢
  rw [FE e]
 ·rw [if_neg c] at e ⊢
  rw [FE e]
theorem P4 {p:Array Nat} {src d:Nat} (hs:src < p.size) (hd:d<=src) (k:Nat) :
 kk ky (bubble p src d) k=if k=src - d then kk ky p src else if src - d < k/\k<=src then kk ky p (k - 1) else kk ky p k:=by
 have e:=getElem?_bubble hs d hd k
 unfold kk
 by_cases c:k=src - d
 ·rw [if_pos c] at e ⊢
  rw [FE e]
 ·rw [if_neg c] at e ⊢
  by_cases c2:src - d < k/\k<=src
  ·rw [if_pos c2] at e ⊢
   rw [FE e]
  ·rw [if_neg c2] at e ⊢
   rw [FE e]
theorem Srt.succ {p:Array Nat} {m:Nat} (h:Srt ky p m) (h1:1<=m) (c:O.kle (kk ky p (m - 1)) (kk ky p m)):Srt ky p (m+1):=fun i j hij hj=>by
 by_cases e:j=m
 ·subst e
  by_cases e2:i=j
  ·subst e2
   exact KeyOrd.kle_refl _
  ·exact KeyOrd.kle_trans (h i (j - 1) (by omega) (by omega)) c
 ·exact h i j hij (by omega)
theorem Fal.succ {p:Array Nat} {m:Nat} (h:Fal ky p m) (h1:1<=m) (c:O.kle (kk ky p m) (kk ky p (m - 1))):Fal ky p (m+1):=fun i j hij hj=>by
 by_cases e:j=m
 ·subst e
  by_cases e2:i=j
  ·subst e2
   exact KeyOrd.kle_refl _
  ·exact KeyOrd.kle_trans c (h i (j - 1) (by omega) (by omega))
 ·exact h i j hij (by omega)
theorem Srt.one {p:Array Nat}:Srt ky p 1:=fun i j hij hj=>by
 have:i=j:=by omega
 subst this
 exact KeyOrd.kle_refl _
theorem Fal.rev {p:Array Nat} {m:Nat} (hz:m<=p.size) (h:Fal ky p m):Srt ky (kas_rev p 0 m) m:=fun i j hij hj=>by
 rw [FY hz,FY hz,if_pos ⟨Nat.zero_le _,by omega⟩,if_pos ⟨Nat.zero_le _,hj⟩]
 exact h _ _ (by omega) (by omega)
theorem Fal.revEq {p:Array Nat} {i j m:Nat} (hz:j<=p.size) (hm:j<=m) (h:Fal ky p m) (eq:∀a b,i<=a->a < j->i<=b->b < j->O.kle (kk ky p a) (kk ky p b)):Fal ky (kas_rev p i j) m:=fun a b hab hb=>by
 rw [FY hz,FY hz]
 by_cases c1:i<=a/\a < j
 ·rw [if_pos c1]
  by_cases c2:i<=b/\b < j
  ·rw [if_pos c2]
   exact eq _ _ (by omega) (by omega) (by omega) (by omega)
  ·rw [if_neg c2]
   exact h _ _ (by omega) hb
 ·rw [if_neg c1]
  by_cases c2:i<=b/\b < j
  ·rw [if_pos c2]
   exact h _ _ (by omega) (by omega)
  ·rw [if_neg c2]
   exact h _ _ hab hb
theorem Lh (ac:Js O ky n cmp J) {p:Array Nat} (hp:Prm n p) {R:Nat->Shared->Prop}:∀(f a:Nat) (s:Shared),1<=a->a+f<=n->Srt ky p a->J s ->
 (∀m s',a<=m->m<=a+f->Srt ky p m->(m < a+f->O.klt (kk ky p m) (kk ky p (m - 1)))->J s'->R m s')->(kas_asc p f a).kasWp cmp R s
 | 0,a,s,h1,hz,hs,hJ,k=>k a s (Nat.le_refl _) (Nat.le_refl _) hs (fun h=>absurd h (Nat.lt_irrefl _)) hJ
 | f+1,a,s,h1,hz,hs,hJ,k=>by
   refine ac _ _ _ s (hp.lt (by omega)) (hp.lt (by omega)) hJ fun s' hJ'=>?_
   cases e:O.blt (ky (p.getD a 0)) (ky (p.getD (a - 1) 0)) with
   | true =>
     dsimp only
     rw [if_pos rfl]
     exact k a s' (Nat.le_refl _) (by omega) hs (fun _=>e) hJ'
   | false =>
     dsimp only
     rw [if_neg Bool.false_ne_true]
     refine Lh ac hp f (a+1) s' (by omega) (by omega) (hs.succ h1 e) hJ' fun m s2 l1 l2 q1 q2 q3=>?_
     exact k m s2 (by omega) (by omega) q1 (fun h=>q2 (by omega)) q3
theorem GG (ac:Js O ky n cmp J) {R:Array Nat × Nat × Nat->Shared->Prop}:∀(f:Nat) (p:Array Nat) (m q:Nat) (s:Shared),Prm n p->q+1<=m->m+f<=n->Fal ky p m ->
 (∀a b,m - (q+1)<=a->a < m->m - (q+1)<=b->b < m->O.kle (kk ky p a) (kk ky p b))->J s ->
 (∀p' m' q' s',Prm n p'->q'+1<=m'->m<=m'->m'<=m+f->Fal ky p' m'->(∀a b,m' - (q'+1)<=a->a < m'->m' - (q'+1)<=b->b < m'->O.kle (kk ky p' a) (kk ky p' b))->J s'->R (p',m',q') s') ->
 (kas_desc f p m q).kasWp cmp R s
 | 0,p,m,q,s,hp,hq,hz,hf,he,hJ,k=>k p m q s hp hq (Nat.le_refl _) (Nat.le_refl _) hf he hJ
 | f+1,p,m,q,s,hp,hq,hz,hf,he,hJ,k=>by
   have hsz:=hp.size
   refine ac _ _ _ s (hp.lt (by omega)) (hp.lt (by omega)) hJ fun s' hJ'=>?_
   cases e:O.blt (ky (p.getD m 0)) (ky (p.getD (m - 1) 0)) with
   | true =>
     dsimp only
     rw [if_pos rfl]
     have hf':Fal ky p (m+1):=hf.succ (by omega) (KeyOrd.kle_of_klt e)
     have one:∀p':Array Nat,∀a b,m+1 - (0+1)<=a->a < m+1->m+1 - (0+1)<=b->b < m+1->O.kle (kk ky p' a) (kk ky p' b):=fun p' a b _ _ _ _=>by
      have:a=b:=by omega
      subst this
      exact KeyOrd.kle_refl _
     by_cases c:q > 0
     ·rw [if_pos c]
      refine GG ac f (kas_rev p (m - (q+1)) m) (m+1) 0 s' (hp.rev _ _) (by omega) (by omega) (hf'.revEq (by omega) (by omega) he) (one _) hJ' fun p' m' q' s2 a1 a2 a3 a4 a5 a6 a7=>?_
      exact k p' m' q' s2 a1 a2 (by omega) (by omega) a5 a6 a7
     ·rw [if_neg c]
      refine GG ac f p (m+1) 0 s' hp (by omega) (by omega) hf' (one _) hJ' fun p' m' q' s2 a1 a2 a3 a4 a5 a6 a7=>?_
      exact k p' m' q' s2 a1 a2 (by omega) (by omega) a5 a6 a7
   | false =>
     dsimp only
     rw [if_neg Bool.false_ne_true]
     refine ac _ _ _ s' (hp.lt (by omega)) (hp.lt (by omega)) hJ' fun s2 hJ2=>?_
     cases e2:O.blt (ky (p.getD (m - 1) 0)) (ky (p.getD m 0)) with
     | true =>
       dsimp only
       rw [if_pos rfl]
       exact k p m q s2 hp hq (Nat.le_refl _) (by omega) hf he hJ2
     | false =>
       dsimp only
       rw [if_neg Bool.false_ne_true]
       have g1:O.kle (kk ky p (m - 1)) (kk ky p m):=e
       have g2:O.kle (kk ky p m) (kk ky p (m - 1)):=e2
       refine GG ac f p (m+1) (q+1) s2 hp (by omega) (by omega) (hf.succ (by omega) g2) (fun a b a1 a2 b1 b2=>?_) hJ2 fun p' m' q' s3 c1 c2 c3 c4 c5 c6 c7=>?_
       ·by_cases ea:a=m
        ·by_cases eb:b=m
         ·rw [ea,eb]
          exact KeyOrd.kle_refl _
         ·rw [ea]
          exact KeyOrd.kle_trans g2 (he (m - 1) b (by omega) (by omega) (by omega) (by omega))
        ·by_cases eb:b=m
         ·rw [eb]
          exact KeyOrd.kle_trans (he a (m - 1) (by omega) (by omega) (by omega) (by omega)) g1
         ·exact he a b (by omega) (by omega) (by omega) (by omega)
       ·exact k p' m' q' s3 c1 c2 (by omega) (by omega) c5 c6 c7
theorem JX (ac:Js O ky n cmp J) {p:Array Nat} (hp:Prm n p) {m nrem:Nat} {R:Nat × Array Nat->Shared->Prop} {s:Shared} (h1:1<=m) (h2:m<=nrem) (h3:nrem<=n) (hf:Fal ky p m) (hJ:J s)
 (k:∀m' p' s',1<=m'->m'<=nrem->Prm n p'->Srt ky p' m'->J s'->R (m',p') s'):(kas_tail3 m nrem p).kasWp cmp R s:=by
 have hsz:=hp.size
 unfold kas_tail3
 rw [KasT.kasWp_bind]
 refine Lh ac (hp.rev 0 m) (nrem - m) m s h1 (by omega) (hf.rev (by omega)) hJ fun m' s' a1 a2 a3 _ a5=>?_
 exact k m' _ s' (by omega) (by omega) (hp.rev _ _) a3 a5
theorem Gy (ac:Js O ky n cmp J) {p:Array Nat} (hp:Prm n p) {m nrem:Nat} {R:Nat × Array Nat->Shared->Prop} {s:Shared} (h2:m+1<=nrem) (h3:nrem<=n) (hf:Fal ky p (m+1)) (hJ:J s)
 (k:∀m' p' s',1<=m'->m'<=nrem->Prm n p'->Srt ky p' m'->J s'->R (m',p') s'):(kas_descPart m nrem p).kasWp cmp R s:=by
 unfold kas_descPart
 rw [KasT.kasWp_bind]
 refine GG ac (nrem - (m+1)) p (m+1) 0 s hp (by omega) (by omega) hf (fun a b _ _ _ _=>?_) hJ fun p' m' q' s' a1 a2 a3 a4 a5 a6 a7=>?_
 ·have:a=b:=by omega
  subst this
  exact KeyOrd.kle_refl _
 ·have hsz:=a1.size
  dsimp only
  by_cases c:q' > 0
  ·rw [if_pos c]
   exact JX ac (a1.rev _ _) (by omega) (by omega) h3 (a5.revEq (by omega) (Nat.le_refl _) a6) a7 k
  ·rw [if_neg c]
   exact JX ac a1 (by omega) (by omega) h3 a5 a7 k
theorem Ow (ac:Js O ky n cmp J) {p:Array Nat} (hp:Prm n p) {R:Nat × Array Nat->Shared->Prop} {s:Shared} (h1:1<=n) (hJ:J s)
 (k:∀m' p' s',1<=m'->m'<=n->Prm n p'->Srt ky p' m'->J s'->R (m',p') s'):(kas_count n p).kasWp cmp R s:=by
 have hsz:=hp.size
 unfold kas_count
 rw [KasT.kasWp_bind]
 refine Lh ac hp (n - 1) 1 s (Nat.le_refl _) (by omega) Srt.one hJ fun m s' a1 a2 a3 a4 a5=>?_
 by_cases c:m=n
 ·rw [if_pos (by simpa using c)]
  exact k m p s' a1 (by omega) hp a3 a5
 ·rw [if_neg (by simpa using c)]
  have lt:=a4 (by omega)
  by_cases c1:m > 1
  ·rw [if_pos c1]
   refine ac _ _ _ s' (hp.lt (by omega)) (hp.lt (by omega)) a5 fun s2 hJ2=>?_
   cases e:O.blt (ky (p.getD 0 0)) (ky (p.getD (m - 1) 0)) with
   | true =>
     dsimp only
     rw [if_pos rfl]
     exact k m p s2 a1 (by omega) hp a3 hJ2
   | false =>
     dsimp only
     rw [if_neg Bool.false_ne_true]
     have g:O.kle (kk ky p (m - 1)) (kk ky p 0):=e
     have eq:∀a b,a < m->b < m->O.kle (kk ky p a) (kk ky p b):=fun a b ha hb =>
      KeyOrd.kle_trans (a3 a (m - 1) (by omega) (by omega)) (KeyOrd.kle_trans g (a3 0 b (by omega) hb))
     refine Gy ac (hp.rev 0 m) (by omega) (Nat.le_refl _) ?_ hJ2 k
     intro i j hij hj
     rw [FY (by omega),FY (by omega)]
     by_cases cj:j < m
     ·rw [if_pos ⟨Nat.zero_le _,cj⟩,if_pos ⟨Nat.zero_le _,by omega⟩]
      exact eq _ _ (by omega) (by omega)
     ·have ej:j=m:=by omega
      subst ej
      rw [if_neg (by omega)]
      by_cases ci:i < j
      ·rw [if_pos ⟨Nat.zero_le _,ci⟩]
       exact KeyOrd.kle_trans (KeyOrd.kle_of_klt lt) (eq _ _ (by omega) (by omega))
      ·rw [if_neg (by omega)]
       have:i=j:=by omega
       subst this
       exact KeyOrd.kle_refl _
  ·rw [if_neg c1]
   have em:m=1:=by omega
   subst em
   refine Gy ac hp (by omega) (Nat.le_refl _) ?_ a5 k
   have f1:Fal ky p 1:=fun i j hij hj=>by
    have:i=j:=by omega
    subst this
    exact KeyOrd.kle_refl _
   exact f1.succ (Nat.le_refl _) (KeyOrd.kle_of_klt lt)
theorem GU (ac:Js O ky n cmp J) {p:Array Nat} (hp:Prm n p) {t:Nat} (ht:t < n) {R:Nat->Shared->Prop}:∀(f l r:Nat) (s:Shared),l<=r->r<=t->r - l<=f->(∀i,i < l->O.kle (kk ky p i) (kk ky p t))->(∀i,r<=i->i < t->O.klt (kk ky p t) (kk ky p i)) ->
 Srt ky p t->J s->(∀l' s',l'<=t->(∀i,i < l'->O.kle (kk ky p i) (kk ky p t))->(∀i,l'<=i->i < t->O.klt (kk ky p t) (kk ky p i))->J s'->R l' s')->(kas_place p t f l r).kasWp cmp R s
 | 0,l,r,s,h1,h2,h3,h4,h5,_,hJ,k=>k l s (by omega) h4 (fun i a b=>h5 i (by omega) b) hJ
 | f+1,l,r,s,h1,h2,h3,h4,h5,hs,hJ,k=>by
   unfold kas_place
   by_cases c:l>=r
   ·rw [if_pos c]
    exact k l s (by omega) h4 (fun i a b=>h5 i (by omega) b) hJ
   ·rw [if_neg c]
    refine ac _ _ _ s (hp.lt ht) (hp.lt (by omega)) hJ fun s' hJ'=>?_
    cases e:O.blt (ky (p.getD t 0)) (ky (p.getD ((l+r) / 2) 0)) with
    | true =>
      dsimp only
      rw [if_pos rfl]
      have g:O.klt (kk ky p t) (kk ky p ((l+r) / 2)):=e
      exact GU ac hp ht f l ((l+r) / 2) s' (by omega) (by omega) (by omega) h4 (fun i a b=>KeyOrd.klt_of_klt_of_kle g (hs _ _ a b)) hs hJ' k
    | false =>
      dsimp only
      rw [if_neg Bool.false_ne_true]
      have g:O.kle (kk ky p ((l+r) / 2)) (kk ky p t):=e
      exact GU ac hp ht f ((l+r) / 2+1) r s' (by omega) h2 (by omega) (fun i a=>KeyOrd.kle_trans (hs i ((l+r) / 2) (by omega) (by omega)) g) h5 hs hJ' k
theorem OH (ac:Js O ky n cmp J) {R:Array Nat->Shared->Prop}:∀(f:Nat) (p:Array Nat) (t:Nat) (s:Shared),Prm n p->t+f=n->Srt ky p t->J s->(∀p' s',Prm n p'->Srt ky p' n->J s'->R p' s')->(kas_bin f p t).kasWp cmp R s
 | 0,p,t,s,hp,hz,hs,hJ,k=>k p s hp (by have:t=n:=by omega
                                       subst this;exact hs) hJ
 | f+1,p,t,s,hp,hz,hs,hJ,k=>by
   have hsz:=hp.size
   unfold kas_bin
   rw [KasT.kasWp_bind]
   refine GU ac hp (by omega) t 0 t s (Nat.zero_le _) (Nat.le_refl _) (by omega) (fun i h=>absurd h (Nat.not_lt_zero _)) (fun i a b=>absurd b (by omega)) hs hJ fun l s' a1 a2 a3 hJ'=>?_
   refine OH ac f (bubble p t (t - l)) (t+1) s' (hp.bub _ _) (by omega) ?_ hJ' k
   intro i j hij hj
   have el:t - (t - l)=l:=by omega
   rw [P4 (by omega) (by omega),P4 (by omega) (by omega),el]
   by_cases ci:i=l
   ·rw [if_pos ci]
    by_cases cj:j=l
    ·rw [if_pos cj]
     exact KeyOrd.kle_refl _
    ·rw [if_neg cj,if_pos ⟨by omega,by omega⟩]
     exact KeyOrd.kle_of_klt (a3 _ (by omega) (by omega))
   ·rw [if_neg ci]
    by_cases ci2:l < i/\i<=t
    ·rw [if_pos ci2,if_neg (by omega),if_pos ⟨by omega,by omega⟩]
     exact hs _ _ (by omega) (by omega)
    ·rw [if_neg ci2]
     by_cases cj:j=l
     ·rw [if_pos cj]
      exact a2 _ (by omega)
     ·rw [if_neg cj]
      by_cases cj2:l < j/\j<=t
      ·rw [if_pos cj2]
       exact hs _ _ (by omega) (by omega)
      ·rw [if_neg cj2]
       exact hs _ _ hij (by omega)
theorem QE (ac:Js O ky n cmp J) {R:Array Nat->Shared->Prop} {s:Shared} (h1:1<=n) (hJ:J s) (k:∀p s',Prm n p->Srt ky p n->J s'->R p s'):(kas_sort n).kasWp cmp R s:=by
 unfold kas_sort
 rw [KasT.kasWp_bind]
 refine Ow ac (List.Perm.refl _) h1 hJ fun m p s' a1 a2 a3 a4 a5=>?_
 dsimp only
 by_cases c:m < n
 ·rw [if_pos c]
  have e:max m 1=m:=by omega
  rw [e]
  exact OH ac (n - m) p m s' a3 (by omega) a4 a5 k
 ·rw [if_neg c]
  have e:m=n:=by omega
  subst e
  exact k p s' a3 a4 a5
end
end L2
namespace L2
open PySem PySem.W PySem.Spec PyProof.Rows
theorem Eb:∀a b:List Int,HT.lexLt a b=decide (a < b)
 | [],[]=>by simp [HT.lexLt]
 | [],_ :: _=>by simp [HT.lexLt]
 | _ :: _,[]=>by simp [HT.lexLt]
 | x :: xs,y :: ys=>by
   rw [HT.lexLt_cons,Eb xs ys]
   by_cases e:x=y
   ·subst e
    rw [if_pos rfl]
    simp [cons_lt_cons_iff]
   ·rw [if_neg e]
    simp [cons_lt_cons_iff,e]
noncomputable def Pj:KeyOrd where
 α:=List Int
 blt a b:=HT.lexLt a b
 irrefl a:=by rw [Eb];simpa using List.lt_irrefl a
 trans a b c h1 h2:=by
  rw [Eb] at *
  simp only [decide_eq_true_eq] at *
  exact List.lt_trans h1 h2
 negTrans a b c h:=by
  rw [Eb] at h
  rw [Eb,Eb]
  simp only [decide_eq_true_eq] at *
  by_cases hab:a < b
  ·exact .inl hab
  ·exact .inr (List.lt_of_le_of_lt (List.not_lt.mp hab) h)
 total a b h1 h2:=by
  rw [Eb] at *
  simp only [decide_eq_false_iff_not] at *
  exact List.le_antisymm (List.not_lt.mp h2) (List.not_lt.mp h1)
noncomputable def Df (h:Heap) (v:Value) (ns:List Int):Prop:=∃a its,v=.ref a/\IsTup h a its/\IntsAre its.toList ns
section
variable {prog:Program} {w:World} {A:Around} {E:Value->Shared->Prop} {s:Shared} {Q:Bool->Shared->Prop}
theorem MZ {fin bb:Bool}:∀{vs us:List Value} {ns ms:List Int} (i:Nat),IntsAre vs ns->IntsAre us ms->Q (HT.lexLt ns ms) s->fin=decide (vs.length < us.length)->KatLex prog w A bb fin Q (vs.zip us) i s
 | _,_,_,_,i,.nil,.nil,h,e=>by
   refine kat_nil ?_
   rw [e]
   exact h
 | _,_,_,_,i,.nil,.cons _ _ _,h,e=>by
   refine kat_nil ?_
   rw [e]
   simpa [HT.lexLt] using h
 | _,_,_,_,i,.cons _ _ _,.nil,h,e=>by
   refine kat_nil ?_
   rw [e]
   simpa [HT.lexLt] using h
 | _,_,_,_,i,.cons (vs:=vs) (ns:=ns) x t hv,.cons (vs:=us) (ns:=ms) y u hu,h,e=>by
   refine kat_cons (wpAny_eqBool_int (kat_go (fun c=>?_) (fun c=>?_)))
   ·have xy:x=y:=by simpa using c
    subst xy
    refine kat_yes (MZ (i+1) hv hu ?_ ?_)
    ·simpa [HT.lexLt] using h
    ·rw [e]
     simp
   ·have xy:¬ x=y:=by simpa using c
    refine kat_no ?_
    have h':Q (decide (x < y)) s:=by simpa [HT.lexLt,xy] using h
    cases (bb && i == 0) with
    | true=>exact oneLt_int h'
    | false=>exact kat_one _ _ (lt_int h')
noncomputable def MH (κ:SortKind):Prop:=(∃b,κ=tuples' b)\/κ=general'\/κ=oneType'
theorem Rr {κ:SortKind} {x y:Value} {ns ms:List Int} (hk:MH κ) (hx:Df s.heap x ns) (hy:Df s.heap y ms) (hu:A.units < cLine) (h:Q (HT.lexLt ns ms) s):wpAny (model prog w) A (keyLt' κ x y) Q E s:=by
 obtain ⟨a,its,rfl,ta,ia⟩:=hx
 obtain ⟨b,jts,rfl,tb,ib⟩:=hy
 rcases hk with ⟨bb,rfl⟩ | rfl | rfl
 ·obtain ⟨o,ho,hc,n,hd⟩:=ta
  obtain ⟨o2,ho2,hc2,n2,hd2⟩:=tb
  exact kat_lt ho hd ho2 hd2 (MZ 0 ia ib h (by simp))
 ·exact kat_one _ _ (HT.lt_tupInts ta tb ia ib hu h)
 ·rw [keyLt'_oneType,oneLt'_eq]
  simp only [if_true]
  refine wpAny_bind (wpAny_cRoomFor hu ?_)
  obtain ⟨⟨cls,dd,data,sl⟩,ho,hc,n,hd⟩:=id ta
  obtain ⟨⟨cls2,dd2,data2,sl2⟩,ho2,hc2,n2,hd2⟩:=id tb
  simp only at hc hd hc2 hd2
  subst hc hd hc2 hd2
  refine wpAny_bind (wpAny_callSpecialIfBound?_slot (T:="tuple") ⟨_,ho,rfl⟩ PySem.F.slot_tuple_lt (call_meets PySem.F.slot_tuple_lt ⟨_,ho,rfl⟩ PySem.F.entry_tuple_lt (PySem.F.args_tuple_lt_2 _ _) (HT.tuple_lt_ints a b its jts n n2 dd dd2 sl sl2 ns ms ia ib) ⟨ho,ho2,?_⟩))
  exact wpAny_truthy_bool h
theorem Mj:∀{l:List Value} {ns:List Int},IntsAre l ns->∀{v:Value},l[0]?=some v->∃n t,v=Value.int n t
 | _,_,.nil,v,e=>by simp at e
 | _,_,.cons n t _,v,e=>⟨n,t,by simpa using e.symm⟩
theorem KH {α β:Type} {f:α->Sem β}:∀(l:List α) {R:List β->Shared->Prop},(∀v∈l,∀(Q':β->Shared->Prop),(∀r,Q' r s)->wpAny (model prog w) A (f v) Q' E s)->(∀rs,R rs s)->wpAny (model prog w) A (l.mapM f) R E s
 | [],_,_,h=>by
   rw [mapM_nil]
   exact wpAny_pure (h [])
 | x :: l,R,hf,h=>by
   rw [mapM_cons]
   exact wpAny_bind (hf x (.head _) _ fun r=>wpAny_bind (KH l (R:=fun bs s'=>wpAny (model prog w) A (pure (r :: bs)) R E s') (fun v hv=>hf v (.tail _ hv)) fun rs=>wpAny_pure (h _)))
theorem Kx {l:List Value} {R:Option Value->Shared->Prop} (hf:∀v∈l,∀(Q':Value->Shared->Prop),(∀r,Q' r s)->wpAny (model prog w) A (typeOf v) Q' E s) (h:∀r,R r s):wpAny (model prog w) A (oneTypeOnly' l.toArray) R E s:=by
 rw [oneTypeOnly'_eq,mapM_toArray,map_eq_pure_bind]
 refine wpAny_bind (wpAny_bind (KH l hf fun rs=>wpAny_pure ?_))
 cases rs.toArray[0]? with
 | none=>exact wpAny_pure (h _)
 | some t=>exact wpAny_pure (h _)
theorem Mo {rows:List (List Int)}:∀{vs:List Value},Paired (Df s.heap) vs rows->∀{R:List (Option Value)->Shared->Prop},(∀fs,fs.length=vs.length->(∀f∈fs,∀v,f=some v->∃n t,v=Value.int n t)->R fs s) ->
 wpAny (model prog w) A (vs.mapM firstOfTuple') R E s:=by
 intro vs hp
 induction hp with
 | nil =>
   intro R h
   rw [mapM_nil]
   exact wpAny_pure (h [] rfl (fun f m=>nomatch m))
 | cons hx hr ih =>
   intro R h
   obtain ⟨a,its,rfl,⟨o,ho,hc,n,hd⟩,ia⟩:=hx
   rw [mapM_cons]
   refine wpAny_bind ?_
   rw [kas_first_eq]
   refine wpAny_bind (Looks.here (show Looks (model prog w) s.heap (typeOf (.ref a)) o.cls from (Looks.ld ho).andThen .now) ?_)
   rw [hc,if_neg (by first | decide | simp)]
   refine wpAny_bind (listItems_at ho hd (wpAny_pure ?_))
   refine wpAny_bind (ih fun fs l1 l2=>wpAny_pure (h _ (by rw [length_cons,length_cons,l1]) fun f m v e=>?_))
   rcases mem_cons.mp m with m | m
   ·subst m
    have e':its.toList[0]?=some v:=by simpa using e
    exact Mj ia e'
   ·exact l2 f m v e
theorem Pc {vs:List Value} {rows:List (List Int)} (hp:Paired (Df s.heap) vs rows) {R:SortKind->Shared->Prop} (h:∀κ,MH κ->R κ s):wpAny (model prog w) A (keyKind' vs.toArray) R E s:=by
 rw [kat_kind_eq,mapM_toArray,map_eq_pure_bind]
 refine wpAny_bind (wpAny_bind (Mo hp fun fs l1 l2=>wpAny_pure ?_))
 by_cases c:(fs.toArray.all fun x=>x.isSome)=true
 ·rw [if_pos c]
  refine wpAny_bind (wpAny_rule ?_)
  have e:fs.toArray.filterMap id=(fs.filterMap id).toArray:=by simp
  rw [e]
  refine wpAny_bind (Kx (fun v hv Q' hq=>?_) fun r=>wpAny_pure (h _ (.inl ⟨_,rfl⟩)))
  obtain ⟨f,fm,fe⟩:=mem_filterMap.mp hv
  obtain ⟨n,t,rfl⟩:=l2 f fm v fe
  exact wpAny_of_eq (a:=Value.type "int") rfl (hq _)
 ·rw [if_neg c]
  by_cases c2:(fs.toArray[0]?.bind id).isSome=true
  ·rw [if_pos c2]
   exact wpAny_pure (h _ (.inr (.inl rfl)))
  ·rw [if_neg c2]
   refine wpAny_bind (Kx (fun v hv Q' hq=>?_) fun r=>?_)
   ·obtain ⟨ns,hr⟩:∃ns,Df s.heap v ns:=by
     clear l1 l2 c c2
     induction hp with
     | nil=>cases hv
     | cons hx _ ih =>
       rcases mem_cons.mp hv with m | m
       ·exact ⟨_,m ▸ hx⟩
       ·exact ih m
    obtain ⟨a,its,rfl,⟨o,ho,hc,n,hd⟩,ia⟩:=hr
    exact Looks.here (show Looks (model prog w) s.heap (typeOf (.ref a)) o.cls from (Looks.ld ho).andThen .now) (hq _)
   ·cases r with
    | none=>exact wpAny_pure (h _ (.inr (.inl rfl)))
    | some t=>exact wpAny_pure (h _ (.inr (.inr rfl)))
theorem Gd {α β:Type} {R:α->β->Prop} (d:α) (e:β):∀{xs:List α} {ys:List β},Paired R xs ys->∀i,i < xs.length->R (xs.getD i d) (ys.getD i e)
 | _,_,.nil,i,h=>absurd h (Nat.not_lt_zero _)
 | _,_,.cons r _,0,_=>r
 | _,_,.cons _ t,i+1,h=>Gd d e t i (by simpa using h)
theorem HV (vs:List Value):(List.range vs.length).map (fun i=>vs.getD i Value.none)=vs:=by
 apply ext_getElem
 ·simp
 ·intro i h1 h2
  simp [h2]
theorem Df.keep {h h':Heap} {v:Value} {ns:List Int} (x:Df h v ns) (k:∀b o,o.cls=.type "tuple"->h.get? b=some o->h'.get? b=some o):Df h' v ns:=by
 obtain ⟨a,its,rfl,⟨o,ho,hc,n,hd⟩,ia⟩:=x
 exact ⟨a,its,rfl,⟨o,k a o hc ho,hc,n,hd⟩,ia⟩
theorem JV {a:Addr} {vs:List Value} {rows:List (List Int)} {n:Nat} {P:PySem.Fin->Shared->Prop} (ho:s.heap.get? a=some (seqObj "list" vs.toArray n)) (hp:Paired (Df s.heap) vs rows) (h64:vs.length < 64) (hu:A.units < cLine)
 (h:∀p:Array Nat,Prm vs.length p->Srt (O:=Pj) (fun i=>rows.getD i []) p vs.length->P (.done (.ret .none)) { s with heap:=sortedHeap s.heap a vs (List.toArray (p.toList.map fun i=>vs.getD i Value.none)) }) :
 wpAny (model prog w) A (Builtin.«list.sort» ⟨[.ref a],[]⟩) P E s:=by
 rw [list_sort_plain]
 have ha:a < s.heap.objs.size:=Heap.lt_size ho
 refine wpAny_bind (listItems_at ho rfl ?_)
 refine wpAny_bind (listUpdate_at ho rfl ?_)
 obtain ⟨e1,ho1⟩:∃e1,(s.heap.update a (Obj.mapSeq fun _=>#[])).get? a=some (seqObj "list" #[] e1):=⟨_,get?_update_seq ho (fun _=>#[])⟩
 refine wpAny_bind (seqEpoch_at ho1 rfl ?_)
 refine wpAny_bind (wpAny_newTuple ?_)
 refine wpAny_bind (wpAny_newList ?_)
 refine wpAny_holding ?_
 have ho6:(((s.heap.update a (Obj.mapSeq fun _=>#[])).push (seqObj "tuple" vs.toArray 0)).push (seqObj "list" #[] 0)).get? a=some (seqObj "list" #[] e1):=by
  rw [Heap.get?_push_ne _ _ _ (by rw [size_push',Heap.size_update];exact Nat.ne_of_lt (Nat.lt_succ_of_lt ha)),Heap.get?_push_ne _ _ _ (by rw [Heap.size_update];exact Nat.ne_of_lt ha)]
  exact ho1
 have hp6:Paired (Df (((s.heap.update a (Obj.mapSeq fun _=>#[])).push (seqObj "tuple" vs.toArray 0)).push (seqObj "list" #[] 0))) vs rows:=Paired.mapP hp fun v ns x=>x.keep fun b o hc e=>by
  have hb:b≠a:=fun z=>by
   rw [z,ho] at e
   cases e
   exact absurd (show Value.type "list"=Value.type "tuple" from hc) (by decide)
  exact Heap.get?_push_of_some _ (Heap.get?_push_of_some _ ((Heap.get?_update_other _ _ (Ne.symm hb)).trans e))
 show wpAny (model prog w) A _ P E { s with heap:=((s.heap.update a (Obj.mapSeq fun _=>#[])).push (seqObj "tuple" vs.toArray 0)).push (seqObj "list" #[] 0) }
 dsimp only
 have hsz:vs.toArray.size=vs.length:=by simp
 by_cases h2:vs.toArray.size < 2
 ·rw [if_pos h2,if_pos h2]
  refine wpAny_bind (wpAny_pure ?_)
  rw [StateT.run_pure]
  refine wpAny_bind (wpAny_pure ?_)
  dsimp only
  refine wpAny_bind (seqEpoch_at ho6 rfl ?_)
  refine wpAny_bind (listUpdate_at ho6 rfl ?_ (hsz2:=by rw [Array.size_map];show (pairsOf vs).size<=_;rw [pairsOf_size,sizeLine_eq];omega))
  simp only [bne_self_eq_false,Bool.false_eq_true,if_false]
  have hh:=h (List.range vs.length).toArray (List.Perm.refl _) (fun i j hij hj=>by
   have:i=j:=by omega
   subst this
   exact KeyOrd.kle_refl _)
  rw [show (List.range vs.length).toArray.toList.map (fun i=>vs.getD i Value.none)=vs from HV vs] at hh
  have e:(arrOf (SortSt.mk' general' (vs.toArray.zip vs.toArray) #[] 7 none)).map (·.2)=vs.toArray:=by
   show (vs.toArray.zip vs.toArray).map (·.2)=vs.toArray
   apply Array.ext
   ·simp
   ·intro i h1 h2
    simp
  refine wpAny_pure ?_
  have hh':=hh
  rw [<- e] at hh'
  exact hh'
 ·rw [if_neg h2,if_neg h2]
  refine wpAny_bind (Pc hp6 fun κ hκ=>?_)
  have ac:Js Pj (fun i=>rows.getD i []) vs.length (kas_ask prog w A κ vs) (fun s'=>s'={ s with heap:=((s.heap.update a (Obj.mapSeq fun _=>#[])).push (seqObj "tuple" vs.toArray 0)).push (seqObj "list" #[] 0) }):=by
   intro i j C s' hi hj e k
   subst e
   exact Rr hκ (Gd Value.none [] hp6 i hi) (Gd Value.none [] hp6 j hj) hu (k _ rfl)
  refine wpAny_bind (wpAny_mono (kat_run (ks:=vs) (vs:=vs) (Q:=fun st' s'=>∃p:Array Nat,arrOf st'=p.map (kas_item (vs.toArray.zip vs.toArray))/\failedOf st'=none/\s'={ s with heap:=((s.heap.update a (Obj.mapSeq fun _=>#[])).push (seqObj "tuple" vs.toArray 0)).push (seqObj "list" #[] 0) }/\Prm vs.length p/\Srt (O:=Pj) (fun i=>rows.getD i []) p vs.length)
   (G:=fun p s'=>s'={ s with heap:=((s.heap.update a (Obj.mapSeq fun _=>#[])).push (seqObj "tuple" vs.toArray 0)).push (seqObj "list" #[] 0) }/\Prm vs.length p/\Srt (O:=Pj) (fun i=>rows.getD i []) p vs.length)
   rfl (by omega) h64 (fun p st' s' _ a2 a3 g=>⟨p,a2,a3,g⟩) (QE ac (by omega) rfl fun p s' q1 q2 e=>⟨e,q1,q2⟩)) ?_ fun _ _ e=>e)
  rintro ⟨⟨⟩,st'⟩ s' ⟨p,har,hf,rfl,q1,q2⟩
  dsimp only
  have hout:=kat_snds rfl har
  refine wpAny_bind (seqEpoch_at ho6 rfl ?_)
  rw [hout]
  refine wpAny_bind (listUpdate_at ho6 rfl ?_ (hsz2:=by rw [size_toArray,length_map,Array.length_toList,q1.size,sizeLine_eq];omega))
  rw [hf]
  simp only [bne_self_eq_false,Bool.false_eq_true,if_false]
  exact wpAny_pure (h p q1 q2)
theorem JU {l:Addr} {vs:List Value} {rows:List (List Int)} {R:Value->Shared->Prop} (hl:s.heap.IsList l vs.toArray) (hp:Paired (Df s.heap) vs rows) (h64:vs.length < 64) (hu:A.in1.in1.units < cLine)
 (h:∀p:Array Nat,Prm vs.length p->Srt (O:=Pj) (fun i=>rows.getD i []) p vs.length->R (.ref (s.heap.objs.size+1)) { s with heap:=sortedAll s.heap vs (List.toArray (p.toList.map fun i=>vs.getD i Value.none)) }) :
 wpAny (model prog w) A (call (.builtin "sorted") [.ref l]) R E s:=by
 refine Calls.call_function_entry kind_sorted plain_sorted entry_sorted (args_sorted1 _) ?_
 unfold Builtin.«sorted»
 refine wpAny_bind (m:=checkCount "sorted" 1 1 _) (wpAny_pure ?_)
 refine wpAny_bind (collect_list hl ?_)
 refine wpAny_bind (wpAny_newList ?_)
 have hsz:((s.heap.push (seqObj "list" #[] 0)).update s.heap.objs.size (Obj.mapSeq (·++vs.toArray))).objs.size=s.heap.objs.size+1:=by
  rw [Heap.size_update,size_push']
 have hoL:(((s.heap.push (seqObj "list" #[] 0)).update s.heap.objs.size (Obj.mapSeq (·++vs.toArray))).push (seqObj "list" vs.toArray 0)).get? (s.heap.objs.size+1)=some (seqObj "list" vs.toArray 0):=by
  rw [<- hsz];exact Heap.get?_push_size _ rfl
 have hp6:Paired (Df (((s.heap.push (seqObj "list" #[] 0)).update s.heap.objs.size (Obj.mapSeq (·++vs.toArray))).push (seqObj "list" vs.toArray 0))) vs rows:=Paired.mapP hp fun v ns x=>x.keep fun b o hc e =>
  Heap.get?_push_of_some _ ((Heap.get?_update_other _ _ (Ne.symm (Nat.ne_of_lt (Heap.lt_size e)))).trans (Heap.get?_push_of_some _ e))
 show wpAny _ _ _ _ _ { s with heap:=((s.heap.push (seqObj "list" #[] 0)).update s.heap.objs.size (Obj.mapSeq (·++vs.toArray))).push (seqObj "list" vs.toArray 0) }
 rw [hsz]
 refine wpAny_bind (wpAny_holding (wpAny_call_entry slot_list_sort ⟨_,hoL,rfl⟩ entry_list_sort (JV hoL hp6 h64 hu fun p a1 a2=>⟨_,rfl,?_⟩) (args_list_sort _)))
 exact wpAny_pure ⟨_,rfl,h p a1 a2⟩
end
section
variable {X:Cx}
theorem IG:∀{as:List Addr} {us:List Value},AX (as.map V.ref) us->us=as.map Value.ref
 | [],_,.nil=>rfl
 | a :: as,_,.cons r t=>by
   cases (show _=Value.ref a from r)
   rw [IG t]
   rfl
theorem Gf:∀as:List Addr,AX (as.map V.ref) (as.map Value.ref)
 | []=>.nil
 | a :: as=>.cons rfl (Gf as)
theorem Jk (hu:X.A.units+64 < cLine):Dg X (.builtin "sorted") (fun xs H Q=>∃(a:Addr) (qs:List (Addr × List Int)),xs=[.ref a]/\SqL X.K H a (qs.map fun q=>V.ref q.1)/\(∀q∈qs,SqT X.K H q.1 (q.2.map V.int))/\qs.length < 64 /\
 ∀(l:Addr) (rs:List (Addr × List Int)),rs.Perm qs->rs.Pairwise (fun x y=>HT.lexLt y.2 x.2=false)->H l=none->Q (.ref l) (upd H l (.lst (rs.map fun q=>V.ref q.1)))):=by
 intro pins s σ H xs us Q I r h
 obtain ⟨a,qs,rfl,hq,hr,h64,q⟩:=h
 obtain ⟨u,rfl,rx⟩:=FF r
 cases rx
 obtain ⟨its,rv,pl,hz⟩:=I.list hq
 have rv':AX ((qs.map (·.1)).map V.ref) its:=by rw [map_map];exact rv
 have ei:=IG rv'
 have hlen:its.length=qs.length:=by rw [ei,length_map,length_map]
 have hp:Paired (Df s.heap) its (qs.map (·.2)):=by
  rw [ei]
  clear ei rv rv' pl hlen hq hz h64 q
  induction qs with
  | nil=>exact .nil
  | cons q0 qr ih =>
    refine .cons ?_ (ih fun q m=>hr q (mem_cons_of_mem _ m))
    obtain ⟨jts,rj,tj,_⟩:=I.tuple (hr q0 (mem_cons_self ..))
    exact ⟨q0.1,jts.toArray,rfl,tj,by simpa using BW rj⟩
 refine JU pl.isList hp (by omega) (by show X.A.units+1+1 < cLine;omega) fun p a1 a2=>?_
 obtain ⟨e,he⟩:=sortedAll_at s.heap its (List.toArray (p.toList.map fun i=>its.getD i Value.none))
 have hfr:H (s.heap.objs.size+1)=none:=I.hok.fresh (Nat.le_succ _)
 have hps:=a1.size
 have lt:∀i∈p.toList,i < qs.length:=fun i m=>by
  have:=mem_range.mp (a1.mem_iff.mp m)
  omega
 let rs:=p.toList.map fun i=>qs.getD i (0,[])
 have eo:(p.toList.map fun i=>its.getD i Value.none)=(rs.map (·.1)).map Value.ref:=by
  show _=((p.toList.map fun i=>qs.getD i (0,[])).map (·.1)).map Value.ref
  rw [map_map,map_map]
  refine map_congr_left fun i m=>?_
  have hi:=lt i m
  rw [ei]
  simp [hi]
 rw [eo] at he ⊢
 have pm:rs.Perm qs:=by
  have e1:(List.range its.length).map (fun i=>qs.getD i ((0:Addr),([]:List Int)))=qs:=by
   apply ext_getElem
   ·simp [hlen]
   ·intro i h1 h2
    simp [h2]
  have:=List.Perm.map (fun i=>qs.getD i ((0:Addr),([]:List Int))) a1
  rw [e1] at this
  exact this
 refine ⟨.ref _,_,I.laid (t':=s.toks) (fun b o hb=>sortedAll_old hb) (Nat.le_succ _) (show Bk X.prog X.w _ _ _ (.lst (rs.map fun q=>V.ref q.1)) from ⟨?_,(rs.map (·.1)).map Value.ref,e,?_,he⟩),rfl,q _ rs pm ?_ hfr⟩
 ·rw [length_map,pm.length_eq,sizeLine_eq]
  omega
 ·have:=Gf (rs.map (·.1))
  rw [map_map] at this
  exact this
 ·rw [pairwise_iff_getElem]
  intro i j hi hj hij
  have hi':i < p.size:=by simpa [rs] using hi
  have hj':j < p.size:=by simpa [rs] using hj
  have g:=a2 i j (by omega) (by omega)
  have gi:(qs.map (·.2)).getD (p.getD i 0) []=(rs[i]).2:=by
   have l1:=lt p[i] (by simp)
   simp [rs,Array.getD,hi',l1]
  have gj:(qs.map (·.2)).getD (p.getD j 0) []=(rs[j]).2:=by
   have l1:=lt p[j] (by simp)
   simp [rs,Array.getD,hj',l1]
  have g2:HT.lexLt ((qs.map (·.2)).getD (p.getD j 0) []) ((qs.map (·.2)).getD (p.getD i 0) [])=false:=g
  rw [gi,gj] at g2
  exact g2
end
end L2
namespace L2
open PySem PySem.W PySem.Spec PyProof.Rows
noncomputable def Dp (h:Heap) (d:Addr) (es:Array DictEntry) (ep:Nat):Prop:=∃o,h.get? d=some o/\o.ExactDict/\o.data=.dict es ep
theorem Dp.at {h h':Heap} {d:Addr} {es:Array DictEntry} {ep:Nat} (x:Dp h d es ep) (e:∀o,h.get? d=some o->h'.get? d=some o):Dp h' d es ep:=let ⟨o,ho,r⟩:=x;⟨o,e _ ho,r⟩
theorem Dp.lt {h:Heap} {d:Addr} {es:Array DictEntry} {ep:Nat} (x:Dp h d es ep):d < h.objs.size:=let ⟨_,ho,_⟩:=x;Heap.lt_size ho
theorem Dp.typeIs {s:Shared} {d:Addr} {es:Array DictEntry} {ep:Nat} (x:Dp s.heap d es ep):s.TypeIs (.ref d) "dict":=let ⟨o,ho,hc,_⟩:=x;⟨o,ho,hc.1⟩
section
variable {prog:Program} {w:World} {A:Around} {E:Value->Shared->Prop} {s:Shared} {d:Addr} {es:Array DictEntry} {ep:Nat}
theorem OS {Q:Value->Shared->Prop} (hd:(d == sysModules)=false) (hm:Dp s.heap d es ep)
 (hQ:Q (.ref s.heap.objs.size) { s with heap:=s.heap.push { cls:=.type "dict_keyiterator",data:=.fields #[.ref d,.int 0 0,.int es.size 0,.int ep 0] } }):wpAny (model prog w) A (pyIter (.ref d)) Q E s:=by
 have hT:=hm.typeIs
 obtain ⟨o,ho,hc,hdat⟩:=id hm
 refine wpAny_pyIter_slot hT F.slot_dict_iter (wpAny_call_entry F.slot_dict_iter hT F.entry_dict_iter ?_ (F.args_dict_iter_1 _))
 unfold Builtin.«dict.__iter__»
 refine wpAny_bind ?_
 unfold Builtin.Dict.dictSlotNone
 refine wpAny_bind (wpAny_notOrdered_dict hT ?_)
 show wpAny _ _ (pure (Value.ref d)) _ _ s
 refine wpAny_pure ?_
 show wpAny _ _ (Builtin.Dict.showsAll d >>= _) _ _ s
 unfold Builtin.Dict.showsAll
 rw [if_neg (by rw [hd];exact Bool.false_ne_true)]
 refine wpAny_bind (wpAny_pure ?_)
 refine wpAny_bind (wpAny_dictEntries ho hdat ?_)
 refine wpAny_bind (wpAny_dictEpoch ho hdat ?_)
 refine wpAny_bind (wpAny_newObj_type (wpAny_pure ⟨_,rfl,"dict_keyiterator",_,⟨_,Heap.get?_push_size _ rfl,rfl⟩,F.slot_dict_keyiterator_next.lookup,?_⟩))
 simpa [rawInt] using hQ
theorem O7 {it:Addr} {i:Nat} {e:DictEntry} {Q:Option Value->Shared->Prop} (hit:s.heap.IsKeyIter it d i es.size ep) (hm:Dp s.heap d es ep) (hx:es[i]?=some e)
 (hQ:∀h',h'.IsKeyIter it d (i+1) es.size ep->Heap.SameBut it s.heap h'->Q (some e.key) { s with heap:=h' }):wpAny (model prog w) A (pyNext (.ref it)) Q E s:=by
 obtain ⟨o,ho,hc,hd⟩:=id hit
 obtain ⟨od,hod,hcd,hdd⟩:=id hm
 unfold pyNext
 refine wpAny_bind (wpAny_attempt (wpAny_callSpecial?_slot (name:=Str.ofString "__next__") hit.typeIs F.slot_dict_keyiterator_next
  (wpAny_call_entry F.slot_dict_keyiterator_next hit.typeIs F.entry_dict_keyiterator_next ?_ (F.args_dict_keyiterator_next_1 _))))
 refine wpAny_bind (wpAny_pure ?_)
 refine wpAny_bind ?_
 refine wpAny_bind ?_
 first | refine wpAny_bind (wpAny_typeNameOfWhole_keyiter hit.typeIs (wpAny_pure ?_)) | refine wpAny_bind (wpAny_typeNameOf_keyiter hit.typeIs (wpAny_pure ?_))
 refine wpAny_bind (wpAny_fieldsOf ho hd ?_)
 have hown:Builtin.Dict_items.ownsTuple "dict_keyiterator"=false:=by decide
 simp only [hown,Bool.false_eq_true,if_false]
 show wpAny _ _ (if (Value.ref d == Value.none)=true then _ else _) _ _ s
 rw [if_neg (show ¬ ((Value.ref d == Value.none)=true) from Bool.false_ne_true)]
 refine wpAny_bind (wpAny_pure ?_)
 refine wpAny_bind (wpAny_dictEntries hod hdd ?_)
 rw [if_neg (by simp)]
 refine wpAny_bind (wpAny_pure ?_)
 refine wpAny_bind (wpAny_dictEpoch hod hdd ?_)
 rw [if_neg (by simp)]
 refine wpAny_pure ?_
 simp only [show ¬ ((i:Int) < 0) from by omega,if_false,Int.toNat_natCast,hx]
 refine wpAny_bind ?_
 first | refine wpAny_bind (wpAny_typeNameOfWhole_keyiter hit.typeIs (wpAny_pure ?_)) | refine wpAny_bind (wpAny_typeNameOf_keyiter hit.typeIs (wpAny_pure ?_))
 refine wpAny_bind (wpAny_isOneOf_keyiter hit.typeIs ?_)
 show wpAny _ _ (setField (.ref it) 1 (rawInt ((i:Int)+1)) >>= _) _ _ s
 refine wpAny_bind (wpAny_setField ho hd (by simp) ?_)
 have hit':(s.heap.update it (Obj.mapFields (·.setIfInBounds 1 (rawInt ((i:Int)+1))))).IsKeyIter it d (i+1) es.size ep :=
  ⟨_,Heap.get?_update_self _ ho (Obj.isFreed_of_fields (Obj.data_mapFields hd _)),(Obj.cls_mapFields ..).trans hc,by rw [Obj.data_mapFields hd];simp [rawInt]⟩
 refine wpAny_bind (wpAny_holding ?_)
 refine wpAny_bind (wpAny_isOneOf_keyiter (s:={ s with heap:=s.heap.update it (Obj.mapFields (·.setIfInBounds 1 (rawInt ((i:Int)+1)))) }) hit'.typeIs ?_)
 show wpAny _ _ (pure e.key) _ _ _
 exact wpAny_pure (wpAny_pure ⟨_,rfl,wpAny_pure (hQ _ hit' (Heap.SameBut.update ..))⟩)
theorem Ql {it:Addr} {i:Nat} {Q:Option Value->Shared->Prop} (hh:A.handled=none) (hit:s.heap.IsKeyIter it d i es.size ep) (hm:Dp s.heap d es ep) (hx:es.size<=i)
 (hQ:∀h',Heap.ExtBut it s.heap h'->Q none { s with heap:=h' }):wpAny (model prog w) A (pyNext (.ref it)) Q E s:=by
 obtain ⟨o,ho,hc,hd⟩:=id hit
 obtain ⟨od,hod,hcd,hdd⟩:=id hm
 unfold pyNext
 refine wpAny_bind (wpAny_attempt (wpAny_callSpecial?_slot (name:=Str.ofString "__next__") hit.typeIs F.slot_dict_keyiterator_next
  (wpAny_call_entry F.slot_dict_keyiterator_next hit.typeIs F.entry_dict_keyiterator_next ?_ (F.args_dict_keyiterator_next_1 _))))
 refine wpAny_bind (wpAny_pure ?_)
 refine wpAny_bind ?_
 refine wpAny_bind ?_
 first | refine wpAny_bind (wpAny_typeNameOfWhole_keyiter hit.typeIs (wpAny_pure ?_)) | refine wpAny_bind (wpAny_typeNameOf_keyiter hit.typeIs (wpAny_pure ?_))
 refine wpAny_bind (wpAny_fieldsOf ho hd ?_)
 have hown:Builtin.Dict_items.ownsTuple "dict_keyiterator"=false:=by decide
 simp only [hown,Bool.false_eq_true,if_false]
 show wpAny _ _ (if (Value.ref d == Value.none)=true then _ else _) _ _ s
 rw [if_neg (show ¬ ((Value.ref d == Value.none)=true) from Bool.false_ne_true)]
 refine wpAny_bind (wpAny_pure ?_)
 refine wpAny_bind (wpAny_dictEntries hod hdd ?_)
 rw [if_neg (by simp)]
 refine wpAny_bind (wpAny_pure ?_)
 refine wpAny_bind (wpAny_dictEpoch hod hdd ?_)
 rw [if_neg (by simp)]
 refine wpAny_pure ?_
 simp only [show ¬ ((i:Int) < 0) from by omega,if_false,Int.toNat_natCast,Array.getElem?_eq_none hx]
 refine wpAny_bind ?_
 first | refine wpAny_bind (wpAny_typeNameOfWhole_keyiter hit.typeIs (wpAny_pure ?_)) | refine wpAny_bind (wpAny_typeNameOf_keyiter hit.typeIs (wpAny_pure ?_))
 show wpAny _ _ (setField (.ref it) 0 .none >>= _) _ _ s
 refine wpAny_bind (wpAny_setField ho hd (by simp) ?_)
 show wpAny _ _ (newExc (.type "StopIteration") [] >>= _) _ _ _
 refine wpAny_bind ?_
 simp only [newExc,newTuple]
 refine wpAny_bind (wpAny_newObj_type ?_ (by size_fits))
 refine wpAny_bind (m:=firstArgMember _ _) (wpAny_of_eq (a:=Value.none) (by first | rfl | (simp only [firstArgMember];rfl)) ?_)
 refine wpAny_newObj_type ?_ (by size_fits)
 simp only [raiseNew]
 refine wpAny_bind (wpAny_handled ?_)
 rw [show A.in1.handled=none from hh]
 refine wpAny_bind (wpAny_pure (wpAny_throw ?_))
 refine wpAny_bind (wpAny_isInstance (T:="StopIteration") (b:=true) ⟨_,Heap.get?_push_size _ rfl,rfl⟩ isSubtype_stop ?_)
 exact wpAny_pure (hQ _ (((Heap.SameBut.update ..).extBut.push _).push _))
theorem NV (hh:A.handled=none) (I:Addr) (hne:d≠I):Walks prog w A I [I,d] [I] es.size (fun i v=>∃e,es[i]?=some e/\v=e.key) (fun i h=>h.IsKeyIter I d i es.size ep/\Dp h d es ep) where
 sub:=fun b hb=>by simp at hb;simp [hb]
 frame:=fun _ _ _ st hk=>⟨st.1.at fun o e=>hk I (by simp) o e,st.2.at fun o e=>hk d (by simp) o e⟩
 item:=fun i s Q E hi st hQ=>by
  obtain ⟨e,hx⟩:∃e,es[i]?=some e:=⟨es[i],by simp [hi]⟩
  refine O7 st.1 st.2 hx fun h' hit' hs'=>?_
  exact hQ e.key h' s.toks ⟨e,hx,rfl⟩ ⟨hit',st.2.at fun o q=>hs'.extBut d o hne q⟩ fun b o hb q=>hs'.extBut b o (fun h=>hb (by simp [h])) q
 done:=fun s Q E st hQ=>Ql hh st.1 st.2 (Nat.le_refl _) fun h' he'=>hQ h' s.toks fun b o hb q=>he' b o (fun h=>hb (by simp [h])) q
 self:=fun _ _ _ _ st hQ=>wpAny_pyIter_keyiter st.1 hQ
theorem Q3 (lo:(d == sysModules)=false):KdlSrc prog w "dict" d d es.size (fun i v=>∃e,es[i]?=some e/\v=e.key) (fun h=>Dp h d es ep) where
 type:=fun _ hm=>hm.typeIs
 there:=fun _ hm=>⟨hm.lt,hm.lt⟩
 keep:=fun _ _ hm hk=>hm.at fun o e=>hk d (.inl rfl) o e
 notList:=by decide
 notTuple:=by decide
 hint:=fun _ _ _ _ hm hq=>kdl_hint_dict hm.typeIs hq
 iter:=fun _ s hh hm=>⟨_,_,(fun _ _ hq=>OS lo hm hq),NV hh _ (Nat.ne_of_lt hm.lt),⟨⟨_,Heap.get?_push_size _ rfl,rfl,rfl⟩,hm.at fun o e=>Heap.get?_push_of_some _ e⟩⟩
theorem PK {acc:Array Value} (h:ItemsOf (fun i v=>∃e,es[i]?=some e/\v=e.key) acc es.size):acc=es.map (·.key):=by
 obtain ⟨h1,h2⟩:=h
 apply Array.ext
 ·simpa using h1
 ·intro i hi hj
  obtain ⟨e,he,hk⟩:=h2 i acc[i] (by simp [hi])
  have hi':i < es.size:=by omega
  rw [Array.getElem?_eq_getElem hi'] at he
  rw [hk,Array.getElem_map,Option.some.inj he]
theorem KF {R:List Value->Shared->Prop} (lo:(d == sysModules)=false) (hm:Dp s.heap d es ep) (hh:A.handled=none) (hn:es.size<=sizeLine)
 (h:∀(h':Heap) (tk:Nat),(∀b o,s.heap.get? b=some o->h'.get? b=some o)->s.heap.objs.size < h'.objs.size->R (es.toList.map (·.key)) { s with heap:=h',toks:=tk }) :
 wpAny (model prog w) A (collect (.ref d)) R E s:=by
 have hlt:=hm.lt
 unfold collect
 refine wpAny_bind (wpAny_runValue (codeAny_builtin entry_proto_collect' ?_))
 rw [Around.under_plainId PySem.F.plain_proto_collect _]
 show wpAny _ A.in1 (newList [] >>= fun l=>again (.builtin "list.__iadd__" ⟨[l,.ref d],[]⟩)) _ _ s
 refine wpAny_bind (wpAny_newObj_type ?_)
 refine wpAny_pure ⟨plainId_quiet PySem.F.plain_list_iadd _,codeAny_builtin entry_list_iadd' ?_⟩
 rw [Around.under_plainId PySem.F.plain_list_iadd _]
 have hS₁:(s.heap.push { cls:=.type "list",data:=.seq ([]:List Value).toArray }).get? s.heap.objs.size=some { cls:=.type "list",data:=.seq #[] }:=Heap.get?_push_size _ rfl
 show wpAny _ A.in1 (Builtin.List.listExtendWith (.ref s.heap.objs.size) (.ref d) (.ref s.heap.objs.size)) _ _ _
 have key:=kdl_extend (A:=A) (s:={ s with heap:=s.heap.push { cls:=.type "list",data:=.seq ([]:List Value).toArray } })
  (R:=fun (q:Result) (s':Shared)=>∃(h':Heap) (tk c':Nat),q=.ok (.ret (.ref s.heap.objs.size))/\s'={ s with heap:=h',toks:=tk } /\
   (∀b o,s.heap.get? b=some o->h'.get? b=some o)/\h'.get? s.heap.objs.size=some { cls:=.type "list",dict:=none,data:=.seq (es.map (·.key)) c',slots:=#[] })
  (Q3 (prog:=prog) (w:=w) (es:=es) (ep:=ep) lo) hh (hm.at fun o e=>Heap.get?_push_of_some _ e) s.heap.objs.size (Nat.ne_of_gt hlt) (Nat.ne_of_gt hlt) (.ref s.heap.objs.size) 0 hS₁
  (fun h' tk acc' c' hk hS' hacc=>⟨h',tk,c',rfl,rfl,fun b o e=>hk b o (Nat.ne_of_lt (Heap.lt_size e)) (Heap.get?_push_of_some _ e),by rw [<- PK hacc];exact hS'⟩) hn
 refine wpAny_mono key (fun fin s' x=>?_) fun e s' x=>?_
 ·cases fin with
  | done f =>
    obtain ⟨h',tk,c',e,rfl,hk,hS'⟩:=x
    cases e
    show wpAny _ A (load s.heap.objs.size >>= _) _ _ _
    refine wpAny_bind (wpAny_load hS' ?_)
    have:=h h' tk hk (Heap.lt_size hS')
    rw [<- Array.toList_map] at this
    exact wpAny_pure this
  | again c₁ =>
    refine ⟨x.1,codeAny_mono x.2 fun q s₂ y=>?_⟩
    obtain ⟨h',tk,c',rfl,rfl,hk,hS'⟩:=y
    show wpAny _ A (load s.heap.objs.size >>= _) _ _ _
    refine wpAny_bind (wpAny_load hS' ?_)
    have:=h h' tk hk (Heap.lt_size hS')
    rw [<- Array.toList_map] at this
    exact wpAny_pure this
 ·obtain ⟨_,_,_,e',_⟩:=x
  cases e'
theorem JP {vs:List Value} (lo:(d == sysModules)=false) (hm:Dp s.heap d es ep) (hz:es.size < 64) (hh:A.handled=none) (hv:es.toList.map (·.key)=vs) {R:Value->Shared->Prop}
 (h:∀(h':Heap) (tk:Nat) (a:Addr),(∀b o,s.heap.get? b=some o->h'.get? b=some o/\b≠a)->s.heap.objs.size<=a->h'.get? a=some (seqObj "list" vs.toArray 0) ->
  wpAny (model prog w) A.in1.in1 (Builtin.«list.sort» ⟨[.ref a],[]⟩) (fun fin s'=>∃v,fin=.done (.ret v)/\R (.ref a) s') E { s with heap:=h',toks:=tk }) :
 wpAny (model prog w) A (call (.builtin "sorted") [.ref d]) R E s:=by
 refine Calls.call_function_entry kind_sorted plain_sorted entry_sorted (args_sorted1 _) ?_
 unfold Builtin.«sorted»
 refine wpAny_bind (m:=checkCount "sorted" 1 1 _) (wpAny_pure ?_)
 refine wpAny_bind (KF (A:=A.in1) lo hm hh (by rw [sizeLine_eq];omega) fun h' tk hk ge=>?_)
 rw [hv]
 have hl:vs.length < 64:=by rw [<- hv,length_map,Array.length_toList];exact hz
 refine wpAny_bind (wpAny_newList ?_ (by rw [sizeLine_eq];omega))
 have ho:(h'.push (seqObj "list" vs.toArray 0)).get? h'.objs.size=some (seqObj "list" vs.toArray 0):=Heap.get?_push_size _ rfl
 refine wpAny_bind (wpAny_holding (wpAny_call_entry slot_list_sort ⟨_,ho,rfl⟩ entry_list_sort ?_ (args_list_sort _)))
 refine wpAny_mono (h _ tk h'.objs.size (fun b o e=>⟨Heap.get?_push_of_some _ (hk b o e),Nat.ne_of_lt (Heap.lt_size (hk b o e))⟩) (Nat.le_of_lt ge) ho) (fun fin s' x=>?_) fun _ _ x=>x
 obtain ⟨v,rfl,q⟩:=x
 exact ⟨_,rfl,wpAny_pure ⟨_,rfl,q⟩⟩
end
section
variable {X:Cx}
theorem Qp {H:Hp}:∀{kvs:List (List Key × V)} {xs:List (List Key × Addr × Value)} {ks:List (List Int)},KT H kvs xs->kvs.map (·.1)=ks.map (List.map Sum.inl) ->
 ∃qs:List (Addr × List Int),xs.map (fun x=>Value.ref x.2.1)=(qs.map (·.1)).map Value.ref/\qs.map (·.2)=ks/\∀q∈qs,H q.1=some (.tup (q.2.map V.int)):=by
 intro kvs xs ks r
 induction r generalizing ks with
 | nil =>
   intro e
   cases ks with
   | nil=>exact ⟨[],rfl,rfl,fun _ m=>nomatch m⟩
   | cons _ _=>cases e
 | @cons p q ps qr hq t ih =>
   intro e
   cases ks with
   | nil=>cases e
   | cons k ks =>
     injection e with e1 e2
     obtain ⟨qs,a1,a2,a3⟩:=ih e2
     refine ⟨(q.2.1,k) :: qs,?_,?_,fun x m=>?_⟩
     ·rw [map_cons,a1]
      rfl
     ·rw [map_cons,a2]
     ·rcases mem_cons.mp m with m | m
      ·subst m
       have h:=hq.2.1
       have e1':p.1=k.map Sum.inl:=e1
       rw [e1',map_map] at h
       exact h
      ·exact a3 x m
theorem Fo (hc:X.calm=true) (hu:X.A.units+64 < cLine):Dg X (.builtin "sorted") (fun xs H Q=>∃(d:Addr) (kvs:List (List Key × V)) (ks:List (List Int)),xs=[.ref d]/\Rd H d (.dT kvs)/\kvs.map (·.1)=ks.map (List.map Sum.inl)/\ks.length < 64 /\
 ∀(l:Addr) (rs:List (Addr × List Int)),(∀q∈rs,H q.1=some (.tup (q.2.map V.int)))->(rs.map (·.2)).Perm ks->rs.Pairwise (fun x y=>HT.lexLt y.2 x.2=false)->H l=none->Q (.ref l) (upd H l (.lst (rs.map fun q=>V.ref q.1)))):=by
 intro pins s σ H xs us Q I r h
 obtain ⟨d,kvs,ks,rfl,hd,hks,h64,q⟩:=h
 obtain ⟨u,rfl,rx⟩:=FF r
 cases rx
 obtain ⟨_,lo,xs,kt,o,es,ep,h1,h2,h3,h4,_,_⟩:=IQ I.hok hd
 obtain ⟨qs,b1,b2,b3⟩:=Qp kt hks
 have hv:es.toList.map (·.key)=(qs.map (·.1)).map Value.ref:=by
  rw [h4,map_map,<- b1]
  rfl
 have hql:qs.length=ks.length:=by rw [<- b2,length_map]
 have hes:es.size=qs.length:=by
  have:=congrArg List.length hv
  simpa using this
 have hp:Paired (Df s.heap) ((qs.map (·.1)).map Value.ref) (qs.map (·.2)):=by
  clear hv hql hes b1 b2
  induction qs with
  | nil=>exact .nil
  | cons q0 qr ih =>
    refine .cons ?_ (ih fun q m=>b3 q (mem_cons_of_mem _ m))
    obtain ⟨jts,rj,tj,_⟩:=I.tuple (SqT.of (b3 q0 (mem_cons_self ..)))
    exact ⟨q0.1,jts.toArray,rfl,tj,by simpa using BW rj⟩
 refine JP lo ⟨o,h1,h2,h3⟩ (by omega) (I.ok.hd hc) hv fun h' tk a kp ge ho=>?_
 have hp':Paired (Df h') ((qs.map (·.1)).map Value.ref) (qs.map (·.2)):=Paired.mapP hp fun v ns x=>x.keep fun b o _ e=>(kp b o e).1
 have ll:((qs.map (·.1)).map Value.ref).length=qs.length:=by rw [length_map,length_map]
 refine JV (s:={ s with heap:=h',toks:=tk }) ho hp' (by omega) (by show X.A.units+1+1 < cLine;omega) fun p a1 a2=>⟨_,rfl,?_⟩
 obtain ⟨e,he⟩:=sortedHeap_at (out:=List.toArray (p.toList.map fun i=>((qs.map (·.1)).map Value.ref).getD i Value.none)) ho
 have hfr:H a=none:=I.hok.fresh ge
 have hps:=a1.size
 have lt:∀i∈p.toList,i < qs.length:=fun i m=>by
  have:=mem_range.mp (a1.mem_iff.mp m)
  omega
 let rs:=p.toList.map fun i=>qs.getD i (0,[])
 have eo:(p.toList.map fun i=>((qs.map (·.1)).map Value.ref).getD i Value.none)=(rs.map (·.1)).map Value.ref:=by
  show _=((p.toList.map fun i=>qs.getD i (0,[])).map (·.1)).map Value.ref
  simp only [map_map]
  refine map_congr_left fun i m=>?_
  have hi:=lt i m
  simp [hi]
 rw [eo] at he ⊢
 have pm:rs.Perm qs:=by
  have e1:(List.range ((qs.map (·.1)).map Value.ref).length).map (fun i=>qs.getD i ((0:Addr),([]:List Int)))=qs:=by
   rw [ll]
   apply ext_getElem
   ·simp
   ·intro i h1 h2
    simp [h2]
  have:=List.Perm.map (fun i=>qs.getD i ((0:Addr),([]:List Int))) a1
  rw [e1] at this
  exact this
 refine ⟨.ref _,_,I.laid (t':=tk) (fun b o hb=>?_) ge (show Bk X.prog X.w _ _ _ (.lst (rs.map fun q=>V.ref q.1)) from ⟨?_,(rs.map (·.1)).map Value.ref,e,?_,he⟩),rfl,q _ rs (fun q m=>b3 q (pm.mem_iff.mp m)) (by rw [<- b2];exact pm.map _) ?_ hfr⟩
 ·obtain ⟨k1,k2⟩:=kp b o hb
  rw [sortedHeap_old k2 (Heap.lt_size k1)]
  exact k1
 ·rw [length_map,pm.length_eq,sizeLine_eq]
  omega
 ·have:=Gf (rs.map (·.1))
  rw [map_map] at this
  exact this
 ·rw [pairwise_iff_getElem]
  intro i j hi hj hij
  have hi':i < p.size:=by simpa [rs] using hi
  have hj':j < p.size:=by simpa [rs] using hj
  have g:=a2 i j (by omega) (by omega)
  have gi:(qs.map (·.2)).getD (p.getD i 0) []=(rs[i]).2:=by
   have l1:=lt p[i] (by simp)
   simp [rs,Array.getD,hi',l1]
  have gj:(qs.map (·.2)).getD (p.getD j 0) []=(rs[j]).2:=by
   have l1:=lt p[j] (by simp)
   simp [rs,Array.getD,hj',l1]
  have g2:HT.lexLt ((qs.map (·.2)).getD (p.getD j 0) []) ((qs.map (·.2)).getD (p.getD i 0) [])=false:=g
  rw [gi,gj] at g2
  exact g2
theorem Ny (hc:X.calm=true):Dg X (.builtin "max") (fun xs H Q=>∃(a:Addr) (ns:List Int),xs=[.ref a]/\SqL X.K H a (ns.map V.int)/\0 < ns.length/\∀M,M∈ns->(∀z∈ns,z<=M)->Q (.int M) H):=by
 intro pins s σ H xs us Q I r h
 obtain ⟨a,ns,rfl,hq,hne,q⟩:=h
 obtain ⟨u,rfl,rx⟩:=FF r
 cases rx
 obtain ⟨its,rv,pl,hz⟩:=I.list hq
 have hi:=BW rv
 obtain ⟨xs,e⟩:=hi.allInts.items
 have hns:ns=xs.toList.map (·.1):=by
  rw [<- hi.numsOf,<- nums_intItems,<- e]
 have hsz:0 < xs.size:=by
  have h3:=hne;rw [hns,length_map,Array.length_toList] at h3;exact h3
 have hl:=pl.isList
 rw [e] at hl
 refine max_intList (I.ok.hd hc) hl hsz fun v h' tk hv hk=>?_
 obtain ⟨t,rfl⟩:=intItems_at hv
 obtain ⟨_,h2⟩:=argBest_gt (numAt xs) (xs.size - 1)
 refine ⟨.int _,H,I.kept hk,⟨t,rfl⟩,q _ ?_ fun z m=>?_⟩
 ·rw [hns,numAt_eq];exact getD_mem (by rw [length_map,Array.length_toList];omega)
 ·rw [hns] at m
  obtain ⟨j,hj,rfl⟩:=mem_getD m
  rw [length_map,Array.length_toList] at hj
  rw [<- numAt_eq];exact h2 j (by omega)
end
end L2
namespace L2
open PySem
noncomputable def Ris (xs:Array Nat):Prop:=∀i j,i < j->j < xs.size->xs.getD i 0 < xs.getD j 0
theorem KM {xs:Array Nat} {i:Nat} (h:i < xs.size) (a b:Nat):xs.getD i a=xs.getD i b:=by
 simp [Array.getD,h]
theorem GI {xs:Array Nat} (hr:Ris xs) (j:Nat):∀(f lo hi:Nat),lo<=hi->hi<=xs.size->hi - lo<=f->(∀i,i < lo->xs.getD i 0 < j)->(∀i,hi<=i->i < xs.size->j<=xs.getD i 0) ->
 SetTable.below.go xs j f lo hi<=xs.size/\(∀i,i < SetTable.below.go xs j f lo hi->xs.getD i 0 < j)/\∀i,SetTable.below.go xs j f lo hi<=i->i < xs.size->j<=xs.getD i 0
 | 0,lo,hi,h1,h2,h3,h4,h5=>by
   have:lo=hi:=by omega
   subst this
   exact ⟨h2,h4,h5⟩
 | f+1,lo,hi,h1,h2,h3,h4,h5=>by
   unfold SetTable.below.go
   by_cases c:lo < hi
   ·rw [if_pos c]
    dsimp only
    have hm:(lo+hi) / 2 < xs.size:=by omega
    by_cases c2:xs.getD ((lo+hi) / 2) j < j
    ·rw [if_pos c2]
     refine GI hr j f _ hi (by omega) h2 (by omega) (fun i hi'=>?_) h5
     rw [KM hm j 0] at c2
     by_cases e:i=(lo+hi) / 2
     ·rw [e];exact c2
     ·exact Nat.lt_trans (hr i ((lo+hi) / 2) (by omega) hm) c2
    ·rw [if_neg c2]
     refine GI hr j f lo _ (by omega) (by omega) (by omega) h4 (fun i a b=>?_)
     rw [KM hm j 0] at c2
     by_cases e:i=(lo+hi) / 2
     ·rw [e];omega
     ·have:=hr ((lo+hi) / 2) i (by omega) b
      omega
   ·rw [if_neg c]
    have:lo=hi:=by omega
    subst this
    exact ⟨h2,h4,h5⟩
theorem Hx {xs:Array Nat} (hr:Ris xs) (j:Nat):SetTable.below xs j<=xs.size/\(∀i,i < SetTable.below xs j->xs.getD i 0 < j)/\∀i,SetTable.below xs j<=i->i < xs.size->j<=xs.getD i 0 :=
 GI hr j xs.size 0 xs.size (Nat.zero_le _) (Nat.le_refl _) (by omega) (fun i h=>absurd h (Nat.not_lt_zero _)) (fun i a b=>absurd a (by omega))
theorem GY {xs:Array Nat} (hr:Ris xs):SetTable.below xs 0=0:=by
 obtain ⟨_,h,_⟩:=Hx hr 0
 cases e:SetTable.below xs 0 with
 | zero=>rfl
 | succ n=>exact absurd (h n (by omega)) (Nat.not_lt_zero _)
theorem GP {xs:Array Nat} (hr:Ris xs) {i:Nat} (hi:i < xs.size):SetTable.below xs (xs.getD i 0+1)=i+1:=by
 obtain ⟨h0,h1,h2⟩:=Hx hr (xs.getD i 0+1)
 have a:¬ SetTable.below xs (xs.getD i 0+1)<=i:=fun c=>by
  have:=h2 i c hi
  omega
 have b:¬ i+1 < SetTable.below xs (xs.getD i 0+1):=fun c=>by
  have p:=h1 (i+1) c
  have q:=hr i (i+1) (by omega) (by omega)
  omega
 omega
theorem Kt {α:Type} {xs:Array α} {p:Nat} (hp:p<=xs.size) (x:α):(SetTable.insertAt xs p x).size=xs.size+1:=by
 unfold SetTable.insertAt
 simp
 omega
theorem Gw {xs:Array Nat} {p:Nat} (hp:p<=xs.size) (x i:Nat):(SetTable.insertAt xs p x).getD i 0=if i < p then xs.getD i 0 else if i=p then x else xs.getD (i - 1) 0:=by
 unfold SetTable.insertAt
 rw [Array.getD_eq_getD_getElem?,Array.getElem?_append]
 by_cases c:i < p
 ·rw [if_pos c,if_pos (by simp;omega),Array.getElem?_push]
  rw [if_neg (by simp;omega),Array.getElem?_extract]
  rw [if_pos (by omega),Array.getD_eq_getD_getElem?]
  simp
 ·rw [if_neg c]
  by_cases c2:i=p
  ·subst c2
   rw [if_pos rfl,if_pos (by simp;omega),Array.getElem?_push,if_pos (by simp;omega)]
   rfl
  ·rw [if_neg c2,if_neg (by simp;omega),Array.getElem?_extract,Array.getD_eq_getD_getElem?]
   have e:((xs.extract 0 p).push x).size=p+1:=by simp;omega
   rw [e]
   by_cases c3:i - (p+1) < min xs.size xs.size - p
   ·rw [if_pos c3]
    congr 2
    omega
   ·rw [if_neg c3,Array.getElem?_eq_none (by omega)]
theorem Ris.put {xs:Array Nat} (hr:Ris xs) {j:Nat} (hj:xs[SetTable.below xs j]?≠some j):Ris (SetTable.insertAt xs (SetTable.below xs j) j):=by
 obtain ⟨h0,h1,h2⟩:=Hx hr j
 intro a b hab hb
 rw [Kt h0] at hb
 rw [Gw h0,Gw h0]
 generalize hp:SetTable.below xs j=p at *
 have gt:∀i,p<=i->i < xs.size->j < xs.getD i 0:=fun i a b=>by
  have l:=h2 i a b
  by_cases e:i=p
  ·subst e
   have:xs.getD i 0≠j:=fun z=>hj (by simp [Array.getD,b] at z;simp [b,z])
   omega
  ·have:=h2 p (Nat.le_refl _) (by omega)
   have:=hr p i (by omega) b
   omega
 by_cases ca:a < p
 ·rw [if_pos ca]
  by_cases cb:b < p
  ·rw [if_pos cb]
   exact hr a b hab (by omega)
  ·rw [if_neg cb]
   by_cases cb2:b=p
   ·rw [if_pos cb2]
    exact h1 a ca
   ·rw [if_neg cb2]
    exact hr a (b - 1) (by omega) (by omega)
 ·rw [if_neg ca]
  by_cases ca2:a=p
  ·rw [if_pos ca2,if_neg (show ¬ b < p by omega),if_neg (show ¬ b=p by omega)]
   exact gt (b - 1) (by omega) (by omega)
  ·rw [if_neg ca2,if_neg (show ¬ b < p by omega),if_neg (show ¬ b=p by omega)]
   exact hr (a - 1) (b - 1) (by omega) (by omega)
theorem Oe (n:Nat):Ris (Array.range n):=fun i j hij hj=>by
 have hj':j < n:=by simpa using hj
 have hi':i < n:=by omega
 simp [Array.getD,hj',hi']
 exact hij
theorem G7 {l:List Nat} (h:l.Pairwise (· < ·)):Ris l.toArray:=fun i j hij hj=>by
 have hj':j < l.length:=by simpa using hj
 have hi':i < l.length:=by omega
 have:=pairwise_iff_getElem.mp h i j hi' hj' hij
 simpa [Array.getD,hj',hi'] using this
theorem JS {owner:Array (Option Nat)} (n:Nat):(((List.range n).filterMap fun j=>(owner.getD j none).map (j,·)).map (·.1)).Pairwise (· < ·):=by
 rw [pairwise_map,pairwise_filterMap]
 refine List.Pairwise.imp ?_ pairwise_lt_range
 intro a b hab x hx y hy
 cases e1:owner.getD a none with
 | none=>rw [e1] at hx;cases hx
 | some u =>
   cases e2:owner.getD b none with
   | none=>rw [e2] at hy;cases hy
   | some v =>
     rw [e1] at hx
     rw [e2] at hy
     cases hx
     cases hy
     exact hab
theorem PM {mask finger moves:Nat} {led plain:Bool} {hashes:Array Int} {t:SetTable} {order:Array Nat} (h:SetTable.laid mask finger moves led plain hashes=some (t,order)):Ris t.place/\t.led=led:=by
 unfold SetTable.laid at h
 cases e:SetTable.layClean mask hashes with
 | none=>rw [e] at h;cases h
 | some owner =>
   rw [e] at h
   cases h
   exact ⟨G7 (JS _),rfl⟩
theorem Fx {t:SetTable} {f:Nat->Int} {hv:Int}:∀(n:Nat) (p:SetTable.Probe) {j:Nat} {du:Option Nat},(∀d,p.dummy=some d->t.place[SetTable.below t.place d]?≠some d) ->
 SetTable.probe.go t f hv n p=some (.empty j du)->(∀d,du=some d->t.place[SetTable.below t.place d]?≠some d)/\t.place[SetTable.below t.place j]?≠some j
 | 0,p,j,du,hd,e=>by cases e
 | n+1,p,j,du,hd,e=>by
   unfold SetTable.probe.go at e
   by_cases c:t.place[SetTable.below t.place p.j]?=some p.j
   ·have es:t.slot p.j=.live (SetTable.below t.place p.j):=by
     unfold SetTable.slot
     simp [c]
    rw [es] at e
    dsimp only at e
    by_cases c2:(f (SetTable.below t.place p.j) == hv)=true
    ·rw [if_pos c2] at e;cases e
    ·rw [if_neg c2] at e
     refine Fx n _ ?_ e
     unfold SetTable.advance
     by_cases c3:p.more > 0
     ·rw [if_pos c3];exact hd
     ·rw [if_neg c3];exact hd
   ·by_cases c4:SetTable.has t.dummies p.j=true
    ·have es:t.slot p.j=.dummy:=by
      unfold SetTable.slot
      simp [c,c4]
     rw [es] at e
     dsimp only at e
     refine Fx n _ ?_ e
     have k:∀d,some p.j=some d->t.place[SetTable.below t.place d]?≠some d:=fun d z=>by
      cases z
      exact c
     unfold SetTable.advance
     by_cases c3:p.more > 0
     ·rw [if_pos c3];exact k
     ·rw [if_neg c3];exact k
    ·have es:t.slot p.j=.empty:=by
      unfold SetTable.slot
      simp [c,c4]
     rw [es] at e
     cases e
     exact ⟨hd,c⟩
theorem Qv {t:SetTable} {hv:Int} {slot:Nat} {b:Bool} (h:t.freeSlot hv=some (slot,b)):t.place[SetTable.below t.place slot]?≠some slot:=by
 unfold SetTable.freeSlot SetTable.probe at h
 cases e:SetTable.probe.go t (fun _=>hv+1) hv (10*SetTable.turns t.mask) (t.probeStart hv) with
 | none=>rw [e] at h;cases h
 | some m =>
   rw [e] at h
   cases m with
   | candidate j i nx=>cases h
   | empty j du =>
     obtain ⟨a,b'⟩:=Fx _ _ (fun d z=>by cases z) e
     cases du with
     | none =>
       cases h
       exact b'
     | some d =>
       cases h
       exact a d rfl
noncomputable def DF (t:SetTable):Prop:=Ris t.place/\t.led=true
theorem DF.standIn {t:SetTable} (h:DF t) (n:Nat):DF (t.standIn n):=⟨Oe n,h.2⟩
theorem DF.orStandIn {t:SetTable} (h:DF t) (n:Nat):DF (t.orStandIn n):=by
 unfold SetTable.orStandIn
 split
 ·exact h
 ·exact h.standIn n
theorem DF.lay {t:SetTable} (h:DF t) (es:Array (Int × Value)) (hv:Int) (x:Value):DF (layNew t es hv x).2.1:=by
 unfold layNew
 cases e:t.freeSlot hv with
 | none=>exact h.standIn _
 | some q =>
   obtain ⟨slot,b⟩:=q
   have w:DF (t.put slot).1:=⟨h.1.put (Qv e),h.2⟩
   exact w.orStandIn _
theorem DF.relay {t:SetTable} (h:DF t) (es:Array (Int × Value)) (n:Nat):DF (relayAll t es n).2.1:=by
 unfold relayAll SetTable.relaid
 cases e:SetTable.laid (SetTable.sizeAbove n - 1) t.finger (t.movedTo (SetTable.sizeAbove n - 1)) t.led t.plain (es.map (·.1)) with
 | none=>exact h.standIn _
 | some q =>
   obtain ⟨t',order⟩:=q
   obtain ⟨a,b⟩:=PM e
   dsimp only
   split
   ·exact ⟨a,b.trans h.2⟩
   ·exact h.standIn _
end L2
namespace L2
open PySem PySem.W PySem.Spec PyProof.Rows
def Co (w:World):Bool:=w.params.followText "set-order"
noncomputable def FK (prog:Program) (w:World) (h:Heap) (a:Addr) (l:List Int):Prop :=
 ∃o es ep t ms,h.get? a=some o/\o.ExactSet/\o.data=.set es ep t/\ElemsOf (intKind prog w) es.toList/\IntsAre (es.toList.map (·.2)) ms/\ms.Perm l/\es.size < scanBound/\t.fits es.size=true/\(Co w=true\/DF t)
theorem FW {vs vs':List Value} (p:vs'.Perm vs):∀{ns:List Int},IntsAre vs ns->∃ns',IntsAre vs' ns'/\ns'.Perm ns:=by
 induction p with
 | nil=>intro ns h;cases h;exact ⟨[],.nil,.refl _⟩
 | cons x _ ih =>
   intro ns h
   cases h with
   | cons n t h =>
     obtain ⟨ns',a,b⟩:=ih h
     exact ⟨n :: ns',.cons n t a,b.cons n⟩
 | swap x y l =>
   intro ns h
   cases h with
   | cons n t h =>
     cases h with
     | cons m u h=>exact ⟨m :: n :: _,.cons m u (.cons n t h),.swap _ _ _⟩
 | trans _ _ ih1 ih2 =>
   intro ns h
   obtain ⟨n1,a1,b1⟩:=ih2 h
   obtain ⟨n2,a2,b2⟩:=ih1 a1
   exact ⟨n2,a2,b2.trans b1⟩
theorem Gz:∀{vs us:List Value} {ns ms:List Int},IntsAre vs ns->IntsAre us ms->IntsAre (vs++us) (ns++ms)
 | _,_,_,_,.nil,h=>h
 | _,_,_,_,.cons n t a,h=>.cons n t (Gz a h)
theorem F9:∀{vs:List Value} {ns:List Int},IntsAre vs ns->∀{n:Int},n∈ns↔∃t,Value.int n t∈vs
 | _,_,.nil,n=>⟨(fun h=>by cases h),(fun ⟨_,h⟩=>by cases h)⟩
 | _,_,.cons m u a,n=>by
   constructor
   ·intro h
    rcases mem_cons.mp h with e | h
    ·subst e
     exact ⟨u,mem_cons_self ..⟩
    ·obtain ⟨t,ht⟩:=(F9 a).mp h
     exact ⟨t,mem_cons_of_mem _ ht⟩
   ·rintro ⟨t,h⟩
    rcases mem_cons.mp h with e | h
    ·cases e
     exact mem_cons_self ..
    ·exact mem_cons_of_mem _ ((F9 a).mpr ⟨t,h⟩)
section
variable {prog:Program} {w:World} {A:Around} {E:Value->Shared->Prop} {s:Shared}
theorem II {h:Heap} {a:Addr} {o:Obj} {es:Array (Int × Value)} {ep:Nat} {t:SetTable} (ho:h.get? a=some o) (hd:o.data=.set es ep t) (es':Array (Int × Value)) (t':SetTable) :
 (h.update a (Obj.putSet es' t')).get? a=some { o with data:=.set es' (ep+1) t' }:=by
 have:=Heap.get?_update_self (Obj.putSet es' t') ho (by rw [putSet_of es' t' hd];rfl)
 rw [putSet_of es' t' hd] at this
 exact this
theorem Kv {g:Bool->Sem Unit} (hg:∀(b:Bool) (s₁:Shared) (Q':Unit->Shared->Prop),Q' () s₁->wpAny (model prog w) A (g b) Q' E s₁)
 {a:Addr} {o:Obj} {es:Array (Int × Value)} {ep:Nat} {t:SetTable} (ho:s.heap.get? a=some o) (hex:o.ExactSet) (hd:o.data=.set es ep t)
 {es1:Array (Int × Value)} {t2:SetTable} {ms l:List Int} (hel1:ElemsOf (intKind prog w) es1.toList) (hi:IntsAre (es1.toList.map (·.2)) ms) (hp:ms.Perm l)
 (hb1:es1.size < scanBound) (hf2:t2.fits es1.size=true) (hw:Co w=true\/DF t2) {wasDummy:Bool} {R:Option Bool->Shared->Prop}
 (h:∀h',Heap.SameBut a s.heap h'->FK prog w h' a l->R (some true) { s with heap:=h' }) :
 wpAny (model prog w) A (do
  storeSet a es1 t2
  if (!wasDummy && t2.tooFull)=true then do
      g (relayAll t2 es1 (SetTable.grown es1.size)).2.2
      storeSet a (relayAll t2 es1 (SetTable.grown es1.size)).1 (relayAll t2 es1 (SetTable.grown es1.size)).2.1
      pure (some true)
   else pure (some true)) R E s:=by
 refine wpAny_bind (wpAny_storeSet_of ho hd ?_ (fits_of_scanBound hb1))
 have ho1:=II ho hd es1 t2
 have hsb1:=Heap.SameBut.update s.heap a (Obj.putSet es1 t2)
 split
 ·have pr:=relayAll_perm t2 es1 (SetTable.grown es1.size)
  have fr:=relayAll_fits t2 es1 (SetTable.grown es1.size)
  have wr:Co w=true\/DF (relayAll t2 es1 (SetTable.grown es1.size)).2.1:=hw.imp id fun x=>x.relay _ _
  generalize relayAll t2 es1 (SetTable.grown es1.size)=Rl at pr fr wr ⊢
  obtain ⟨es2,t3,gave2⟩:=Rl
  dsimp only at pr fr wr ⊢
  have hsz:es2.size=es1.size:=by rw [<- Array.length_toList,pr.length_eq,Array.length_toList]
  obtain ⟨ms2,i2,p2⟩:=FW (pr.map (·.2)) hi
  refine wpAny_bind (hg _ _ _ ?_)
  refine wpAny_bind (wpAny_storeSet_of ho1 rfl ?_ (fits_of_scanBound (by rw [hsz];exact hb1)))
  exact wpAny_pure (h _ (hsb1.trans (Heap.SameBut.update _ a _)) ⟨_,es2,_,t3,ms2,II ho1 rfl es2 t3,hex,rfl,hel1.perm pr,i2,p2.trans hp,by rw [hsz];exact hb1,fr,wr⟩)
 ·exact wpAny_pure (h _ hsb1 ⟨_,es1,_,t2,ms,ho1,hex,rfl,hel1,hi,hp,hb1,hf2,hw⟩)
theorem add_int {a:Addr} {l:List Int} {k:Int} {tk:Tok} {Q:Bool->Shared->Prop} (hS:FK prog w s.heap a l) (hroom:l.length+1 < scanBound)
 (h:∀h' b,Heap.SameBut a s.heap h'->FK prog w h' a (step_dedup l k)->Q b { s with heap:=h' }) :
 wpAny (model prog w) A (setAddHashed a (.int k tk) ((intKind prog w).hash k)) Q E s:=by
 obtain ⟨o,es,ep,t,ms,ho,hex,hd,hel,hi,hp,hb,hf,hw⟩:=hS
 have hkey:(intKind prog w).is k (.int k tk)=true:=intKind_is _ _ _ _
 have hsc:(Value.int k tk).scannable=true:=rfl
 have hlen:es.size=l.length:=by
  have:=hi.length
  rw [length_map,Array.length_toList] at this
  rw [this,hp.length_eq]
 unfold setAddHashed setAddHashedIn
 refine wpAny_holding (wpAny_bind (wpAny_setState_of ho hd hf ?_))
 dsimp only
 rw [byScan_of hsc hb hel]
 simp only [↓reduceIte]
 unfold setAddByScan
 refine wpAny_bind ?_
 refine wpAny_bind (wpAny_rule ?_)
 refine wpAny_bind (wpAny_setScan_of hkey ho hd hf hel ?_)
 cases hr:List.findIdx? (fun e=>(intKind prog w).is k e.2) es.toList with
 | some j =>
   dsimp only
   obtain ⟨hj,hpj,_⟩:=List.findIdx?_eq_some_iff_getElem.mp hr
   have mem:k∈l:=by
    refine hp.mem_iff.mp ((F9 hi).mpr ?_)
    obtain ⟨t',e⟩:=Value.isInt_shape (show Value.isInt k es.toList[j].2=true from hpj)
    exact ⟨t',mem_map.mpr ⟨_,getElem_mem hj,e⟩⟩
   have es':step_dedup l k=l:=by
    unfold step_dedup
    rw [if_pos (any_eq_true.mpr ⟨k,mem,by simp⟩)]
   refine wpAny_pure (wpAny_pure ?_)
   exact h s.heap _ (Heap.SameBut.refl a s.heap) ⟨o,es,ep,t,ms,ho,hex,hd,hel,hi,by rw [es'];exact hp,hb,hf,hw⟩
 | none =>
   dsimp only
   have nmem:¬ k∈l:=fun m=>by
    obtain ⟨t',ht⟩:=(F9 hi).mp (hp.mem_iff.mpr m)
    obtain ⟨e,he,hv⟩:=mem_map.mp ht
    have:=List.findIdx?_eq_none_iff.mp hr e he
    rw [hv,intKind_is] at this
    exact Bool.noConfusion this
   have es':step_dedup l k=l++[k]:=by
    unfold step_dedup
    rw [if_neg (by
     intro z
     obtain ⟨y,hy,ey⟩:=any_eq_true.mp z
     have:y=k:=by simpa using ey
     exact nmem (this ▸ hy))]
   have hgw:∀(b:Bool) {s₁:Shared} {Q':Unit->Shared->Prop},Q' () s₁->wpAny (model prog w) A (match b with | true=>rule "set.scan.the-table-gave-way" | false=>pure ()) Q' E s₁ :=
    fun b s₁ Q' hq=>by cases b <;> first | exact wpAny_pure hq | exact wpAny_rule hq
   have pr:=layNew_perm t es ((intKind prog w).hash k) (.int k tk)
   have fr:=layNew_fits t es ((intKind prog w).hash k) (.int k tk)
   have wr:Co w=true\/DF (layNew t es ((intKind prog w).hash k) (.int k tk)).2.1:=hw.imp id fun x=>x.lay _ _ _
   generalize layNew t es ((intKind prog w).hash k) (.int k tk)=L at pr fr wr ⊢
   obtain ⟨es1,t1,wasDummy,gave⟩:=L
   dsimp only at pr fr wr ⊢
   rw [Array.toList_push] at pr
   have hel1:ElemsOf (intKind prog w) es1.toList:=(hel.push hkey hsc).perm pr
   have hi0:IntsAre ((es.toList++[((intKind prog w).hash k,Value.int k tk)]).map (·.2)) (ms++[k]):=by
    rw [map_append]
    exact Gz hi (.cons k tk .nil)
   obtain ⟨ms1,i1,p1⟩:=FW (pr.map (·.2)) hi0
   have hp1:ms1.Perm (step_dedup l k):=by rw [es'];exact p1.trans (hp.append_right [k])
   have hb1:es1.size < scanBound:=by rw [<- Array.length_toList,pr.length_eq,length_append,Array.length_toList,hlen];simpa using hroom
   refine wpAny_bind (hgw _ ?_)
   split
   ·refine wpAny_bind ?_
    rw [hashByValue_scannable 8 hsc]
    refine wpAny_pure ?_
    refine Kv ?_ ho hex hd hel1 i1 hp1 hb1 ?_ ?_ ?_
    ·intro b s₁ Q' hq;cases b <;> first | exact wpAny_pure hq | exact wpAny_rule hq
    ·split
     ·exact fr
     ·exact SetTable.fits_plain_off fr
    ·split
     ·exact wr
     ·exact wr
    ·intro h' hsb hS';dsimp only;exact wpAny_pure (h h' _ hsb hS')
   ·refine wpAny_bind (wpAny_pure ?_)
    simp only [↓reduceIte]
    refine Kv ?_ ho hex hd hel1 i1 hp1 hb1 fr wr ?_
    ·intro b s₁ Q' hq;cases b <;> first | exact wpAny_pure hq | exact wpAny_rule hq
    ·intro h' hsb hS';dsimp only;exact wpAny_pure (h h' _ hsb hS')
theorem FK.at {h h':Heap} {a:Addr} {l:List Int} (x:FK prog w h a l) (e:∀o,h.get? a=some o->h'.get? a=some o):FK prog w h' a l:=by
 obtain ⟨o,es,ep,t,ms,ho,r⟩:=x
 exact ⟨o,es,ep,t,ms,e o ho,r⟩
end
section
variable {prog:Program} {w:World} {A:Around} {R:Result->Shared->Prop} {I:Addr} {fp wr:List Addr} {G:Array GenState->Array GenState->Prop} {n:Nat} {P:Nat->Value->Prop} {St:Nat->Shared->Prop}
theorem OG (W:WalksS prog w A.in1 I fp wr G n P St) (S:Addr) (hSf:S ∉ fp) (val:Nat->Int) (hval:∀i v,P i v->∃t,v=.int (val i) t) (hb:n+1 < scanBound) :
 ∀(k i:Nat) (s:Shared),n - i=k->i<=n->St i s->FK prog w s.heap S (firstMet val i)->(∀s',Moved (S :: wr) G s s'->FK prog w s'.heap S (firstMet val n)->R (.ok (.ret .none)) s') ->
  codeAny (model prog w) A (.builtin "set.update.loop" ⟨[.ref S,.ref I],[]⟩) R s:=by
 have hSw:S ∉ wr:=fun h=>hSf (W.sub _ h)
 have hsub:∀b∈wr,b∈S :: wr:=fun b hb=>mem_cons_of_mem _ hb
 intro k
 induction k with
 | zero =>
   intro i s hk hi hst hS hR
   have hin:i=n:=by omega
   subst hin
   refine codeAny_builtin F.entry_set_update_loop ?_
   rw [Around.under_plainId F.plain_set_update_loop _]
   show wpAny _ A.in1 (pyNext (.ref I) >>= _) _ _ s
   refine wpAny_bind (W.done s _ _ hst fun s' hm=>?_)
   show wpAny _ A.in1 (ret Value.none) _ _ s'
   exact wpAny_pure (hR s' (hm.mono hsub) (hS.at fun o e=>hm.heap S o hSw e))
 | succ k ih =>
   intro i s hk hi hst hS hR
   have hlt:i < n:=by omega
   refine codeAny_builtin F.entry_set_update_loop ?_
   rw [Around.under_plainId F.plain_set_update_loop _]
   show wpAny _ A.in1 (pyNext (.ref I) >>= _) _ _ s
   refine wpAny_bind (W.item i s _ _ hlt hst fun v s' hP hst' hm=>?_)
   obtain ⟨t,rfl⟩:=hval i v hP
   have hS':=hS.at fun o e=>hm.heap S o hSw e
   show wpAny _ A.in1 (holding [Value.int (val i) t] (setAdd S (.int (val i) t)) >>= _) _ _ s'
   refine wpAny_bind (wpAny_holding ?_)
   unfold setAdd
   refine wpAny_holding ?_
   refine wpAny_bind ((intKind prog w).pyHash (k:=val i) (intKind_is _ _ _ _) ?_)
   have hroom:(firstMet val i).length+1 < scanBound:=by have:=firstMet_length_le val i;omega
   refine add_int (s:={ s' with toks:=s'.toks+1 }) hS' hroom fun h' b hsb hS2=>?_
   have hSi:FK prog w h' S (firstMet val (i+1)):=by rw [firstMet_succ];exact hS2
   refine wpAny_pure ⟨plainId_quiet F.plain_set_update_loop _,ih (i+1) _ (by omega) hlt (W.frame _ s' _ _ hst' (Nat.le_succ _) fun b hb o e=>?_) hSi fun s'' hm'' hS''=>?_⟩
   ·rw [hsb.2 b (fun h:b=S=>hSf (by rw [<- h];exact hb))];exact e
   ·refine hR s'' (Moved.trans W.gtrans ((hm.mono hsub).then_heap (Nat.le_succ _) fun b o hb e=>?_) hm'') hS''
    rw [hsb.2 b (fun h:b=S=>hb (by rw [h];exact mem_cons_self))];exact e
end
section
variable {prog:Program} {w:World} {A:Around} {E:Value->Shared->Prop} {s:Shared}
abbrev BB (w:World):Obj:={ cls:=.type "set",dict:=none,data:=.set #[] 0 (.fresh 0 0 (!Co w)) }
theorem Qs (a:Value) {Q₁:Value->Shared->Prop} (h:Q₁ (.ref s.heap.objs.size) { s with heap:=s.heap.push (BB w) }) :
 codeAny (model prog w) A (.call (.builtin "set.__new__") ⟨[.type "set",a],[]⟩) (wants Q₁ E) s:=by
 refine codeAny_of_tree ?_
 show wpAny _ A.in1 (do checkBuiltinCall "set.__new__" ⟨[.type "set",a],[]⟩;again (.builtin "set.__new__" ⟨[.type "set",a],[]⟩)) _ _ s
 refine wpAny_bind (wpAny_of_eq (PySem.F.newCall_set_1 a) (wpAny_pure ⟨plainId_quiet PySem.F.plain_set_new _,codeAny_builtin PySem.F.entry_set_new ?_⟩))
 rw [Around.under_plainId PySem.F.plain_set_new _]
 unfold Builtin.«set.__new__» Builtin.Frozenset.newClass
 have hsub:=sub_set_self
 obtain ⟨hp,g,d,tk,os⟩:=s
 dsimp only
 wp_walk
 refine wpAny_askSetting (wpAny_pure ?_)
 dsimp only
 simp only [newObj]
 refine wpAny_bind (wpAny_alloc (wpAny_pure ?_))
 exact wpAny_pure h
theorem Oc {h:Heap} {a:Addr} (ho:h.get? a=some (BB w)):FK prog w h a [] :=
 ⟨_,#[],0,_,[],ho,⟨rfl,rfl,rfl⟩,rfl,fun e he=>by simp at he,.nil,.refl _,by decide,rfl,by
  cases e:Co w with
  | true=>exact .inl rfl
  | false=>exact .inr ⟨fun i j _ hj=>absurd hj (by simp [SetTable.fresh]),by simp [SetTable.fresh]⟩⟩
set_option maxRecDepth 100000 in
set_option maxHeartbeats 3200000 in
theorem KU {l:Addr} {items:Array Value} {ns:List Int} {Q:Value->Shared->Prop} (hh:A.handled=none) (hl:s.heap.IsList l items) (hi:IntsAre items.toList ns) (hb:items.size+1 < scanBound)
 (h:∀(h':Heap) (tk:Nat),FK prog w h' s.heap.objs.size (firstMet (fun i=>ns.getD i 0) items.size)->(∀b o,b < s.heap.objs.size->s.heap.get? b=some o->h'.get? b=some o)->Q (.ref s.heap.objs.size) { s with heap:=h',toks:=tk }) :
 wpAny (model prog w) A (call (.type "set") [.ref l]) Q E s:=by
 obtain ⟨c,tl,hmro⟩:=PySem.F.called_set.mro
 have hmade:=PySem.F.called_set.made
 have hsub:=PySem.F.called_set.sub
 refine wpAny_call (codeAny_of_tree ?_)
 show wpAny _ _ (callAny (.type "set") _) _ _ _
 refine wpAny_pure ⟨Code.quiet_builtin _ (by decide +kernel),codeAny_builtin PySem.F.entry_type_call ?_⟩
 rw [Around.under_plain (weight_type_call_type "set" [.ref l] []) rfl]
 have h1:=PySem.F.called_set.notType
 have h2:=PySem.F.called_set.canCreate
 have hct:=PySem.F.typeCall_set_1 (.ref l)
 repeat (any_goals (first | assumption | wp_step))
 refine codeAny_mono (Qs (.ref l) (E:=E) (Q₁:=fun obj s₁=>obj=.ref s.heap.objs.size/\s₁={ s with heap:=s.heap.push (BB w) }) ⟨rfl,rfl⟩) fun r s₁ hr=>?_
 cases r with
 | error e=>exact hr
 | ok fl =>
   cases fl with
   | ret obj =>
     obtain ⟨rfl,rfl⟩:=hr
     have hS:(s.heap.push (BB w)).get? s.heap.objs.size=some (BB w):=Heap.get?_push_size _ rfl
     have hT:Shared.TypeIs { s with heap:=s.heap.push (BB w) } (.ref s.heap.objs.size) "set":=⟨_,hS,rfl⟩
     have hli:=PySem.F.called_set.init.lookup
     have hbi:=PySem.F.called_set.init.bind (.ref s.heap.objs.size)
     repeat (any_goals (first | assumption | wp_step))
     refine codeAny_mono (codeAny_call_builtin (R:=wants (fun r s₂=>r=.none/\∃h' tk,s₂={ s with heap:=h',toks:=tk }/\FK prog w h' s.heap.objs.size (firstMet (fun i=>ns.getD i 0) items.size) /\
      (∀b o,b < s.heap.objs.size->s.heap.get? b=some o->h'.get? b=some o)) E) PySem.F.called_set.init.plain PySem.F.entry_set_init (check_set_init_1 hT ?_)) fun r₂ s₂ hr₂=>?_
     ·obtain ⟨ol,hol,hcl,nl,hdl⟩:=hl
      obtain ⟨ocls,odict,odata,oslots⟩:=ol
      simp only at hcl hdl
      subst hcl;subst hdl
      have hol':(s.heap.push (BB w)).get? l=some { cls:=.type "list",dict:=odict,data:=.seq items nl,slots:=oslots }:=Heap.get?_push_of_some _ hol
      have hsls:=PySem.F.sub_list_set
      have hslf:=PySem.F.sub_list_frozenset
      have hne:(Value.type "list" == Value.type "dict")=false:=by decide
      have hl1:(s.heap.push (BB w)).IsList l items:=⟨_,hol',rfl,nl,rfl⟩
      unfold Builtin.«set.__init__» noKeywords Builtin.Frozenset.updateFrom
      generalize hPI:pyIter=PI
      wp_walk
      subst hPI
      refine wpAny_pyIter_list hl1 ?_
      refine wpAny_bind (wpAny_runValue ?_)
      have hlS:l < s.heap.objs.size:=Heap.lt_size hol
      have hh3:A.in1.in1.in1.handled=none:=by simp [hh]
      have hneI:l≠(s.heap.push (BB w)).objs.size:=by
       rw [Heap.size_push];exact Nat.ne_of_lt (Nat.lt_succ_of_lt hlS)
      have hSf:s.heap.objs.size ∉ [(s.heap.push (BB w)).objs.size,l]:=by
       rw [Heap.size_push];simp only [mem_cons,mem_singleton,List.not_mem_nil,or_false,not_or]
       exact ⟨Nat.ne_of_lt (Nat.lt_succ_self _),Nat.ne_of_gt hlS⟩
      have hval:∀(i:Nat) (v:Value),items[i]?=some v->∃t,v=.int ((fun i=>ns.getD i 0) i) t:=fun i v hv =>
       IntsAre.int_at hi i v (by rw [Array.getElem?_toList];exact hv)
      refine OG ((Walks.list hh3 _ l hneI items).toS) s.heap.objs.size hSf (fun i=>ns.getD i 0) hval hb (items.size - 0) 0 _ (by omega) (Nat.zero_le _)
       ⟨⟨_,Heap.get?_push_size _ rfl,rfl,rfl⟩,(hl1.push _)⟩ (Oc (Heap.get?_push_of_some _ hS)) ?_
      intro s' hm hS'
      obtain ⟨h',g',d',tk',os'⟩:=s'
      have eg:g'=s.gens:=hm.gens
      have ed:d'=s.drawn:=hm.drawn
      have eo:os'=s.os:=hm.os
      subst eg;subst ed;subst eo
      show wpAny _ _ _ _ _ _
      refine wpAny_pure ?_
      show wpAny _ _ (ret Value.none) _ _ _
      refine wpAny_pure ⟨rfl,h',tk',rfl,hS',fun b o hb e=>?_⟩
      have hb1:b≠s.heap.objs.size:=Nat.ne_of_lt hb
      have hb2:b≠(s.heap.push (BB w)).objs.size:=by
       rw [Heap.size_push];exact Nat.ne_of_lt (Nat.lt_succ_of_lt hb)
      exact hm.heap b o (by simp only [mem_cons,mem_singleton,List.not_mem_nil,or_false,not_or];exact ⟨hb1,hb2⟩) (Heap.get?_push_of_some _ (Heap.get?_push_of_some _ e))
     ·cases r₂ with
      | error e=>exact hr₂
      | ok fl₂ =>
        cases fl₂ with
        | ret r =>
          obtain ⟨rfl,h',tk,rfl,hS',hk'⟩:=hr₂
          repeat (any_goals (first | assumption | wp_step))
          exact h _ _ hS' hk'
        | _=>exact hr₂.elim
   | _=>exact hr.elim
end
end L2
namespace L2
open PySem PySem.W PySem.Spec PyProof.Rows
theorem Fv {α:Type}:∀(xs:List α) (i:Nat) (hi:i < xs.length),(xs[i] :: xs.eraseIdx i).Perm xs
 | [],i,hi=>absurd hi (Nat.not_lt_zero _)
 | x :: xs,0,_=>.refl _
 | x :: xs,i+1,hi=>by
   have hi':i < xs.length:=by simpa using hi
   have ih:=Fv xs i hi'
   show (xs[i] :: x :: xs.eraseIdx i).Perm (x :: xs)
   exact (List.Perm.swap _ _ _).trans (ih.cons x)
section
variable {prog:Program} {w:World} {A:Around} {E:Value->Shared->Prop} {s:Shared}
theorem LA {src:Source} {n:Nat} {Q:Nat->Shared->Prop} (hn:n≠0) (h:∀x d,x < n->Q x { s with drawn:=d }):wpAny (model prog w) A (choose src n) Q E s:=fun Γ p _=>by
 unfold choose
 rw [Sem.wp_choose]
 exact ⟨hn,h _ _ (Nat.mod_lt _ (Nat.pos_of_ne_zero hn))⟩
theorem Kw {α:Type}:∀(n:Nat) (xs:List α) (s:Shared) {Q:List α->Shared->Prop},xs.length=n->(∀ys d,ys.Perm xs->Q ys { s with drawn:=d })->wpAny (model prog w) A (drawOrder n xs) Q E s
 | 0,xs,s,Q,hl,h=>by
   have:xs=[]:=length_eq_zero_iff.mp hl
   subst this
   have:=h [] s.drawn (.refl _)
   exact wpAny_pure this
 | n+1,[],s,Q,hl,h=>by simp at hl
 | n+1,x :: xs,s,Q,hl,h=>by
   unfold drawOrder
   refine wpAny_bind (LA (by simp) fun i d hi=>?_)
   have e:(x :: xs)[i]?=some (x :: xs)[i]:=by simp [hi]
   rw [e]
   dsimp only
   refine wpAny_bind (Kw n ((x :: xs).eraseIdx i) _ (by rw [length_eraseIdx,if_pos hi];simp at hl ⊢;omega) fun ys d' hp=>wpAny_pure ?_)
   refine h _ d' ?_
   exact (hp.cons _).trans (Fv _ _ hi)
end
theorem Nn {α:Type} (next:Nat->Nat):∀(f k:Nat) (left:List α) (out:Array α),left.length=f->(pickOrder.go next f k left out).toList.Perm (out.toList++left)
 | 0,k,left,out,hl=>by
   have:left=[]:=length_eq_zero_iff.mp hl
   subst this
   simp [pickOrder.go]
 | f+1,k,left,out,hl=>by
   unfold pickOrder.go
   have hi:next k % left.length < left.length:=Nat.mod_lt _ (by omega)
   have e:left[next k % left.length]?=some left[next k % left.length]:=by simp [hi]
   rw [e]
   dsimp only
   refine (Nn next f (k+1) (left.eraseIdx (next k % left.length)) _ (by rw [length_eraseIdx,if_pos hi];omega)).trans ?_
   rw [Array.toList_push,append_assoc]
   exact List.Perm.append_left _ (Fv _ _ hi)
theorem Iv {α:Type} (next:Nat->Nat) (xs:Array α):(pickOrder next xs).toList.Perm xs.toList:=by
 have:=Nn next xs.size 0 xs.toList #[] (by simp)
 simpa [pickOrder] using this
noncomputable def BC (h:Heap) (a:Addr) (es:Array (Int × Value)) (ep:Nat) (t:SetTable):Prop:=∃o,h.get? a=some o/\o.ExactSet/\o.data=.set es ep t
theorem BC.at {h h':Heap} {a:Addr} {es:Array (Int × Value)} {ep:Nat} {t:SetTable} (x:BC h a es ep t) (e:∀o,h.get? a=some o->h'.get? a=some o):BC h' a es ep t:=let ⟨o,ho,r⟩:=x;⟨o,e o ho,r⟩
theorem BC.typeIs {s:Shared} {a:Addr} {es:Array (Int × Value)} {ep:Nat} {t:SetTable} (x:BC s.heap a es ep t):s.TypeIs (.ref a) "set":=let ⟨o,ho,hc,_⟩:=x;⟨o,ho,hc.1⟩
noncomputable def Fg (es:Array (Int × Value)) (t:SetTable):Bool:=!t.plain && decide (es.size > 1)
noncomputable def HK (t:SetTable):Nat->Nat
 | 0=>0
 | i+1=>t.place.getD i 0+1
noncomputable def SIt (w:World) (h:Heap) (I tp a:Addr) (es:Array (Int × Value)) (ep:Nat) (t:SetTable) (out:List Value) (i:Nat):Prop :=
 ∃first,(∃o,h.get? I=some o/\o.cls=.type "set_iterator"/\o.data=.fields #[first,rawInt i,.ref a,rawInt es.size,rawInt ep]) /\
  ((Co w=true/\first=rawInt 0/\out=(pickOrder (w.params.setOrder a ep) es).toList.map (·.2)) \/
   (Co w=false/\Fg es t=true/\first=.ref tp/\∃ps:List Nat,(∃o n,h.get? tp=some o/\o.data=.seq (ps.map fun (p:Nat)=>rawInt p).toArray n)/\ps.Perm (List.range es.size)/\out=ps.map fun p=>(es.getD p (0,Value.none)).2) \/
   (Co w=false/\Fg es t=false/\DF t/\first=rawInt (HK t i)/\out=es.toList.map (·.2)))
theorem SIt.perm {w:World} {h:Heap} {I tp a:Addr} {es:Array (Int × Value)} {ep:Nat} {t:SetTable} {out:List Value} {i:Nat} (x:SIt w h I tp a es ep t out i):out.Perm (es.toList.map (·.2)):=by
 obtain ⟨_,_,⟨_,_,e⟩ | ⟨_,_,_,ps,_,p,e⟩ | ⟨_,_,_,_,e⟩⟩:=x
 ·rw [e]
  exact (Iv _ _).map _
 ·rw [e]
  have q:=p.map fun p=>(es.getD p (0,Value.none)).2
  refine q.trans (.of_eq ?_)
  apply ext_getElem
  ·simp
  ·intro i h1 h2
   have hi:i < es.size:=by simpa using h1
   simp [Array.getD,hi]
 ·rw [e]
section
variable {prog:Program} {w:World} {A:Around} {E:Value->Shared->Prop} {s:Shared} {a:Addr} {es:Array (Int × Value)} {ep:Nat} {t:SetTable}
theorem HP:entryFor table "set.__iter__"=some Builtin.«frozenset.__iter__» :=
 entryFor_alias (id':="frozenset.__iter__") (by kernel_rfl) (by first | rfl | decide +kernel | (unfold String.splitOn;simp +decide [String.splitOnAux])) (by decide +kernel) (by kernel_rfl)
theorem BS:Slot "set_iterator" "__next__" "set_iterator.__next__" :=
 .of (owner:="set_iterator") (n:="__next__") (by rw [typeLookup_type,builtinLookup_eq_fast];kernel_rfl) (by decide +kernel) (by decide +kernel) (by decide +kernel)
  (by first | exact .inl (by decide +kernel) | exact .inr (by decide +kernel)) (by rw [isSubtype_type];kernel_rfl)
theorem ER:entryFor table "set_iterator.__next__"=some Builtin.«set_iterator.__next__»:=entryFor_of_tree (by kernel_rfl)
theorem Fm (a:Value):argsOk "set_iterator.__next__" ⟨[a],[]⟩:=by
 unfold argsOk
 kernel_rfl
theorem C2 {Q:(Array (Int × Value) × Nat × SetTable)->Shared->Prop} (x:BC s.heap a es ep t) (hf:t.fits es.size=true) (h:Q (es,ep,t) s):wpAny (model prog w) A (setState a) Q E s:=by
 obtain ⟨o,ho,_,hd⟩:=x
 exact wpAny_setState_of ho hd hf h
theorem Pk {Q:Value->Shared->Prop} (x:BC s.heap a es ep t) (hf:t.fits es.size=true) (hz:es.size<=sizeLine) (hw:Co w=true\/DF t)
 (h:∀(h':Heap) (d:Drawn) (I tp:Addr) (out:List Value),(∀b o,s.heap.get? b=some o->h'.get? b=some o)->s.heap.objs.size<=I->s.heap.objs.size<=tp->tp≠I->I < h'.objs.size->SIt w h' I tp a es ep t out 0->Q (.ref I) { s with heap:=h',drawn:=d }) :
 wpAny (model prog w) A (pyIter (.ref a)) Q E s:=by
 have hT:=x.typeIs
 refine wpAny_pyIter_slot hT PySem.F.slot_set_iter (wpAny_call_entry PySem.F.slot_set_iter hT HP ?_ (PySem.F.args_set_iter_1 _))
 unfold Builtin.«frozenset.__iter__»
 refine wpAny_bind (m:=Builtin.Frozenset.slot0 "__iter__" ⟨[.ref a],[]⟩) (wpAny_of_eq (a:=a) rfl ?_)
 refine wpAny_bind ?_
 unfold Builtin.Frozenset.sizeOf
 refine wpAny_bind ?_
 unfold setEntries
 refine wpAny_bind (C2 x hf (wpAny_pure (wpAny_pure ?_)))
 dsimp only
 refine wpAny_bind ?_
 unfold setDrawn
 refine wpAny_bind (C2 x hf ?_)
 dsimp only
 refine wpAny_bind ?_
 unfold setsByText
 refine wpAny_bind (wpAny_askSetting (wpAny_pure ?_))
 refine wpAny_pure ?_
 show wpAny _ _ (if (!Co w && Fg es t)=true then _ else _) _ _ s
 have fin:∀(s1:Shared) (first:Value),(∀b o,s.heap.get? b=some o->s1.heap.get? b=some o)->s.heap.objs.size<=s1.heap.objs.size->(∃d,s1={ s with heap:=s1.heap,drawn:=d }) ->
  (∀h',(∀b o,s1.heap.get? b=some o->h'.get? b=some o)->h'.get? s1.heap.objs.size=some { cls:=.type "set_iterator",data:=.fields #[first,rawInt 0,.ref a,rawInt es.size,rawInt ep] } ->
   ∃tp out,s.heap.objs.size<=tp/\tp≠s1.heap.objs.size/\SIt w h' s1.heap.objs.size tp a es ep t out 0) ->
  wpAny (model prog w) A.in1 (setEpoch a >>= fun e=>newFields "set_iterator" [first,rawInt 0,Value.ref a,rawInt es.size,rawInt e] >>= fun v=>ret v)
   (fun fin s'=>∃v,fin=Fin.done (Flow.ret v)/\∃T' r,s'.TypeIs v T'/\typeLookup (Value.type T') (Str.ofString "__next__")=pure (some r)/\Q v s') E s1:=by
  intro s1 first k1 k2 k3 k4
  obtain ⟨d,k3⟩:=k3
  have x1:BC s1.heap a es ep t:=x.at fun o e=>k1 a o e
  refine wpAny_bind ?_
  unfold setEpoch
  refine wpAny_bind (C2 x1 hf (wpAny_pure ?_))
  dsimp only
  refine wpAny_bind (m:=newFields "set_iterator" [first,rawInt 0,Value.ref a,rawInt es.size,rawInt ep]) ?_
  unfold newFields
  refine wpAny_newObj_type (wpAny_pure ⟨_,rfl,"set_iterator",_,⟨_,Heap.get?_push_size _ rfl,rfl⟩,BS.lookup,?_⟩)
  obtain ⟨tp,out,z1,z3,z2⟩:=k4 (s1.heap.push { cls:=.type "set_iterator",data:=.fields #[first,rawInt 0,.ref a,rawInt es.size,rawInt ep] }) (fun b o e=>Heap.get?_push_of_some _ e) (Heap.get?_push_size _ rfl)
  have:=h _ d s1.heap.objs.size tp out (fun b o e=>Heap.get?_push_of_some _ (k1 b o e)) k2 z1 z3 (by rw [size_push'];exact Nat.lt_succ_self _) z2
  rw [k3]
  exact this
 cases eb:Co w with
 | true =>
   rw [if_neg (by simp)]
   refine wpAny_bind (wpAny_pure ?_)
   refine fin s (rawInt 0) (fun b o e=>e) (Nat.le_refl _) ⟨s.drawn,rfl⟩ fun h' k e=>⟨s.heap.objs.size+1,_,Nat.le_succ _,Nat.succ_ne_self _,rawInt 0,⟨_,e,rfl,rfl⟩,.inl ⟨eb,rfl,rfl⟩⟩
 | false =>
   have wk:DF t:=hw.resolve_left (by rw [eb];decide)
   cases ed:Fg es t with
   | false =>
     rw [if_neg (by decide)]
     refine wpAny_bind (wpAny_pure ?_)
     refine fin s (rawInt 0) (fun b o e=>e) (Nat.le_refl _) ⟨s.drawn,rfl⟩ fun h' k e=>⟨s.heap.objs.size+1,_,Nat.le_succ _,Nat.succ_ne_self _,rawInt 0,⟨_,e,rfl,rfl⟩,.inr (.inr ⟨eb,ed,wk,rfl,rfl⟩)⟩
   | true =>
     rw [if_pos (by decide)]
     refine wpAny_bind (Kw es.size (List.range es.size) s (by simp) fun ps d hp=>?_)
     refine wpAny_bind (wpAny_newTuple ?_ (by rw [length_map,hp.length_eq,length_range];exact hz))
     refine fin _ (.ref s.heap.objs.size) (fun b o e=>Heap.get?_push_of_some _ e) (by show s.heap.objs.size<=(s.heap.push _).objs.size;rw [size_push'];exact Nat.le_succ _) ⟨d,rfl⟩ fun h' k e=>⟨s.heap.objs.size,_,Nat.le_refl _,(by show s.heap.objs.size≠(s.heap.push _).objs.size;rw [size_push'];exact Nat.ne_of_lt (Nat.lt_succ_self _)),.ref s.heap.objs.size,⟨_,e,rfl,rfl⟩,.inr (.inl ⟨eb,ed,rfl,ps,⟨_,_,k _ _ (Heap.get?_push_size _ rfl),rfl⟩,hp,rfl⟩)⟩
theorem Jd {slot i:Nat} {Q:Option (Value × Nat)->Shared->Prop} (b:Co w=true) (x:BC s.heap a es ep t) (hf:t.fits es.size=true)
 (h:Q (((pickOrder (w.params.setOrder a ep) es)[i]?).map fun e=>(e.2,slot)) s):wpAny (model prog w) A (setNext a slot i ep) Q E s:=by
 unfold setNext
 refine wpAny_bind (C2 x hf ?_)
 dsimp only
 refine wpAny_bind ?_
 unfold setsByText
 refine wpAny_bind (wpAny_askSetting (wpAny_pure ?_))
 refine wpAny_ite_split (fun _=>?_) (fun hab=>absurd b hab)
 refine wpAny_ite_split (fun hab=>absurd hab (by simp)) (fun _=>?_)
 refine wpAny_bind ?_
 unfold setWalk
 refine wpAny_bind (C2 x hf ?_)
 dsimp only
 refine wpAny_bind ?_
 unfold setsByText
 refine wpAny_bind (wpAny_askSetting (wpAny_pure ?_))
 refine wpAny_ite_split (fun _=>?_) (fun hab=>absurd b hab)
 refine wpAny_bind (wpAny_askSetting (wpAny_pure (wpAny_pure ?_)))
 exact h
theorem Ld {slot i:Nat} {Q:Option (Value × Nat)->Shared->Prop} (b:Co w=false) (d:Fg es t=false) (wk:DF t) (x:BC s.heap a es ep t) (hf:t.fits es.size=true)
 (h:Q (match es[SetTable.below t.place slot]?,t.place[SetTable.below t.place slot]? with | some (_,x),some j=>some (x,j+1) | _,_=>none) s):wpAny (model prog w) A (setNext a slot i ep) Q E s:=by
 unfold setNext
 refine wpAny_bind (C2 x hf ?_)
 dsimp only
 refine wpAny_bind ?_
 unfold setsByText
 refine wpAny_bind (wpAny_askSetting (wpAny_pure ?_))
 refine wpAny_ite_split (fun hab=>absurd (show Co w=true from hab) (by rw [b];decide)) (fun _=>?_)
 refine wpAny_ite_split (fun hab=>absurd (show Fg es t=true from hab) (by rw [d];decide)) (fun _=>?_)
 refine wpAny_bind ?_
 show wpAny _ _ (if (!t.led && !es.isEmpty)=true then _ else _) _ _ s
 rw [if_neg (by rw [wk.2];simp)]
 refine wpAny_pure ?_
 exact wpAny_pure h
theorem Lq {p:Nat} {Q:Value->Shared->Prop} (x:BC s.heap a es ep t) (hf:t.fits es.size=true) (hp:p < es.size) (h:Q (es.getD p (0,Value.none)).2 s):wpAny (model prog w) A (setNextDrawn a p ep) Q E s:=by
 unfold setNextDrawn
 refine wpAny_bind (C2 x hf ?_)
 dsimp only
 refine wpAny_ite_split (fun hab=>absurd hab (by simp)) (fun _=>?_)
 have e:es[p]?=some (es.getD p (0,Value.none)):=by simp [Array.getD,hp]
 rw [e]
 exact wpAny_pure h
theorem Cd {I:Addr} {o:Obj} {xs:Array Value} {k:Nat} {g:Value} {Q:Unit->Shared->Prop} (ho:s.heap.get? I=some o) (hd:o.data=.fields xs) (hk:k < xs.size)
 (h:∀h' o',h'.get? I=some o'->o'.cls=o.cls->o'.data=.fields (xs.setIfInBounds k g)->Heap.SameBut I s.heap h'->Q () { s with heap:=h' }):wpAny (model prog w) A (setField (.ref I) k g) Q E s:=by
 refine wpAny_setField ho hd hk ?_
 exact h _ _ (Heap.get?_update_self _ ho (Obj.isFreed_of_fields (Obj.data_mapFields hd _))) (Obj.cls_mapFields ..) (by rw [Obj.data_mapFields hd]) (Heap.SameBut.update ..)
theorem O9 {I tp:Addr} {out:List Value} {i:Nat} {v:Value} {Q:Option Value->Shared->Prop} (x:BC s.heap a es ep t) (hf:t.fits es.size=true) (y:SIt w s.heap I tp a es ep t out i) (hv:out[i]?=some v) (n1:a≠I) (n2:tp≠I)
 (h:∀h',SIt w h' I tp a es ep t out (i+1)->Heap.SameBut I s.heap h'->Q (some v) { s with heap:=h' }):wpAny (model prog w) A (pyNext (.ref I)) Q E s:=by
 have hp:=y.perm
 obtain ⟨first,⟨o,ho,hc,hd⟩,y⟩:=y
 have hT:s.TypeIs (.ref I) "set_iterator":=⟨o,ho,hc⟩
 unfold pyNext
 refine wpAny_bind (wpAny_attempt (wpAny_callSpecial?_slot (name:=Str.ofString "__next__") hT BS (wpAny_call_entry BS hT ER ?_ (Fm _))))
 unfold Builtin.«set_iterator.__next__»
 refine wpAny_bind (wpAny_of_eq (a:=(Value.ref I,[])) rfl ?_)
 refine wpAny_bind (wpAny_fieldsOf ho hd ?_)
 dsimp only [rawInt]
 refine wpAny_bind ?_
 unfold setEntries
 refine wpAny_bind (C2 x hf (wpAny_pure ?_))
 dsimp only
 rw [if_neg (by simp)]
 rcases y with ⟨b1,rfl,b2⟩ | ⟨b1,b2,rfl,ps,⟨ot,nt,hot,hdt⟩,pp,b3⟩ | ⟨b1,b2,b3,rfl,b4⟩
 ·have hi:(pickOrder (w.params.setOrder a ep) es)[i]?.map (·.2)=some v:=by
   rw [b2,List.getElem?_map,Array.getElem?_toList] at hv
   exact hv
  cases e:(pickOrder (w.params.setOrder a ep) es)[i]? with
  | none=>rw [e] at hi;cases hi
  | some q =>
    rw [e] at hi
    have hq:q.2=v:=Option.some.inj hi
    refine wpAny_bind (show wpAny _ _ (setNext a 0 i ep) _ _ s from Jd b1 x hf ?_)
    rw [e]
    show wpAny _ _ (setField (Value.ref I) 0 (Value.int (0:Nat) 0) >>= fun _=>setField (Value.ref I) 1 (Value.int ((i:Int)+1) 0) >>= fun _=>ret q.2) _ _ s
    refine wpAny_bind (Cd ho hd (by simp) fun h1 o1 g1 g2 g3 s1=>?_)
    refine wpAny_bind (Cd (s:={ s with heap:=h1 }) g1 g3 (by simp) fun h2 o2 k1 k2 k3 s2=>?_)
    rw [hq]
    exact wpAny_pure ⟨_,rfl,wpAny_pure (h h2 ⟨rawInt 0,⟨o2,k1,k2.trans (g2.trans hc),by rw [k3];simp [rawInt]⟩,.inl ⟨b1,rfl,b2⟩⟩ (s1.trans s2))⟩
 ·have hl:ps.length=es.size:=by rw [pp.length_eq,length_range]
  have hi:i < ps.length:=by
   rw [b3,List.getElem?_map] at hv
   cases e:ps[i]? with
   | none=>rw [e] at hv;cases hv
   | some q=>exact (List.getElem?_eq_some_iff.mp e).1
  have hv':v=(es.getD ps[i] (0,Value.none)).2:=by
   rw [b3,List.getElem?_map,List.getElem?_eq_getElem hi] at hv
   exact (Option.some.inj hv).symm
  have hlt:ps[i] < es.size:=mem_range.mp (pp.mem_iff.mp (getElem_mem hi))
  refine wpAny_bind (m:=seqItems? (Value.ref tp)) (wpAny_seqItems hot hdt ?_)
  dsimp only
  have e:(List.toArray (ps.map fun (p:Nat)=>rawInt (p:Int)))[(i:Int).toNat]?=some (Value.int (ps[i]:Nat) 0):=by simp [hi,rawInt]
  rw [e]
  refine wpAny_bind (show wpAny _ _ (setNextDrawn a ps[i] ep) _ _ s from Lq x hf hlt ?_)
  refine wpAny_bind (Cd ho hd (by simp) fun h1 o1 g1 g2 g3 s1=>?_)
  rw [<- hv']
  refine wpAny_pure ⟨_,rfl,wpAny_pure ?_⟩
  exact h h1 ⟨.ref tp,⟨o1,g1,g2.trans hc,by rw [g3];simp [rawInt]⟩,.inr (.inl ⟨b1,b2,rfl,ps,⟨ot,nt,(s1.2 tp n2).trans hot,hdt⟩,pp,b3⟩)⟩ s1
 ·have hi:i < es.size:=by
   rw [b4,List.getElem?_map] at hv
   cases e:es.toList[i]? with
   | none=>rw [e] at hv;cases hv
   | some q =>
     have:=(List.getElem?_eq_some_iff.mp e).1
     simpa using this
  have hv':v=(es[i]).2:=by
   rw [b4,List.getElem?_map,List.getElem?_eq_getElem (by simpa using hi)] at hv
   simpa using (Option.some.inj hv).symm
  have hpl:t.place.size=es.size:=by
   unfold SetTable.fits at hf
   simp at hf
   exact hf.1
  have hb:SetTable.below t.place (HK t i)=i:=by
   cases i with
   | zero=>exact GY b3.1
   | succ i=>exact GP b3.1 (by omega)
  refine wpAny_bind (show wpAny _ _ (setNext a (HK t i) i ep) _ _ s from Ld b1 b2 b3 x hf ?_)
  rw [hb,Array.getElem?_eq_getElem hi,Array.getElem?_eq_getElem (by omega)]
  show wpAny _ _ (setField (Value.ref I) 0 (Value.int ((t.place[i]'(by omega)+1:Nat)) 0) >>= fun _=>setField (Value.ref I) 1 (Value.int ((i:Int)+1) 0) >>= fun _=>ret (es[i]).2) _ _ s
  refine wpAny_bind (Cd ho hd (by simp) fun h1 o1 g1 g2 g3 s1=>?_)
  refine wpAny_bind (Cd (s:={ s with heap:=h1 }) g1 g3 (by simp) fun h2 o2 k1 k2 k3 s2=>?_)
  rw [<- hv']
  have es':HK t (i+1)=t.place[i]'(by omega)+1:=by
   show t.place.getD i 0+1=_
   rw [Array.getD_eq_getD_getElem?,Array.getElem?_eq_getElem (by omega)]
   rfl
  refine wpAny_pure ⟨_,rfl,wpAny_pure (h h2 ⟨rawInt (HK t (i+1)),⟨o2,k1,k2.trans (g2.trans hc),?_⟩,.inr (.inr ⟨b1,b2,b3,rfl,b4⟩)⟩ (s1.trans s2))⟩
  rw [k3,es']
  simp [rawInt]
theorem Gh {Q:Option Value->Shared->Prop} {I:Addr} {h0:Heap} (hh:A.handled=none) (ex:Heap.ExtBut I h0 s.heap) (h:∀h',Heap.ExtBut I h0 h'->Q none { s with heap:=h' }) :
 wpAny (model prog w) A.in1 (newExc (.type "StopIteration") [] >>= fun e=>(raiseNew e:Sem PySem.Fin)) (fun fin s'=>∃v,fin=Fin.done (Flow.ret v)/\wpAny (model prog w) A (pure (some v)) Q E s')
  (fun e s'=>wpAny (model prog w) A (isInstance e (.type "StopIteration") >>= fun b=>if b=true then pure none else throw e) Q E s') s:=by
 refine wpAny_bind ?_
 simp only [newExc,newTuple]
 refine wpAny_bind (wpAny_newObj_type ?_ (by size_fits))
 refine wpAny_bind (m:=firstArgMember _ _) (wpAny_of_eq (a:=Value.none) (by first | rfl | (simp only [firstArgMember];rfl)) ?_)
 refine wpAny_newObj_type ?_ (by size_fits)
 simp only [raiseNew]
 refine wpAny_bind (wpAny_handled ?_)
 rw [show A.in1.handled=none from hh]
 refine wpAny_bind (wpAny_pure (wpAny_throw ?_))
 refine wpAny_bind (wpAny_isInstance (T:="StopIteration") (b:=true) ⟨_,Heap.get?_push_size _ rfl,rfl⟩ isSubtype_stop ?_)
 exact wpAny_pure (h _ ((ex.push _).push _))
theorem PZ {I tp:Addr} {out:List Value} {Q:Option Value->Shared->Prop} (hh:A.handled=none) (x:BC s.heap a es ep t) (hf:t.fits es.size=true) (y:SIt w s.heap I tp a es ep t out es.size)
 (h:∀h',Heap.ExtBut I s.heap h'->Q none { s with heap:=h' }):wpAny (model prog w) A (pyNext (.ref I)) Q E s:=by
 obtain ⟨first,⟨o,ho,hc,hd⟩,y⟩:=y
 have hT:s.TypeIs (.ref I) "set_iterator":=⟨o,ho,hc⟩
 unfold pyNext
 refine wpAny_bind (wpAny_attempt (wpAny_callSpecial?_slot (name:=Str.ofString "__next__") hT BS (wpAny_call_entry BS hT ER ?_ (Fm _))))
 unfold Builtin.«set_iterator.__next__»
 refine wpAny_bind (wpAny_of_eq (a:=(Value.ref I,[])) rfl ?_)
 refine wpAny_bind (wpAny_fieldsOf ho hd ?_)
 dsimp only [rawInt]
 refine wpAny_bind ?_
 unfold setEntries
 refine wpAny_bind (C2 x hf (wpAny_pure ?_))
 dsimp only
 rw [if_neg (by simp)]
 rcases y with ⟨b1,rfl,b2⟩ | ⟨b1,b2,rfl,ps,⟨ot,nt,hot,hdt⟩,pp,b3⟩ | ⟨b1,b2,b3,rfl,b4⟩
 ·have hz:(pickOrder (w.params.setOrder a ep) es).size=es.size:=by
   have:=(Iv (w.params.setOrder a ep) es).length_eq
   simpa using this
  refine wpAny_bind (show wpAny _ _ (setNext a 0 es.size ep) _ _ s from Jd b1 x hf ?_)
  rw [Array.getElem?_eq_none (by omega)]
  show wpAny _ _ (setField (Value.ref I) 2 Value.none >>= fun _=>newExc (.type "StopIteration") [] >>= fun e=>raiseNew e) _ _ s
  refine wpAny_bind (Cd ho hd (by simp) fun h1 o1 g1 g2 g3 s1=>?_)
  exact Gh (s:={ s with heap:=h1 }) hh s1.extBut fun h' e=>h h' e
 ·have hl:ps.length=es.size:=by rw [pp.length_eq,length_range]
  refine wpAny_bind (m:=seqItems? (Value.ref tp)) (wpAny_seqItems hot hdt ?_)
  dsimp only
  have e:(List.toArray (ps.map fun (p:Nat)=>rawInt (p:Int)))[(es.size:Int).toNat]?=none:=by simp [hl]
  rw [e]
  refine wpAny_bind (Cd ho hd (by simp) fun h1 o1 g1 g2 g3 s1=>?_)
  refine wpAny_bind (Cd (s:={ s with heap:=h1 }) g1 g3 (by simp) fun h2 o2 k1 k2 k3 s2=>?_)
  exact Gh (s:={ s with heap:=h2 }) hh (s1.trans s2).extBut fun h' e=>h h' e
 ·have hpl:t.place.size=es.size:=by
   unfold SetTable.fits at hf
   simp at hf
   exact hf.1
  have hb:SetTable.below t.place (HK t es.size)=es.size:=by
   cases e:es.size with
   | zero=>exact GY b3.1
   | succ i=>exact GP b3.1 (by omega)
  refine wpAny_bind (show wpAny _ _ (setNext a (HK t es.size) es.size ep) _ _ s from Ld b1 b2 b3 x hf ?_)
  rw [hb,Array.getElem?_eq_none (Nat.le_refl _)]
  show wpAny _ _ (setField (Value.ref I) 2 Value.none >>= fun _=>newExc (.type "StopIteration") [] >>= fun e=>raiseNew e) _ _ s
  refine wpAny_bind (Cd ho hd (by simp) fun h1 o1 g1 g2 g3 s1=>?_)
  exact Gh (s:={ s with heap:=h1 }) hh s1.extBut fun h' e=>h h' e
theorem SIt.at {h h':Heap} {I tp:Addr} {out:List Value} {i:Nat} (x:SIt w h I tp a es ep t out i) (e1:∀o,h.get? I=some o->h'.get? I=some o) (e2:∀o,h.get? tp=some o->h'.get? tp=some o):SIt w h' I tp a es ep t out i:=by
 obtain ⟨f,⟨o,ho,hc⟩,⟨b1,b2⟩ | ⟨b1,b2,b3,ps,⟨ot,nt,hot,hdt⟩,b4⟩ | ⟨b1,b2⟩⟩:=x
 ·exact ⟨f,⟨o,e1 o ho,hc⟩,.inl ⟨b1,b2⟩⟩
 ·exact ⟨f,⟨o,e1 o ho,hc⟩,.inr (.inl ⟨b1,b2,b3,ps,⟨ot,nt,e2 ot hot,hdt⟩,b4⟩)⟩
 ·exact ⟨f,⟨o,e1 o ho,hc⟩,.inr (.inr ⟨b1,b2⟩)⟩
theorem SIt.typeIs {s:Shared} {I tp:Addr} {out:List Value} {i:Nat} (x:SIt w s.heap I tp a es ep t out i):s.TypeIs (.ref I) "set_iterator":=by
 obtain ⟨f,⟨o,ho,hc,_⟩,_⟩:=x
 exact ⟨o,ho,hc⟩
theorem EW:Slot "set_iterator" "__iter__" "set_iterator.__iter__" :=
 .of (owner:="set_iterator") (n:="__iter__") (by rw [typeLookup_type,builtinLookup_eq_fast];kernel_rfl) (by decide +kernel) (by decide +kernel) (by decide +kernel)
  (by first | exact .inl (by decide +kernel) | exact .inr (by decide +kernel)) (by rw [isSubtype_type];kernel_rfl)
theorem G8:entryFor table "set_iterator.__iter__"=some Builtin.«dict_keyiterator.__iter__» :=
 entryFor_alias (id':="dict_keyiterator.__iter__") (by kernel_rfl) (by first | rfl | decide +kernel | (unfold String.splitOn;simp +decide [String.splitOnAux])) (by decide +kernel) (by kernel_rfl)
theorem GT (a:Value):argsOk "set_iterator.__iter__" ⟨[a],[]⟩:=by
 unfold argsOk
 kernel_rfl
theorem N7 {I tp:Addr} {out:List Value} (hh:A.handled=none) (hf:t.fits es.size=true) (n1:a≠I) (n2:tp≠I) :
 Walks prog w A I [I,a,tp] [I] es.size (fun i v=>out[i]?=some v) (fun i h=>SIt w h I tp a es ep t out i/\BC h a es ep t) where
 sub:=fun b hb=>by simp at hb;simp [hb]
 frame:=fun _ _ _ st hk=>⟨st.1.at (fun o e=>hk I (by simp) o e) (fun o e=>hk tp (by simp) o e),st.2.at fun o e=>hk a (by simp) o e⟩
 item:=fun i s Q E hi st hQ=>by
  have hl:out.length=es.size:=by rw [st.1.perm.length_eq];simp
  refine O9 (v:=out[i]) st.2 hf st.1 (by simp [hl,hi]) n1 n2 fun h' it' hs'=>?_
  exact hQ _ h' s.toks (by simp [hl,hi]) ⟨it',st.2.at fun o q=>hs'.extBut a o n1 q⟩ fun b o hb q=>hs'.extBut b o (fun h=>hb (by simp [h])) q
 done:=fun s Q E st hQ=>PZ hh st.2 hf st.1 fun h' he'=>hQ h' s.toks fun b o hb q=>he' b o (fun h=>hb (by simp [h])) q
 self:=fun i s Q E st hQ=>by
  refine wpAny_pyIter_slot st.1.typeIs EW (wpAny_call_entry EW st.1.typeIs G8 ?_ (GT _))
  show wpAny _ _ (ret (.ref I)) _ _ s
  exact wpAny_pure ⟨_,rfl,"set_iterator",_,st.1.typeIs,BS.lookup,hQ⟩
theorem ON {r:Addr} {Q:Bool->Shared->Prop} (hT:s.TypeIs (.ref r) "set") (h:Q false s):wpAny (model prog w) A (Builtin.List.listLengthHint (.ref r)) Q E s:=by
 unfold Builtin.List.listLengthHint
 refine wpAny_bind (wpAny_specialOf hT PySem.F.slot_set_len.lookup ?_)
 generalize hid:("set.__len__":String)=id0
 wp_delta
 rw [show splitId id0=some ("set","__len__") from by subst hid;decide +kernel]
 subst hid
 refine wpAny_bind (wpAny_isInstance (T:="set") (b:=true) hT (by rw [isSubtype_type];kernel_rfl) ?_)
 refine wpAny_ite_split (fun hab=>absurd hab (by decide)) (fun _=>?_)
 refine wpAny_ite_split (fun _=>?_) (fun hab=>absurd (by decide +kernel) hab)
 refine wpAny_bind (wpAny_typeOf hT ?_)
 exact wpAny_pure h
theorem NC {out:List Value} {acc:Array Value} (hl:out.length=es.size) (h:ItemsOf (fun i v=>out[i]?=some v) acc es.size):acc.toList=out:=by
 obtain ⟨h1,h2⟩:=h
 apply ext_getElem?
 intro i
 by_cases hi:i < acc.size
 ·have:=h2 i acc[i] (by simp [hi])
  rw [this]
  simp [hi]
 ·rw [List.getElem?_eq_none (by simpa using Nat.le_of_not_lt hi),List.getElem?_eq_none (by omega)]
theorem Ks {l:List Int} {R:List Value->Shared->Prop} (x:FK prog w s.heap a l) (hh:A.handled=none)
 (h:∀(h':Heap) (tk:Nat) (d:Drawn) (vs:List Value) (ms:List Int),IntsAre vs ms->ms.Perm l->(∀b o,s.heap.get? b=some o->h'.get? b=some o)->s.heap.objs.size < h'.objs.size->R vs { s with heap:=h',toks:=tk,drawn:=d }) :
 wpAny (model prog w) A (collect (.ref a)) R E s:=by
 obtain ⟨o,es,ep,t,ms,ho,hex,hd,hel,hi,hp,hb,hf,hw⟩:=x
 have raw:BC s.heap a es ep t:=⟨o,ho,hex,hd⟩
 have hz:=fits_of_scanBound hb
 have hlt:a < s.heap.objs.size:=Heap.lt_size ho
 unfold collect
 refine wpAny_bind (wpAny_runValue (codeAny_builtin entry_proto_collect' ?_))
 rw [Around.under_plainId PySem.F.plain_proto_collect _]
 show wpAny _ A.in1 (newList [] >>= fun l=>again (.builtin "list.__iadd__" ⟨[l,.ref a],[]⟩)) _ _ s
 refine wpAny_bind (wpAny_newObj_type ?_)
 refine wpAny_pure ⟨plainId_quiet PySem.F.plain_list_iadd _,codeAny_builtin entry_list_iadd' ?_⟩
 rw [Around.under_plainId PySem.F.plain_list_iadd _]
 have hS₁:(s.heap.push { cls:=.type "list",data:=.seq ([]:List Value).toArray }).get? s.heap.objs.size=some { cls:=.type "list",data:=.seq #[] }:=Heap.get?_push_size _ rfl
 show wpAny _ A.in1 (Builtin.List.listExtendWith (.ref s.heap.objs.size) (.ref a) (.ref s.heap.objs.size)) _ _ _
 have raw1:BC (s.heap.push { cls:=.type "list",data:=.seq ([]:List Value).toArray }) a es ep t:=raw.at fun o e=>Heap.get?_push_of_some _ e
 unfold Builtin.List.listExtendWith
 refine wpAny_bind (wpAny_typeOf (T:="set") (BC.typeIs (s:={ s with heap:=s.heap.push { cls:=.type "list",data:=.seq ([]:List Value).toArray } }) raw1) ?_)
 have h1:Builtin.List.listSameRef (.ref s.heap.objs.size) (.ref a)=false:=by simp [Builtin.List.listSameRef,Nat.ne_of_gt hlt]
 simp only [h1,show (Value.type "set" == Value.type "list")=false by decide,show (Value.type "set" == Value.type "tuple")=false by decide,Bool.or_false,Bool.false_eq_true,if_false]
 refine wpAny_bind (Pk (s:={ s with heap:=s.heap.push { cls:=.type "list",data:=.seq ([]:List Value).toArray } }) raw1 hf hz hw fun h2 d I tp out k2 gI gtp n2 ltI it=>?_)
 have sz1:(s.heap.push { cls:=.type "list",data:=.seq ([]:List Value).toArray }).objs.size=s.heap.objs.size+1:=size_push' _ _
 have gI':s.heap.objs.size+1<=I:=by rw [<- sz1];exact gI
 have gtp':s.heap.objs.size+1<=tp:=by rw [<- sz1];exact gtp
 have raw2:BC h2 a es ep t:=raw1.at fun o e=>k2 a o e
 have hS₂:=k2 _ _ hS₁
 have hSf:s.heap.objs.size ∉ [I,a,tp]:=by
  simp only [mem_cons,List.not_mem_nil,or_false,not_or]
  exact ⟨Nat.ne_of_lt (Nat.lt_of_lt_of_le (Nat.lt_succ_self _) gI'),Nat.ne_of_gt hlt,Nat.ne_of_lt (Nat.lt_of_lt_of_le (Nat.lt_succ_self _) gtp')⟩
 have n1:a≠I:=Nat.ne_of_lt (Nat.lt_of_lt_of_le (Nat.lt_succ_of_lt hlt) gI')
 have hl:out.length=es.size:=by rw [it.perm.length_eq];simp
 obtain ⟨ms',i',p'⟩:=FW it.perm hi
 have W:=(N7 (prog:=prog) (w:=w) (A:=A.in1) (out:=out) (ep:=ep) hh hf n1 n2).toS
 have key:∀(h3:Heap) (c₁ tk:Nat),SIt w h3 I tp a es ep t out 0->BC h3 a es ep t->(∀b o,b≠s.heap.objs.size->h2.get? b=some o->h3.get? b=some o)->h3.get? s.heap.objs.size=some { cls:=.type "list",data:=.seq #[] c₁ } ->
  codeAny (model prog w) A (.builtin "list.extend.loop" ⟨[.ref s.heap.objs.size,.ref I,.ref s.heap.objs.size],[]⟩)
   (wants (fun v s'=>v=.ref s.heap.objs.size/\∃h' tk' c',s'={ s with heap:=h',toks:=tk',drawn:=d }/\(∀b o,s.heap.get? b=some o->h'.get? b=some o)/\h'.get? s.heap.objs.size=some { cls:=.type "list",dict:=none,data:=.seq out.toArray c',slots:=#[] }) (fun _ _=>False))
   { s with heap:=h3,toks:=tk,drawn:=d }:=by
  intro h3 c₁ tk it3 raw3 k3 hS₃
  refine codeAny_extend_loopS W hz _ hSf _ es.size 0 _ #[] c₁ rfl (Nat.zero_le _) ⟨it3,raw3⟩ hS₃ (ItemsOf.nil _) fun s' acc' c' hm hS' hacc=>?_
  have ea:acc'=out.toArray:=by rw [<- NC hl hacc]
  refine ⟨rfl,s'.heap,s'.toks,c',?_,fun b o e=>?_,by rw [<- ea];exact hS'⟩
  ·have:=Moved.eq_with (wr:=s.heap.objs.size :: [I]) hm
   rw [this]
  ·have lb:b < s.heap.objs.size:=Heap.lt_size e
   refine hm.heap b o ?_ (k3 b o (Nat.ne_of_lt lb) (k2 b o (Heap.get?_push_of_some _ e)))
   simp only [mem_cons,List.not_mem_nil,or_false,not_or]
   exact ⟨Nat.ne_of_lt lb,Nat.ne_of_lt (Nat.lt_of_lt_of_le (Nat.lt_succ_of_lt lb) gI')⟩
 refine wpAny_bind (wpAny_holding (ON (BC.typeIs (s:={ s with heap:=h2,drawn:=d }) raw2) ?_))
 have oth:∀(h3:Heap) (g:Obj->Obj) b o,b≠s.heap.objs.size->h3.get? b=some o->(h3.update s.heap.objs.size g).get? b=some o:=fun h3 g b o hb e=>(Heap.get?_update_other _ _ (Ne.symm hb)).trans e
 refine wpAny_ite_split (fun _=>?_) (fun _=>wpAny_pure ⟨plainId_quiet PySem.F.plain_extend_loop _,codeAny_mono (key h2 0 _ it raw2 (fun b o _ e=>e) hS₂) ?_⟩)
 ·refine wpAny_bind (wpAny_rule ?_)
  refine wpAny_bind ?_
  show wpAny _ _ (updateSeq s.heap.objs.size (·.push .none) >>= fun _=>updateSeq s.heap.objs.size (·.pop)) _ _ _
  refine wpAny_bind (wpAny_updateSeq hS₂ rfl ?_)
  have hS₃:=Heap.get?_update_self (Obj.mapSeq (·.push Value.none)) hS₂ rfl
  refine wpAny_updateSeq (hz:=by seq_fits) hS₃ rfl ?_
  have hS₄:=Heap.get?_update_self (Obj.mapSeq (·.pop)) hS₃ rfl
  have k4:∀b o,b≠s.heap.objs.size->h2.get? b=some o->((h2.update s.heap.objs.size (Obj.mapSeq (·.push Value.none))).update s.heap.objs.size (Obj.mapSeq (·.pop))).get? b=some o:=fun b o hb e=>oth _ _ b o hb (oth _ _ b o hb e)
  have nI:I≠s.heap.objs.size:=Nat.ne_of_gt (Nat.lt_of_lt_of_le (Nat.lt_succ_self _) gI')
  have ntp:tp≠s.heap.objs.size:=Nat.ne_of_gt (Nat.lt_of_lt_of_le (Nat.lt_succ_self _) gtp')
  refine wpAny_pure ⟨plainId_quiet PySem.F.plain_extend_loop _,codeAny_mono (key _ _ _ (it.at (fun o e=>k4 I o nI e) (fun o e=>k4 tp o ntp e)) (raw2.at fun o e=>k4 a o (Nat.ne_of_lt hlt) e) k4 hS₄) ?_⟩
  intro q s₂ y
  cases q with
  | error e=>exact y.elim
  | ok fl =>
    cases fl with
    | ret v =>
      obtain ⟨rfl,h',tk',c',rfl,hk,hS'⟩:=y
      show wpAny _ A (load s.heap.objs.size >>= _) _ _ _
      refine wpAny_bind (wpAny_load hS' ?_)
      exact wpAny_pure (h h' tk' d out ms' i' (p'.trans hp) hk (Heap.lt_size hS'))
    | _=>exact y.elim
 ·intro q s₂ y
  cases q with
  | error e=>exact y.elim
  | ok fl =>
    cases fl with
    | ret v =>
      obtain ⟨rfl,h',tk',c',rfl,hk,hS'⟩:=y
      show wpAny _ A (load s.heap.objs.size >>= _) _ _ _
      refine wpAny_bind (wpAny_load hS' ?_)
      exact wpAny_pure (h h' tk' d out ms' i' (p'.trans hp) hk (Heap.lt_size hS'))
    | _=>exact y.elim
theorem M5 {l:List Int} {R:Value->Shared->Prop} (x:FK prog w s.heap a l) (hh:A.handled=none) (h64:l.length < 64)
 (h:∀(h':Heap) (tk:Nat) (d:Drawn) (L:Addr) (c:Nat) (out:Array Value) (ns:List Int),IntsAre out.toList ns->ns.Perm l->ns.Pairwise (·<=·)->(∀b o,s.heap.get? b=some o->h'.get? b=some o)->s.heap.objs.size<=L ->
  h'.get? L=some (seqObj "list" out c)->R (.ref L) { s with heap:=h',toks:=tk,drawn:=d }) :
 wpAny (model prog w) A (call (.builtin "sorted") [.ref a]) R E s:=by
 refine Calls.call_function_entry kind_sorted plain_sorted entry_sorted (args_sorted1 _) ?_
 unfold Builtin.«sorted»
 refine wpAny_bind (m:=checkCount "sorted" 1 1 _) (wpAny_pure ?_)
 refine wpAny_bind (Ks (A:=A.in1) x hh fun h' tk d vs ms iv pm hk ge=>?_)
 have hl:vs.length < 64:=by rw [iv.length,pm.length_eq];exact h64
 refine wpAny_bind (wpAny_newList ?_ (by rw [sizeLine_eq];omega))
 have ho:(h'.push (seqObj "list" vs.toArray 0)).get? h'.objs.size=some (seqObj "list" vs.toArray 0):=Heap.get?_push_size _ rfl
 refine wpAny_bind (wpAny_holding (wpAny_call_entry slot_list_sort ⟨_,ho,rfl⟩ entry_list_sort (list_sort_tree (s:={ s with heap:=h'.push (seqObj "list" vs.toArray 0),toks:=tk,drawn:=d }) ho iv hl fun out ns i1 i2 i3=>⟨_,rfl,?_⟩) (args_list_sort _)))
 obtain ⟨e,he⟩:=sortedHeap_at (out:=out) ho
 refine wpAny_pure ⟨_,rfl,h _ tk d _ e out ns i1 (i2.trans pm) i3 (fun b o q=>?_) (Nat.le_of_lt ge) he⟩
 have k1:(h'.push (seqObj "list" vs.toArray 0)).get? b=some o:=Heap.get?_push_of_some _ (hk b o q)
 rw [sortedHeap_old (Nat.ne_of_lt (Heap.lt_size (hk b o q))) (Heap.lt_size k1)]
 exact k1
end
end L2
namespace L2
open PySem PySem.W PySem.Spec PyProof.Rows
theorem KS (val:Nat->Int):∀i,(firstMet val i).Nodup
 | 0=>by rw [firstMet_zero];exact nodup_nil
 | i+1=>by
   rw [firstMet_succ]
   unfold step_dedup
   have ih:=KS val i
   split
   ·exact ih
   ·rename_i c
    refine nodup_append.mpr ⟨ih,by simp,fun a ha b hb e=>?_⟩
    have:b=val i:=by simpa using hb
    subst this
    exact c (any_eq_true.mpr ⟨a,ha,by simp [e]⟩)
theorem L5 (ns:List Int):(List.range ns.length).map (fun i=>ns.getD i 0)=ns:=by
 apply ext_getElem
 ·simp
 ·intro i h1 h2
  simp [h2]
theorem Ra {ns:List Int} {z:Int}:z∈firstMet (fun i=>ns.getD i 0) ns.length↔z∈ns:=by
 have e:=firstMet_any (fun i=>ns.getD i 0) ns.length z
 rw [L5] at e
 constructor
 ·intro h
  have a:(firstMet (fun i=>ns.getD i 0) ns.length).any (· == z)=true:=any_eq_true.mpr ⟨z,h,by simp⟩
  rw [e] at a
  obtain ⟨y,hy,ey⟩:=any_eq_true.mp a
  have:y=z:=by simpa using ey
  exact this ▸ hy
 ·intro h
  have a:ns.any (· == z)=true:=any_eq_true.mpr ⟨z,h,by simp⟩
  rw [<- e] at a
  obtain ⟨y,hy,ey⟩:=any_eq_true.mp a
  have:y=z:=by simpa using ey
  exact this ▸ hy
theorem EV:∀{l:List Int},l.Pairwise (·<=·)->l.Nodup->l.Pairwise (· < ·)
 | [],_,_=>.nil
 | x :: l,h,n=>by
   rw [pairwise_cons] at h ⊢
   rw [nodup_cons] at n
   exact ⟨fun y hy=>by
    have a:=h.1 y hy
    have b:x≠y:=fun e=>n.1 (e ▸ hy)
    omega,EV h.2 n.2⟩
section
variable {X:Cx} {e:Expr} {te:TE} {p p2 pos pos2:Pos}
theorem Inv.draw {pins:List (Addr × Obj)} {σ:St} {H:Hp} {s:Shared} (I:Inv X pins σ H s) (d:Drawn):Inv X pins σ H { s with drawn:=d } :=
 ⟨I.ok,I.os,I.bare,I.base,I.loc,I.cell,I.free,I.freeC,I.pin,I.hok,I.len⟩
noncomputable def LV (K:PySem.W.Frag) (te:TE):TE:=fun σ H Q=>te σ H fun x H1=>∃(a:Addr) (ns:List Int),x=.ref a/\SqL K H1 a (ns.map V.int)/\ns.length < 64 /\
 ∀(l:Addr) (ms:List Int),ms.Pairwise (· < ·)->(∀z,z∈ms↔z∈ns)->H1 l=none->Q (.ref l) (upd H1 l (.lst (ms.map V.int)))
theorem FA (hc:X.calm=true) (hg:Gl X "sorted") (hm:X.mg "sorted"=none) (hg2:Gl X "set") (hm2:X.mg "set"=none) (he:PE X e te)
 (hs:starEach [e] X.env=[(false,eval e X.env)]:=by rfl)
 (hs2:starEach [(.Call (.Name "set" p2) [e] [] pos2:Expr)] X.env=[(false,eval (.Call (.Name "set" p2) [e] [] pos2) X.env)]:=by rfl) :
 PE X (.Call (.Name "sorted" p) [.Call (.Name "set" p2) [e] [] pos2] [] pos) (LV X.K te):=by
 intro pins s σ H Q I h
 refine wpAny_Call_Name_kw (CI I hg hm boot_sorted ?_ (by decide) (by decide))
 refine callWith_builtin1 ?_ hs2 rfl
 rw [hs2]
 refine Calls.spliced_cons ?_
 refine wpAny_Call_Name_kw (CI I hg2 hm2 boot_set ?_ (by decide) (by decide))
 refine callWith_type1 ?_ hs rfl
 rw [hs]
 refine Calls.spliced_cons (thn (he pins s σ H _ I h) fun u s1 ⟨x,H1,I1,r1,a,ns,hx,hq,h64,q⟩=>?_)
 subst hx
 cases r1
 refine Calls.spliced_nil ?_
 obtain ⟨its,rv,pl,hz⟩:=I1.list hq
 have hi:=BW rv
 have hlen:its.length=ns.length:=hi.length
 refine KU (items:=its.toArray) (ns:=ns) (I1.ok.hd hc) pl.isList (by simpa using hi) (by rw [size_toArray,hlen];unfold scanBound;omega) fun h2 tk2 hS k2=>?_
 refine Calls.spliced_nil ?_
 have ez:its.toArray.size=ns.length:=by rw [size_toArray];exact hlen
 rw [ez] at hS
 have l64:(firstMet (fun i=>ns.getD i 0) ns.length).length < 64:=by
  have:=firstMet_length_le (fun i=>ns.getD i 0) ns.length
  omega
 have lt2:s1.heap.objs.size < h2.objs.size:=by
  obtain ⟨o,_,_,_,_,ho,_⟩:=hS
  exact Heap.lt_size ho
 refine M5 (s:={ s1 with heap:=h2,toks:=tk2 }) hS (I1.ok.hd hc) l64 fun h3 tk3 d L c out ms i1 i2 i3 k3 gL hL=>?_
 have kp:∀b o,s1.heap.get? b=some o->h3.get? b=some o:=fun b o q=>k3 b o (k2 b o (Heap.lt_size q) q)
 have ge:s1.heap.objs.size<=L:=Nat.le_trans (Nat.le_of_lt lt2) gL
 refine ⟨.ref L,_,(I1.laid (t':=tk3) kp ge (show Bk X.prog X.w _ h3 _ (.lst (ms.map V.int)) from ⟨?_,out.toList,c,FZ i1,hL⟩)).draw d,rfl,q L ms (EV i3 (i2.nodup_iff.mpr (KS _ _))) (fun z=>i2.mem_iff.trans Ra) (I1.hok.fresh ge)⟩
 rw [length_map,i2.length_eq,sizeLine_eq]
 omega
end
end L2
namespace L2
open PySem PySem.Spec PyProof.Rows
section
variable {X:Cx} {pins:List (Addr × Obj)} {σ:St} {H:Hp} {s:Shared} {h':Heap}
theorem Inv.laidTurned {t':Nat} {fp:List Addr} {a:Addr} {o:HO} (I:Inv X pins σ H s) (k:∀b u,b ∉ fp->s.heap.get? b=some u->h'.get? b=some u) (hf:∀b∈fp,JF X pins H b) (hp:s.heap.objs.size<=a)
 (new:Bk X.prog X.w (upd H a o) h' a o):Inv X pins σ (upd H a o) { s with heap:=h',toks:=t' }:=by
 have nin:∀b u,H b=some u->b ∉ fp:=fun b u e z=>by rw [(hf b z).1] at e;cases e
 have hn:H a=none:=I.hok.fresh hp
 refine I.step (g':=s.gens) (d':=s.drawn) (ch:=fp) (fun b hb=>?_) (fun b o _ _ hc e _=>k b o hc e) (fun b o _ _ hc e _=>⟨o.slots,k b o hc e⟩)
  (fun b u _ q n=>by rw [A8 (Nat.ne_of_lt (Nat.lt_of_lt_of_le (Heap.lt_size q) hp))];exact n)
  (fun b o hc e=>⟨o,k b o hc e⟩) (fun b xs q=>by rw [A8 (Bt q hn)];exact q) (fun b u xs q=>by rw [A8 (Bt q hn)];exact q) (fun b ps q=>⟨#[],by rw [A8 (Bt q hn),q];simp⟩) (fun m hm=>?_) (fun b u e=>?_) I.bare
 ·obtain ⟨_,f1,_,f3,f4,f5⟩:=hf b hb
  exact ⟨f3,f1,f4,f5⟩
 ·obtain ⟨o,es,ep,ho,r⟩:=hm
  exact ⟨o,es,ep,k _ o (fun z=>(hf _ z).2.1 rfl) ho,r⟩
 ·by_cases hb:b=a
  ·subst hb;rw [Ag] at e;cases e;exact new
  ·rw [A8 hb] at e
   refine (I.hok b u e).stay (fun c v hc q=>k c v ?_ q) (fun c q=>by rw [A8 (Bt q hn)];exact q) fun c xs q=>by rw [A8 (Bt q hn)];exact q
   rcases hc with z | z
   ·rw [z];exact nin b u e
   ·exact nin c _ z
end
noncomputable def Ite (K:PySem.W.Frag) (a:Addr):It :=
 ⟨fun i H=>∃xs x,SqL K H a xs/\xs[i]?=some x,fun i H x H'=>∃T y,x=.ref T/\H T=none/\H'=upd H T (.tup [.int (i:Int),y])/\∀xs,SqL K H a xs->xs[i]?=some y,fun i H=>∃xs,SqL K H a xs/\xs.length<=i⟩
theorem Nt {P:Program} {w:World} {K:PySem.W.Frag} {es:List Expr} {k:Nat} {pos:Pos} (a e it:Addr) (hne:e≠it) :
 Ke P w K (.Tuple es k pos) (Ite K a) [e,it] e (fun i h=>(∃old,IsEnum h e it (i:Nat) old)/\h.IsListIter it a i) where
 mem:=by simp
 obj:=fun i h st b hb=>by
  obtain ⟨⟨old,he⟩,o,e1,c,d⟩:=st
  rcases mem_cons.mp hb with z | z
  ·subst z
   exact ⟨_,he,fun v z=>by cases (show Data.fields _=Data.cell v from z)⟩
  ·have z':b=it:=by simpa using z
   subst z'
   exact ⟨o,e1,fun v z=>by rw [d] at z;cases z⟩
 keep:=fun i h h' st kk=>by
  obtain ⟨⟨old,he⟩,st⟩:=st
  exact ⟨⟨old,kk e (by simp) _ he⟩,st.at fun o q=>kk it (by simp) o q⟩
 item:=by
  intro X hP hw hK hc i pins s σ H E I hf st hg
  subst hP hw hK
  obtain ⟨xs,x,hq,hx⟩:=hg
  obtain ⟨its,rv,p,hz⟩:=I.list hq
  obtain ⟨u,hu,ru⟩:=rv.get hx
  obtain ⟨⟨old,he⟩,hit⟩:=st
  refine wpAny_pyNext_enum_item he hit p.isList (x:=u) (by simpa using hu) hne fun h1 ho hit1 hT hsz hk=>⟨_,rfl,?_⟩
  refine wpAny_letOwnedTupleGo_enum ho fun h2 he2 sb=>?_
  have fr:H s.heap.objs.size=none:=I.hok.fresh (Nat.le_refl _)
  have lte:e < s.heap.objs.size:=Heap.lt_size he
  have lti:it < s.heap.objs.size:=by obtain ⟨o,q,_⟩:=id hit;exact Heap.lt_size q
  refine ⟨.ref s.heap.objs.size,upd H s.heap.objs.size (.tup [.int (i:Int),x]),?_,rfl,⟨_,x,rfl,fr,rfl,fun ys hy=>by rw [I.list_inj hy hq];exact hx⟩,⟨⟨_,by simpa using he2⟩,hit1.at fun o q=>(sb.2 it (Ne.symm hne)).trans q⟩,fun b hb=>?_⟩
  ·refine I.laidTurned (fp:=[e,it]) (t':=s.toks+1) (fun b o hb q=>(sb.2 b (fun z=>hb (by simp [z]))).trans (hk b o (fun z=>hb (by simp [z])) (fun z=>hb (by simp [z])) q)) hf (Nat.le_refl _) ?_
   refine ⟨by show 2<=sizeLine;decide,[.int i s.toks,u],.cons ⟨_,rfl⟩ (.cons ru .nil),⟨_,(sb.2 _ (Nat.ne_of_gt lte)).trans hT,rfl,_,rfl⟩⟩
  ·rw [A8 (fun z=>?_)]
   ·exact (hf b hb).1
   ·rcases mem_cons.mp hb with q | q
    ·rw [q] at z;exact absurd lte (by rw [z];exact Nat.lt_irrefl _)
    ·have q':b=it:=by simpa using q
     rw [q'] at z;exact absurd lti (by rw [z];exact Nat.lt_irrefl _)
 done:=by
  intro X hP hw hK hc i pins s σ H E I hf st hg
  subst hP hw hK
  obtain ⟨xs,hq,hx⟩:=hg
  obtain ⟨its,rv,p,hz⟩:=I.list hq
  obtain ⟨f0,f1,f2,f3,f4,f5⟩:=hf it (by simp)
  obtain ⟨⟨old,he⟩,hit⟩:=st
  have hl:=rv.length
  exact wpAny_pyNext_enum_end (I.ok.hd hc) he hit p.isList (by simp;omega) fun h' eb=>⟨rfl,I.turned (t':=s.toks) (fun b o hb e=>eb b o hb e) f0 f1 f3 f4 f5⟩
 self:=fun _ _ _ _ _ st h=>by
  obtain ⟨⟨old,he⟩,_⟩:=st
  exact wpAny_pyIter_enum he h
section
variable {X:Cx}
noncomputable def S9 (K:PySem.W.Frag) (ta:TA):TI:=fun σ H R=>ta σ H fun vs H1=>∃a,vs=[.ref a]/\(∃xs,SqL K H1 a xs)/\R (Ite K a) H1
theorem Qe {l:Expr} {ta:TA} {p pos pt:Pos} {es:List Expr} {k:Nat} (hg:Gl X "enumerate") (hm:X.mg "enumerate"=none) (ha:PA X [l] ta) (hs:starEach [l] X.env=[(false,eval l X.env)]:=by rfl) :
 PI X (.Tuple es k pt) (.Call (.Name "enumerate" p) [l] [] pos) (S9 X.K ta):=by
 intro pins s σ H R I h
 refine Call_ (CI I hg hm boot_enumerate (PyProof.Rows.callWith_type1 (thn (ha pos pins s σ H _ I h) fun us s1 ⟨vs,H1,I1,r1,q1⟩=>?_) hs rfl))
 obtain ⟨a,e,⟨xs,hq⟩,q⟩:=q1
 subst e
 cases r1 with
 | cons r rr =>
   cases rr
   cases r
   obtain ⟨its,rv,pl,hz⟩:=I1.list hq
   refine call_enumerate_list pl.isList fun h' he hit hsz hk=>?_
   refine wpAny_pyIter_enum (s:={ s1 with heap:=h' }) he ?_
   refine ⟨s1.heap.objs.size+1,[s1.heap.objs.size+1,s1.heap.objs.size],_,_,H1,rfl,I1.kept (t':=s1.toks) hk,Nt a _ _ (Nat.succ_ne_self _),⟨⟨_,he⟩,hit⟩,fun b hb=>?_,q⟩
   have ge:s1.heap.objs.size<=b:=by
    rcases mem_cons.mp hb with z | z
    ·rw [z];exact Nat.le_succ _
    ·have z':b=s1.heap.objs.size:=by simpa using z
     rw [z'];exact Nat.le_refl _
   exact I1.fpOk ge (I1.hok.fresh ge)
end
theorem Ou {K:PySem.W.Frag} {a:Addr} {xs:List V} {g:TG} {tb:TS} {D:Gi} {σ:St} {H:Hp} (Pv:Nat->St->Hp->Prop) (h0:Pv 0 σ H) (hl:∀i σ H,i<=xs.length->Pv i σ H->SqL K H a xs)
 (hs:∀i x T σ H,xs[i]?=some x->Pv i σ H->H T=none->g (.ref T) σ (upd H T (.tup [.int (i:Int),x])) fun σ2 H2=>tb { D with nx:=Pv (i+1),ct:=Pv (i+1),bk:=D.nx } σ2 H2) (hd:∀σ H,Pv xs.length σ H->D.nx σ H) :
 ∃W:Nat->Nat->St->Hp->Prop,(∃m,W 0 m σ H)/\∀i m σ H,W i m σ H ->
  ((Ite K a).stop i H/\D.nx σ H)\/((Ite K a).go i H/\∃N:St->Hp->Prop,(∀σ' H',N σ' H'->∃m',m' < m/\W (i+1) m' σ' H')/\∀x H',(Ite K a).yld i H x H'->g x σ H' fun σ2 H2=>tb { D with nx:=N,ct:=N,bk:=D.nx } σ2 H2):=by
 refine ⟨fun i m σ H=>m=xs.length - i/\i<=xs.length/\Pv i σ H,⟨xs.length,by simp,Nat.zero_le _,h0⟩,?_⟩
 rintro i m σ H ⟨rfl,hi,p⟩
 have q:=hl i σ H hi p
 by_cases hlt:i < xs.length
 ·refine .inr ⟨⟨xs,xs[i],q,by simp [hlt]⟩,Pv (i+1),fun σ' H' p'=>⟨xs.length - (i+1),by omega,rfl,hlt,p'⟩,fun x H' y=>?_⟩
  obtain ⟨T,y,rfl,hT,rfl,hy⟩:=y
  exact hs i y T σ H (hy xs q) p hT
 ·have e:i=xs.length:=by omega
  subst e
  exact .inl ⟨⟨xs,q,Nat.le_refl _⟩,hd σ H p⟩
section
variable {X:Cx}
theorem GW:∀{bs:List Bool} {us:List Value},AX (bs.map V.bl) us->us=bs.map Value.bool
 | [],_,.nil=>rfl
 | _ :: _,_,.cons r rr=>by
   cases r
   rw [GW rr]
   rfl
theorem N9 (bs:List Bool):(List.range bs.length).all (fun i=>bs.getD i false)=bs.all id:=by
 rw [Bool.eq_iff_iff,all_eq_true,all_eq_true]
 constructor
 ·intro h b hb
  obtain ⟨i,hi,rfl⟩:=mem_iff_getElem.mp hb
  have:=h i (mem_range.mpr hi)
  simpa [getD_eq_getElem?_getD,hi] using this
 ·intro h i hi
  have hi':=mem_range.mp hi
  have:=h _ (getElem_mem hi')
  simpa [getD_eq_getElem?_getD,hi'] using this
theorem KD {P:Program} {w:World} {A:Around} {bs:List Bool}:TruthOf P w A (fun i v=>(bs.map Value.bool).toArray[i]?=some v) (fun i=>bs.getD i false):=by
 intro i v s Q E hP hQ
 have hP':(bs.map Value.bool)[i]?=some v:=by simpa using hP
 rw [List.getElem?_map] at hP'
 cases e:bs[i]? with
 | none=>rw [e] at hP';cases hP'
 | some b =>
   rw [e] at hP'
   have:Value.bool b=v:=Option.some.inj hP'
   subst this
   refine wpAny_truthy_bool ?_
   have e2:bs.getD i false=b:=by rw [getD_eq_getElem?_getD,e];rfl
   dsimp only at hQ
   rw [e2] at hQ
   exact hQ
theorem OP (hc:X.calm=true) {K:PySem.W.Frag} (hK:X.K=K:=by rfl):Dg X (.builtin "all") (fun xs H Q=>∃(a:Addr) (bs:List Bool),xs=[.ref a]/\SqL K H a (bs.map V.bl)/\Q (.bl (bs.all id)) H):=by
 subst hK
 intro pins s σ H xs us Q I r h
 obtain ⟨a,bs,rfl,hq,q⟩:=h
 obtain ⟨u,rfl,rx⟩:=FF r
 cases rx
 obtain ⟨its,rv,pl,hz⟩:=I.list hq
 have ei:=GW rv
 subst ei
 have lt:a < s.heap.objs.size:=by obtain ⟨o,q,_⟩:=pl.isList;exact Heap.lt_size q
 refine call_all_walk (wpAny_pyIter_list pl.isList ?_)
 refine ⟨_,_,_,_,_,_,_,rfl,Walks.list (A:=X.A.in1) (I.ok.hd hc) s.heap.objs.size a (Nat.ne_of_lt lt) (bs.map Value.bool).toArray,⟨⟨_,Heap.get?_push_size _ rfl,rfl,rfl⟩,pl.isList.at fun o q=>Heap.get?_push_of_some _ q⟩,KD,fun h' tk hk=>?_⟩
 rw [size_toArray,length_map,N9]
 exact ⟨.bl _,H,I.kept (t':=tk) fun b o q=>hk b o (by simpa using Nat.ne_of_lt (Heap.lt_size q)) (Heap.get?_push_of_some _ q),rfl,q⟩
end
end L2
namespace L2
open PySem PySem.Spec PyProof.Rows
noncomputable def Pl (n:Nat) (wi:TI) (g:TG) (tt:TT) (te:TE):TE:=fun σ H Q=>wi σ H fun J H1=>∀D,H1 D=none->∃W:Nat->Nat->List V->Hp->Prop,(∃m,W 0 m [] (upd H1 D (.lst [])))/\∀i m ys H2,W i m ys H2 ->
 H2 D=some (.lst ys)/\((J.stop i H2/\Q (.ref D) H2)\/(J.go i H2/\ys.length < sizeLine/\∀x H3,J.yld i H2 x H3->∀os:St,os.length=n->g x (σ++os) H3 fun σ4 H4=>(∃os':St,σ4=σ++os'/\os'.length=n)/\tt σ4 H4 fun b H5=>if b=true then te σ4 H5 fun y H6=>H6 D=some (.lst ys)/\∃m',m' < m/\W (i+1) m' (ys++[y]) (upd H6 D (.lst (ys++[y])))
  else ∃m',m' < m/\W (i+1) m' ys H5))
structure Ez (N Nc:List Str) (xs:List Str) (sc fsc:Scope):Prop where
 kind:sc.kind=.function
 cell:∀y∈sc.names,y.2≠.cell
 nm:∀y∈sc.names,y.2=.local->sc.names.lookup y.1=some .local
 own:∀x∈xs,sc.names.lookup x=some .local
 fr:∀y∈sc.names,y.2=.free->fsc.names.lookup y.1=some .cell\/fsc.names.lookup y.1=some .free
 len:Nc.length=N.length+xs.length
 nd:Nc.Nodup
 last:Nc.drop N.length=xs
 slot:((List.range N.length).all fun i=>match Nc[i]? with
  | some y=>(match sc.names.lookup y with | some .free=>N[i]? == some y | some .local=>false | some .cell=>false | _=>true)
  | none=>true)=true
theorem Ez.at {N Nc:List Str} {xs:List Str} {sc fsc:Scope} (C:Ez N Nc xs sc fsc) {i:Nat} {y:Str} (hi:i < N.length) (h:Nc[i]?=some y):sc.names.lookup y≠some .local/\sc.names.lookup y≠some .cell/\(sc.names.lookup y=some .free->N[i]?=some y):=by
 have q:=all_eq_true.mp C.slot i (mem_range.mpr hi)
 rw [h] at q
 dsimp only at q
 cases e:sc.names.lookup y with
 | none=>exact ⟨fun z=>(nomatch z),fun z=>(nomatch z),fun z=>(nomatch z)⟩
 | some k =>
   rw [e] at q
   cases k with
   | «local»=>exact absurd (show false=true from q) Bool.false_ne_true
   | cell=>exact absurd (show false=true from q) Bool.false_ne_true
   | free=>exact ⟨fun z=>(nomatch z),fun z=>(nomatch z),fun _=>by simpa using q⟩
   | _=>exact ⟨fun z=>(nomatch z),fun z=>(nomatch z),fun z=>(nomatch z)⟩
theorem FQ {X:Cx} {N Nc xs:List Str} {sc fsc:Scope} {cl:List (Str × Addr)} {s:Shared} {H:Hp} {ex:List Addr} {x:Str} {px:Pos} {j n:Nat} (cn:Ez N Nc xs sc fsc) (hj:xs[j]?=some x) (hn:n=N.length+j):PG (X.inComp Nc sc cl s H ex) (.Name x px) (EN n):=by
 have own:(relabel sc X.env).names.lookup x=some .local:=by
  have e:=Dk X.env sc.names x
  rw [cn.own x (mem_of_getElem? hj)] at e
  exact e
 refine AY (X:=X.inComp Nc sc cl s H ex) cn.nd ?_ (.inl own) (.inr own)
 show Nc[n]?=some x
 rw [hn,<- List.getElem?_drop,cn.last]
 exact hj
theorem Ss {prog:Program} {w:World} {A:Around} {R:Result->Shared->Prop} {s:Shared} {elt tg iter:Expr} {ifs:List Expr} {scope:Scope} {pos:Pos} {it acc:Value} {env:Env} (I:Nat->Shared->Prop)
 (turn:∀n s,I n s->wpAny (model prog w) A (pyNext it) (fun r s₁=>match r with
  | none=>R (.ok .next) s₁
  | some v=>wpAny (model prog w) A (letOwnedTupleGo tg it v) (fun _ z=>wpAny (model prog w) A (assign tg env v) (fun _ s₂ =>
   wpAny (model prog w) A (forIn ifs true fun c r=>if r=true then do let ok <- isTrue c env (eval c env);pure (ForInStep.yield ok) else pure (ForInStep.yield r)) (fun ok s₃ =>
    if ok=true then wpAny (model prog w) A (eval elt env) (fun x s₄=>wpAny (model prog w) A (call (.builtin "list.append") [acc,x]) (fun _ s₅=>∃m,m < n/\I m s₅) (fun _ _=>False) s₄) (fun _ _=>False) s₃
    else ∃m,m < n/\I m s₃) (fun _ _=>False) s₂) (fun _ _=>False) z) (fun _ _=>False) s₁) (fun _ _=>False) s)
 (n:Nat) (h:I n s):codeAny (model prog w) A (.compLoop (.ListComp elt [⟨tg,iter,ifs,0⟩] scope pos) 0 it acc env) R s:=by
 refine codeAny_loop rfl I (fun k z y=>?_) n h
 show wpAny _ A ((compTurn (.ListComp elt [⟨tg,iter,ifs,0⟩] scope pos) 0 it acc env).onRaise fun x=>do noteFrame x env;theTreesLotGoes x) _ _ z
 refine wpAny_noted ?_
 rw [compTurn_list]
 refine wpAny_bind (wpAny_standAt (wpAny_bind (Hq (turn k z y) fun r s₁ q1=>?_)))
 cases r with
 | none=>exact wpAny_pure q1
 | some v =>
   refine wpAny_bind (Hq q1 fun _ z q2=>wpAny_bind (Hq q2 fun _ s₂ q3=>wpAny_bind (Hq q3 fun ok s₃ q4=>?_)))
   cases ok with
   | false=>exact wpAny_pure ⟨rfl,q4⟩
   | true=>exact wpAny_bind (wpAny_bind (Hq q4 fun x s₄ q5=>wpAny_bind (Hq q5 fun _ s₅ q6=>wpAny_pure (wpAny_pure ⟨rfl,q6⟩))))
section
variable {X:Cx} {elt iter:Expr} {xs:List Str} {tg:Expr} {g:TG} {pos:Pos} {ifs:List Expr} {sc fsc:Scope} {N Nc:List Str} {wi:TI} {tt:TT} {te:TE}
theorem Fy (hE:X.env.scope=fsc) (hXN:X.N=N) (cn:Ez N Nc xs sc fsc) (hc:X.calm=true)
 (hg:∀cl s H ex,PG (X.inComp Nc sc cl s H ex) tg g) (ht:∀cl s H ex,LH (X.inComp Nc sc cl s H ex) ifs tt) (he:∀cl s H ex,PE (X.inComp Nc sc cl s H ex) elt te)
 {cl:List (Str × Addr)} (clS:∀y c,cl.lookup y=some c->X.env.cells.lookup y=some c) (clH:∀y∈sc.names,y.2=.free->∃c,cl.lookup y.1=some c)
 {pins:List (Addr × Obj)} {σ:St} {H2:Hp} {s2:Shared} {it:Addr} {fp:List Addr} {tn:Nat->Heap->Prop} {J:It} {Q:VK} {E:Value->Shared->Prop}
 (I2:Inv X pins σ H2 s2) (T:Ke X.prog X.w X.K tg J fp it tn) (st2:tn 0 s2.heap) (f2:∀b∈fp,JF X pins H2 b)
 (h2:∀D,H2 D=none->∃W:Nat->Nat->List V->Hp->Prop,(∃m,W 0 m [] (upd H2 D (.lst [])))/\∀i m ys H2,W i m ys H2 ->
  H2 D=some (.lst ys)/\((J.stop i H2/\Q (.ref D) H2)\/(J.go i H2/\ys.length < sizeLine/\∀x H3,J.yld i H2 x H3->∀os:St,os.length=xs.length->g x (σ++os) H3 fun σ4 H4=>(∃os':St,σ4=σ++os'/\os'.length=xs.length)/\tt σ4 H4 fun b H5=>if b=true then te σ4 H5 fun y H6=>H6 D=some (.lst ys)/\∃m',m' < m/\W (i+1) m' (ys++[y]) (upd H6 D (.lst (ys++[y])))
   else ∃m',m' < m/\W (i+1) m' ys H5))) :
 wpAny (model X.prog X.w) X.A (newList []) (fun acc s₃=>wpAny (model X.prog X.w) X.A (newFunctionEnv sc X.env.globals cl [] X.env.qual none .none (some X.env)) (fun cenv s₄ =>
  codeAny (model X.prog X.w) X.A (.compStart (.ListComp elt [⟨tg,iter,ifs,0⟩] sc pos) 0 (.ref it) acc { cenv with scope:=relabel sc X.env })
   (fun r s'=>r=.ok .next/\∃D H',acc=.ref D/\Inv X pins σ H' s'/\Q (.ref D) H'/\RG X pins H' cenv.locals/\∃m,s'.heap.Ns cenv.locals m) s₄) E s₃) E s2:=by
 refine wpAny_newObj_type (wpAny_newFunctionEnv cn.cell (by intro y hy;simp at hy) (fun h₁ hns₁ hsb₁=>?_) cn.kind)
 dsimp only at hns₁ hsb₁ ⊢
 have hD:H2 s2.heap.objs.size=none:=I2.hok.fresh (Nat.le_refl _)
 obtain ⟨W,⟨m0,w0⟩,turn⟩:=h2 s2.heap.objs.size hD
 have I3:Inv X pins σ (upd H2 s2.heap.objs.size (.lst [])) { s2 with heap:=s2.heap.push { cls:=.type "list",dict:=none,data:=.seq ([]:List Value).toArray } } :=
  I2.laid (t':=s2.toks) (fun b u e=>Heap.get?_push_of_some _ e) (Nat.le_refl _) ⟨Nat.zero_le _,[],0,.nil,Heap.get?_push_size _ rfl⟩
 generalize hs3:({ s2 with heap:=s2.heap.push { cls:=.type "list",dict:=none,data:=.seq ([]:List Value).toArray } }:Shared)=s3 at I3
 have eh:s3.heap=s2.heap.push { cls:=.type "list",dict:=none,data:=.seq ([]:List Value).toArray }:=by rw [<- hs3]
 have e2:({ s2 with heap:=h₁,toks:=s2.toks+([]:List (Str × Value)).length }:Shared)={ s3 with heap:=h₁,toks:=s3.toks }:=by rw [<- hs3];rfl
 generalize hH3:upd H2 s2.heap.objs.size (.lst [])=H3 at I3 w0
 rw [<- eh] at hns₁ hsb₁ ⊢
 rw [e2]
 have below2:∀b,b∈fp->b < s3.heap.objs.size:=fun b hb=>by
  obtain ⟨o,e,_⟩:=T.obj _ _ st2 b hb
  have:s2.heap.objs.size<=s3.heap.objs.size:=by rw [eh,Heap.size_push];exact Nat.le_succ _
  exact Nat.lt_of_lt_of_le (Heap.lt_size e) this
 have old:∀b o,s3.heap.get? b=some o->h₁.get? b=some o:=fun b o e=>(hsb₁.2 b (Nat.ne_of_lt (Heap.lt_size e))).trans (Heap.get?_push_of_some _ e)
 have old2:∀b o,s2.heap.get? b=some o->s3.heap.get? b=some o:=fun b o e=>by rw [eh];exact Heap.get?_push_of_some _ e
 have hsz3:s2.heap.objs.size < s3.heap.objs.size:=by rw [eh,Heap.size_push];exact Nat.lt_succ_self _
 have fpFree:∀b∈fp,H3 b=none:=fun b hb=>by
  rw [<- hH3,A8 (fun z=>?_)]
  ·exact (f2 b hb).1
  ·obtain ⟨o,e,_⟩:=T.obj _ _ st2 b hb
   have:=Heap.lt_size e
   rw [z] at this
   exact Nat.lt_irrefl _ this
 have rl:∀y,(relabel sc X.env).names.lookup y=(sc.names.lookup y).map fun k=>if (k == NameKind.free && X.env.scope.kind == .function && X.env.kindOf y == some .cell) then NameKind.cell else k:=fun y=>Dk X.env sc.names y
 have freeOf:∀y,sc.names.lookup y=some .free->∃c,cl.lookup y=some c:=fun y e=>clH (y,.free) (PySem.mem_of_lookup e) rfl
 have noCell:∀y,sc.names.lookup y≠some .cell:=fun y e=>cn.cell (y,.cell) (PySem.mem_of_lookup e) rfl
 have isFree:∀y,((relabel sc X.env).names.lookup y=some .cell\/(relabel sc X.env).names.lookup y=some .free)->sc.names.lookup y=some .free:=fun y h=>by
  rw [rl y] at h
  cases e:sc.names.lookup y with
  | none=>rw [e] at h;rcases h with z | z <;> exact absurd z (by simp)
  | some k =>
    rw [e] at h
    cases k with
    | free=>rfl
    | cell=>exact absurd e (noCell y)
    | «local»=>rcases h with z | z <;> exact absurd z (by simp)
    | _=>rcases h with z | z <;> exact absurd z (by simp)
 have exOk:∀b∈fp,b≠s3.heap.objs.size/\(∀y c,X.env.cells.lookup y=some c->c≠b)/\b ∉ frs X.stack:=fun b hb=>by
  obtain ⟨g0,g1,g2,g3,g4,g5⟩:=f2 b hb
  refine ⟨Nat.ne_of_lt (below2 b hb),g4,fun z=>?_⟩
  rcases mem_cons.mp (I2.stkSub b z) with z | z
  ·exact g1 z
  ·exact g2 z
 have hCnew:X.s₀.heap.objs.size<=s3.heap.objs.size:=I3.sz
 have hCcell:∀y c,X.env.cells.lookup y=some c->c≠s3.heap.objs.size:=fun y c e z=>by
  obtain ⟨v,q⟩:=I3.cell y c e
  have:=q.lt
  rw [z] at this
  exact Nat.lt_irrefl _ this
 have hCpin:∀p∈X.pn++pins,p.1≠s3.heap.objs.size:=fun p hp z=>by
  have:=Heap.lt_size (I3.pin p hp).1
  rw [z] at this
  exact Nat.lt_irrefl _ this
 have okc:(X.inComp Nc sc cl s3 H3 fp).Ok:=by
  refine ⟨I3.ok.mod,cn.kind,I3.ok.glob,I3.ok.blt,Nat.le_refl _,fun y z c h1 h2=>I3.ok.inj y z c (clS y c h1) (clS z c h2),fun y hy=>freeOf y (isFree y hy),fun y c hf=>absurd (show false=true from hf) Bool.false_ne_true,I3.ok.hd,I3.ok.frames,.inl rfl,
   fun b hb=>⟨(exOk b hb).1,fun y c e=>(exOk b hb).2.1 y c (clS y c e)⟩,fun b o e=>I3.bs b o e,Nat.le_trans I3.ok.bsz I3.sz,fun b o e hb=>?_,fun b hb=>(exOk b hb).2.2,I3.stack,I3.stkFree⟩
  obtain ⟨g0,g1,g2,g3,g4,g5⟩:=f2 b hb
  rcases g3 with z | z
  ·exact I3.ok.noex b o e z
  ·exact absurd (Heap.lt_size (I3.ok.bs b o e).1) (Nat.not_lt.mpr z)
 have hlen:σ.length=N.length:=by rw [I3.len,hXN]
 have Ic:Inv (X.inComp Nc sc cl s3 H3 fp) [] (σ++List.replicate xs.length none) H3 { s3 with heap:=h₁,toks:=s3.toks }:=by
  refine ⟨okc,rfl,I3.bare,Un.kept old,⟨_,hns₁,fun i y v h1 h2 h3=>?_⟩,fun y c e=>?_,I3.hok.fresh (Nat.le_refl _),fun y c e=>I3.freeC y c (clS y c e),fun p hp=>absurd (show p∈([]:List (Addr × Obj)) from hp) (by simp),I3.hok.kept old,?_⟩
  ·have hi:i < σ.length:=by
    by_cases hi:i < σ.length
    ·exact hi
    ·rw [List.getElem?_append_right (Nat.not_lt.mp hi)] at h2
     rw [List.getElem?_replicate] at h2
     split at h2 <;> cases h2
   rw [List.getElem?_append_left hi] at h2
   have hi':i < N.length:=by rw [<- hlen];exact hi
   obtain ⟨n1,n2,n3⟩:=cn.at hi' h1
   have hf:sc.names.lookup y=some .free:=by
    rcases h3 with z | z
    ·exfalso
     have z':(relabel sc X.env).names.lookup y=some .local:=z
     rw [rl y] at z'
     cases e:sc.names.lookup y with
     | none=>rw [e] at z';simp at z'
     | some k =>
       rw [e] at z'
       cases k with
       | «local»=>exact n1 e
       | cell=>exact n2 e
       | free =>
         simp only [Option.map_some,Option.some.injEq] at z'
         split at z' <;> cases z'
       | _=>simp at z'
    ·exact isFree y z
   have hN:X.N[i]?=some y:=by rw [hXN];exact n3 hf
   obtain ⟨m,hn,hl⟩:=I3.loc
   have hv:fsc.names.lookup y=some .cell\/fsc.names.lookup y=some .free:=cn.fr (y,.free) (PySem.mem_of_lookup hf) rfl
   have hv':X.env.scope.names.lookup y=some .cell\/X.env.scope.names.lookup y=some .free:=by rw [hE];exact hv
   obtain ⟨u,ru,lk⟩:=hl i y v hN h2 (.inr hv')
   refine ⟨u,ru,.inr ⟨?_,?_⟩⟩
   ·show (relabel sc X.env).names.lookup y=some .cell\/(relabel sc X.env).names.lookup y=some .free
    rw [rl y,hf]
    simp only [Option.map_some,Option.some.injEq]
    split
    ·exact .inl rfl
    ·exact .inr rfl
   ·rcases lk with ⟨kl,_⟩ | ⟨_,c,hc,hcell⟩
    ·exfalso
     have kl':X.env.scope.names.lookup y=some .local:=kl
     rw [kl'] at hv'
     rcases hv' with z | z <;> cases z
    ·obtain ⟨d,hd⟩:=freeOf y hf
     have ed:=clS y d hd
     rw [hc] at ed
     cases ed
     exact ⟨c,hd,hcell.keeps old⟩
  ·obtain ⟨v,q⟩:=I3.cell y c (clS y c e)
   exact ⟨v,q.keeps old⟩
  ·show (σ++List.replicate xs.length none).length=Nc.length
   rw [length_append,hlen,cn.len,length_replicate]
 have stc:tn 0 ({ s3 with heap:=h₁,toks:=s3.toks }:Shared).heap:=T.keep _ _ _ st2 fun b _ o e=>old b o (old2 b o e)
 have hDf:s2.heap.objs.size ∉ fp:=fun hm=>by
  obtain ⟨o,e,_⟩:=T.obj _ _ st2 _ hm
  exact Nat.lt_irrefl _ (Heap.lt_size e)
 have fpc:∀{pins':List (Addr × Obj)} {H':Hp},pins'=[]->(∀b∈fp,H' b=none)->∀b∈fp,JF (X.inComp Nc sc cl s3 H3 fp) pins' H' b:=fun {pins' H'} hp hn b hb=>by
  subst hp
  exact ⟨hn b hb,(exOk b hb).1,(exOk b hb).2.2,.inl hb,fun y c e=>(exOk b hb).2.1 y c (clS y c e),fun p hp=>absurd (show p∈([]:List (Addr × Obj)) from hp) (by simp)⟩
 have loop:∀s₄:Shared,s₄={ s3 with heap:=h₁,toks:=s3.toks } ->
  codeAny (model X.prog X.w) X.A (.compLoop (.ListComp elt [⟨tg,iter,ifs,0⟩] sc pos) 0 (.ref it) (.ref s2.heap.objs.size) (compEnvC sc cl s3.heap.objs.size X.env))
   (fun r s'=>r=.ok .next/\∃D H',(Value.ref s2.heap.objs.size)=.ref D/\Inv X pins σ H' s'/\Q (.ref D) H'/\RG X pins H' s3.heap.objs.size/\∃m,s'.heap.Ns s3.heap.objs.size m) s₄:=by
  rintro s₄ rfl
  refine Ss (fun n s'=>∃(i:Nat) (o:St) (H':Hp) (ys:List V),o.length=xs.length/\Inv (X.inComp Nc sc cl s3 H3 fp) [] (σ++o) H' s'/\tn i s'.heap/\(∀b∈fp,H' b=none)/\W i n ys H') ?_ m0 ⟨0,_,H3,[],length_replicate ..,Ic,stc,fpFree,w0⟩
  rintro n s' ⟨i,o,H',ys,lo,I',st',fr',w'⟩
  obtain ⟨hDl,tw⟩:=turn i n ys H' w'
  rcases tw with ⟨stop,q⟩ | ⟨go,hz,step⟩
  ·
   refine thn (T.done (X.inComp Nc sc cl s3 H3 fp) rfl rfl rfl hc i [] s' _ H' _ I' (fpc rfl fr') st' stop) fun r s5 ⟨hr,I5⟩=>?_
   subst hr
   have Ix:Inv X pins σ H' s5:=I3.call' (ch:=fp) I5.os I5.base I5.hok I5.bare fun b hb=>by
    obtain ⟨g0,g1,g2,g3,g4,g5⟩:=f2 b hb
    exact ⟨g3,g1,g4,g5⟩
   have hCf:H' s3.heap.objs.size=none:=I5.free
   obtain ⟨m,hn,_⟩:=I5.loc
   exact ⟨rfl,s2.heap.objs.size,H',rfl,Ix,q,⟨hCf,fun z=>Nat.lt_irrefl _ (by have:=I3.lt;rw [<- z] at this;exact this),hCnew,hCcell,hCpin⟩,m,hn⟩
  ·
   refine thn (T.item (X.inComp Nc sc cl s3 H3 fp) rfl rfl rfl hc i [] s' _ H' _ I' (fpc rfl fr') st' go) fun r s5 ⟨u,hr,h4⟩=>?_
   subst hr
   dsimp only
   refine Hq h4 fun _ s6 ⟨xv,H5,I5,r5,y5,st5,fr5⟩=>?_
   have I5':=I5.pinned (fpc rfl fr5) (T.obj _ _ st5)
   have again:∀{o':St} {H7:Hp} {s7:Shared} {m':Nat} {ys':List V},o'.length=xs.length->Inv (X.inComp Nc sc cl s3 H3 fp) ([]++Hu fp s6.heap) (σ++o') H7 s7->m' < n->W (i+1) m' ys' H7 ->
    ∃m,m < n/\∃(i:Nat) (o:St) (H':Hp) (ys:List V),o.length=xs.length/\Inv (X.inComp Nc sc cl s3 H3 fp) [] (σ++o) H' s7/\tn i s7.heap/\(∀b∈fp,H' b=none)/\W i m ys H':=fun {o' H7 s7 m' ys'} lo' I7 hm w7=>by
    refine ⟨m',hm,i+1,o',H7,ys',lo',I7.unpinned,T.keep _ _ _ st5 fun b hb o e=>(I7.pin (b,o) (mem_append_right _ (mem_append_right _ (Ed hb e)))).1,fun b hb=>?_,w7⟩
    obtain ⟨o',e,d⟩:=T.obj _ _ st5 b hb
    exact (I7.pin (b,o') (mem_append_right _ (mem_append_right _ (Ed hb e)))).2.1
   refine Hq (hg cl s3 H3 fp _ s6 _ H5 xv u _ I5' r5 (step xv _ y5 o lo)) fun _ s7 ⟨σ7,H7,I7,⟨o7,e7,lo7⟩,q7⟩=>?_
   subst e7
   refine Hq (ht cl s3 H3 fp _ s7 _ _ _ I7 q7) fun b s8 ⟨H8,I8,q8⟩=>?_
   cases b with
   | false =>
     rw [if_neg Bool.false_ne_true] at q8 ⊢
     obtain ⟨m',hm,w8⟩:=q8
     exact again lo7 I8 hm w8
   | true =>
     rw [if_pos rfl] at q8 ⊢
     refine Hq (he cl s3 H3 fp _ s8 _ H8 _ I8 q8) fun y s9 ⟨yv,H9,I9,r9,hD9,m',hm,w9⟩=>?_
     refine Hq (BR _ s9 _ H9 (.ref s2.heap.objs.size) [yv] (.ref s2.heap.objs.size) [y] (fun v H=>v=.non/\H=upd H9 s2.heap.objs.size (.lst (ys++[yv]))) I9 rfl (.cons r9 .nil) ⟨_,ys,yv,rfl,rfl,hD9,hz,rfl,rfl⟩) fun _ s10 ⟨v10,H10,I10,r10,e10,e11⟩=>?_
     subst e11
     exact again lo7 I10 hm w9
 exact codeAny_compStart_list (loop _ rfl) (T.self _ 0 _ _ _ stc (loop _ rfl))
theorem FX (I:∀y,(X.env.kindOf y=some .cell\/X.env.kindOf y=some .free)->∃c,X.env.cells.lookup y=some c) (hE:X.env.scope=fsc) (cn:Ez N Nc xs sc fsc):∀y∈sc.names,y.2=.free->∃c,X.env.cells.lookup y.1=some c:=fun y hy hf=>by
 refine I y.1 ?_
 show X.env.scope.names.lookup y.1=some .cell\/X.env.scope.names.lookup y.1=some .free
 rw [hE]
 exact cn.fr y hy hf
theorem Oo (hE:X.env.scope=fsc) (hXN:X.N=N) (cn:Ez N Nc xs sc fsc) (hc:X.calm=true) (hi:PI X tg iter wi)
 (hg:∀cl s H ex,PG (X.inComp Nc sc cl s H ex) tg g) (ht:∀cl s H ex,LH (X.inComp Nc sc cl s H ex) ifs tt) (he:∀cl s H ex,PE (X.inComp Nc sc cl s H ex) elt te)
 (hs:∀v,foldedSetIterable iter X.env v=pure v:=by intro _;rfl):PE X (.ListComp elt [⟨tg,iter,ifs,0⟩] sc pos) (Pl xs.length wi g tt te):=by
 intro pins s σ H Q I h
 obtain ⟨cl,hcl,clS,clH⟩:=Ft (env:=X.env) (sc:=sc) (FX I.ok.has hE cn)
 rw [eval_ListComp]
 refine wpAny_comprehension_free (use:=none) rfl hs hcl cn.kind cn.nm (thn (hi pins s σ H _ I h) fun v s1 h1=>thn h1 fun itv s2 h2=>?_)
 obtain ⟨it,fp,tn,J,H2,rfl,I2,T,st2,f2,h2⟩:=h2
 refine thn (Fy (pos:=pos) (iter:=iter) hE hXN cn hc hg ht he clS clH I2 T st2 f2 h2) fun acc s3 h3=>thn h3 fun cenv s4 h4=>codeAny_mono h4 fun r s' h5=>?_
 obtain ⟨rfl,D,H',rfl,I',q,cloc,m,hn⟩:=h5
 exact ⟨m,hn,fun h' k=>⟨.ref D,H',I'.sameBut cloc k,rfl,q⟩⟩
end
theorem Hi {K:PySem.W.Frag} {a:Addr} {zs:List V} {tt:TT} {te:TE} {σ:St} {H1:Hp} {Q:Addr->Hp->Prop} {n m:Nat} (hn:n=σ.length) (hm:m=σ.length+1) (hz:zs.length<=sizeLine) (Pv:Addr->Nat->List V->Hp->Prop)
 (h0:∀D,H1 D=none->Pv D 0 [] (upd H1 D (.lst []))) (hD:∀D i ys H,Pv D i ys H->H D=some (.lst ys)/\ys.length<=i) (hl:∀D i ys H,H1 D=none->Pv D i ys H->SqL K H a zs)
 (hs:∀D i x ys H (K1:VK) (K2:Hp->Prop),H1 D=none->zs[i]?=some x->Pv D i ys H->(∀y H5,H5 D=some (.lst ys)->Pv D (i+1) (ys++[y]) (upd H5 D (.lst (ys++[y])))->K1 y H5)->(∀H4,Pv D (i+1) ys H4->K2 H4) ->
  ∃t v w,x=.ref t/\SqT K H t [v,w]/\tt (σ++[some v,some w]) H fun b H4=>if b=true then te (σ++[some v,some w]) H4 K1 else K2 H4)
 (hd:∀D ys H,H1 D=none->Pv D zs.length ys H->Q D H) :
 ∀D,H1 D=none->∃W:Nat->Nat->List V->Hp->Prop,(∃m,W 0 m [] (upd H1 D (.lst [])))/\∀i k ys H2,W i k ys H2 ->
  H2 D=some (.lst ys)/\(((Itl K a).stop i H2/\Q D H2)\/((Itl K a).go i H2/\ys.length < sizeLine/\∀x H3,(Itl K a).yld i H2 x H3->∀os:St,os.length=2->RJ K 2 (Kz (EN n) (Kz (EN m) Ro)) x (σ++os) H3 fun σ4 H4=>(∃os':St,σ4=σ++os'/\os'.length=2)/\tt σ4 H4 fun b H5=>if b=true then te σ4 H5 fun y H6=>H6 D=some (.lst ys)/\∃m',m' < k/\W (i+1) m' (ys++[y]) (upd H6 D (.lst (ys++[y])))
   else ∃m',m' < k/\W (i+1) m' ys H5)):=by
 intro D hDn
 subst hn hm
 refine ⟨fun i m ys H=>m=zs.length - i/\i<=zs.length/\Pv D i ys H,⟨zs.length,rfl,Nat.zero_le _,h0 D hDn⟩,?_⟩
 rintro i m ys H2 ⟨rfl,hi,p⟩
 obtain ⟨e,l⟩:=hD D i ys H2 p
 have q:=hl D i ys H2 hDn p
 refine ⟨e,?_⟩
 by_cases hlt:i < zs.length
 ·refine .inr ⟨⟨zs,zs[i],q,by simp [hlt]⟩,Nat.lt_of_le_of_lt l (Nat.lt_of_lt_of_le hlt hz),fun x H3 y os ho=>?_⟩
  obtain ⟨e1,y⟩:=y
  subst e1
  obtain ⟨t,v,w,rfl,ht,q5⟩:=hs D i x ys _ (fun y H6=>H6 D=some (.lst ys)/\∃m',m' < zs.length - i/\m'=zs.length - (i+1)/\i+1<=zs.length/\Pv D (i+1) (ys++[y]) (upd H6 D (.lst (ys++[y])))) (fun H5=>∃m',m' < zs.length - i/\m'=zs.length - (i+1)/\i+1<=zs.length/\Pv D (i+1) ys H5) hDn (y zs q) p (fun y H5 h5 p5=>⟨h5,zs.length - (i+1),by omega,rfl,hlt,p5⟩) fun H4 p4=>⟨zs.length - (i+1),by omega,rfl,hlt,p4⟩
  match os,ho with
  | [o1,o2],_ =>
    have e2:((σ++[o1,o2]).set σ.length (some v)).set (σ.length+1) (some w)=σ++[some v,some w]:=by
     rw [set_append_right _ _ (Nat.le_refl _),Nat.sub_self,set_append_right _ _ (Nat.le_succ _)]
     rw [show (List.length σ+1) - List.length σ=1 by omega]
     rfl
    refine ⟨t,[v,w],rfl,ht,rfl,v,[w],rfl,w,[],rfl,rfl,?_⟩
    refine ⟨⟨[some v,some w],e2,rfl⟩,?_⟩
    rw [e2]
    exact q5
 ·have ei:i=zs.length:=by omega
  subst ei
  exact .inl ⟨⟨zs,q,Nat.le_refl _⟩,hd D ys H2 hDn p⟩
section
variable {X:Cx} {elt iter:Expr} {x1 x2 x3:Str} {p1 p2 p3 pt pos:Pos} {k:Nat} {ifs:List Expr} {sc fsc:Scope} {N Nc:List Str} {wi:TI} {tt:TT} {te:TE}
theorem JZ (hE:X.env.scope=fsc) (hXN:X.N=N) (cn:Ez N Nc [x1,x2] sc fsc) (hc:X.calm=true) (hi:PI X (.Tuple [.Name x1 p1,.Name x2 p2] k pt) iter wi)
 (ht:∀cl s H ex,LH (X.inComp Nc sc cl s H ex) ifs tt) (he:∀cl s H ex,PE (X.inComp Nc sc cl s H ex) elt te) (hs:∀v,foldedSetIterable iter X.env v=pure v:=by intro _;rfl) :
 PE X (.ListComp elt [⟨.Tuple [.Name x1 p1,.Name x2 p2] k pt,iter,ifs,0⟩] sc pos) (Pl 2 wi (RJ X.K 2 (Kz (EN N.length) (Kz (EN (N.length+1)) Ro))) tt te) :=
 Oo hE hXN cn hc hi (fun cl s H ex=>DH (X:=X.inComp Nc sc cl s H ex) hc (Bl (FQ (j:=0) cn rfl rfl) (Bl (FQ (j:=1) cn rfl rfl) C9))) ht he hs
end
end L2
namespace L2
open PySem PySem.Spec PyProof.Rows
theorem IV.ns {N Nc:List Str} {x:Str} {sc fsc:Scope} (c:IV N Nc x sc fsc):Ez N Nc [x] sc fsc:=⟨c.kind,c.cell,c.nm,fun y m=>by rw [mem_singleton.mp m];exact c.own,c.fr,c.len,c.nd,by
 have l:=c.len
 refine ext_getElem? fun i=>?_
 rw [List.getElem?_drop]
 cases i with
 | zero=>exact c.last
 | succ i=>rw [List.getElem?_eq_none (by omega),List.getElem?_eq_none (by show 1<=i+1;omega)],c.slot⟩
section
variable {X:Cx} {elt iter:Expr} {x:Str} {px pos:Pos} {ifs:List Expr} {sc fsc:Scope} {N Nc:List Str} {wi:TI} {tt:TT} {te:TE}
theorem IR {J:It} {σ:St} {H1:Hp} {Q:VK} {n:Nat} (hn:n=σ.length) (h:∀D,H1 D=none->∃W:Nat->Nat->List V->Hp->Prop,(∃m,W 0 m [] (upd H1 D (.lst [])))/\∀i m ys H2,W i m ys H2 ->
 H2 D=some (.lst ys)/\((J.stop i H2/\Q (.ref D) H2)\/(J.go i H2/\ys.length < sizeLine/\∀x H3,J.yld i H2 x H3->tt (σ++[some x]) H3 fun b H4=>if b=true then te (σ++[some x]) H4 fun y H5=>H5 D=some (.lst ys)/\∃m',m' < m/\W (i+1) m' (ys++[y]) (upd H5 D (.lst (ys++[y])))
  else ∃m',m' < m/\W (i+1) m' ys H4))) :
 ∀D,H1 D=none->∃W:Nat->Nat->List V->Hp->Prop,(∃m,W 0 m [] (upd H1 D (.lst [])))/\∀i m ys H2,W i m ys H2 ->
  H2 D=some (.lst ys)/\((J.stop i H2/\Q (.ref D) H2)\/(J.go i H2/\ys.length < sizeLine/\∀x H3,J.yld i H2 x H3->∀os:St,os.length=1->EN n x (σ++os) H3 fun σ4 H4=>(∃os':St,σ4=σ++os'/\os'.length=1)/\tt σ4 H4 fun b H5=>if b=true then te σ4 H5 fun y H6=>H6 D=some (.lst ys)/\∃m',m' < m/\W (i+1) m' (ys++[y]) (upd H6 D (.lst (ys++[y])))
   else ∃m',m' < m/\W (i+1) m' ys H5)):=by
 intro D hD
 obtain ⟨W,w0,w1⟩:=h D hD
 refine ⟨W,w0,fun i m ys H2 w=>?_⟩
 obtain ⟨a,b⟩:=w1 i m ys H2 w
 refine ⟨a,b.imp id fun ⟨c,d,e⟩=>⟨c,d,fun x H3 y os ho=>?_⟩⟩
 match os,ho with
 | [o],_ =>
   have e2:(σ++[o]).set n (some x)=σ++[some x]:=by rw [hn];exact P2
   show (∃os':St,(σ++[o]).set n (some x)=σ++os'/\os'.length=1)/\_
   rw [e2]
   exact ⟨⟨[some x],rfl,rfl⟩,e x H3 y⟩
theorem B3 (hE:X.env.scope=fsc) (hXN:X.N=N) (cn:IV N Nc x sc fsc) (hc:X.calm=true) (hi:PI X (.Name x px) iter wi)
 (ht:∀cl s H ex,LH (X.inComp Nc sc cl s H ex) ifs tt) (he:∀cl s H ex,PE (X.inComp Nc sc cl s H ex) elt te)
 (hs:∀v,foldedSetIterable iter X.env v=pure v:=by intro _;rfl):PE X (.ListComp elt [⟨.Name x px,iter,ifs,0⟩] sc pos) (QQ wi tt te):=by
 intro pins s σ H Q I h
 obtain ⟨cl,hcl,clS,clH⟩:=Ft (env:=X.env) (sc:=sc) (FX I.ok.has hE cn.ns)
 rw [eval_ListComp]
 refine wpAny_comprehension_free (use:=none) rfl hs hcl cn.kind cn.nm (thn (hi pins s σ H _ I h) fun v s1 h1=>thn h1 fun itv s2 h2=>?_)
 obtain ⟨it,fp,tn,J,H2,rfl,I2,T,st2,f2,h2⟩:=h2
 refine thn (Fy (pos:=pos) (iter:=iter) hE hXN cn.ns hc (fun cl s H ex=>FQ (j:=0) cn.ns rfl rfl) ht he clS clH I2 T st2 f2 (IR (by rw [I2.len,hXN];rfl) h2)) fun acc s3 h3=>thn h3 fun cenv s4 h4=>codeAny_mono h4 fun r s' h5=>?_
 obtain ⟨rfl,D,H',rfl,I',q,cloc,m,hn⟩:=h5
 exact ⟨m,hn,fun h' k=>⟨.ref D,H',I'.sameBut cloc k,rfl,q⟩⟩
theorem FO {j:Nat} {y:Str} {py spos:Pos} (hE:X.env.scope=fsc) (hXN:X.N=N) (cn:IV N Nc x sc fsc) (hc:X.calm=true) (hnd:X.N.Nodup) (hj:X.N[j]?=some y) (hy:X.env.scope.names.lookup y=some .local) (hi:PI X (.Name x px) iter wi)
 (ht:∀cl s H ex,LH (X.inComp Nc sc cl s H ex) ifs tt) (he:∀cl s H ex,PE (X.inComp Nc sc cl s H ex) elt te)
 (hsw:swapsWith (.ListComp elt [⟨.Name x px,iter,ifs,0⟩] sc pos) (some (.Name y py)) spos.line X.env=pure true)
 (hs:∀v,foldedSetIterable iter X.env v=pure v:=by intro _;rfl):PS X (.Assign [.Name y py] (.ListComp elt [⟨.Name x px,iter,ifs,0⟩] sc pos) spos) (Ry (QQ wi tt te) (EN j)):=by
 intro pins s σ H D I h
 obtain ⟨cl,hcl,clS,clH⟩:=Ft (env:=X.env) (sc:=sc) (FX I.ok.has hE cn.ns)
 rw [exec_Assign_Name_used _ _ _ _ hsw]
 refine wpAny_bind (wpAny_standAt (wpAny_bind ?_))
 show wpAny _ X.A (do let _ <- comprehension (.ListComp elt [⟨.Name x px,iter,ifs,0⟩] sc pos) sc X.env _ (newList []) false (eval iter X.env) (some (assign (.Name y py) X.env))) _ _ s
 refine wpAny_bind (thn (wpAny_comprehension_free (Q:=fun _ s'=>SP X pins D .next s') rfl hs hcl cn.kind cn.nm (thn (hi pins s σ H _ I h) fun v s1 h1=>thn h1 fun itv s2 h2=>?_)) fun _ s' hq=>wpAny_pure (wpAny_pure hq))
 obtain ⟨it,fp,tn,J,H2,rfl,I2,T,st2,f2,h2⟩:=h2
 refine thn (Fy (pos:=pos) (iter:=iter) (Q:=fun x H1=>EN j x σ H1 D.nx) hE hXN cn.ns hc (fun cl s H ex=>FQ (j:=0) cn.ns rfl rfl) ht he clS clH I2 T st2 f2 (IR (Q:=fun x H1=>EN j x σ H1 D.nx) (by rw [I2.len,hXN];rfl) h2)) fun acc s3 h3=>thn h3 fun cenv s4 h4=>codeAny_mono h4 fun r s' h5=>?_
 obtain ⟨rfl,D',H',rfl,I',q,cloc,m,hn⟩:=h5
 refine wpAny_assign_Name (IS (v:=.ref D') I' hnd hj (.inl hy) rfl (fun s6 I6 sb=>?_) (.inr hy))
 obtain ⟨a,k,ha⟩:=sb
 refine ⟨m,hn.sameBut k (fun z=>?_),fun h' k'=>⟨_,H',I6.sameBut cloc k',q⟩⟩
 rcases ha with ha | ha
 ·exact cloc.ne (z.trans ha)
 ·exact cloc.cells _ _ ha z.symm
end
end L2
namespace L2
open PySem PySem.Spec PyProof.Rows
section
variable {X:Cx}
end
section
variable {X:Cx}
theorem O5 {o e:Expr} {es:List Expr} {to:TE} {t:TA} {name:Str} {apos cpos:Pos} {T id:String} {r:V->List V->Hp->VK->Prop} (K:PySem.W.Frag) (pa:PlainAttrs T) (slot:Slot T name id) (hty:typeOf (.builtin id)=pure (.type "method_descriptor")) (hm:MtR X id r) (ho:PE X o to) (ha:PA X (e :: es) t)
 (hK:X.K=K:=by rfl) (hbase:attributeBase o name X.env (eval o X.env)=eval o X.env:=by rfl)
 (hfew:((backTo cpos (starEach (e :: es) X.env)).all (fun x=>!x.1) && (backToKw cpos (keywordEach [] X.env)).all (fun x=>x.1.isSome)
  && decide ((e :: es).length+([]:List Keyword).length+(if ([]:List Keyword).isEmpty then 0 else 1) < 30))=true:=by rfl)
 (hline:(apos.endLine == cpos.line)=true:=by rfl) (hs:starEach (e :: es) X.env=(false,eval e X.env) :: starEach es X.env:=by rfl) (hplain:(backTo cpos (starEach es X.env)).any (·.1)=false:=by rfl) :
 PE X (.Call (.Attribute o name apos) (e :: es) [] cpos) (tBM K T r to t):=by
 subst hK
 exact DR pa slot hty hm ho ha hbase hfew hline hs hplain
theorem Kj {K:PySem.W.Frag} (hK:X.K=K:=by rfl):MtR X "list.index" (fun x vs H Q=>∃(a:Addr) (ns:List Int) (k:Int),x=.ref a/\vs=[.int k]/\SqL K H a (ns.map V.int)/\k∈ns/\Q (.int (ns.idxOf k:Nat)) H):=by
 subst hK
 intro pins s σ H x vs v us Q I rx rv h
 obtain ⟨a,ns,k,rfl,rfl,hq,hk,q⟩:=h
 cases rx
 obtain ⟨u,rfl,t,rfl⟩:=FF rv
 obtain ⟨its,rv,pl,hz⟩:=I.list hq
 have hi:=BW rv
 have hl:=hi.length
 have hj:ns.idxOf k < ns.length:=idxOf_lt_length_iff.mpr hk
 have hb:ns.length<=sizeLine:=by rw [length_map] at hz;exact hz
 rw [sizeLine_eq] at hb
 obtain ⟨⟨cls,dd,data,sl⟩,ho,hc,n,hd⟩:=pl.isList
 replace hc:cls=.type "list":=hc
 replace hd:data=.seq its.toArray n:=hd
 subst hc hd
 refine call_meets PySem.F.slot_list_index ⟨_,ho,rfl⟩ PySem.F.entry_list_index (PySem.F.args_list_index_2 _ _) (PySem.SeqAt.list_indexAt a its.toArray n dd sl (.int k t) (isInt k) (ns.idxOf k) (by rw [size_toArray];omega) (by omega) ?_ ?_) ⟨ho,fun y hy=>(eq_isInt k t hi y (by simpa using hy)).at _ _,?_⟩
 ·have:isInt k its[ns.idxOf k]=true:=by rw [isInt_at k hi _ (by omega) hj];simpa using getElem_idxOf hj
  exact this
 ·intro j hjs hlt
  have:isInt k its[j]=false:=by rw [isInt_at k hi j (by simpa using hjs) (by omega)];exact ne_of_lt_idxOf hlt _
  exact this
 ·exact ⟨.int _,H,I.tok _,⟨_,rfl⟩,q⟩
end
theorem Dj:∀ns ms:List Int,PyData.eqvAll (ns.map .int) (ms.map .int)=decide (ns=ms)
 | [],[]=>rfl
 | [],_ :: _=>rfl
 | _ :: _,[]=>rfl
 | n :: ns,m :: ms=>by
   show ((n == m) && PyData.eqvAll (ns.map .int) (ms.map .int))=_
   rw [Dj ns ms]
   by_cases h:n=m
   ·by_cases k:ns=ms
    ·subst h;subst k;simp
    ·simp [h,k]
   ·simp [h]
theorem DK:∀ns:List Int,PyData.canLayAll0 (ns.map .int)=true/\PyData.depthAll (ns.map .int)<=0
 | []=>⟨rfl,Nat.le_refl _⟩
 | n :: ns=>by
   obtain ⟨h1,h2⟩:=DK ns
   refine ⟨?_,?_⟩
   ·show (true && PyData.canLayAll0 (ns.map .int))=true
    rw [h1];rfl
   ·show max 0 (PyData.depthAll (ns.map .int))<=0
    omega
theorem El (ns:List Int):SeqAt.shaped (.tuple (ns.map .int))=true/\SeqAt.shaped (.list (ns.map .int))=true:=by
 obtain ⟨h1,h2⟩:=DK ns
 constructor
 ·unfold SeqAt.shaped
  rw [Bool.and_eq_true]
  refine ⟨h1,decide_eq_true ?_⟩
  show PyData.depthAll (ns.map .int)+1<=64
  omega
 ·unfold SeqAt.shaped
  rw [Bool.and_eq_true]
  refine ⟨h1,decide_eq_true ?_⟩
  show PyData.depthAll (ns.map .int)+1<=64
  omega
section
variable {X:Cx}
end
end L2
namespace L2
open PySem PySem.Spec PyProof.Rows
namespace CutT
open HT
section
variable {prog:Program} {w:World} {A:Around} {E:Value->Shared->Prop} {s:Shared}
end
end CutT
theorem HQ {K:PySem.W.Frag} {a:Addr} {xs:List V} {tt:TT} {te:TE} {σ:St} {H1:Hp} {Q:Addr->Hp->Prop} (hn:xs.length<=sizeLine) (Pv:Addr->Nat->List V->Hp->Prop)
 (h0:∀D,H1 D=none->Pv D 0 [] (upd H1 D (.lst []))) (hD:∀D i ys H,Pv D i ys H->H D=some (.lst ys)/\ys.length<=i) (hl:∀D i ys H,H1 D=none->Pv D i ys H->SqT K H a xs)
 (hs:∀D i x ys H (K1:VK) (K2:Hp->Prop),H1 D=none->xs[i]?=some x->Pv D i ys H->(∀y H5,H5 D=some (.lst ys)->Pv D (i+1) (ys++[y]) (upd H5 D (.lst (ys++[y])))->K1 y H5)->(∀H4,Pv D (i+1) ys H4->K2 H4) ->
  tt (σ++[some x]) H fun b H4=>if b=true then te (σ++[some x]) H4 K1 else K2 H4)
 (hd:∀D ys H,H1 D=none->Pv D xs.length ys H->Q D H) :
 ∀D,H1 D=none->∃W:Nat->Nat->List V->Hp->Prop,(∃m,W 0 m [] (upd H1 D (.lst [])))/\∀i m ys H2,W i m ys H2 ->
  H2 D=some (.lst ys)/\(((Itt K a).stop i H2/\Q D H2)\/((Itt K a).go i H2/\ys.length < sizeLine/\∀x H3,(Itt K a).yld i H2 x H3->tt (σ++[some x]) H3 fun b H4=>if b=true then te (σ++[some x]) H4 fun y H5=>H5 D=some (.lst ys)/\∃m',m' < m/\W (i+1) m' (ys++[y]) (upd H5 D (.lst (ys++[y])))
   else ∃m',m' < m/\W (i+1) m' ys H4)):=by
 intro D hDn
 refine ⟨fun i m ys H=>m=xs.length - i/\i<=xs.length/\Pv D i ys H,⟨xs.length,rfl,Nat.zero_le _,h0 D hDn⟩,?_⟩
 rintro i m ys H2 ⟨rfl,hi,p⟩
 obtain ⟨e,l⟩:=hD D i ys H2 p
 have q:=hl D i ys H2 hDn p
 refine ⟨e,?_⟩
 by_cases hlt:i < xs.length
 ·refine .inr ⟨⟨xs,xs[i],q,by simp [hlt]⟩,Nat.lt_of_le_of_lt l (Nat.lt_of_lt_of_le hlt hn),fun x H3 y=>?_⟩
  obtain ⟨e1,y⟩:=y
  subst e1
  exact hs D i x ys _ _ _ hDn (y xs q) p (fun y H5 h5 p5=>⟨h5,xs.length - (i+1),by omega,rfl,hlt,p5⟩) fun H4 p4=>⟨xs.length - (i+1),by omega,rfl,hlt,p4⟩
 ·have ei:i=xs.length:=by omega
  subst ei
  exact .inl ⟨⟨xs,q,Nat.le_refl _⟩,hd D ys H2 hDn p⟩
end L2
namespace L2
open PySem PySem.Spec PyProof.Rows
section
variable {prog:Program} {w:World} {A:Around} {E:Value->Shared->Prop} {s:Shared}
theorem PU {T newId:String} {self a:Value} {rest:List Value} {kw:List (Str × Value)} (fl:typeLookup (.type T) "__init__"=pure (some (.builtin "object.__init__")))
 (fm:Bind.madeBy (.type T)=pure (some newId)) (fn:(some newId != some "object.__new__")=true) :
 Meets (Builtin.«object.__init__» ⟨self :: a :: rest,kw⟩) (fun _ R s=>s.TypeIs self T/\R (.ok (.ret .none)) s):=by
 refine Meets.of_wp fun prog w A R s y=>?_
 obtain ⟨hT,fq⟩:=y
 repeat (any_goals (first | assumption | wp_step))
 exact ⟨_,rfl,fq⟩
theorem Qz {T newId initId:String} {Bn Bi:Builtin} {args:List Value} {kw:List (Str × Value)} {S:PySem.Spec} {Q Q₁:Value->Shared->Prop} (ft:TypeCalled T newId initId)
 (ct:checkTypeCall T ⟨args,kw⟩=pure ()) (cn:checkBuiltinCall newId ⟨.type T :: args,kw⟩=pure ()) (eN:entryFor table newId=some Bn) (eI:entryFor table initId=some Bi) (g:Meets (Bn ⟨.type T :: args,kw⟩) S)
 (h:S A.in1 (wants Q₁ E) s)
 (nxt:∀o z,Q₁ o z->z.TypeIs o T/\argsOk initId ⟨o :: args,kw⟩/\∃Si,Meets (Bi ⟨o :: args,kw⟩) Si/\Si A.in1 (wants (fun r s₂=>r=.none/\Q o s₂) E) z) :
 wpAny (model prog w) A (call (.type T) args kw) Q E s:=by
 obtain ⟨c,tl,hmro⟩:=ft.mro
 have hmade:=ft.made
 have hsub:=ft.sub
 refine wpAny_call (codeAny_of_tree ?_)
 show wpAny _ _ (callAny (.type T) _) _ _ _
 refine wpAny_pure ⟨Code.quiet_builtin _ (by decide +kernel),codeAny_builtin F.entry_type_call ?_⟩
 rw [Around.under_plain (weight_type_call_type T args kw) (units_type_call_type T args kw)]
 have h1:=ft.notType
 have h2:=ft.canCreate
 repeat (any_goals (first | assumption | wp_step))
 refine codeAny_mono (codeAny_call_builtin ft.plain eN (wpAny_of_eq cn (g prog w A.in1 _ s h))) fun r z hr=>?_
 cases r with
 | error e=>exact hr
 | ok fl =>
   cases fl with
   | ret obj =>
     obtain ⟨hT,hok,Si,gi,hsi⟩:=nxt _ _ hr
     have hli:=ft.init.lookup
     have hbi:=ft.init.bind obj
     repeat (any_goals (first | assumption | wp_step))
     refine codeAny_mono (codeAny_call_builtin ft.init.plain eI (ft.init.check _ _ _ _ _ _ _ _ hT hok (gi prog w A.in1 _ z hsi))) fun r₂ s₂ hr₂=>?_
     cases r₂ with
     | error e=>exact hr₂
     | ok fl₂ =>
       cases fl₂ with
       | ret r =>
         obtain ⟨rfl,hq⟩:=hr₂
         repeat (any_goals (first | assumption | wp_step))
       | _=>exact hr₂.elim
   | _=>exact hr.elim
theorem Ol (l:Addr) (items:Array Value) (n:Nat) (dct:Option Addr) (sl:Array (Option Value)) (t:Tok) :
 Meets (Builtin.«enumerate.__new__» ⟨[.type "enumerate",.ref l],[("start",.int 1 t)]⟩) (fun _ R s=>s.heap.get? l=some { cls:=.type "list",dict:=dct,data:=.seq items n,slots:=sl } /\
  R (.ok (.ret (.ref (s.heap.push { cls:=.type "list_iterator",data:=.fields #[.ref l,.int 0 0] }).objs.size)))
    { s with heap:=(s.heap.push { cls:=.type "list_iterator",data:=.fields #[.ref l,.int 0 0] }).push { cls:=.type "enumerate",data:=.fields #[.none,.bool false,.ref s.heap.objs.size,rawInt 1,.none,.none] } }) :=
 .of_wp fun prog w A R s y=>by
  obtain ⟨hp,g,d,tk,os⟩:=s
  obtain ⟨hl,y⟩:=y
  have fs:=sub_enumerate
  have fL:Heap.IsList (Shared.heap ⟨hp,g,d,tk,os⟩) l items:=⟨_,hl,rfl,n,rfl⟩
  wp_walk using AutoSeq1.wpAny_loadPart' hl
  refine wpAny_stack_any fun st=>wpAny_pure ?_
  have fx:Builtin.SmallTypes.indexObject "enumerate.__new__" (.int 1 t)=pure (.int 1 t):=rfl
  split
  ·rename_i c _ _ _ _ _
   cases (c == Value.type "enumerate")
   ·wp_walk using wpAny_of_eq fx,wpAny_pyIter_list fL
    exact ⟨_,rfl,y⟩
   ·wp_walk using wpAny_of_eq fx,wpAny_pyIter_list fL
    exact ⟨_,rfl,y⟩
  ·wp_walk using wpAny_of_eq fx,wpAny_pyIter_list fL
   exact ⟨_,rfl,y⟩
theorem Hf (a:Value) (t:Tok):checkTypeCall "enumerate" ⟨[a],[("start",.int 1 t)]⟩=pure ():=by kernel_rfl
theorem Ir (a:Value) (t:Tok):checkBuiltinCall "enumerate.__new__" ⟨[.type "enumerate",a],[("start",.int 1 t)]⟩=pure ():=by kernel_rfl
theorem Ho (o a:Value) (t:Tok):argsOk "object.__init__" ⟨[o,a],[("start",.int 1 t)]⟩:=by
 first | exact trivial | kernel_rfl | (unfold argsOk;kernel_rfl)
theorem Lx {l:Addr} {items:Array Value} {t:Tok} {Q:Value->Shared->Prop} (hL:s.heap.IsList l items)
 (h:∀h',IsEnum h' (s.heap.objs.size+1) s.heap.objs.size 1 .none->h'.IsListIter s.heap.objs.size l 0->h'.objs.size=s.heap.objs.size+2->(∀b o,s.heap.get? b=some o->h'.get? b=some o)->Q (.ref (s.heap.objs.size+1)) { s with heap:=h' }) :
 wpAny (model prog w) A (call (.type "enumerate") [.ref l] [("start",.int 1 t)]) Q E s:=by
 obtain ⟨⟨c,dct,dt,sl⟩,hl,hc,n,hd⟩:=hL
 replace hc:c=.type "list":=hc
 replace hd:dt=.seq items n:=hd
 subst hc hd
 refine Qz (Q₁:=fun o z=>z.TypeIs o "enumerate"/\Q o z) F.called_enumerate (Hf _ _) (Ir _ _) F.entry_enumerate_new F.entry_object_init (Ol l items n dct sl t) ⟨hl,?_⟩
  fun o z y=>⟨y.1,Ho o _ _,_,PU F.called_enumerate.init.lookup F.called_enumerate.made (by decide),y.1,rfl,y.2⟩
 have hz:(s.heap.push { cls:=.type "list_iterator",data:=.fields #[.ref l,.int 0 0] }).objs.size=s.heap.objs.size+1:=Heap.size_push ..
 show _/\_
 rw [hz]
 have he:IsEnum ((s.heap.push { cls:=.type "list_iterator",data:=.fields #[.ref l,.int 0 0] }).push { cls:=.type "enumerate",data:=.fields #[.none,.bool false,.ref s.heap.objs.size,rawInt 1,.none,.none] }) (s.heap.objs.size+1) s.heap.objs.size 1 .none:=by
  have e:=Heap.get?_push_size (s.heap.push { cls:=.type "list_iterator",data:=.fields #[.ref l,.int 0 0] }) (o:={ cls:=.type "enumerate",data:=.fields #[.none,.bool false,.ref s.heap.objs.size,rawInt 1,.none,.none] }) rfl
  rw [hz] at e
  exact e
 exact ⟨⟨_,he,rfl⟩,h _ he ⟨_,Heap.get?_push_of_some _ (Heap.get?_push_size _ rfl),rfl,rfl⟩ (by rw [Heap.size_push,hz]) fun b o x=>Heap.get?_push_of_some _ (Heap.get?_push_of_some _ x)⟩
end
section
variable {M:Model} {A:Around} {E:Value->Shared->Prop} {s:Shared} {env:Env}
theorem Qm {pos:Pos} {T:String} {e:Expr} {kws:List Keyword} {Q:Value->Shared->Prop}
 (h:wpAny M A (spliced (backTo pos (starEach [e] env))) (fun vs z=>wpAny M A (evalAll ((backToKw pos (keywordEach kws env)).map (·.2))) (fun us y=>wpAny M A (call (.type T) vs (((backToKw pos (keywordEach kws env)).filterMap (·.1)).zip us)) Q E y) E z) E s)
 (he:backTo pos (starEach [e] env)=(false,eval e env) :: backTo pos (starEach [] env)) (hp:(backTo pos (starEach [e] env)).any (·.1)=false)
 (ha:(backToKw pos (keywordEach kws env)).all (·.1.isSome)=true) (hk:(backToKw pos (keywordEach kws env)).any (·.1.isNone)=false) :
 wpAny M A (callWith pos (.type T) [] (backTo pos (starEach [e] env)) (backToKw pos (keywordEach kws env))) Q E s:=by
 unfold callWith
 have y:wpAny M A (evalArgs (.type T) true (backTo pos (starEach [e] env)) (backToKw pos (keywordEach kws env))) (fun a z=>wpAny M A (call (.type T) ([]++a.pos) a.kw) Q E z) E s:=by
  rw [he] at h ⊢
  exact evalArgs_kwB ha h
 refine wpAny_bind (wpAny_holding (wpAny_mono y (fun a z q=>wpAny_bind (wpAny_standAt ?_)) fun _ _ x=>x))
 simp only [hp,hk,Bool.or_false]
 refine wpAny_bind (wpAny_pure (wpAny_bind ?_))
 exact wpAny_mono q (fun r z hr=>wpAny_bind (wpAny_holding (wpAny_point (wpAny_pure hr)))) fun _ _ x=>x
end
noncomputable def OW (K:PySem.W.Frag) (a:Addr):It :=
 ⟨fun i H=>∃xs x,SqL K H a xs/\xs[i]?=some x,fun i H x H'=>∃T y,x=.ref T/\H T=none/\H'=upd H T (.tup [.int ((i:Int)+1),y])/\∀xs,SqL K H a xs->xs[i]?=some y,fun i H=>∃xs,SqL K H a xs/\xs.length=i⟩
theorem PC {prog:Program} {w:World} {A:Around} (hh:A.handled=none) (it l:Addr) (hne:l≠it) (items:Array Value) :
 Draws prog w A it [it,l] (items.size+1) (fun i v=>items[i - 1]?=some v) (fun i h=>1<=i/\h.IsListIter it l (i - 1)/\h.IsList l items) where
 live:=fun _ _ st=>let ⟨o,ho,_⟩:=st.2.1;⟨o,ho⟩
 frame:=fun _ _ _ st hk=>⟨st.1,st.2.1.at fun o e=>hk it (by simp) o e,st.2.2.at fun o e=>hk l (by simp) o e⟩
 item:=fun i s Q E hi st hQ=>by
  obtain ⟨h1,h2,h3⟩:=st
  have lt:i - 1 < items.size:=by omega
  refine wpAny_nextOf_list_item h2 h3 (x:=items[i - 1]) (by simp [lt]) fun h' hit' hs'=>?_
  have e:i+1 - 1=i - 1+1:=by omega
  exact hQ _ h' s.toks (by simp [lt]) ⟨by omega,by rw [e];exact hit',h3.extBut hs'.extBut hne⟩ hs'
 done:=fun s Q E st hE=>wpAny_nextOf_list_end hh st.2.1 st.2.2 (by simp) hE
theorem LX {P:Program} {w:World} {K:PySem.W.Frag} {es:List Expr} {k:Nat} {pos:Pos} (a e it:Addr) (hne:e≠it) (hea:e≠a) (hai:a≠it) :
 Ke P w K (.Tuple es k pos) (OW K a) [e,it] e (fun i h=>(∃old,IsEnum h e it ((i+1:Nat):Int) old)/\h.IsListIter it a i) where
 mem:=by simp
 obj:=fun i h st b hb=>by
  obtain ⟨⟨old,he⟩,o,e1,c,d⟩:=st
  rcases mem_cons.mp hb with z | z
  ·subst z
   exact ⟨_,he,fun v z=>by cases (show Data.fields _=Data.cell v from z)⟩
  ·have z':b=it:=by simpa using z
   subst z'
   exact ⟨o,e1,fun v z=>by rw [d] at z;cases z⟩
 keep:=fun i h h' st kk=>by
  obtain ⟨⟨old,he⟩,st⟩:=st
  exact ⟨⟨old,kk e (by simp) _ he⟩,st.at fun o q=>kk it (by simp) o q⟩
 item:=by
  intro X hP hw hK hc i pins s σ H E I hf st hg
  subst hP hw hK
  obtain ⟨xs,x,hq,hx⟩:=hg
  obtain ⟨its,rv,p,hz⟩:=I.list hq
  obtain ⟨u,hu,ru⟩:=rv.get hx
  obtain ⟨⟨old,he⟩,hit⟩:=st
  have hlt:i+1 < its.toArray.size+1:=by
   have:=(List.getElem?_eq_some_iff.mp hu).1
   rw [size_toArray]
   omega
  refine wpAny_pyNext_enum_itemD (PC (A:=X.A.in1) (I.ok.hd hc) it a hai its.toArray) (i:=i+1) he ⟨by omega,hit,p.isList⟩ hlt hne (by simp [hne,hea]) fun v h1 tk pv ho st1 hT hsz hk=>⟨_,rfl,?_⟩
  have ev:v=u:=by
   have pv':its.toArray[i+1 - 1]?=some v:=pv
   rw [Nat.add_sub_cancel] at pv'
   have:its[i]?=some v:=by simpa using pv'
   rw [hu] at this
   exact (Option.some.inj this).symm
  subst ev
  refine wpAny_letOwnedTupleGo_enum ho fun h2 he2 sb=>?_
  have fr:H s.heap.objs.size=none:=I.hok.fresh (Nat.le_refl _)
  have lte:e < s.heap.objs.size:=Heap.lt_size he
  have lti:it < s.heap.objs.size:=by obtain ⟨o,q,_⟩:=id hit;exact Heap.lt_size q
  have hit1:h1.IsListIter it a (i+1):=st1.2.1
  refine ⟨.ref s.heap.objs.size,upd H s.heap.objs.size (.tup [.int ((i:Int)+1),x]),?_,rfl,⟨_,x,rfl,fr,rfl,fun ys hy=>by rw [I.list_inj hy hq];exact hx⟩,⟨⟨_,by simpa using he2⟩,hit1.at fun o q=>(sb.2 it (Ne.symm hne)).trans q⟩,fun b hb=>?_⟩
  ·refine I.laidTurned (fp:=[e,it]) (t':=tk+1) (fun b o hb q=>(sb.2 b (fun z=>hb (by simp [z]))).trans (hk b o (fun z=>hb (by simp [z])) (fun z=>hb (by simp [z])) q)) hf (Nat.le_refl _) ?_
   refine ⟨by show 2<=sizeLine;decide,[.int ((i+1:Nat):Int) tk,v],.cons ⟨tk,by simp⟩ (.cons ru .nil),⟨_,(sb.2 _ (Nat.ne_of_gt lte)).trans hT,rfl,_,rfl⟩⟩
  ·rw [A8 (fun z=>?_)]
   ·exact (hf b hb).1
   ·rcases mem_cons.mp hb with q | q
    ·rw [q] at z;exact absurd lte (by rw [z];exact Nat.lt_irrefl _)
    ·have q':b=it:=by simpa using q
     rw [q'] at z;exact absurd lti (by rw [z];exact Nat.lt_irrefl _)
 done:=by
  intro X hP hw hK hc i pins s σ H E I hf st hg
  subst hP hw hK
  obtain ⟨xs,hq,hx⟩:=hg
  obtain ⟨its,rv,p,hz⟩:=I.list hq
  obtain ⟨f0,f1,f2,f3,f4,f5⟩:=hf it (by simp)
  obtain ⟨⟨old,he⟩,hit⟩:=st
  have hl:=rv.length
  have ei:i=its.toArray.size:=by rw [size_toArray];omega
  subst ei
  exact wpAny_pyNext_enum_endD (PC (A:=X.A.in1) (I.ok.hd hc) it a hai its.toArray) he ⟨by omega,hit,p.isList⟩ fun h' eb=>⟨rfl,I.turned (t':=s.toks) (fun b o hb e=>eb b o hb e) f0 f1 f3 f4 f5⟩
 self:=fun _ _ _ _ _ st h=>by
  obtain ⟨⟨old,he⟩,_⟩:=st
  exact wpAny_pyIter_enum he h
section
variable {X:Cx}
noncomputable def R4 (K:PySem.W.Frag) (te:TE):TI:=fun σ H R=>te σ H fun v H1=>∃a,v=.ref a/\(∃xs,SqL K H1 a xs)/\R (OW K a) H1
theorem PD {l:Expr} {te:TE} {p pos pt kp:Pos} {cst:Expr} {es:List Expr} {k:Nat} (hg:Gl X "enumerate") (hm:X.mg "enumerate"=none) (he:PE X l te) (hc:PE X cst (tC (.int 1)))
 (h1:backTo pos (starEach [l] X.env)=(false,eval l X.env) :: backTo pos (starEach [] X.env):=by rfl) (h2:(backTo pos (starEach [l] X.env)).any (·.1)=false:=by rfl)
 (h3:(backToKw pos (keywordEach [⟨some "start",cst,kp⟩] X.env)).all (·.1.isSome)=true:=by rfl) (h4:(backToKw pos (keywordEach [⟨some "start",cst,kp⟩] X.env)).any (·.1.isNone)=false:=by rfl)
 (h5:(backToKw pos (keywordEach [⟨some "start",cst,kp⟩] X.env)).filterMap (·.1)=[("start":Str)]:=by rfl) :
 PI X (.Tuple es k pt) (.Call (.Name "enumerate" p) [l] [⟨some "start",cst,kp⟩] pos) (R4 X.K te):=by
 intro pins s σ H R I h
 refine wpAny_Call_Name_kw (CI I hg hm boot_enumerate ?_ (by decide) (by decide))
 refine Qm ?_ h1 h2 h3 h4
 rw [h1]
 refine Calls.spliced_cons (thn (he pins s σ H _ I h) fun u s1 ⟨x,H1,I1,r1,a,hx,⟨xs,hq⟩,q⟩=>?_)
 subst hx
 cases r1
 refine Calls.spliced_nil ?_
 refine kws_cons (thn (hc pins s1 σ H1 (fun v H'=>v=.int 1/\H'=H1) I1 ⟨rfl,rfl⟩) fun v s2 ⟨y,H2,I2,r2,e1,e2⟩=>kws_nil ?_)
 subst e1 e2
 obtain ⟨t,rfl⟩:=r2
 rw [h5]
 show wpAny (model X.prog X.w) X.A (call (.type "enumerate") [.ref a] [("start",.int 1 t)]) _ _ s2
 obtain ⟨its,rv,pl,hz⟩:=I2.list hq
 have lta:a < s2.heap.objs.size:=by obtain ⟨o,q,_⟩:=pl.isList;exact Heap.lt_size q
 refine Lx pl.isList fun h' hen hit hsz hk=>?_
 refine wpAny_pyIter_enum (s:={ s2 with heap:=h' }) hen ?_
 refine ⟨s2.heap.objs.size+1,[s2.heap.objs.size+1,s2.heap.objs.size],_,_,H2,rfl,I2.kept (t':=s2.toks) hk,LX a _ _ (Nat.succ_ne_self _) (Nat.ne_of_gt (Nat.lt_succ_of_lt lta)) (Nat.ne_of_lt lta),⟨⟨_,hen⟩,hit⟩,fun b hb=>?_,q⟩
 have ge:s2.heap.objs.size<=b:=by
  rcases mem_cons.mp hb with z | z
  ·rw [z];exact Nat.le_succ _
  ·have z':b=s2.heap.objs.size:=by simpa using z
   rw [z'];exact Nat.le_refl _
 exact I2.fpOk ge (I2.hok.fresh ge)
end
theorem Oi {K:PySem.W.Frag} {a:Addr} {xs:List V} {g:TG} {tb:TS} {D:Gi} {σ:St} {H:Hp} (Pv:Nat->St->Hp->Prop) (h0:Pv 0 σ H) (hl:∀i σ H,i<=xs.length->Pv i σ H->SqL K H a xs)
 (hs:∀i x T σ H,xs[i]?=some x->Pv i σ H->H T=none->g (.ref T) σ (upd H T (.tup [.int ((i:Int)+1),x])) fun σ2 H2=>tb { D with nx:=Pv (i+1),ct:=Pv (i+1),bk:=D.nx } σ2 H2) (hd:∀σ H,Pv xs.length σ H->D.nx σ H) :
 ∃W:Nat->Nat->St->Hp->Prop,(∃m,W 0 m σ H)/\∀i m σ H,W i m σ H ->
  ((OW K a).stop i H/\D.nx σ H)\/((OW K a).go i H/\∃N:St->Hp->Prop,(∀σ' H',N σ' H'->∃m',m' < m/\W (i+1) m' σ' H')/\∀x H',(OW K a).yld i H x H'->g x σ H' fun σ2 H2=>tb { D with nx:=N,ct:=N,bk:=D.nx } σ2 H2):=by
 refine ⟨fun i m σ H=>m=xs.length - i/\i<=xs.length/\Pv i σ H,⟨xs.length,by simp,Nat.zero_le _,h0⟩,?_⟩
 rintro i m σ H ⟨rfl,hi,p⟩
 have q:=hl i σ H hi p
 by_cases hlt:i < xs.length
 ·refine .inr ⟨⟨xs,xs[i],q,by simp [hlt]⟩,Pv (i+1),fun σ' H' p'=>⟨xs.length - (i+1),by omega,rfl,hlt,p'⟩,fun x H' y=>?_⟩
  obtain ⟨T,y,rfl,hT,rfl,hy⟩:=y
  exact hs i y T σ H (hy xs q) p hT
 ·have e:i=xs.length:=by omega
  subst e
  exact .inl ⟨⟨xs,q,rfl⟩,hd σ H p⟩
end L2
namespace L2
open PySem PySem.Spec PyProof.Rows
section
variable {prog:Program} {w:World} {A:Around} {E:Value->Shared->Prop} {s:Shared}
theorem PQ {j t:Addr} {i:Nat} {xs:Array Value} {x:Value} {Q:Value->Shared->Prop} (ji:s.heap.IsTupleIter j t i) (jt:s.heap.IsTuple t xs) (jx:xs[i]?=some x)
 (q:∀h',h'.IsTupleIter j t (i+1)->Heap.SameBut j s.heap h'->Q x { s with heap:=h' }):wpAny (model prog w) A (Builtin.SmallTypes.nextOf (.ref j)) Q E s:=by
 obtain ⟨o,jo,jc,jd⟩:=id ji
 obtain ⟨u,ju,_,n,je⟩:=jt
 unfold Builtin.SmallTypes.nextOf;refine wpAny_bind (wpAny_callSpecial?_slot (name:=Str.ofString "__next__") ji.typeIs F.slot_tuple_iterator_next (wpAny_call_entry F.slot_tuple_iterator_next ji.typeIs F.entry_tuple_iterator_next ?_ (F.args_tuple_iterator_next_1 _)))
 refine wpAny_bind (m:=field (.ref j) 0) (wpAny_field jo jd (x:=.ref t) rfl ?_)
 show wpAny _ _ (if (Value.ref t == .none)=true then _ else _) _ _ s;rw [if_neg (show ¬ (Value.ref t == .none)=true from Bool.false_ne_true)]
 refine wpAny_bind (m:=field (.ref j) 1) (wpAny_field jo jd (x:=.int i 0) rfl ?_)
 refine wpAny_bind (m:=seqItems? (.ref t)) (wpAny_seqItems ju je ?_)
 simp only [jx,Int.toNat_natCast]
 refine wpAny_bind (wpAny_setField jo jd (by simp) (wpAny_pure ⟨x,rfl,wpAny_pure (q _ ⟨_,Heap.get?_update_self _ jo (Obj.isFreed_of_fields (Obj.data_mapFields jd _)),(Obj.cls_mapFields ..).trans jc,?_⟩ (Heap.SameBut.update ..))⟩))
 rw [Obj.data_mapFields jd];simp [rawInt]
theorem Px {j t:Addr} {i:Nat} {xs:Array Value} {Q:Value->Shared->Prop} (hn:A.handled=none) (ji:s.heap.IsTupleIter j t i) (jt:s.heap.IsTuple t xs) (jx:xs[i]?=none)
 (q:∀h' e,Heap.ExtBut j s.heap h'->(∃o,h'.get? e=some o/\o.cls=.type "StopIteration")->E (.ref e) { s with heap:=h' }):wpAny (model prog w) A (Builtin.SmallTypes.nextOf (.ref j)) Q E s:=by
 obtain ⟨o,jo,jc,jd⟩:=id ji
 obtain ⟨u,ju,_,n,je⟩:=jt
 unfold Builtin.SmallTypes.nextOf;refine wpAny_bind (wpAny_callSpecial?_slot (name:=Str.ofString "__next__") ji.typeIs F.slot_tuple_iterator_next (wpAny_call_entry F.slot_tuple_iterator_next ji.typeIs F.entry_tuple_iterator_next ?_ (F.args_tuple_iterator_next_1 _)))
 refine wpAny_bind (m:=field (.ref j) 0) (wpAny_field jo jd (x:=.ref t) rfl ?_)
 show wpAny _ _ (if (Value.ref t == .none)=true then _ else _) _ _ s;rw [if_neg (show ¬ (Value.ref t == .none)=true from Bool.false_ne_true)]
 refine wpAny_bind (m:=field (.ref j) 1) (wpAny_field jo jd (x:=.int i 0) rfl ?_)
 refine wpAny_bind (m:=seqItems? (.ref t)) (wpAny_seqItems ju je ?_)
 simp only [jx,Int.toNat_natCast]
 refine wpAny_bind (wpAny_rule (wpAny_bind (wpAny_setField jo jd (by simp) (wpAny_bind (m:=newExc (.type "StopIteration") []) ?_))))
 simp only [newExc,newTuple];refine wpAny_bind (wpAny_newObj_type (wpAny_bind (m:=firstArgMember _ _) (wpAny_of_eq (a:=Value.none) (by first | rfl | (simp only [firstArgMember];rfl)) (wpAny_newObj_type ?_ (by size_fits)))) (by size_fits))
 simp only [raiseNew];refine wpAny_bind (wpAny_handled ?_)
 first | rw [show A.in1.handled=none from hn] | rw [hn]
 exact wpAny_bind (wpAny_pure (wpAny_throw (q _ _ (((Heap.SameBut.update ..).extBut.push _).push _) ⟨_,Heap.get?_push_size _ rfl,rfl⟩)))
theorem R3 {e j t:Addr} {i:Nat} {k:Int} {old:Value} {xs:Array Value} {Q:Option Value->Shared->Prop} (hn:A.handled=none) (je:IsEnum s.heap e j k old) (ji:s.heap.IsTupleIter j t i) (jt:s.heap.IsTuple t xs) (jx:xs[i]?=none)
 (q:∀h',Heap.ExtBut j s.heap h'->Q none { s with heap:=h' }):wpAny (model prog w) A (pyNext (.ref e)) Q E s:=by
 have ty:s.TypeIs (.ref e) "enumerate":=⟨_,je,rfl⟩
 unfold pyNext;refine wpAny_bind (wpAny_attempt (wpAny_callSpecial?_slot (name:=Str.ofString "__next__") ty F.slot_enumerate_next (wpAny_call_entry F.slot_enumerate_next ty F.entry_enumerate_next ?_ (F.args_enumerate_next_1 _))))
 refine wpAny_bind (m:=field (.ref e) 2) (wpAny_field je rfl (x:=.ref j) rfl (wpAny_bind (Px (by simp [hn]) ji jt jx fun h' x y ⟨o,z,c⟩=>?_)))
 exact wpAny_bind (wpAny_isInstance (T:="StopIteration") (b:=true) ⟨o,z,c⟩ isSubtype_stop (wpAny_pure (q _ y)))
theorem RD (hn:A.handled=none) (j t:Addr) (hne:t≠j) (xs:Array Value):Draws prog w A j [j,t] xs.size (fun i v=>xs[i]?=some v) (fun i h=>h.IsTupleIter j t i/\h.IsTuple t xs) where
 live:=fun _ _ z=>let ⟨o,e,_⟩:=z.1;⟨o,e⟩
 frame:=fun _ _ _ z k=>⟨let ⟨o,e,r⟩:=z.1;⟨o,k j (by simp) o e,r⟩,let ⟨o,e,r⟩:=z.2;⟨o,k t (by simp) o e,r⟩⟩
 item:=fun i s Q E hi z q=>PQ z.1 z.2 (x:=xs[i]) (by simp [hi]) fun h' a b=>q _ h' s.toks (by simp [hi]) ⟨a,z.2.extBut b.extBut hne⟩ b
 done:=fun s Q E z q=>Px hn z.1 z.2 (by simp) q
theorem OF (t:Addr) (xs:Array Value) (n:Nat) (dct:Option Addr) (sl:Array (Option Value)) :
 Meets (Builtin.«enumerate.__new__» ⟨[.type "enumerate",.ref t],[]⟩) (fun _ R s=>s.heap.get? t=some { cls:=.type "tuple",dict:=dct,data:=.seq xs n,slots:=sl } /\
  R (.ok (.ret (.ref (s.heap.push { cls:=.type "tuple_iterator",data:=.fields #[.ref t,.int 0 0] }).objs.size)))
    { s with heap:=(s.heap.push { cls:=.type "tuple_iterator",data:=.fields #[.ref t,.int 0 0] }).push { cls:=.type "enumerate",data:=.fields #[.none,.bool false,.ref s.heap.objs.size,rawInt 0,.none,.none] } }) :=
 .of_wp fun prog w A R s y=>by
  obtain ⟨hp,g,d,tk,os⟩:=s
  obtain ⟨jl,y⟩:=y
  have fs:=sub_enumerate
  have fL:Heap.IsTuple (Shared.heap ⟨hp,g,d,tk,os⟩) t xs:=⟨_,jl,rfl,n,rfl⟩
  wp_walk using AutoSeq1.wpAny_loadPart' jl
  refine wpAny_stack_any fun st=>wpAny_pure ?_
  split
  ·rename_i c _ _ _ _ _
   cases (c == Value.type "enumerate") <;> (wp_walk using AutoSeq1.wpAny_loadPart' jl,wpAny_pyIter_tuple fL;exact ⟨_,rfl,y⟩)
  ·wp_walk using AutoSeq1.wpAny_loadPart' jl,wpAny_pyIter_tuple fL;exact ⟨_,rfl,y⟩
theorem LO {t:Addr} {xs:Array Value} {Q:Value->Shared->Prop} (jt:s.heap.IsTuple t xs)
 (q:∀h',IsEnum h' (s.heap.objs.size+1) s.heap.objs.size 0 .none->h'.IsTupleIter s.heap.objs.size t 0->h'.objs.size=s.heap.objs.size+2->(∀b o,s.heap.get? b=some o->h'.get? b=some o)->Q (.ref (s.heap.objs.size+1)) { s with heap:=h' }) :
 wpAny (model prog w) A (call (.type "enumerate") [.ref t]) Q E s:=by
 obtain ⟨⟨c,dct,dt,sl⟩,jl,jc,n,jd⟩:=jt
 cases (show c=.type "tuple" from jc)
 cases (show dt=.seq xs n from jd)
 refine callType_new F.called_enumerate (by decide) (F.typeCall_enumerate_1 _) (F.newCall_enumerate_1 _) (fun o=>F.args_object_init_2 o _) F.entry_enumerate_new (OF t xs n dct sl) ⟨jl,?_⟩
 have z1:(s.heap.push { cls:=.type "tuple_iterator",data:=.fields #[.ref t,.int 0 0] }).objs.size=s.heap.objs.size+1:=Heap.size_push ..
 generalize eh:s.heap.push { cls:=.type "tuple_iterator",data:=.fields #[.ref t,.int 0 0] }=g1 at z1 ⊢
 have e1:IsEnum (g1.push { cls:=.type "enumerate",data:=.fields #[.none,.bool false,.ref s.heap.objs.size,rawInt 0,.none,.none] }) (s.heap.objs.size+1) s.heap.objs.size 0 .none:=by
  rw [<- z1];exact Heap.get?_push_size g1 rfl
 show _/\_;rw [z1]
 refine ⟨⟨_,e1,rfl⟩,q _ e1 ⟨_,Heap.get?_push_of_some _ (by rw [<- eh];exact Heap.get?_push_size _ rfl),rfl,rfl⟩ (by rw [Heap.size_push,z1]) fun b o x=>Heap.get?_push_of_some _ (by rw [<- eh];exact Heap.get?_push_of_some _ x)⟩
end
noncomputable def Op (K:PySem.W.Frag) (a:Addr):It :=
 ⟨fun i H=>∃xs x,SqT K H a xs/\xs[i]?=some x,fun i H x H'=>∃T y,x=.ref T/\H T=none/\H'=upd H T (.tup [.int (i:Int),y])/\∀xs,SqT K H a xs->xs[i]?=some y,fun i H=>∃xs,SqT K H a xs/\xs.length<=i⟩
theorem LU {P:Program} {w:World} {K:PySem.W.Frag} {es:List Expr} {k:Nat} {pos:Pos} (a e it:Addr) (hne:e≠it) (hea:e≠a) (hia:a≠it) :
 Ke P w K (.Tuple es k pos) (Op K a) [e,it] e (fun i h=>(∃old,IsEnum h e it (i:Nat) old)/\h.IsTupleIter it a i) where
 mem:=by simp
 obj:=fun i h st b hb=>by
  obtain ⟨⟨old,he⟩,o,e1,c,d⟩:=st
  rcases mem_cons.mp hb with z | z
  ·subst z
   exact ⟨_,he,fun v z=>by cases (show Data.fields _=Data.cell v from z)⟩
  ·have z':b=it:=by simpa using z
   subst z'
   exact ⟨o,e1,fun v z=>by rw [d] at z;cases z⟩
 keep:=fun i h h' st kk=>by
  obtain ⟨⟨old,he⟩,o,q,r⟩:=st
  exact ⟨⟨old,kk e (by simp) _ he⟩,o,kk it (by simp) o q,r⟩
 item:=by
  intro X hP hw hK hc i pins s σ H E I hf st hg
  subst hP hw hK
  obtain ⟨xs,x,hq,hx⟩:=hg
  obtain ⟨its,rv,p,hz⟩:=I.tuple hq
  obtain ⟨u,hu,ru⟩:=rv.get hx
  obtain ⟨⟨old,he⟩,hit⟩:=st
  have pT:s.heap.IsTuple a its.toArray:=p
  have hi:i < its.toArray.size:=by
   have:=(List.getElem?_eq_some_iff.mp hu).1
   simpa using this
  refine wpAny_pyNext_enum_itemD (RD (by simp [I.ok.hd hc]) it a hia its.toArray) he ⟨hit,pT⟩ hi hne (by simp [hne,hea]) fun x' h1 tk hPx ho hit1 hT hsz hk=>⟨_,rfl,?_⟩
  have ex:x'=u:=by
   have:its.toArray[i]?=some u:=by simpa using hu
   rw [this] at hPx
   exact (Option.some.inj hPx).symm
  subst ex
  refine wpAny_letOwnedTupleGo_enum ho fun h2 he2 sb=>?_
  have fr:H s.heap.objs.size=none:=I.hok.fresh (Nat.le_refl _)
  have lte:e < s.heap.objs.size:=Heap.lt_size he
  have lti:it < s.heap.objs.size:=by obtain ⟨o,q,_⟩:=id hit;exact Heap.lt_size q
  refine ⟨.ref s.heap.objs.size,upd H s.heap.objs.size (.tup [.int (i:Int),x]),?_,rfl,⟨_,x,rfl,fr,rfl,fun ys hy=>by rw [I.tuple_inj hy hq];exact hx⟩,⟨⟨_,by simpa using he2⟩,?_⟩,fun b hb=>?_⟩
  ·refine I.laidTurned (fp:=[e,it]) (t':=tk+1) (fun b o hb q=>(sb.2 b (fun z=>hb (by simp [z]))).trans (hk b o (fun z=>hb (by simp [z])) (fun z=>hb (by simp [z])) q)) hf (Nat.le_refl _) ?_
   refine ⟨by show 2<=sizeLine;decide,[.int i tk,x'],.cons ⟨_,rfl⟩ (.cons ru .nil),⟨_,(sb.2 _ (Nat.ne_of_gt lte)).trans hT,rfl,_,rfl⟩⟩
  ·obtain ⟨o,q,r⟩:=hit1.1
   exact ⟨o,(sb.2 it (Ne.symm hne)).trans q,r⟩
  ·rw [A8 (fun z=>?_)]
   ·exact (hf b hb).1
   ·rcases mem_cons.mp hb with q | q
    ·rw [q] at z;exact absurd lte (by rw [z];exact Nat.lt_irrefl _)
    ·have q':b=it:=by simpa using q
     rw [q'] at z;exact absurd lti (by rw [z];exact Nat.lt_irrefl _)
 done:=by
  intro X hP hw hK hc i pins s σ H E I hf st hg
  subst hP hw hK
  obtain ⟨xs,hq,hx⟩:=hg
  obtain ⟨its,rv,p,hz⟩:=I.tuple hq
  obtain ⟨f0,f1,f2,f3,f4,f5⟩:=hf it (by simp)
  obtain ⟨⟨old,he⟩,hit⟩:=st
  have hl:=rv.length
  exact R3 (I.ok.hd hc) he hit (show s.heap.IsTuple a its.toArray from p) (by simp;omega) fun h' eb=>⟨rfl,I.turned (t':=s.toks) (fun b o hb e=>eb b o hb e) f0 f1 f3 f4 f5⟩
 self:=fun _ _ _ _ _ st h=>by
  obtain ⟨⟨old,he⟩,_⟩:=st
  exact wpAny_pyIter_enum he h
section
variable {X:Cx}
noncomputable def QX (K:PySem.W.Frag) (ta:TA):TI:=fun σ H R=>ta σ H fun vs H1=>∃a,vs=[.ref a]/\(∃xs,SqT K H1 a xs)/\R (Op K a) H1
theorem Pd {l:Expr} {ta:TA} {p pos pt:Pos} {es:List Expr} {k:Nat} (hg:Gl X "enumerate") (hm:X.mg "enumerate"=none) (ha:PA X [l] ta) (hs:starEach [l] X.env=[(false,eval l X.env)]:=by rfl) :
 PI X (.Tuple es k pt) (.Call (.Name "enumerate" p) [l] [] pos) (QX X.K ta):=by
 intro pins s σ H R I h
 refine Call_ (CI I hg hm boot_enumerate (PyProof.Rows.callWith_type1 (thn (ha pos pins s σ H _ I h) fun us s1 ⟨vs,H1,I1,r1,q1⟩=>?_) hs rfl))
 obtain ⟨a,e,⟨xs,hq⟩,q⟩:=q1
 subst e
 cases r1 with
 | cons r rr =>
   cases rr
   cases r
   obtain ⟨its,rv,pl,hz⟩:=I1.tuple hq
   have pT:s1.heap.IsTuple a its.toArray:=pl
   have la:a < s1.heap.objs.size:=by obtain ⟨o,z,_⟩:=id pT;exact Heap.lt_size z
   refine LO pT fun h' he hit hsz hk=>?_
   refine wpAny_pyIter_enum (s:={ s1 with heap:=h' }) he ?_
   refine ⟨s1.heap.objs.size+1,[s1.heap.objs.size+1,s1.heap.objs.size],_,_,H1,rfl,I1.kept (t':=s1.toks) hk,LU a _ _ (Nat.succ_ne_self _) (Nat.ne_of_gt (Nat.lt_succ_of_lt la)) (Nat.ne_of_lt la),⟨⟨_,he⟩,hit⟩,fun b hb=>?_,q⟩
   have ge:s1.heap.objs.size<=b:=by
    rcases mem_cons.mp hb with z | z
    ·rw [z];exact Nat.le_succ _
    ·have z':b=s1.heap.objs.size:=by simpa using z
     rw [z'];exact Nat.le_refl _
   exact I1.fpOk ge (I1.hok.fresh ge)
end
theorem NI {K:PySem.W.Frag} {a:Addr} {xs:List V} {g:TG} {tb:TS} {D:Gi} {σ:St} {H:Hp} (Pv:Nat->St->Hp->Prop) (h0:Pv 0 σ H) (hl:∀i σ H,i<=xs.length->Pv i σ H->SqT K H a xs)
 (hs:∀i x T σ H,xs[i]?=some x->Pv i σ H->H T=none->g (.ref T) σ (upd H T (.tup [.int (i:Int),x])) fun σ2 H2=>tb { D with nx:=Pv (i+1),ct:=Pv (i+1),bk:=D.nx } σ2 H2) (hd:∀σ H,Pv xs.length σ H->D.nx σ H) :
 ∃W:Nat->Nat->St->Hp->Prop,(∃m,W 0 m σ H)/\∀i m σ H,W i m σ H ->
  ((Op K a).stop i H/\D.nx σ H)\/((Op K a).go i H/\∃N:St->Hp->Prop,(∀σ' H',N σ' H'->∃m',m' < m/\W (i+1) m' σ' H')/\∀x H',(Op K a).yld i H x H'->g x σ H' fun σ2 H2=>tb { D with nx:=N,ct:=N,bk:=D.nx } σ2 H2):=by
 refine ⟨fun i m σ H=>m=xs.length - i/\i<=xs.length/\Pv i σ H,⟨xs.length,by simp,Nat.zero_le _,h0⟩,?_⟩
 rintro i m σ H ⟨rfl,hi,p⟩
 have q:=hl i σ H hi p
 by_cases hlt:i < xs.length
 ·refine .inr ⟨⟨xs,xs[i],q,by simp [hlt]⟩,Pv (i+1),fun σ' H' p'=>⟨xs.length - (i+1),by omega,rfl,hlt,p'⟩,fun x H' y=>?_⟩
  obtain ⟨T,y,rfl,hT,rfl,hy⟩:=y
  exact hs i y T σ H (hy xs q) p hT
 ·have e:i=xs.length:=by omega
  subst e
  exact .inl ⟨⟨xs,q,Nat.le_refl _⟩,hd σ H p⟩
end L2
namespace L2
open PySem PySem.Spec PyProof.Rows
section
variable {P:Program} {w:World} {K:PySem.W.Frag} {mg:Str->Option Value} {base:Heap}
end
section
variable {X:Cx} {k:Nat} {f:Addr} {fd:FuncData} {ps:List Str} {sp:Sp} {x:Str} {p pos:Pos} {e:Expr} {es:List Expr} {t:TA}
end
section
variable {X:Cx}
end
end L2
namespace L2
open PySem PySem.Spec PyProof.Rows
section
variable {prog:Program} {w:World} {A:Around} {E:Value->Shared->Prop} {s:Shared}
end
section
variable {X:Cx} {pins:List (Addr × Obj)} {σ:St} {H:Hp}
end
end L2
namespace L2
open PySem PySem.Spec PyProof.Rows
section
variable {prog:Program} {w:World} {A:Around} {E:Value->Shared->Prop} {s:Shared}
end
section
variable {X:Cx}
end
end L2
namespace L2
open PySem PySem.Spec PyProof.Rows
section
variable {P:Program} {w:World} {K:PySem.W.Frag} {mg:Str->Option Value} {base:Heap}
end
section
variable {X:Cx} {CX:CXT} {W:St->XK} {k:Nat} {f C:Addr} {fd:FuncData} {ps:List Str} {sp:Sp} {dvs:List V} {ds:List Value} {E:XK} {x m:Str} {p pos apos:Pos} {e o:Expr} {es:List Expr} {ta:TE} {t:TA}
theorem MI (K:PySem.W.Frag) {g:Str} (he:PE X o ta) (hb:attributeBase o g X.env (eval o X.env)=eval o X.env) (hK:X.K=K:=by rfl):PE X (.Attribute o g pos) (RV K ta g):=by
 subst hK
 exact FR he hb
end
end L2
namespace L2
open PySem PySem.Spec PyProof.Rows
section
variable {X:Cx} {elt iter:Expr} {x:Str} {px pos:Pos} {ifs:List Expr} {sc fsc:Scope} {N Nc:List Str} {wi:TI} {tt:TT} {te:TE}
end
section
variable {X:Cx} {elt iter:Expr} {x y:Str} {py pos:Pos} {ifs:List Expr} {sc sc2 fsc:Scope} {Nc Nd:List Str} {wi:TI} {tt:TT} {te:TE} {cl:List (Str × Addr)} {s:Shared} {H:Hp} {ex:List Addr}
end
end L2
namespace L2
open PySem PySem.W PySem.Spec PyProof.Rows
section
variable {X:Cx} {pins:List (Addr × Obj)} {σ:St} {H:Hp} {s:Shared} {c P:Addr} {pos:Pos} {params:Arguments} {body:Expr} {sc:Scope} {cl:List (Str × Addr)} {q:Str} {M:Model} {A:Around} {E:Value->Shared->Prop} {Q:Value->Shared->Prop}
end
section
variable {X:Cx} {pins:List (Addr × Obj)} {σ:St} {H:Hp} {s:Shared} {params:Arguments} {body:Expr} {sc fsc:Scope} {cl:List (Str × Addr)} {q x:Str} {A:Around} {N Nc:List Str} {f c':Addr} {te:TE} {E:Value->Shared->Prop}
end
section
variable {X:Cx} {pins:List (Addr × Obj)} {σ:St} {H:Hp}
variable {xs:List V} {l f I S:Addr}
end
section
variable {M:Model} {A:Around} {E:Value->Shared->Prop} {s:Shared} {env:Env}
end
section
variable {X:Cx} {c P:Addr} {e body:Expr} {tl tb:TE} {sc fsc:Scope} {N Nc:List Str} {x:Str} {params:Arguments} {lpos kp p pos:Pos}
end
end L2
namespace L2
open PySem PySem.W PySem.Spec PyProof.Rows
section
variable {X:Cx}
noncomputable def QA:V->List V->Hp->VK->Prop:=fun x vs H Q=>∃(l:Addr) (xs:List V) (k:Nat) (y:V),x=.ref l/\vs=[.int (k:Int),y]/\H l=some (.lst xs)/\k<=xs.length/\xs.length < sizeLine/\Q .non (upd H l (.lst (xs.take k++y :: xs.drop k)))
theorem Oj:MtM X "list.insert" QA:=by
 intro pins s σ H x vs v us Q I rx rv h
 obtain ⟨l,xs,k,y,rfl,rfl,hH,hk,hz1,q⟩:=h
 cases rx
 obtain ⟨u1,u2,rfl,ru1,ru2⟩:∃u1 u2,us=[u1,u2]/\Bg (.int (k:Int)) u1/\Bg y u2:=by
  cases rv with
  | cons r1 t=>cases t with
    | cons r2 t2=>cases t2;exact ⟨_,_,rfl,r1,r2⟩
 obtain ⟨t,rfl⟩:=ru1
 obtain ⟨z,its,n,r,hl,e⟩:=I.lstM hH
 have hs:sizeLine=16777216:=sizeLine_eq
 obtain ⟨i,hi⟩:∃i:Int,i=(k:Int):=⟨_,rfl⟩
 rw [<- hi]
 have fi:Builtin.List.listFitsIndex i=true:=fitsIndex_both (by omega) (by omega)
 have zi:its.toArray.size<=sizeLine:=by rw [size_toArray];omega
 refine call_meets PySem.F.slot_list_insert ⟨_,e,rfl⟩ PySem.F.entry_list_insert (PySem.F.args_list_insert_3 _ _ _) (PySem.AutoSeq1.list_insert_list_int_val_1 l its.toArray n i t u2 (by simp [fi]) zi) ⟨e,?_⟩
 refine ⟨.non,_,I.lset (its':=its.take k++u2 :: its.drop k) hH e ?_ ((r.take k).append (.cons ru2 (r.drop k))) ?_,rfl,q⟩
 ·have kk:(if i < 0 then (i+(its.toArray.size:Int)).toNat else min i.toNat its.toArray.size)=k:=by
   rw [if_neg (by omega),hi,Int.toNat_natCast,size_toArray]
   omega
  show (its.toArray.extract 0 (if i < 0 then (i+(its.toArray.size:Int)).toNat else min i.toNat its.toArray.size)).push u2++its.toArray.extract (if i < 0 then (i+(its.toArray.size:Int)).toNat else min i.toNat its.toArray.size)=_
  rw [kk]
  apply Array.ext'
  simp
  exact take_of_length_le (by rw [length_drop];exact Nat.le_refl _)
 ·rw [length_append,length_cons,length_take,length_drop]
  omega
end
section
variable {X:Cx} {e:Expr} {te:TE} {p p2 pos pos2:Pos}
end
end L2
namespace L2
open PySem PySem.W PySem.Spec PyProof.Rows
section
variable {prog:Program} {w:World} {A:Around} {E:Value->Shared->Prop} {s:Shared}
end
section
variable {prog:Program} {w:World} {A:Around} {E:Value->Shared->Prop} {s:Shared}
end
section
variable {X:Cx} {e e2:Expr} {te te2:TE} {p p2 p3 pos pos2 pos3 pos4:Pos}
end
end L2
namespace L2
open PySem PySem.Spec PyProof.Rows
noncomputable def RO (C:Addr) (m:Str) (sp:Sp) (dvs:List V) (W:St->XK) (ta:TE) (t:TA):TE:=fun σ H Q=>ta σ H fun x H1=>∃a dx fs,x=.ref a/\H1 a=some (.ins C dx fs)/\fs.lookup m=none /\
 t σ H1 fun vs H2=>sp (x :: (vs++dvs)) H2 Q (W σ)
section
variable {X:Cx} {W:St->XK} {k:Nat} {f C:Addr} {fd:FuncData} {ps:List Str} {sp:Sp} {dvs:List V} {ds:List Value} {x m:Str} {p pos apos:Pos} {e o:Expr} {es:List Expr} {ta:TE} {t:TA}
theorem Hs {pl:Sem Bool} (B:Gc X) (he:PE (X.wants W) o ta) (c:Cls X.K C) (hm:Ib X.K C m f) (F:Bd X.prog X.w X.K X.mg X.base (CX1 X.prog X.w) k f fd ps sp) (hr:Cq k X.A) (hb:AU X.K fd ps ds) (hd:AX dvs ds) (ha:PA (X.wants W) (e :: es) t)
 (hst:starEach (e :: es) X.env=(false,eval e X.env) :: starEach es X.env:=by rfl) (hpl:(backTo pos (starEach es X.env)).any (·.1)=false:=by rfl)
 (ht:eval (.Call (.Attribute o m apos) (e :: es) [] pos) X.env=(do
  let ov <- eval o X.env
  standAt apos.atName
  let (f,first) <- holding [ov] (getMethod ov m pl)
  callWith pos f first (backTo pos (starEach (e :: es) X.env)) (backToKw pos (keywordEach [] X.env))):=by rfl) :
 PE (X.wants W) (.Call (.Attribute o m apos) (e :: es) [] pos) (RO C m sp dvs W ta t):=by
 intro pins s σ H Q I h
 refine PySem.W.methodCall_KW (pl:=pl) (thn (he pins s σ H _ I h) fun u s1 ⟨x,H1,I1,rx,a,dx,fs,ex,ea,l,q⟩=>?_) ht
 subst ex
 obtain rfl:u=Value.ref a:=rx
 refine F6 I1 ea c hm l ?_
 refine PySem.W.callWith_K (first:=[.ref a]) (h₀:=X.base) I.ok.mod.kin hm.kp (thn (ha pos pins s1 σ H1 _ I1 q) fun us s2 ⟨vs,H2,I2,r,q2⟩=>⟨I2.kIn,?_⟩) hst hpl
 exact Ni (us:=.ref a :: us) (vs:=.ref a :: vs) B F hr hb hd I2 (.cons rfl r) q2
end
end L2
namespace L2
open PySem PySem.W PySem.Spec PyProof.Rows
section
variable {prog:Program} {w:World} {A:Around} {E:Value->Shared->Prop} {s:Shared} {Q:Bool->Shared->Prop}
end
section
variable {X:Cx}
end
end L2
namespace L2
open PySem PySem.Spec PyProof.Rows
section
variable {prog:Program} {w:World} {A:Around} {E:Value->Shared->Prop} {s:Shared} {d:Addr} {es:Array DictEntry} {ep:Nat}
end
section
variable {X:Cx}
end
section
variable {prog:Program} {w:World} {A:Around} {E:Value->Shared->Prop} {s:Shared}
end
section
variable {X:Cx}
end
end L2
namespace PySem
open Sem (wp)
section
variable {prog:Program} {w:World} {K:Type} [DecidableEq K] (knd:KeyKind prog w K)
variable {knd}
variable {A:Around} {E:Value->Shared->Prop} {s:Shared}
end
end PySem
namespace L2
open PySem PySem.Spec PyProof.Rows
section
variable {P:Program} {w:World} {H:Hp} {h:Heap} {a:Addr}
end
section
variable {X:Cx} {o i e value:Expr} {pos pos' tpos:Pos} {td ty tv:TE}
end
end L2
namespace L2
open PySem PySem.Spec PyProof.Rows
section
variable {prog:Program} {w:World} {A:Around} {E:Value->Shared->Prop} {s:Shared}
end
section
variable {prog:Program} {w:World} {A:Around} {E:Value->Shared->Prop} {s:Shared}
end
section
variable {X:Cx} {pins:List (Addr × Obj)} {σ:St} {H:Hp}
end
section
variable {X:Cx} {e:Expr} {te:TE} {p p2 pos pos2:Pos}
end
end L2
namespace L2
open PySem PySem.Spec PyProof.Rows
section
variable {X:Cx} {pins:List (Addr × Obj)} {σ:St} {H:Hp}
end
end L2
namespace L2
open PySem PySem.Spec PyProof.Rows
end L2
namespace L2
open PySem PySem.W PySem.Spec PyProof.Rows
section
variable {O:KeyOrd} {ky:Nat->O.α} {n:Nat} {cmp:Nat->Nat->(Bool->Shared->Prop)->Shared->Prop} {J:Shared->Prop}
end
end L2
namespace L2
open PySem PySem.Spec PyProof.Rows
section
variable {X:Cx}
noncomputable def PN (K:PySem.W.Frag):V->List V->Hp->VK->Prop:=fun x vs H Q=>∃(a:Addr) (zs:List V) (ds:List PyData) (y:V) (d:PyData) (j:Nat),x=.ref a/\vs=[y]/\SqL K H a zs/\Reps K H zs ds/\Rep K H y d/\PyData.canLayAll0 ds=true/\d.canLay0=true/\PyData.depthAll ds<=8/\ds.length < 1000 /\
 (∃e,ds[j]?=some e/\PyData.eqv e d=true)/\(∀(m:Nat) (e:PyData),m < j->ds[m]?=some e->PyData.eqv e d=false)/\Q (.int (j:Int)) H
theorem NY {K:PySem.W.Frag} (hu:X.A.units+64 < cLine) (hK:X.K=K:=by rfl):MtR X "list.index" (PN K):=by
 subst hK
 intro pins s σ H x vs v us Q I rx rv h
 obtain ⟨a,zs,ds,y,d,j,rfl,rfl,hq,hz,hy,c1,c2,dp,len,⟨e,ej,ee⟩,no,q⟩:=h
 obtain ⟨as,r1⟩:=I.reads (.lst hq hz) rx
 cases rv with
 | cons ry rr =>
   cases rr
   obtain ⟨bs,r2⟩:=I.reads hy ry
   cases rx
   cases r1 with
   | @list _ o ws n _ _ h1 h2 h3 h4 =>
     have mp:=SeqAt.readsAll_map ds _ _ c1 h4
     have ln:ws.size=ds.length:=by rw [<- mp,length_map,Array.length_toList]
     have jl:=(List.getElem?_eq_some_iff.mp ej).1
     have at_:∀(m:Nat) (hm:m < ws.size),ds[m]?=some (SeqAt.readOf s.heap ws[m]):=fun m hm=>by
      rw [<- mp,List.getElem?_map,Array.getElem?_toList,Array.getElem?_eq_getElem hm]
      rfl
     obtain ⟨cls,dd,data,sl⟩:=o
     replace h2:cls=.type "list":=h2
     replace h3:data=.seq ws n:=h3
     subst h2 h3
     refine call_meets PySem.F.slot_list_index ⟨_,h1,rfl⟩ PySem.F.entry_list_index (PySem.F.args_list_index_2 _ _) (SeqAt.list_indexAt a ws n dd sl _ (fun y=>PyData.eqv (SeqAt.readOf s.heap y) d) j (by omega) (by omega) ?_ ?_) ⟨h1,SeqAt.items_eqAt h4 r2 c1 c2 ?_,?_⟩
     ·have z:=at_ j (by omega)
      rw [ej] at z
      rw [<- Option.some.inj z]
      exact ee
     ·intro m hm hlt
      exact no m _ hlt (at_ m hm)
     ·have:=Nat.min_le_left (PyData.depthAll ds) d.depth
      omega
     ·exact ⟨.int _,H,I.tok _,⟨_,rfl⟩,q⟩
end
end L2
set_option maxHeartbeats 4000000
namespace Law
open PySem L2
noncomputable def MK (K:PySem.W.Frag):Sp:=fun vs H Q _=>∃(p:Addr) (ns:List Int),vs=[.ref p]/\SqL K H p (ns.map V.int)/\ns.length<=63/\∀H',Q (.bl true) H'
noncomputable def MG:Sp:=fun vs H Q _=>∃c:Int,vs=[.int c]/\Q (.bl true) H
theorem Ai {H:Hp} {p:Addr} (h:H p=none) (o:HO):AJ H (upd H p o):=fun b u q=>by rw [A8 (Bt q h)];exact q
theorem Bh (x:Int) {y:Int} (h:0 < y):0<=x.fmod y/\x.fmod y < y:=⟨Int.fmod_nonneg_of_pos x h,Int.fmod_lt_of_pos x h⟩
theorem QG (x:Int) {y:Int} {n:Nat} (h:0 < y) (k:Sz n y):Sz n (x.fmod y):=by
 have e:=Bh x h
 unfold Sz at k ⊢
 omega
noncomputable def bit (m:Int) (i:Nat):Bool:=decide (m / 2 ^ i % 2=1)
noncomputable def CW:Nat->(Nat->Bool)->Int
 | 0,_=>0
 | n+1,f=>(if f 0=true then 1 else 0)+2*CW n (fun i=>f (i+1))
theorem OV (s:Int) (i:Nat):bit (s / 2) i=bit s (i+1):=by
 unfold bit
 rw [Int.ediv_ediv_of_nonneg (by decide:(0:Int)<=2)]
 have e:(2:Int)*2 ^ i=2 ^ (i+1):=by rw [Int.pow_succ,Int.mul_comm]
 rw [e]
theorem OL (s:Int):bit s 0=decide (s % 2=1):=by
 unfold bit
 rw [Int.pow_zero,Int.ediv_one]
theorem Gv:∀n f,0<=CW n f
 | 0,_=>Int.le_refl _
 | n+1,f=>by
   have:=Gv n (fun i=>f (i+1))
   show 0<=(if f 0=true then (1:Int) else 0)+2*CW n (fun i=>f (i+1))
   split <;> omega
theorem MO:∀n f,CW n f < 2 ^ n
 | 0,_=>by show (0:Int) < 1;decide
 | n+1,f=>by
   have:=MO n (fun i=>f (i+1))
   show (if f 0=true then (1:Int) else 0)+2*CW n (fun i=>f (i+1)) < 2 ^ (n+1)
   rw [Int.pow_succ]
   split <;> omega
theorem N0 (n f):CW (n+1) f / 2=CW n (fun i=>f (i+1)):=by
 show ((if f 0=true then (1:Int) else 0)+2*CW n (fun i=>f (i+1))) / 2=_
 split <;> omega
theorem KQ (n f):(CW (n+1) f % 2=1)↔f 0=true:=by
 show (((if f 0=true then (1:Int) else 0)+2*CW n (fun i=>f (i+1))) % 2=1)↔_
 split <;> rename_i h
 ·exact ⟨fun _=>h,fun _=>by omega⟩
 ·exact ⟨fun e=>by omega,fun e=>absurd e h⟩
theorem Gg:∀n f,CW (n+1) f=CW n f+(if f n=true then 2 ^ n else 0)
 | 0,f=>by
   show (if f 0=true then (1:Int) else 0)+2*0=0+(if f 0=true then (1:Int) else 0)
   split <;> decide
 | n+1,f=>by
   show (if f 0=true then (1:Int) else 0)+2*CW (n+1) (fun i=>f (i+1))=(if f 0=true then (1:Int) else 0)+2*CW n (fun i=>f (i+1))+(if f (n+1)=true then 2 ^ (n+1) else 0)
   rw [Gg n (fun i=>f (i+1)),Int.pow_succ]
   split <;> split <;> omega
theorem Hv:∀n f i,bit (CW n f) i=(decide (i < n) && f i)
 | 0,f,i=>by
   unfold bit
   show decide ((0:Int) / 2 ^ i % 2=1)=_
   rw [Int.zero_ediv]
   rfl
 | n+1,f,0=>by
   rw [OL]
   by_cases h:f 0=true
   ·rw [decide_eq_true ((KQ n f).mpr h),h];rfl
   ·rw [decide_eq_false (fun e=>h ((KQ n f).mp e)),Bool.eq_false_iff.mpr h];rfl
 | n+1,f,i+1=>by
   rw [<- OV,N0,Hv n]
   have:decide (i < n)=decide (i+1 < n+1):=by
    by_cases h:i < n
    ·rw [decide_eq_true h,decide_eq_true (by omega)]
    ·rw [decide_eq_false h,decide_eq_false (by omega)]
   rw [this]
noncomputable def hands (n:Nat) (f:Nat->Bool):List Int:=((List.range n).filter f).map fun i:Nat=>(i:Int)
theorem Ep (n:Nat) (f:Nat->Bool):hands (n+1) f=if f n=true then hands n f++[(n:Int)] else hands n f:=by
 unfold hands
 rw [range_succ,filter_append,map_append]
 by_cases h:f n=true
 ·rw [if_pos h];simp [h]
 ·rw [if_neg h]
  have h':f n=false:=by simpa using h
  simp [h']
theorem Iw (n:Nat) (f:Nat->Bool):(hands n f).length<=n:=by
 unfold hands
 rw [length_map]
 exact Nat.le_trans (length_filter_le _ _) (by simp)
theorem IZ {n:Nat} {f:Nat->Bool} {z:Int}:z∈hands n f↔∃i:Nat,i < n/\f i=true/\z=(i:Int):=by
 unfold hands
 rw [mem_map]
 constructor
 ·rintro ⟨i,hi,rfl⟩
  obtain ⟨h1,h2⟩:=mem_filter.mp hi
  exact ⟨i,mem_range.mp h1,h2,rfl⟩
 ·rintro ⟨i,h1,h2,rfl⟩
  exact ⟨i,mem_filter.mpr ⟨mem_range.mpr h1,h2⟩,rfl⟩
noncomputable def Rx (hs:List Int):Int:=(hs.map fun h=>(1:Int)*2 ^ h.toNat).sum
theorem Fw:∀n f,Rx (hands n f)=CW n f
 | 0,f=>rfl
 | n+1,f=>by
   rw [Ep,Gg]
   by_cases h:f n=true
   ·rw [if_pos h,if_pos h]
    unfold Rx
    rw [map_append,sum_append]
    have:=Fw n f
    unfold Rx at this
    rw [this]
    simp
   ·rw [if_neg h,if_neg h,Fw n f]
    omega
noncomputable def ins (x:Int):List Int->List Int
 | []=>[x]
 | y :: r=>if x < y then x :: y :: r else if x=y then y :: r else y :: ins x r
noncomputable def Ev:List Int->List Int
 | []=>[]
 | x :: r=>ins x (Ev r)
theorem JE {x z:Int}:∀{l:List Int},z∈ins x l↔z=x\/z∈l
 | []=>by unfold ins;simp
 | y :: r=>by
   unfold ins
   split
   ·simp
   ·split
    ·rename_i h;subst h;simp
    ·rw [mem_cons,JE (l:=r),mem_cons]
     constructor
     ·rintro (h | h | h)
      ·exact .inr (.inl h)
      ·exact .inl h
      ·exact .inr (.inr h)
     ·rintro (h | h | h)
      ·exact .inr (.inl h)
      ·exact .inl h
      ·exact .inr (.inr h)
theorem JJ {x:Int}:∀{l:List Int},l.Pairwise (· < ·)->(ins x l).Pairwise (· < ·)
 | [],_=>by unfold ins;simp
 | y :: r,h=>by
   unfold ins
   rw [pairwise_cons] at h
   split
   ·rename_i c
    rw [pairwise_cons]
    refine ⟨fun z hz=>?_,pairwise_cons.mpr h⟩
    rcases mem_cons.mp hz with e | e
    ·omega
    ·have:=h.1 z e;omega
   ·split
    ·exact pairwise_cons.mpr h
    ·rename_i c d
     rw [pairwise_cons]
     refine ⟨fun z hz=>?_,JJ h.2⟩
     rcases JE.mp hz with e | e
     ·omega
     ·exact h.1 z e
theorem FB {z:Int}:∀{l:List Int},z∈Ev l↔z∈l
 | []=>Iff.rfl
 | x :: r=>by
   show z∈ins x (Ev r)↔_
   rw [JE,FB,mem_cons]
theorem Fh:∀l:List Int,(Ev l).Pairwise (· < ·)
 | []=>.nil
 | x :: r=>JJ (Fh r)
theorem Ga:∀{a b:List Int},a.Pairwise (· < ·)->b.Pairwise (· < ·)->(∀z,z∈a↔z∈b)->a=b
 | [],[],_,_,_=>rfl
 | [],y :: b,_,_,h=>nomatch (h y).mpr (mem_cons_self ..)
 | x :: a,[],_,_,h=>nomatch (h x).mp (mem_cons_self ..)
 | x :: a,y :: b,ha,hb,h=>by
   rw [pairwise_cons] at ha hb
   have e:x=y:=by
    rcases mem_cons.mp ((h x).mp (mem_cons_self ..)) with e | e
    ·exact e
    ·rcases mem_cons.mp ((h y).mpr (mem_cons_self ..)) with f | f
     ·exact f.symm
     ·have:=ha.1 y f
      have:=hb.1 x e
      omega
   subst e
   rw [Ga ha.2 hb.2 fun z=>?_]
   constructor
   ·intro hz
    rcases mem_cons.mp ((h z).mp (mem_cons_of_mem _ hz)) with e | e
    ·have:=ha.1 z hz;omega
    ·exact e
   ·intro hz
    rcases mem_cons.mp ((h z).mpr (mem_cons_of_mem _ hz)) with e | e
    ·have:=hb.1 z hz;omega
    ·exact e
theorem Nl {ms ns:List Int} (h:ms.Pairwise (· < ·)) (m:∀z,z∈ms↔z∈ns):ms=Ev ns:=Ga h (Fh ns) fun z=>(m z).trans FB.symm
theorem FN:∀l:List Int,(Ev l).length<=l.length
 | []=>Nat.le_refl _
 | x :: r=>by
   have ih:=FN r
   have:∀l:List Int,(ins x l).length<=l.length+1:=by
    intro l
    induction l with
    | nil=>exact Nat.le_refl _
    | cons y l ihl =>
      unfold ins
      split
      ·exact Nat.le_refl _
      ·split
       ·exact Nat.le_succ _
       ·exact Nat.succ_le_succ ihl
   exact Nat.le_trans (this (Ev r)) (Nat.succ_le_succ ih)
noncomputable def isR (rs:List Int) (r:Int) (i:Nat):Bool:=decide (rs[i]?=some r)
noncomputable def CK (rs:List Int) (r:Int):Int:=CW rs.length (isR rs r)
noncomputable def Av (rs:List Int):List Int:=((Ev rs).filter fun r=>decide (0 < r)).map (CK rs)
noncomputable def Su (K:PySem.W.Frag):Sp:=fun vs H Q _=>∃(p:Addr) (ns:List Int) (k:Int),vs=[.ref p,.int k]/\SqL K H p (ns.map V.int)/\ns.length<=63/\0<=k/\k<=1000/\∀z:Int,0<=z->z < 10 ^ 40->Q (.int z) H
noncomputable def QF:Sp:=fun vs H Q _=>∃c b:Int,vs=[.int c,.int b]/\Sz 200 c/\Sz 64 b/\∀z:Int,0<=z->z < 10 ^ 18->Q (.int z) H
theorem L6 {c:Int} (h0:0<=c) (h:c < 10 ^ 40):Sz 200 c:=Dq (by omega) (by omega)
theorem RN {c:Int} (h0:0<=c) (h:c < 10 ^ 18):Sz 64 c:=Dq (by omega) (by omega)
theorem MW (x:Int):0<=(x.fmod ((10:Int) ^ (18:Int).toNat+3)).fdiv 7/\(x.fmod ((10:Int) ^ (18:Int).toNat+3)).fdiv 7 < 10 ^ 18:=by
 have h:=Bh x (show (0:Int) < (10:Int) ^ (18:Int).toNat+3 by decide)
 generalize x.fmod ((10:Int) ^ (18:Int).toNat+3)=y at h ⊢
 rw [Int.fdiv_eq_ediv_of_nonneg y (by decide)]
 have e:(10:Int) ^ (18:Int).toNat=1000000000000000000:=by decide
 rw [e] at h
 omega
theorem AS {H H':Hp} {l:Addr} {o:HO} (s:AJ H H') (n:H l=none):AJ H (upd H' l o):=fun b u e=>by
 rw [A8 (Bt e n)]
 exact s b u e
theorem ifT {c:Bool} {A B:Prop} (e:c=true) (h:A):if c=true then A else B:=by rw [if_pos e];exact h
theorem ifF {c:Bool} {A B:Prop} (e:c=false) (h:B):if c=true then A else B:=by rw [if_neg (by rw [e];decide)];exact h
theorem RK {a b:Int} (h:a≠b):(!decide (V.int a=V.int b))=true:=by rw [decide_eq_false (fun e=>h (V.int.inj e))];rfl
theorem Ob {a b:Int} (h:a=b):(!decide (V.int a=V.int b))=false:=by rw [h,decide_eq_true rfl];rfl
theorem Qk {a b:Int} (h:a=b):decide (V.int a=V.int b)=true:=by rw [h];exact decide_eq_true rfl
theorem ST {a b:Int} (h:a≠b):decide (V.int a=V.int b)=false:=decide_eq_false fun e=>h (V.int.inj e)
theorem int_at {ns:List Int} {i:Nat} {x:V} (h:(ns.map V.int)[i]?=some x):∃z,ns[i]?=some z/\x=.int z:=by
 rw [List.getElem?_map] at h
 cases e:ns[i]? with
 | none=>rw [e] at h;cases h
 | some z=>rw [e] at h;exact ⟨z,rfl,(Option.some.inj h).symm⟩
theorem atN {ns:List Int} {i:Nat} {z:Int} (h:ns[i]?=some z):atI (ns.map V.int) (i:Int)=some (.int z):=BE (by rw [List.getElem?_map,h];rfl)
theorem Is {h:Nat} (hh:h < 64):Po 1 (h:Int):=⟨by omega,by omega,by decide⟩
theorem SK (x:Int):Builtin.bitAnd x 1=x % 2:=PySem.W.kbt_mask x 1
theorem Oa (m:Int) (h:Int):decide (V.int (Builtin.bitAnd (m / 2 ^ h.toNat) 1)=V.int 1)=bit m h.toNat:=by
 unfold bit
 rw [SK]
 by_cases c:m / 2 ^ h.toNat % 2=1
 ·rw [decide_eq_true c,decide_eq_true (congrArg V.int c)]
 ·rw [decide_eq_false c,decide_eq_false fun e=>c (V.int.inj e)]
theorem Q0 (m:Int) (i:Nat):m / 2 ^ i % 2=if bit m i=true then 1 else 0:=by
 have e:m / 2 ^ i % 2=0\/m / 2 ^ i % 2=1:=by omega
 unfold bit
 rcases e with e | e
 ·rw [e];rfl
 ·rw [e];rfl
theorem Qw (m:Int) (h:Nat):Builtin.bitOr m (1*2 ^ h)=m+2 ^ h*(if (!bit m h)=true then 1 else 0):=by
 rw [Int.one_mul,PyProof.Rows.bitOr_and,PySem.W.kbt_bit,Q0]
 cases bit m h <;> simp
theorem Q9 (n:Nat) (f:Nat->Bool):Builtin.bitOr (CW n f) (1*2 ^ n)=CW n f+2 ^ n:=by
 rw [Qw,Hv,decide_eq_false (Nat.lt_irrefl n)]
 simp
noncomputable def Rk:Sp:=fun vs H Q _=>∃m h:Int,vs=[.int m,.int h]/\0<=h/\h < 12/\Q (.int (Builtin.bitOr m (1*2 ^ h.toNat))) H
noncomputable def N6:Sp:=fun vs H Q _=>∃m:Int,vs=[.int m]/\0<=m/\m < 4096/\∀(p:Addr) (H':Hp),H p=none->AJ H H'->H' p=some (.lst ((hands 12 (bit m)).map V.int))->Q (.ref p) H'
noncomputable def QW (K:PySem.W.Frag):Sp:=fun vs H Q _=>∃(p:Addr) (rs:List Int) (r:Int),vs=[.ref p,.int r]/\SqL K H p (rs.map V.int)/\rs.length<=12/\∀H':Hp,AJ H H'->Q (.int (CK rs r)) H'
noncomputable def Re:Sp:=fun vs H Q _=>∃r:Int,vs=[.int r]/\0<=r/\r<=1000000000/\Q (.bl true) H
noncomputable def Sm (K:PySem.W.Frag):Sp:=fun vs H Q _=>∃(p:Addr) (rs:List Int),vs=[.ref p,.int (rs.length:Nat)]/\H p=some (.lst (rs.map V.int))/\rs.length<=12/\(∀r∈rs,0<=r/\r<=1000000000)/\∀H':Hp,AJ H H'->Q (.bl true) H'
noncomputable def OC (K:PySem.W.Frag):Sp:=fun vs H Q _=>∃(p:Addr) (rs:List Int),vs=[.ref p,.int (rs.length:Nat)]/\H p=some (.lst (rs.map V.int))/\rs.length<=12/\(∀r∈rs,0<=r/\r<=1000000000) /\
 ∀(t:Addr) (H':Hp),H t=none->AJ H H'->H' t=some (.tup ((Av rs).map V.int))->Q (.ref t) H'
theorem u1 {n:Nat} (h:n+64 < cLine):n+1 < cLine:=by omega
theorem none_of {H H':Hp} {a:Addr} (s:AJ H H') (h:H' a=none):H a=none:=by
 cases e:H a with
 | none=>rfl
 | some u=>rw [s _ _ e] at h;cases h
abbrev Ls:=List (Addr × Addr × List Int × Int)
abbrev Ds:=List (List Int × Int)
noncomputable def vls (ls:Ls):List V:=ls.map fun q=>.ref q.1
noncomputable def Ao (ls:Ls):Ds:=ls.map fun q=>(q.2.2.1,q.2.2.2)
noncomputable def AM (H:Hp) (ls:Ls):Prop:=∀q∈ls,H q.1=some (.tup [.ref q.2.1,.int q.2.2.2])/\H q.2.1=some (.tup (q.2.2.1.map V.int))
theorem AM.same {H H':Hp} {ls:Ls} (s:AJ H H') (g:AM H ls):AM H' ls:=fun q m=>⟨s _ _ (g q m).1,s _ _ (g q m).2⟩
theorem AM.sub {H:Hp} {a b:Ls} (g:AM H a) (k:∀q∈b,q∈a):AM H b:=fun q m=>g q (k q m)
theorem AM.append {H:Hp} {a b:Ls} (g:AM H a) (k:AM H b):AM H (a++b):=fun q m=>(mem_append.mp m).elim (g q) (k q)
theorem AM.upd {H:Hp} {ls:Ls} {l:Addr} {xs:List V} {o:HO} (e:H l=some (.lst xs)) (g:AM H ls):AM (upd H l o) ls:=fun q m=>by
 refine ⟨?_,?_⟩
 ·rw [A8 (CO (g q m).1 e (fun z=>nomatch z))];exact (g q m).1
 ·rw [A8 (CO (g q m).2 e (fun z=>nomatch z))];exact (g q m).2
theorem C6 {ls:Ls} {i:Nat} {x:V} (h:(vls ls)[i]?=some x):∃q,ls[i]?=some q/\x=.ref q.1/\q∈ls/\ls.take (i+1)=ls.take i++[q]:=by
 unfold vls at h
 rw [List.getElem?_map] at h
 cases e:ls[i]? with
 | none=>rw [e] at h;cases h
 | some q =>
   rw [e] at h
   refine ⟨q,rfl,(Option.some.inj h).symm,mem_of_getElem? e,?_⟩
   rw [take_succ,e]
   rfl
theorem AT (ls:Ls):(vls ls).length=ls.length:=length_map ..
theorem B9 (a b:Ls):vls (a++b)=vls a++vls b:=map_append ..
theorem AK (a b:Ls):Ao (a++b)=Ao a++Ao b:=map_append ..
theorem FM:∀{a b:List Int},HT.lexLt a b=true->HT.lexLt b a=false
 | [],[],h=>by cases h
 | [],_ :: _,_=>rfl
 | _ :: _,[],h=>by cases h
 | x :: a,y :: b,h=>by
   rw [HT.lexLt_cons] at h ⊢
   by_cases c:x=y
   ·rw [if_pos c] at h
    rw [if_pos c.symm]
    exact FM h
   ·rw [if_neg c] at h
    rw [if_neg (Ne.symm c)]
    have:=of_decide_eq_true h
    exact decide_eq_false (by omega)
theorem Jv:∀{a b:List Int},HT.lexLt b a=false->a≠b->HT.lexLt a b=true
 | [],[],_,n=>absurd rfl n
 | [],_ :: _,_,_=>rfl
 | _ :: _,[],h,_=>by cases h
 | x :: a,y :: b,h,n=>by
   rw [HT.lexLt_cons] at h ⊢
   by_cases c:x=y
   ·rw [if_pos c.symm] at h
    rw [if_pos c]
    exact Jv h fun e=>n (by rw [c,e])
   ·rw [if_neg (Ne.symm c)] at h
    rw [if_neg c]
    have:=of_decide_eq_false h
    exact decide_eq_true (by omega)
noncomputable def tot:Ds->List Int->Int
 | [],_=>0
 | q :: r,ts=>(if q.1=ts then q.2 else 0)+tot r ts
theorem Em (ts:List Int):∀a b:Ds,tot (a++b) ts=tot a ts+tot b ts
 | [],b=>by show tot b ts=0+tot b ts;omega
 | q :: a,b=>by
   show (if q.1=ts then q.2 else 0)+tot (a++b) ts=(if q.1=ts then q.2 else 0)+tot a ts+tot b ts
   rw [Em ts a b]
   omega
noncomputable def Pos (ds:Ds):Prop:=∀q∈ds,1<=q.2
theorem F5 {ts:List Int}:∀{ds:Ds},Pos ds->0<=tot ds ts
 | [],_=>Int.le_refl _
 | q :: r,h=>by
   have h1:=h q (mem_cons_self ..)
   have h2:=F5 (ts:=ts) (ds:=r) fun p m=>h p (mem_cons_of_mem _ m)
   show 0<=(if q.1=ts then q.2 else 0)+tot r ts
   split <;> omega
theorem Fc {ts:List Int}:∀{ds:Ds},ts ∉ ds.map (·.1)->tot ds ts=0
 | [],_=>rfl
 | q :: r,h=>by
   rw [map_cons,mem_cons,not_or] at h
   show (if q.1=ts then q.2 else 0)+tot r ts=0
   rw [if_neg (fun e=>h.1 e.symm),Fc h.2]
   rfl
theorem Pq {ts:List Int}:∀{ds:Ds},Pos ds->ts∈ds.map (·.1)->0 < tot ds ts
 | [],_,m=>nomatch m
 | q :: r,h,m=>by
   have h1:=h q (mem_cons_self ..)
   have hr:Pos r:=fun p m=>h p (mem_cons_of_mem _ m)
   have h2:=F5 (ts:=ts) hr
   show 0 < (if q.1=ts then q.2 else 0)+tot r ts
   by_cases c:q.1=ts
   ·rw [if_pos c];omega
   ·rw [if_neg c]
    rcases mem_cons.mp m with e | e
    ·exact absurd e.symm c
    ·have:=Pq hr e
     omega
structure Cl (ds out:Ds):Prop where
 srt:out.Pairwise (fun x y=>HT.lexLt x.1 y.1=true)
 mem:∀ts n,(ts,n)∈out↔n=tot ds ts/\0 < n
theorem JK:∀{a b:Ds},a.Pairwise (fun x y=>HT.lexLt x.1 y.1=true)->b.Pairwise (fun x y=>HT.lexLt x.1 y.1=true)->(∀q,q∈a↔q∈b)->a=b
 | [],[],_,_,_=>rfl
 | [],y :: b,_,_,h=>nomatch (h y).mpr (mem_cons_self ..)
 | x :: a,[],_,_,h=>nomatch (h x).mp (mem_cons_self ..)
 | x :: a,y :: b,ha,hb,h=>by
   rw [pairwise_cons] at ha hb
   have irr:∀z:List Int × Int,HT.lexLt z.1 z.1≠true:=fun z e=>by
    have:=FM e
    rw [e] at this
    cases this
   have e:x=y:=by
    rcases mem_cons.mp ((h x).mp (mem_cons_self ..)) with e | e
    ·exact e
    ·rcases mem_cons.mp ((h y).mpr (mem_cons_self ..)) with f | f
     ·exact f.symm
     ·have p:=ha.1 y f
      have q:=FM (hb.1 x e)
      rw [p] at q
      cases q
   subst e
   rw [JK ha.2 hb.2 fun z=>?_]
   constructor
   ·intro hz
    rcases mem_cons.mp ((h z).mp (mem_cons_of_mem _ hz)) with e | e
    ·exact absurd (ha.1 z hz) (by rw [e];exact irr x)
    ·exact e
   ·intro hz
    rcases mem_cons.mp ((h z).mpr (mem_cons_of_mem _ hz)) with e | e
    ·exact absurd (hb.1 z hz) (by rw [e];exact irr x)
    ·exact e
theorem Cl.uniq {ds es a b:Ds} (h:Cl ds a) (k:Cl es b) (e:∀ts,tot ds ts=tot es ts):a=b :=
 JK h.srt k.srt fun ⟨ts,n⟩=>by rw [h.mem,k.mem,e]
theorem Er (ts:List Int):(ts.map Sum.inl:List Key).map kV=ts.map V.int:=by rw [map_map];rfl
theorem Nh {a b:List Int} (h:(a.map Sum.inl:List Key)=b.map Sum.inl):a=b:=by
 have e:=congrArg (List.map kV) h
 rw [Er,Er] at e
 have:∀{a b:List Int},a.map V.int=b.map V.int->a=b:=by
  intro a
  induction a with
  | nil=>intro b h;cases b with | nil=>rfl | cons _ _=>cases h
  | cons x a ih =>
    intro b h
    cases b with
    | nil=>cases h
    | cons y b =>
      injection h with h1 h2
      injection h1 with h1
      rw [h1,ih h2]
 exact this e
theorem IU {α β:Type} {f:α->β}:∀{l:List α},(l.map f).Nodup->l.Nodup
 | [],_=>nodup_nil
 | x :: l,h=>by
   rw [map_cons,nodup_cons] at h
   rw [nodup_cons]
   exact ⟨fun m=>h.1 (mem_map.mpr ⟨x,m,rfl⟩),IU h.2⟩
structure VD (kvs:List (List Key × V)):Prop where
 nd:(kvs.map (·.1)).Nodup
 all:∀q∈kvs,∃(ts:List Int) (n:Int),q=(ts.map Sum.inl,.int n)
theorem N5 {κ:Type} [DecidableEq κ] {kvs:List (κ × V)} {k:κ} {v w:V} (h:BP kvs k=some w):(DI kvs k v).map (·.1)=kvs.map (·.1):=by
 unfold DI
 rw [CH,h,if_pos (show (some w).isSome=true from rfl),map_map]
 refine map_congr_left fun q _=>?_
 show (if q.1=k then (q.1,v) else q).1=q.1
 split <;> rfl
theorem VD.put {kvs:List (List Key × V)} (h:VD kvs) (ts:List Int) (n:Int):VD (DI kvs (ts.map Sum.inl) (.int n)):=by
 refine ⟨?_,fun q m=>?_⟩
 ·cases e:BP kvs (ts.map Sum.inl:List Key) with
  | none=>exact QD _ h.nd e
  | some w=>rw [N5 e];exact h.nd
 ·unfold DI at m
  split at m
  ·obtain ⟨p,pm,rfl⟩:=mem_map.mp m
   split
   ·rename_i e
    exact ⟨ts,n,by rw [e]⟩
   ·exact h.all p pm
  ·rcases mem_append.mp m with m | m
   ·exact h.all q m
   ·exact ⟨ts,n,mem_singleton.mp m⟩
theorem VD.val {kvs:List (List Key × V)} (h:VD kvs) {k:List Key} {v:V} (e:BP kvs k=some v):∃n:Int,v=.int n:=by
 unfold BP at e
 cases c:kvs.find? fun kv=>decide (kv.1=k) with
 | none=>rw [c] at e;cases e
 | some q =>
   rw [c] at e
   obtain ⟨ts,n,rfl⟩:=h.all q (mem_of_find?_eq_some c)
   exact ⟨n,(Option.some.inj e).symm⟩
theorem VD.keys {kvs:List (List Key × V)} (h:VD kvs):∃ks:List (List Int),kvs.map (·.1)=ks.map (List.map Sum.inl)/\ks.length=kvs.length/\ks.Nodup/\∀ts,ts∈ks↔∃n:Int,BP kvs (ts.map Sum.inl)=some (.int n):=by
 have key:∀{l:List (List Key × V)},(∀q∈l,q∈kvs)->∃ks:List (List Int),l.map (·.1)=ks.map (List.map Sum.inl)/\ks.length=l.length:=by
  intro l
  induction l with
  | nil=>intro _;exact ⟨[],rfl,rfl⟩
  | cons q r ih =>
    intro sub
    obtain ⟨ks,e1,e2⟩:=ih fun p m=>sub p (mem_cons_of_mem _ m)
    obtain ⟨ts,n,eq⟩:=h.all q (sub q (mem_cons_self ..))
    exact ⟨ts :: ks,by rw [map_cons,map_cons,e1,eq],by rw [length_cons,length_cons,e2]⟩
 obtain ⟨ks,e1,e2⟩:=key fun q m=>m
 have mm:∀ts,ts∈ks↔(ts.map Sum.inl:List Key)∈kvs.map (·.1):=fun ts=>by
  rw [e1]
  constructor
  ·intro m;exact mem_map.mpr ⟨ts,m,rfl⟩
  ·intro m
   obtain ⟨us,um,e⟩:=mem_map.mp m
   rw [<- Nh e]
   exact um
 refine ⟨ks,e1,e2,?_,fun ts=>⟨fun m=>?_,fun ⟨n,e⟩=>(mm ts).mpr (Qj e)⟩⟩
 ·have nd:=h.nd
  rw [e1] at nd
  exact IU nd
 ·cases c:BP kvs (ts.map Sum.inl:List Key) with
  | none=>exact absurd ((mm ts).mp m) (KE c)
  | some v =>
    obtain ⟨n,rfl⟩:=h.val c
    exact ⟨n,rfl⟩
structure DictOf (ds:Ds) (kvs:List (List Key × V)):Prop where
 vd:VD kvs
 val:∀ts:List Int,BP kvs (ts.map Sum.inl)=if ts∈ds.map (·.1) then some (.int (tot ds ts)) else none
theorem DictOf.nil:DictOf [] []:=⟨⟨nodup_nil,fun _ m=>nomatch m⟩,fun _=>rfl⟩
noncomputable def GB (kvs:List (List Key × V)) (ts:List Int):Int:=match BP kvs (ts.map Sum.inl:List Key) with
 | some (.int n)=>n
 | _=>0
theorem DictOf.put {ds:Ds} {kvs:List (List Key × V)} (h:DictOf ds kvs) (ts:List Int) (n:Int):DictOf (ds++[(ts,n)]) (DI kvs (ts.map Sum.inl) (.int (tot ds ts+n))):=by
 refine ⟨h.vd.put ts _,fun us=>?_⟩
 rw [OK,h.val us,Em,map_append]
 show (if (us.map Sum.inl:List Key)=ts.map Sum.inl then _ else _)=if us∈ds.map (·.1)++[ts] then some (V.int (tot ds us+((if ts=us then n else 0)+0))) else none
 by_cases c:us=ts
 ·subst c
  rw [if_pos rfl,if_pos (by simp),if_pos rfl]
  rw [Int.add_zero]
 ·rw [if_neg (fun e=>c (Nh e)),if_neg (Ne.symm c)]
  by_cases m:us∈ds.map (·.1)
  ·rw [if_pos m,if_pos (by simp;left;simpa using m)]
   rw [Int.add_zero,Int.add_zero]
  ·rw [if_neg m,if_neg (by simp;exact ⟨by simpa using m,c⟩)]
theorem IY {α:Type} [DecidableEq α]:∀{l p:List α},l.Nodup->(∀x∈l,x∈p)->l.length<=p.length
 | [],_,_,_=>Nat.zero_le _
 | x :: l,p,n,s=>by
   rw [nodup_cons] at n
   have m:=s x (mem_cons_self ..)
   have ih:=IY (p:=p.erase x) n.2 fun y hy=>(mem_erase_of_ne (fun e:y=x=>n.1 (by rw [<- e];exact hy))).mpr (s y (mem_cons_of_mem _ hy))
   rw [length_erase_of_mem m] at ih
   have:=length_pos_of_mem m
   rw [length_cons]
   omega
theorem DictOf.len {ds:Ds} {kvs:List (List Key × V)} (h:DictOf ds kvs) {p:List (List Int)} (s:∀q∈ds,q.1∈p):kvs.length<=p.length:=by
 obtain ⟨ks,_,e2,nd,mm⟩:=h.vd.keys
 rw [<- e2]
 refine IY nd fun ts m=>?_
 obtain ⟨n,e⟩:=(mm ts).mp m
 rw [h.val ts] at e
 by_cases c:ts∈ds.map (·.1)
 ·obtain ⟨q,qm,rfl⟩:=mem_map.mp c
  exact s q qm
 ·rw [if_neg c] at e;cases e
theorem DictOf.sheet {ds out:Ds} {kvs:List (List Key × V)} (h:DictOf ds kvs) (p:Pos ds) (srt:out.Pairwise (fun x y=>HT.lexLt x.1 y.1=true)) (mem:∀ts n,(ts,n)∈out↔BP kvs (ts.map Sum.inl)=some (.int n)/\0 < n):Cl ds out:=by
 refine ⟨srt,fun ts n=>?_⟩
 rw [mem,h.val]
 by_cases c:ts∈ds.map (·.1)
 ·rw [if_pos c]
  constructor
  ·rintro ⟨e,z⟩;injection e with e;injection e with e;exact ⟨e.symm,z⟩
  ·rintro ⟨e,z⟩;exact ⟨by rw [e],z⟩
 ·rw [if_neg c,Fc c]
  constructor
  ·rintro ⟨e,_⟩;cases e
  ·rintro ⟨e,z⟩;omega
theorem FL {ds:Ds} {kvs:List (List Key × V)} (h:DictOf ds kvs) (ts:List Int):(BP kvs (ts.map Sum.inl:List Key)).getD (.int 0)=.int (tot ds ts):=by
 rw [h.val ts]
 by_cases c:ts∈ds.map (·.1)
 ·rw [if_pos c];rfl
 ·rw [if_neg c,Fc c];rfl
noncomputable def Sc:Sp:=fun vs H Q _=>∃(l:Addr) (ls:Ls) (p:List (List Int)),vs=[.ref l]/\H l=some (.lst (vls ls))/\AM H ls/\(∀q∈Ao ls,q.1∈p)/\p.length < 64 /\
 ∀(d:Addr) (kvs:List (List Key × V)) (H':Hp),H d=none->AJ H H'->H' d=some (.dT kvs)->DictOf (Ao ls) kvs->Q (.ref d) H'
noncomputable def SU:Sp:=fun vs H Q _=>∃(d:Addr) (kvs:List (List Key × V)),vs=[.ref d]/\H d=some (.dT kvs)/\VD kvs/\kvs.length < 64 /\
 ∀(l:Addr) (ls:Ls) (H':Hp),H l=none->AJ H H'->H' l=some (.lst (vls ls))->AM H' ls->(Ao ls).Pairwise (fun x y=>HT.lexLt x.1 y.1=true)->(∀ts n,(ts,n)∈Ao ls↔BP kvs (ts.map Sum.inl)=some (.int n)/\0 < n)->ls.length < 64->Q (.ref l) H'
noncomputable def NF:Sp:=fun vs H Q _=>∃(l:Addr) (ls:Ls) (p:List (List Int)),vs=[.ref l]/\H l=some (.lst (vls ls))/\AM H ls/\(∀q∈Ao ls,q.1∈p)/\p.length < 64/\(∀q∈Ao ls,1<=q.2/\q.2<=1000000000) /\
 ∀(l':Addr) (ls':Ls) (H':Hp),H l'=none->AJ H H'->H' l'=some (.lst (vls ls'))->AM H' ls'->Cl (Ao ls) (Ao ls')->ls'.length < 64->Q (.ref l') H'
noncomputable def Ck (bs:List (Addr × Ls)):Ls:=(bs.map (·.2)).flatten
noncomputable def PF:Sp:=fun vs H Q _=>∃(l:Addr) (bs:List (Addr × Ls)) (p:List (List Int)),vs=[.ref l]/\H l=some (.lst (bs.map fun b=>V.ref b.1))/\(∀b∈bs,H b.1=some (.lst (vls b.2))/\AM H b.2)/\(∀q∈Ao (Ck bs),q.1∈p)/\p.length < 64/\Pos (Ao (Ck bs))/\(Ck bs).length<=900 /\
 ∀(l':Addr) (ls':Ls) (H':Hp),H l'=none->AJ H H'->H' l'=some (.lst (vls ls'))->AM H' ls'->Cl (Ao (Ck bs)) (Ao ls')->ls'.length < 64->Q (.ref l') H'
noncomputable def ND:Sp:=fun vs H Q _=>∃(l:Addr) (ls:Ls),vs=[.ref l]/\H l=some (.lst (vls ls))/\AM H ls/\ls.length<=900/\∀H':Hp,AJ H H'->Q (.int ((Ao ls).map (·.2)).sum) H'
theorem Be {n:Nat} (h:n<=900):n<=sizeLine:=Nat.le_of_lt (Bq (by omega))
theorem Kq {m:Int} {i:Nat} (h0:0<=m) (h:m < 2 ^ i):bit m i=false:=by
 unfold bit
 rw [Int.ediv_eq_zero_of_lt h0 h]
 decide
theorem GV {m:Int} {k:Nat} (h0:0<=m) (h:m < 2 ^ k):∀d:Nat,hands (k+d) (bit m)=hands k (bit m)
 | 0=>rfl
 | d+1=>by
   have p:(2:Int) ^ k<=2 ^ (k+d):=by
    have q:2 ^ k<=2 ^ (k+d):=Nat.pow_le_pow_right (by decide) (by omega)
    have e1:((2 ^ k:Nat):Int)=(2:Int) ^ k:=by simp
    have e2:((2 ^ (k+d):Nat):Int)=(2:Int) ^ (k+d):=by simp
    omega
   show hands ((k+d)+1) (bit m)=hands k (bit m)
   rw [Ep,Kq h0 (by omega),if_neg (by decide),GV h0 h d]
theorem OJ {m:Int} (h0:0<=m) (h:m < 4096):hands (Builtin.Int.intBits m) (bit m)=hands 12 (bit m):=by
 have b:Builtin.Int.intBits m<=12:=intBits_le_iff.mpr (by show m.natAbs < 4096;omega)
 have l:m.natAbs < 2 ^ Builtin.Int.intBits m:=intBits_le_iff.mp (Nat.le_refl _)
 have l':m < (2:Int) ^ Builtin.Int.intBits m:=by
  have e:((2 ^ Builtin.Int.intBits m:Nat):Int)=(2:Int) ^ Builtin.Int.intBits m:=by simp
  omega
 obtain ⟨d,hd⟩:∃d,12=Builtin.Int.intBits m+d:=⟨12 - Builtin.Int.intBits m,by omega⟩
 rw [hd,GV h0 l' d]
theorem KI {H H':Hp} {a:Addr} (s:AJ H H') (h:H' a=none):H a=none:=by
 cases e:H a with
 | none=>rfl
 | some u=>rw [s _ _ e] at h;cases h
noncomputable def rk (ts:List Int) (h:Nat):Nat->Int
 | 0=>0
 | i+1=>if bit (ts.getD i 0) h=true then (i:Int)+1 else rk ts h i
noncomputable def By (ts:List Int) (n:Nat):List Int:=(List.range n).map fun h=>rk ts h ts.length
theorem DU {n i:Nat} (h:i < n):ixN n (i:Int)=some i:=by
 unfold ixN
 rw [if_pos (by omega)]
 simp [h]
theorem IF {n k:Nat} (f:Nat->Int) (v:Int) (hk:k < n):((List.range n).map f).set k v=(List.range n).map fun h=>if h=k then v else f h:=by
 apply ext_getElem
 ·simp
 ·intro i h1 h2
  rw [getElem_set]
  by_cases c:k=i
  ·subst c;simp
  ·rw [if_neg c];simp [Ne.symm c]
theorem P7 {rs:List Int} {h:Nat} {c:Int} (u:Int) (e:rs[h]?=some c):bit (CK rs u) h=decide (c=u):=by
 obtain ⟨hi,_⟩:=List.getElem?_eq_some_iff.mp e
 unfold CK
 rw [Hv,decide_eq_true hi,Bool.true_and]
 unfold isR
 rw [e]
 by_cases z:c=u
 ·rw [decide_eq_true z,decide_eq_true (by rw [z])]
 ·rw [decide_eq_false z,decide_eq_false (fun y=>z (Option.some.inj y))]
theorem Fe:∀{us:List Int} {i:Nat} {c:Int},us.Nodup->us[i]?=some c->us.idxOf c=i
 | [],i,c,_,h=>by cases h
 | u :: us,0,c,_,h=>by
   cases Option.some.inj h
   exact idxOf_cons_self
 | u :: us,i+1,c,nd,h=>by
   rw [nodup_cons] at nd
   have h':us[i]?=some c:=h
   have ne:u≠c:=fun e=>nd.1 (e ▸ mem_of_getElem? h')
   rw [idxOf_cons,show (u == c)=false from by simpa using ne,Fe nd.2 h']
   rfl
theorem QL {rs us:List Int} {h:Nat} {c:Int} (nd:us.Nodup) (e:rs[h]?=some c):∀i,i<=us.length->rk (us.map (CK rs)) h i=if c∈us.take i then (us.idxOf c:Int)+1 else 0
 | 0,_=>rfl
 | i+1,hi=>by
   obtain ⟨u,hu⟩:∃u,us[i]?=some u:=⟨_,List.getElem?_eq_getElem (by omega)⟩
   have et:us.take (i+1)=us.take i++[u]:=by rw [take_succ,hu];rfl
   have ig:=Fe nd hu
   show (if bit ((us.map (CK rs)).getD i 0) h=true then (i:Int)+1 else rk (us.map (CK rs)) h i)=_
   rw [getD_eq_getElem?_getD,List.getElem?_map,hu,Option.map_some,Option.getD_some,P7 u e,QL nd e i (by omega),et]
   by_cases z:c=u
   ·rw [if_pos (decide_eq_true z),if_pos (by simp [z]),z,ig]
   ·rw [if_neg (by simpa using z)]
    by_cases m:c∈us.take i
    ·rw [if_pos m,if_pos (mem_append_left _ m)]
    ·rw [if_neg m,if_neg (by simp [m,z])]
noncomputable def pos' (rs:List Int):List Int:=(Ev rs).filter fun r=>decide (0 < r)
theorem IB (rs:List Int):(pos' rs).Nodup:=((Fh rs).filter _).imp fun h e=>by rw [e] at h;exact Int.lt_irrefl _ h
theorem O3 (rs:List Int) {h:Nat} {c:Int} (e:rs[h]?=some c):rk (Av rs) h (Av rs).length=if c∈pos' rs then ((pos' rs).idxOf c:Int)+1 else 0:=by
 have:=QL (IB rs) e (pos' rs).length (Nat.le_refl _)
 rw [take_of_length_le (Nat.le_refl _)] at this
 have l:(Av rs).length=(pos' rs).length:=length_map ..
 rw [l]
 exact this
structure BV (rs:List Int) (m:Nat):Prop where
 low:∀r∈rs,0<=r
 all:∀z:Int,0 < z->(z∈rs↔z<=m)
theorem L8 (m:Nat):((List.range m).map fun j:Nat=>(j:Int)+1).Pairwise (· < ·):=by
 rw [pairwise_map]
 exact pairwise_lt_range.imp fun h=>by omega
theorem BV.pos {rs:List Int} {m:Nat} (g:BV rs m):pos' rs=(List.range m).map fun j:Nat=>(j:Int)+1:=by
 refine Ga ((Fh rs).filter _) (L8 m) fun z=>?_
 unfold pos'
 rw [mem_filter,FB,decide_eq_true_eq,mem_map]
 constructor
 ·rintro ⟨h1,h2⟩
  have:=(g.all z h2).mp h1
  exact ⟨(z - 1).toNat,mem_range.mpr (by omega),by omega⟩
 ·rintro ⟨j,hj,rfl⟩
  have:=mem_range.mp hj
  exact ⟨(g.all _ (by omega)).mpr (by omega),by omega⟩
theorem BV.tiers {rs:List Int} {m:Nat} (g:BV rs m):Av rs=(List.range m).map fun j:Nat=>CK rs ((j:Int)+1):=by
 show (pos' rs).map (CK rs)=_
 rw [g.pos,map_map]
 rfl
theorem BV.ranks {rs:List Int} {m:Nat} (g:BV rs m):By (Av rs) rs.length=rs:=by
 apply ext_getElem
 ·unfold By;rw [length_map,length_range]
 ·intro i h1 h2
  have e:rs[i]?=some rs[i]:=List.getElem?_eq_getElem h2
  have hg:(By (Av rs) rs.length)[i]=rk (Av rs) i (Av rs).length:=by simp [By]
  rw [hg,O3 rs e]
  have c0:=g.low _ (getElem_mem h2)
  have cm:=getElem_mem h2
  generalize rs[i]=c at c0 cm e ⊢
  by_cases z:c=0
  ·rw [if_neg,z]
   unfold pos'
   rw [mem_filter,decide_eq_true_eq]
   omega
  ·have cp:0 < c:=by omega
   have le:=(g.all c cp).mp cm
   have ig:=Fe (IB rs) (i:=(c - 1).toNat) (c:=c) (by
    rw [g.pos,List.getElem?_map,List.getElem?_range (by omega)]
    show some ((((c - 1).toNat:Nat):Int)+1)=some c
    rw [show (((c - 1).toNat:Nat):Int)+1=c by omega])
   rw [if_pos,ig]
   ·omega
   ·unfold pos'
    rw [mem_filter,decide_eq_true_eq,FB]
    exact ⟨cm,cp⟩
theorem Ka {rs:List Int}:∀t∈Av rs,0<=t/\t < 2 ^ rs.length:=fun t m=>by
 obtain ⟨r,_,rfl⟩:=mem_map.mp m
 exact ⟨Gv _ _,MO _ _⟩
theorem Of (rs:List Int):(Av rs).length<=rs.length:=by
 unfold Av
 rw [length_map]
 exact Nat.le_trans (length_filter_le _ _) (FN rs)
noncomputable def NU:Sp:=fun vs H Q _=>∃(t:Addr) (ts:List Int) (n:Nat),vs=[.ref t,.int (n:Int)]/\H t=some (.tup (ts.map V.int))/\n<=12/\(∀x∈ts,0<=x/\x < 2 ^ n) /\
 ∀(l:Addr) (H':Hp),H l=none->AJ H H'->H' l=some (.lst ((By ts n).map V.int))->Q (.ref l) H'
noncomputable def Ch (c:Int):List Int->Int
 | []=>c
 | r :: rs=>Ch (c*13+r) rs
theorem Ff (r:Int):∀(rs:List Int) (c:Int),Ch c (rs++[r])=Ch c rs*13+r
 | [],_=>rfl
 | q :: rs,c=>Ff r rs (c*13+q)
theorem MN:∀{rs:List Int} {c:Int},0<=c->(∀r∈rs,0<=r/\r<=12)->0<=Ch c rs/\Ch c rs+1<=13 ^ rs.length*(c+1)
 | [],c,h,_=>⟨h,by show c+1<=1*(c+1);omega⟩
 | q :: rs,c,h,hr=>by
   have hq:=hr q (mem_cons_self ..)
   have ih:=MN (rs:=rs) (c:=c*13+q) (by omega) fun r m=>hr r (mem_cons_of_mem _ m)
   refine ⟨ih.1,Int.le_trans ih.2 ?_⟩
   show 13 ^ rs.length*(c*13+q+1)<=13 ^ (rs.length+1)*(c+1)
   rw [Int.pow_succ,Int.mul_assoc]
   exact Int.mul_le_mul_of_nonneg_left (by omega) (Int.pow_nonneg (by decide))
theorem JB {rs:List Int} {c:Int} (h0:0<=c) (h1:c<=2000000000) (hr:∀r∈rs,0<=r/\r<=12) (hl:rs.length<=12):0<=Ch c rs/\Ch c rs < 10 ^ 40:=by
 obtain ⟨a,b⟩:=MN h0 hr
 refine ⟨a,?_⟩
 have p:(13:Int) ^ rs.length<=13 ^ 12:=by
  have q:13 ^ rs.length<=13 ^ 12:=Nat.pow_le_pow_right (by decide) hl
  have e:((13 ^ rs.length:Nat):Int)=(13:Int) ^ rs.length:=by simp
  have f:((13 ^ 12:Nat):Int)=(13:Int) ^ 12:=by simp
  omega
 have m:=Int.mul_le_mul p (show c+1<=2000000001 by omega) (by omega) (show (0:Int)<=13 ^ 12 by decide)
 have e:(13:Int) ^ 12*2000000001 < 10 ^ 40:=by decide
 omega
theorem Lo (n:Nat):((List.range n).map fun j:Nat=>(j:Int)).Nodup:=pairwise_map.mpr ((pairwise_lt_range (n:=n)).imp fun h e=>by omega)
theorem P0 {os:List Int} {n:Nat} (hp:os.Perm ((List.range n).map fun j:Nat=>(j:Int))):BV ((List.range n).map fun h:Nat=>1+((os.idxOf (h:Int):Nat):Int)) n/\∀r∈(List.range n).map fun h:Nat=>1+((os.idxOf (h:Int):Nat):Int),r<=n:=by
 have nd:os.Nodup:=hp.nodup_iff.mpr (Lo n)
 have ln:os.length=n:=by rw [hp.length_eq,length_map,length_range]
 have lt:∀h:Nat,h < n->os.idxOf (h:Int) < n:=fun h hh=>by
  have:(h:Int)∈os:=hp.mem_iff.mpr (mem_map.mpr ⟨h,mem_range.mpr hh,rfl⟩)
  have:=idxOf_lt_length_iff.mpr this
  omega
 refine ⟨⟨fun r m=>?_,fun z z0=>⟨fun m=>?_,fun h=>?_⟩⟩,fun r m=>?_⟩
 ·obtain ⟨h,_,rfl⟩:=mem_map.mp m
  omega
 ·obtain ⟨h,hh,rfl⟩:=mem_map.mp m
  have:=lt h (mem_range.mp hh)
  omega
 ·have hz:(z - 1).toNat < os.length:=by omega
  have e:os[(z - 1).toNat]?=some os[(z - 1).toNat]:=List.getElem?_eq_getElem hz
  obtain ⟨h,hh,eh⟩:=mem_map.mp (hp.mem_iff.mp (mem_of_getElem? e))
  have ix:=Fe nd e
  refine mem_map.mpr ⟨h,hh,?_⟩
  have eh':(h:Int)=os[(z - 1).toNat]:=eh
  rw [eh',ix]
  omega
 ·obtain ⟨h,hh,rfl⟩:=mem_map.mp m
  have:=lt h (mem_range.mp hh)
  omega
theorem PV {raw us:List Int} (ri:us.Pairwise (· < ·)) (me:∀z,z∈us↔z∈raw++[0]) (pos:∀r∈raw,0<=r):BV (raw.map fun r=>((us.idxOf r:Nat):Int)) (us.length - 1):=by
 have nd:us.Nodup:=ri.imp fun h e=>by rw [e] at h;exact Int.lt_irrefl _ h
 have z0:us[0]?=some 0:=by
  have m0:(0:Int)∈us:=(me 0).mpr (by simp)
  cases us with
  | nil=>cases m0
  | cons u t =>
    have hu:=(me u).mp (mem_cons_self ..)
    have u0:0<=u:=by
     rcases mem_append.mp hu with h | h
     ·exact pos u h
     ·rw [mem_singleton.mp h];exact Int.le_refl _
    rcases mem_cons.mp m0 with e | e
    ·rw [<- e];rfl
    ·have:=(pairwise_cons.mp ri).1 0 e
     omega
 refine ⟨fun r m=>?_,fun z zp=>⟨fun m=>?_,fun h=>?_⟩⟩
 ·obtain ⟨h,_,rfl⟩:=mem_map.mp m
  omega
 ·obtain ⟨h,hh,rfl⟩:=mem_map.mp m
  have:=idxOf_lt_length_iff.mpr ((me h).mpr (mem_append_left _ hh))
  omega
 ·have hz:z.toNat < us.length:=by omega
  have e:us[z.toNat]?=some us[z.toNat]:=List.getElem?_eq_getElem hz
  generalize us[z.toNat]=u at e
  have ix:=Fe nd e
  have ne:u≠0:=fun c=>by
   have:=Fe nd z0
   rw [c] at ix
   omega
  refine mem_map.mpr ⟨u,?_,by rw [ix];omega⟩
  rcases mem_append.mp ((me u).mp (mem_of_getElem? e)) with k | k
  ·exact k
  ·exact absurd (mem_singleton.mp k) ne
theorem Pg {rs:List Int} {c:Int} {i:Nat} (hi:i < rs.length) (hr:∀r∈rs,0<=r/\r<=12) :
 ∃r,0<=r/\r<=12/\Ch c (rs.take (rs.length - i))=Ch c (rs.take (rs.length - (i+1)))*13+r/\(rs.drop (rs.length - (i+1))).reverse=(rs.drop (rs.length - i)).reverse++[r]:=by
 have h1:rs.length - i=(rs.length - (i+1))+1:=by omega
 have h2:rs.length - (i+1) < rs.length:=by omega
 rw [h1]
 generalize rs.length - (i+1)=k at h2
 have e:rs[k]?=some rs[k]:=List.getElem?_eq_getElem h2
 have m:=hr rs[k] (getElem_mem h2)
 refine ⟨rs[k],m.1,m.2,?_,?_⟩
 ·rw [take_succ,e]
  exact Ff _ _ _
 ·rw [drop_eq_getElem_cons h2,reverse_cons]
theorem S3 {a r:Int} (h0:0<=r) (h1:r<=12):(a*13+r).fmod 13=r/\(a*13+r).fdiv 13=a:=by
 rw [Int.fmod_eq_emod_of_nonneg _ (by decide),Int.fdiv_eq_ediv_of_nonneg _ (by decide)]
 omega
theorem QC {rs:List Int} {m:Nat} {M:Int} (g:BV rs m) (h1:M∈rs) (h2:∀z∈rs,z<=M):M=m:=by
 have:=g.low M h1
 by_cases c:0 < M
 ·have a:=(g.all M c).mp h1
  have b:=(g.all (m:Int) (by omega)).mpr (Int.le_refl _)
  have:=h2 _ b
  omega
 ·cases m with
  | zero=>omega
  | succ k =>
    have b:=(g.all ((k+1:Nat):Int) (by omega)).mpr (Int.le_refl _)
    have:=h2 _ b
    omega
noncomputable def OX:Sp:=fun vs H Q _=>∃(p t:Addr) (ts:List Int) (c:Int) (n:Nat),vs=[.ref p,.int (n:Int)]/\H p=some (.tup [.ref t,.int c])/\H t=some (.tup (ts.map V.int))/\n<=12/\(∀x∈ts,0<=x/\x < 2 ^ n)/\0<=c/\c<=1000000000/\(∀r∈By ts n,0<=r/\r<=12) /\
 ∀H':Hp,AJ H H'->Q (.int (Ch c (By ts n))) H'
noncomputable def Ov:Sp:=fun vs H Q _=>∃(rs:List Int) (c:Int) (m:Nat),vs=[.int (Ch c rs),.int (rs.length:Nat)]/\rs.length<=12/\(∀r∈rs,0<=r/\r<=12)/\1<=c/\c<=1000000000/\BV rs m /\
 ∀(p t:Addr) (H':Hp),AJ H H'->H' p=some (.tup [.ref t,.int c])->H' t=some (.tup ((Av rs).map V.int))->Q (.ref p) H'
theorem QN {x0 x1 x2 x3:Int} (P:Int->Prop) (m:Int) (h0:0<=m) (h4:m < 4) (p0:P x0) (p1:P x1) (p2:P x2) (p3:P x3):∃v,atI [V.int x0,V.int x1,V.int x2,V.int x3] m=some (.int v)/\P v:=by
 rcases (by omega:m=0\/m=1\/m=2\/m=3) with rfl | rfl | rfl | rfl
 ·exact ⟨x0,rfl,p0⟩
 ·exact ⟨x1,rfl,p1⟩
 ·exact ⟨x2,rfl,p2⟩
 ·exact ⟨x3,rfl,p3⟩
noncomputable def N3:Sp:=fun vs H Q _=>∃(c:Int) (n:Nat),vs=[.int c,.int (n:Int)]/\0<=c/\c < 10 ^ 40/\1<=n/\n<=12 /\
 ∀(l:Addr) (rs:List Int) (m:Nat) (H':Hp),H l=none->AJ H H'->H' l=some (.lst (rs.map V.int))->rs.length=n->BV rs m->(∀r∈rs,0<=r/\r<=12)->Q (.ref l) H'
noncomputable def Oy:Sp:=fun vs H Q _=>∃(p:Addr) (rs:List Int) (m:Nat),vs=[.ref p]/\H p=some (.lst (rs.map V.int))/\0 < rs.length/\rs.length<=12/\(∀r∈rs,0<=r/\r<=12)/\BV rs m /\
 ∀(t:Addr) (H':Hp),AJ H H'->H' t=some (.tup ((Av rs).map V.int))->Q (.ref t) H'
noncomputable def Pr:Sp:=fun vs H Q _=>∃(p:Addr) (rs:List Int) (c:Int),vs=[.ref p,.int c]/\H p=some (.lst (rs.map V.int))/\rs.length<=12/\(∀r∈rs,0<=r/\r<=12)/\0<=c/\c<=2000000000/\Q (.int (Ch c rs)) H
noncomputable def OQ:Sp:=fun vs H Q _=>∃(c k:Int),vs=[.int c,.int k]/\0<=c/\c < 10 ^ 40/\0<=k/\k<=900/\∀(z:Int) (H':Hp),1<=z->z<=1000000000->AJ H H'->Q (.int z) H'
noncomputable def Pa:Sp:=fun vs H Q _=>∃(p q t u:Addr) (ts:List Int) (c:Int),vs=[.ref p,.ref q]/\ts.length<=12/\H p=some (.tup [.ref t,.int c])/\H t=some (.tup (ts.map V.int))/\H q=some (.tup [.ref u,.int c])/\H u=some (.tup (ts.map V.int))/\∀H':Hp,AJ H H'->Q (.bl true) H'
theorem GJ (ts:List Int) (c:Int):SeqAt.shaped (.tuple [.tuple (ts.map .int),.int c])=true:=by
 obtain ⟨h1,h2⟩:=DK ts
 unfold SeqAt.shaped
 rw [Bool.and_eq_true]
 refine ⟨?_,decide_eq_true ?_⟩
 ·show (PyData.canLayAll0 (ts.map .int) && (true && true))=true
  rw [h1];rfl
 ·show max (PyData.depthAll (ts.map .int)+1) (max 0 0)+1<=64
  omega
theorem Oz (ts:List Int) (c:Int):PyData.eqv (.tuple [.tuple (ts.map .int),.int c]) (.tuple [.tuple (ts.map .int),.int c])=true:=by
 show (PyData.eqvAll (ts.map .int) (ts.map .int) && ((c == c) && true))=true
 rw [Dj,decide_eq_true rfl,beq_self_eq_true]
 rfl
noncomputable def ws (f:Int->Int):Int->List Int->Int
 | _,[]=>0
 | k,c :: cs=>c*f (k+1)+ws f (k+1) cs
noncomputable def f1 (_:Int):Int:=1
noncomputable def f2 (p:Int):Int:=p
noncomputable def f3 (p:Int):Int:=p*p
noncomputable def EU (cs:List Int):List Int:=[(cs.length:Int),ws f1 0 cs,ws f2 0 cs,ws f3 0 cs]
theorem Ee (f:Int->Int):∀(k:Int) (cs:List Int) (c:Int),ws f k (cs++[c])=ws f k cs+c*f (k+cs.length+1)
 | k,[],c=>by
   show c*f (k+1)+0=0+c*f (k+0+1)
   rw [Int.add_zero,Int.add_zero,Int.zero_add]
 | k,d :: cs,c=>by
   show d*f (k+1)+ws f (k+1) (cs++[c])=d*f (k+1)+ws f (k+1) cs+c*f (k+((cs.length+1:Nat):Int)+1)
   rw [Ee f (k+1) cs c]
   have e:k+1+(cs.length:Int)+1=k+((cs.length+1:Nat):Int)+1:=by omega
   rw [e]
   exact (Int.add_assoc ..).symm
theorem Jn (f:Int->Int):∀(k:Int) (cs:List Int) (i:Nat) (c d:Int),cs[i]?=some c->ws f k (cs.set i (c+d))=ws f k cs+d*f (k+i+1)
 | k,[],i,c,d,h=>by simp at h
 | k,b :: cs,0,c,d,h=>by
   have e:b=c:=by simpa using h
   subst e
   show (b+d)*f (k+1)+ws f (k+1) cs=b*f (k+1)+ws f (k+1) cs+d*f (k+0+1)
   rw [Int.add_zero,Int.add_mul]
   omega
 | k,b :: cs,i+1,c,d,h=>by
   show b*f (k+1)+ws f (k+1) (cs.set i (c+d))=b*f (k+1)+ws f (k+1) cs+d*f (k+((i+1:Nat):Int)+1)
   rw [Jn f (k+1) cs i c d (by simpa using h)]
   have e:k+1+(i:Int)+1=k+((i+1:Nat):Int)+1:=by omega
   rw [e]
   exact (Int.add_assoc ..).symm
noncomputable def MR (cs:List Int):Prop:=∀c∈cs,Sz 300 c
noncomputable def Alt (cs ds:List Int) (pl:Int):Prop:=(cs=ds/\pl=0)\/∃(i:Nat) (c d:Int),cs[i]?=some c/\d≠0/\Sz 300 d/\ds=cs.set i (c+d)/\pl=(i:Int)+1
noncomputable def FU (x0 x1 x2 n:Int):Int:=if x0=0 then 0 else if x1.fdiv x0 < 1\/n < x1.fdiv x0 then 0 else if x1≠x0*x1.fdiv x0\/x2≠x0*x1.fdiv x0*x1.fdiv x0 then 0 else x1.fdiv x0
theorem Ot {d p n:Int} (h:d≠0) (p1:1<=p) (pn:p<=n):FU d (d*p) (d*(p*p)) n=p:=by
 unfold FU
 rw [if_neg h,Int.mul_fdiv_cancel_left p h,if_neg (by omega),if_neg]
 rintro (z | z)
 ·exact z rfl
 ·exact z (Int.mul_assoc ..).symm
noncomputable def P3:Sp:=fun vs H Q _=>∃(p:Addr) (cs:List Int),vs=[.ref p]/\H p=some (.lst (cs.map V.int))/\MR cs/\cs.length<=100/\∀(t:Addr) (H':Hp),H t=none->AJ H H'->H' t=some (.tup ((EU cs).map V.int))->Q (.ref t) H'
noncomputable def Qb:Sp:=fun vs H Q _=>∃(p:Addr) (x0 x1 x2 n:Int),vs=[.ref p,.int n]/\H p=some (.lst [.int x0,.int x1,.int x2])/\Sz 1000 x0/\Sz 1000 x1/\Q (.int (FU x0 x1 x2 n)) H
noncomputable def O8:Sp:=fun vs H Q _=>∃(p r:Addr) (cs ds:List Int) (pl:Int),vs=[.ref p,.ref r]/\H p=some (.lst (cs.map V.int))/\H r=some (.tup ((EU ds).map V.int))/\MR cs/\MR ds/\cs.length<=100/\Alt cs ds pl /\
 ∀(a t:Addr) (H':Hp),H a=none->AJ H H'->H' a=some (.lst (ds.map V.int))->H' t=some (.tup [.ref a,.int pl])->Q (.ref t) H'
noncomputable def off (H:Hp) (D:Addr):Hp:=fun b=>if b=D then none else H b
theorem Lk (H:Hp) (D:Addr):AJ (off H D) H:=fun b o e=>by
 unfold off at e
 split at e
 ·cases e
 ·exact e
theorem Bu {H:Hp} {D b:Addr} {o:HO} (e:H b=some o) (n:b≠D):off H D b=some o:=by
 unfold off
 rw [if_neg n]
 exact e
theorem OD {H:Hp} {D:Addr}:off H D D=none:=by unfold off;rw [if_pos rfl]
theorem GD {H H':Hp} {D:Addr} {o:HO} (s:AJ (off H D) H'):AJ (off H D) (upd H' D o):=fun b u e=>by
 rw [A8 (fun z=>by rw [z,OD] at e;cases e)]
 exact s _ _ e
theorem Pw {H0 H:Hp} {D:Addr} (s:AJ H0 H) (n:H0 D=none):AJ H0 (off H D):=fun b o e=>Bu (s _ _ e) fun z=>by rw [z,n] at e;cases e
noncomputable def PR:Sp:=fun vs H Q _=>∃n:Int,vs=[.int n]/\1<=n/\n<=12/\Q (.bl true) H
theorem P1 (n:Nat):(List.replicate n [V.int 0]).flatten=(List.replicate n (0:Int)).map V.int:=by
 induction n with
 | zero=>rfl
 | succ n ih=>rw [replicate_succ,flatten_cons,ih];rfl
noncomputable def ld (q:List Int × Int):PyData:=.tuple [.tuple (q.1.map .int),.int q.2]
theorem Dr {K:PySem.W.Frag} {H:Hp}:∀{ls:Ls},AM H ls->Reps K H (vls ls) ((Ao ls).map ld)
 | [],_=>.nil
 | q :: _,g=>by
   obtain ⟨g1,g2⟩:=g q (mem_cons_self ..)
   exact .cons (.tup (SqT.of g1) (.cons (.tup (SqT.of g2) (.ints _)) (.cons (.int _) .nil))) (Dr (g.sub fun _ m=>mem_cons_of_mem _ m))
theorem JG:∀ds:Ds,PyData.canLayAll0 (ds.map ld)=true/\PyData.depthAll (ds.map ld)<=2
 | []=>⟨rfl,Nat.zero_le _⟩
 | q :: r=>by
   obtain ⟨h1,h2⟩:=JG r
   obtain ⟨i1,i2⟩:=DK q.1
   refine ⟨?_,?_⟩
   ·show ((PyData.canLayAll0 (q.1.map .int) && (true && true)) && PyData.canLayAll0 (r.map ld))=true
    rw [h1,i1];rfl
   ·show max (max (PyData.depthAll (q.1.map .int)+1) (max 0 0)+1) (PyData.depthAll (r.map ld))<=2
    omega
theorem CG (ds:Ds):SeqAt.shaped (.list (ds.map ld))=true:=by
 obtain ⟨h1,h2⟩:=JG ds
 unfold SeqAt.shaped
 rw [Bool.and_eq_true]
 refine ⟨h1,decide_eq_true ?_⟩
 show PyData.depthAll (ds.map ld)+1<=64
 omega
theorem M6:∀ds:Ds,PyData.eqvAll (ds.map ld) (ds.map ld)=true
 | []=>rfl
 | q :: r=>by
   show ((PyData.eqvAll (q.1.map .int) (q.1.map .int) && ((q.2 == q.2) && true)) && PyData.eqvAll (r.map ld) (r.map ld))=true
   rw [M6 r,Dj,decide_eq_true rfl,beq_self_eq_true]
   rfl
theorem MQ (a:List Int):HT.lexLt a a≠true:=fun e=>by
 have:=FM e
 rw [e] at this
 cases this
theorem Hm {ts:List Int} {n:Int}:∀{out:Ds},out.Pairwise (fun x y=>HT.lexLt x.1 y.1=true)->(ts,n)∈out->tot out ts=n
 | [],_,m=>nomatch m
 | q :: r,h,m=>by
   rw [pairwise_cons] at h
   show (if q.1=ts then q.2 else 0)+tot r ts=n
   rcases mem_cons.mp m with e | e
   ·rw [<- e,if_pos rfl,Fc fun k=>?_]
    ·exact Int.add_zero _
    ·obtain ⟨x,xm,xe⟩:=mem_map.mp k
     have:=h.1 x xm
     rw [<- e,xe] at this
     exact MQ _ this
   ·rw [if_neg fun c=>MQ q.1 (by have:=h.1 _ e;rw [show (ts,n).1=q.1 from c.symm] at this;exact this),Hm h.2 e]
    exact Int.zero_add _
theorem Cl.tot {ds out:Ds} (h:Cl ds out) (p:Pos ds) (ts:List Int):Law.tot out ts=Law.tot ds ts:=by
 by_cases c:0 < Law.tot ds ts
 ·exact Hm h.srt ((h.mem ts _).mpr ⟨rfl,c⟩)
 ·have z:=F5 (ts:=ts) p
  rw [Fc fun k=>?_]
  ·omega
  ·obtain ⟨x,xm,xe⟩:=mem_map.mp k
   have:=(h.mem x.1 x.2).mp xm
   rw [xe] at this
   omega
theorem Cl.pos {ds out:Ds} (h:Cl ds out):Pos out:=fun q m=>by
 have:=(h.mem q.1 q.2).mp m
 omega
theorem Cl.keys {ds out:Ds} (h:Cl ds out) {p:List (List Int)} (hp:∀q∈ds,q.1∈p):∀q∈out,q.1∈p:=fun q m=>by
 have k:=(h.mem q.1 q.2).mp m
 by_cases c:q.1∈ds.map (·.1)
 ·obtain ⟨r,rm,e⟩:=mem_map.mp c
  rw [<- e]
  exact hp r rm
 ·rw [Fc c] at k
  omega
theorem DM {xs:List V} {j:Nat}:Ik xs (some (j:Int)) none=xs.drop j:=by
 unfold Ik
 rw [HT.sIx_none,HT.sIx_nat]
 by_cases h:j<=xs.length
 ·rw [Nat.min_eq_left h]
  exact take_of_length_le (by rw [length_drop];exact Nat.le_refl _)
 ·rw [Nat.min_eq_right (by omega),drop_of_length_le (Nat.le_refl _),drop_of_length_le (by omega)]
  exact take_nil
theorem KN {q:List Int × Int}:∀{bs:List (Addr × Ls)},q∈Ao (Ck bs)->∃b∈bs,q∈Ao b.2
 | [],m=>nomatch m
 | b :: bs,m=>by
   rw [show Ck (b :: bs)=b.2++Ck bs from rfl,AK] at m
   rcases mem_append.mp m with m | m
   ·exact ⟨b,mem_cons_self ..,m⟩
   ·obtain ⟨c,cm,x⟩:=KN m
    exact ⟨c,mem_cons_of_mem _ cm,x⟩
theorem Cl.of_tot {ds es out:Ds} (h:Cl ds out) (e:∀ts,Law.tot es ts=Law.tot ds ts):Cl es out:=⟨h.srt,fun ts n=>by rw [e];exact h.mem ts n⟩
theorem Q7 (m:Int) (h:Nat):decide (V.int ((m.fdiv (1*2 ^ h)).fmod 2)=V.int 1)=bit m h:=by
 have p:(0:Int)<=1*2 ^ h:=by rw [Int.one_mul];exact Int.le_of_lt (Int.pow_pos (by decide))
 unfold bit
 rw [Int.fdiv_eq_ediv_of_nonneg m p,Int.fmod_eq_emod_of_nonneg _ (by decide),Int.one_mul]
 by_cases c:m / 2 ^ h % 2=1
 ·rw [decide_eq_true c,decide_eq_true (congrArg V.int c)]
 ·rw [decide_eq_false c,decide_eq_false fun e=>c (V.int.inj e)]
theorem Q4 {i:Nat} (h:i < 64):(1:Int)*2 ^ i≠0/\Sz 9000 ((1:Int)*2 ^ i):=by
 have p:(0:Int) < 2 ^ i:=Int.pow_pos (by decide)
 have e:(2:Int) ^ i=((2 ^ i:Nat):Int):=by simp
 have l:2 ^ i < 2 ^ 64:=Nat.pow_lt_pow_right (by decide) h
 refine ⟨by rw [Int.one_mul];omega,?_⟩
 rw [Int.one_mul,e]
 exact (show Sz 64 ((2 ^ i:Nat):Int) from l).mono (by decide)
noncomputable def OkS (n:Nat) (ts:List Int):Prop:=∃rs m,ts=Av rs/\rs.length=n/\BV rs m/\∀r∈rs,0<=r/\r<=12
noncomputable def Ci (n:Nat) (p:List (List Int)) (ds:Ds):Prop:=∀q∈ds,q.1∈p/\1<=q.2/\q.2<=1000000000/\OkS n q.1
noncomputable def CJ (n:Nat) (ds:Ds):List Int:=ds.map fun q=>Ch q.2 (By q.1 n)
theorem OkS.ranks {n:Nat} {ts:List Int} (h:OkS n ts):∃rs m,By ts n=rs/\ts=Av rs/\rs.length=n/\BV rs m/\(∀r∈rs,0<=r/\r<=12)/\∀x∈ts,0<=x/\x < 2 ^ n:=by
 obtain ⟨rs,m,rfl,rfl,g,r12⟩:=h
 exact ⟨rs,m,g.ranks,rfl,rfl,g,r12,Ka⟩
theorem OkS.len {n:Nat} {ts:List Int} (h:OkS n ts):ts.length<=n:=by
 obtain ⟨rs,m,rfl,rfl,g,r12⟩:=h
 exact Of rs
theorem Fa {n:Nat} {p:List (List Int)} {ds:Ds} (n12:n<=12) (h:Ci n p ds):MR (CJ n ds):=fun c m=>by
 obtain ⟨q,qm,rfl⟩:=mem_map.mp m
 obtain ⟨_,q1,q9,ok⟩:=h q qm
 obtain ⟨rs,m,e,_,l,_,r12,_⟩:=ok.ranks
 show Sz 300 (Ch q.2 (By q.1 n))
 rw [e]
 have k:=JB (c:=q.2) (by omega) (by omega) r12 (by omega)
 exact Dq (by omega) (by omega)
theorem Cg (n:Nat) (ds:Ds):(CJ n ds).length=ds.length:=length_map ..
abbrev fsB (n:Int) (L:Addr):List (Str × V):=[("hands",.int n),("bundles",.ref L)]
theorem Sh (x:V):CQ "hands" x []=([("hands",x)]:List (Str × V)):=rfl
theorem Sb (x y:V):CQ "bundles" y [("hands",x)]=([("hands",x),("bundles",y)]:List (Str × V)):=by
 unfold CQ;rw [if_neg (by decide)];rfl
structure IsB (C:Addr) (H:Hp) (b L:Addr) (n:Nat) (bs:List (Addr × Ls)):Prop where
 at_:∃dx,H b=some (.ins C dx (fsB (n:Int) L))
 lst:H L=some (.lst (bs.map fun x=>V.ref x.1))
 lies:∀x∈bs,H x.1=some (.lst (vls x.2))/\AM H x.2
 ne:∀x∈bs,x.1≠L
theorem IsB.same {C:Addr} {H H':Hp} {b L:Addr} {n:Nat} {bs:List (Addr × Ls)} (s:AJ H H') (h:IsB C H b L n bs):IsB C H' b L n bs:=by
 obtain ⟨⟨dx,h1⟩,h2,h3,h4⟩:=h
 exact ⟨⟨dx,s _ _ h1⟩,s _ _ h2,fun x m=>⟨s _ _ (h3 x m).1,(h3 x m).2.same s⟩,h4⟩
theorem DN (bs:List (Addr × Ls)) (x:Addr × Ls):Ck (bs++[x])=Ck bs++x.2:=by
 unfold Ck
 rw [map_append,flatten_append]
 simp
noncomputable def NO (K:PySem.W.Frag):Sp:=fun vs H Q _=>∃(a C dx:Addr) (n:Int),vs=[.ref a,.int n]/\H a=some (.ins C dx [])/\Cls K C/\BX K C "hands"/\BX K C "bundles"/\1<=n/\n<=12 /\
 ∀(L:Addr) (H':Hp),L≠a->H L=none->AJ (off H a) H'->H' a=some (.ins C dx (fsB n L))->H' L=some (.lst [])->Q .non H'
noncomputable def Rz (C:Addr):Sp:=fun vs H Q _=>∃(b L:Addr) (n:Nat) (bs:List (Addr × Ls)),vs=[.ref b]/\IsB C H b L n bs/\Q (.int (bs.length:Nat)) H
noncomputable def Rg (C:Addr):Sp:=fun vs H Q _=>∃(b L:Addr) (n:Nat) (bs:List (Addr × Ls)) (c r:Addr) (p:List (List Int)) (ds:Ds),vs=[.ref b,.ref c,.ref r]/\IsB C H b L n bs/\bs.length<=900/\n<=12/\H c=some (.lst ((CJ n ds).map V.int))/\c≠L/\H r=some (.tup ((EU (CJ n ds)).map V.int))/\Ci n p ds/\ds.length<=100 /\
 ∀(x t:Addr) (ls:Ls) (H':Hp),H x=none->AJ (off H L) H'->H' L=some (.lst ((bs++[(x,ls)]).map fun x=>V.ref x.1))->H' x=some (.lst (vls ls))->AM H' ls->Ao ls=ds->H' t=some (.tup [.int (bs.length:Nat),.int 0])->Q (.ref t) H'
noncomputable def Pp (C:Addr):Sp:=fun vs H Q _=>∃(b L:Addr) (n:Nat) (bs:List (Addr × Ls)) (k:Nat) (x:Addr × Ls) (p:List (List Int)),vs=[.ref b,.int (k:Int)]/\IsB C H b L n bs/\bs[k]?=some x/\Ci n p (Ao x.2)/\n<=12/\x.2.length<=100 /\
 ∀(t:Addr) (H':Hp),AJ H H'->H' t=some (.tup ((EU (CJ n (Ao x.2))).map V.int))->Q (.ref t) H'
noncomputable def Pb (C:Addr):Sp:=fun vs H Q _=>∃(b L:Addr) (n:Nat) (bs:List (Addr × Ls)) (p:List (List Int)),vs=[.ref b]/\IsB C H b L n bs/\(∀x∈bs,Ci n p (Ao x.2))/\p.length < 64/\bs.length<=12 /\
 ∀(l:Addr) (ls:Ls) (H':Hp),H l=none->AJ H H'->H' l=some (.lst (vls ls))->AM H' ls->Cl (Ao (Ck bs)) (Ao ls)->ls.length < 64->Q (.ref l) H'
structure Bun (H0 H:Hp) (n:Nat) (p:List (List Int)) (bs:List (Addr × Ls)):Prop where
 lies:∀x∈bs,H x.1=some (.lst (vls x.2))/\AM H x.2
 ok:∀x∈bs,Ci n p (Ao x.2)
 nd:(bs.map (·.1)).Nodup
 new:∀x∈bs,H0 x.1=none
theorem Bun.same {H0 H H':Hp} {n:Nat} {p:List (List Int)} {bs:List (Addr × Ls)} (s:AJ H H') (h:Bun H0 H n p bs):Bun H0 H' n p bs:=⟨fun x m=>⟨s _ _ (h.lies x m).1,(h.lies x m).2.same s⟩,h.ok,h.nd,h.new⟩
theorem QO:∀{as:List Addr} {i j:Nat} {a:Addr},as.Nodup->as[i]?=some a->as[j]?=some a->i=j
 | [],_,_,_,_,h,_=>by simp at h
 | x :: as,0,0,a,_,_,_=>rfl
 | x :: as,0,j+1,a,nd,h,k=>by
   rw [nodup_cons] at nd
   have e:x=a:=Option.some.inj h
   exact absurd (mem_of_getElem? (show as[j]?=some a from k)) (e ▸ nd.1)
 | x :: as,i+1,0,a,nd,h,k=>by
   rw [nodup_cons] at nd
   have e:x=a:=Option.some.inj k
   exact absurd (mem_of_getElem? (show as[i]?=some a from h)) (e ▸ nd.1)
 | x :: as,i+1,j+1,a,nd,h,k=>by
   rw [nodup_cons] at nd
   rw [QO nd.2 (show as[i]?=some a from h) (show as[j]?=some a from k)]
theorem Bun.push {H0 H:Hp} {n:Nat} {p p':List (List Int)} {bs:List (Addr × Ls)} {j:Nat} {x:Addr × Ls} {q:Addr × Addr × List Int × Int} (h:Bun H0 H n p bs) (ex:bs[j]?=some x) (sub:∀z∈p,z∈p') (g1:H q.1=some (.tup [.ref q.2.1,.int q.2.2.2])) (g2:H q.2.1=some (.tup (q.2.2.1.map V.int))) (okq:q.2.2.1∈p'/\1<=q.2.2.2/\q.2.2.2<=1000000000/\OkS n q.2.2.1) :
 Bun H0 (upd H x.1 (.lst (vls (x.2++[q])))) n p' (bs.set j (x.1,x.2++[q])):=by
 obtain ⟨h1,h2,h3,h4⟩:=h
 have xm:=mem_of_getElem? ex
 have up:∀ds,Ci n p ds->Ci n p' ds:=fun ds k z m=>⟨sub _ (k z m).1,(k z m).2⟩
 have gq:AM H [q]:=fun z m=>by rw [mem_singleton.mp m];exact ⟨g1,g2⟩
 have hset:(bs.set j (x.1,x.2++[q])).map (·.1)=bs.map (·.1):=by
  rw [map_set]
  apply ext_getElem?
  intro i
  by_cases c:j=i
  ·subst c
   rw [List.getElem?_set_self (by rw [length_map];exact (List.getElem?_eq_some_iff.mp ex).1),List.getElem?_map,ex]
   rfl
  ·rw [List.getElem?_set_ne c]
 have at_:∀y∈bs.set j (x.1,x.2++[q]),y=(x.1,x.2++[q])\/(y∈bs/\y.1≠x.1):=fun y m=>by
  obtain ⟨i,hi⟩:=List.getElem?_of_mem m
  by_cases c:j=i
  ·subst c
   rw [List.getElem?_set_self (by exact (List.getElem?_eq_some_iff.mp ex).1)] at hi
   exact .inl (Option.some.inj hi).symm
  ·rw [List.getElem?_set_ne c] at hi
   refine .inr ⟨mem_of_getElem? hi,fun z=>c ?_⟩
   refine QO h3 (a:=x.1) (by rw [List.getElem?_map,ex];rfl) (by rw [List.getElem?_map,hi];exact congrArg some z)
 refine ⟨fun y m=>?_,fun y m=>?_,by rw [hset];exact h3,fun y m=>?_⟩
 ·rcases at_ y m with rfl | ⟨ym,ne⟩
  ·exact ⟨Ag,((h1 x xm).2.append gq).upd (h1 x xm).1⟩
  ·exact ⟨by rw [A8 ne];exact (h1 y ym).1,(h1 y ym).2.upd (h1 x xm).1⟩
 ·rcases at_ y m with rfl | ⟨ym,ne⟩
  ·intro z zm
   rw [AK] at zm
   rcases mem_append.mp zm with zm | zm
   ·exact up _ (h2 x xm) z zm
   ·rw [mem_singleton.mp zm]
    exact okq
  ·exact up _ (h2 y ym)
 ·rcases at_ y m with rfl | ⟨ym,ne⟩
  ·exact h4 x xm
  ·exact h4 y ym
theorem RA {H H':Hp} {L a:Addr} {o:HO} (s:AJ H H') (e:off H L a=some o):off H' L a=some o:=by
 unfold off at e ⊢
 split at e
 ·cases e
 ·rename_i c
  rw [if_neg c]
  exact s _ _ e
theorem Py {H:Hp} {L a:Addr} (e:H a=none):off H L a=none:=by
 unfold off
 split
 ·rfl
 ·exact e
theorem JI {bs:List (Addr × Ls)} {j:Nat} {x:Addr × Ls} {l:Ls} (ex:bs[j]?=some x):((bs.set j (x.1,l)).map fun x=>V.ref x.1)=bs.map fun x=>V.ref x.1:=by
 rw [map_set]
 apply ext_getElem?
 intro i
 by_cases c:j=i
 ·subst c
  rw [List.getElem?_set_self (by rw [length_map];exact (List.getElem?_eq_some_iff.mp ex).1),List.getElem?_map,ex]
  rfl
 ·rw [List.getElem?_set_ne c]
theorem MF {bs:List (Addr × Ls)} {j m:Nat} {x:Addr × Ls} {q:Addr × Addr × List Int × Int} (ex:bs[j]?=some x) (h:∀y∈bs,y.2.length<=m):∀y∈bs.set j (x.1,x.2++[q]),y.2.length<=m+1:=fun y k=>by
 rcases mem_or_eq_of_mem_set k with k | rfl
 ·exact Nat.le_succ_of_le (h y k)
 ·rw [length_append]
  exact Nat.succ_le_succ (h x (mem_of_getElem? ex))
theorem O0 {bs:List (Addr × Ls)} {j:Nat} {B:Addr} {x:Addr × Ls} {l:Ls} (ex:bs[j]?=some x) (h:∀y∈bs,y.1≠B):∀y∈bs.set j (x.1,l),y.1≠B:=fun y k=>by
 rcases mem_or_eq_of_mem_set k with k | rfl
 ·exact h y k
 ·exact h x (mem_of_getElem? ex)
theorem Hg:∀{as bs:List (Addr × Ls)},as.map (fun x=>Ao x.2)=bs.map (fun x=>Ao x.2)->Ao (Ck as)=Ao (Ck bs)
 | [],[],_=>rfl
 | [],_ :: _,h=>by cases h
 | _ :: _,[],h=>by cases h
 | a :: as,b :: bs,h=>by
   rw [map_cons,map_cons] at h
   injection h with h1 h2
   show Ao (a.2++Ck as)=Ao (b.2++Ck bs)
   rw [AK,AK,h1,Hg h2]
structure RB (H:Hp) (n:Nat) (p:List (List Int)) (B:Addr) (bs cs:List (Addr × Ls)):Prop where
 lst:H B=some (.lst (cs.map fun x=>V.ref x.1))
 lies:∀x∈cs,H x.1=some (.lst (vls x.2))/\AM H x.2
 ok:∀x∈cs,Ci n p (Ao x.2)
 len:∀x∈cs,x.2.length<=100
 same:bs.map (fun x=>Ao x.2)=cs.map (fun x=>Ao x.2)
noncomputable def P5:Sp:=fun vs H Q _=>∃(a b:Addr) (ls ms:Ls),vs=[.ref a,.ref b]/\H a=some (.lst (vls ls))/\H b=some (.lst (vls ms))/\AM H ls/\AM H ms/\Ao ls=Ao ms/\ls.length<=900/\(∀q∈ls,q.2.2.1.length<=12)/\∀H':Hp,AJ H H'->Q (.bl true) H'
noncomputable def LN:Sp:=fun vs H Q _=>∃(l:Addr) (ls:Ls) (p:List (List Int)),vs=[.ref l]/\H l=some (.lst (vls ls))/\AM H ls/\(∀q∈Ao ls,q.1∈p)/\p.length < 64/\Pos (Ao ls) /\
 ∀(l':Addr) (ls':Ls) (H':Hp),H l'=none->AJ H H'->H' l'=some (.lst (vls ls'))->AM H' ls'->Cl (Ao ls) (Ao ls')->ls'.length < 64->Q (.ref l') H'
noncomputable def Og:Sp:=fun vs H Q _=>∃(l:Addr) (ls:Ls) (n:Nat) (p:List (List Int)),vs=[.ref l,.int (n:Int)]/\H l=some (.lst (vls ls))/\AM H ls/\Ci n p (Ao ls)/\n<=12/\ls.length<=900 /\
 ∀(c:Addr) (H':Hp),H c=none->AJ H H'->H' c=some (.lst ((CJ n (Ao ls)).map V.int))->Q (.ref c) H'
noncomputable def PL:Sp:=fun vs H Q _=>∃(a b:Addr) (ns:List Int),vs=[.ref a,.ref b]/\H a=some (.tup (ns.map V.int))/\H b=some (.tup (ns.map V.int))/\ns.length<=60/\∀H':Hp,AJ H H'->Q (.bl true) H'
noncomputable def Nu (K:PySem.W.Frag):Sp:=fun vs H Q _=>∃(s:Addr) (ns:List Int) (n:Nat),vs=[.ref s,.int (n:Int)]/\SqL K H s (ns.map V.int)/\ns.length<=63/\1<=n/\n<=12 /\
 ∀(B:Addr) (bs:List (Addr × Ls)) (p:List (List Int)) (H':Hp),AJ H H'->H' B=some (.lst (bs.map fun x=>V.ref x.1))->Bun H H' n p bs->p.length<=40->(1<=bs.length/\bs.length<=5)->(∀x∈bs,x.2.length<=80)->Q (.ref B) H'
noncomputable def Bp (ds:Ds):Int:=(ds.map (·.2)).sum
theorem Ct (q:List Int × Int) (r:Ds):Bp (q :: r)=q.2+Bp r:=by unfold Bp;rw [map_cons,sum_cons]
theorem JR {t:List Int} {n:Int}:∀{K:List (List Int)},K.Nodup->(K.map fun k=>if t=k then n else 0).sum=if t∈K then n else 0
 | [],_=>rfl
 | k :: K,h=>by
   rw [nodup_cons] at h
   rw [map_cons,sum_cons,JR h.2]
   by_cases c:t=k
   ·subst c
    rw [if_pos rfl,if_neg h.1,if_pos (mem_cons_self ..),Int.add_zero]
   ·rw [if_neg c,Int.zero_add]
    by_cases m:t∈K
    ·rw [if_pos m,if_pos (mem_cons_of_mem _ m)]
    ·rw [if_neg m,if_neg (by rw [mem_cons,not_or];exact ⟨c,m⟩)]
theorem MV {α:Type} (f g:α->Int):∀K:List α,(K.map fun k=>f k+g k).sum=(K.map f).sum+(K.map g).sum
 | []=>rfl
 | k :: K=>by
   rw [map_cons,map_cons,map_cons,sum_cons,sum_cons,sum_cons,MV f g K]
   omega
theorem KZ:∀K:List (List Int),(K.map (tot [])).sum=0
 | []=>rfl
 | k :: K=>by rw [map_cons,sum_cons,KZ K];rfl
theorem Hh {K:List (List Int)} (nd:K.Nodup):∀{ds:Ds},(∀q∈ds,q.1∈K)->(K.map (tot ds)).sum=Bp ds
 | [],_=>by
   exact KZ K
 | q :: r,h=>by
   have e:K.map (tot (q :: r))=K.map fun k=>(if q.1=k then q.2 else 0)+tot r k:=rfl
   rw [e,MV,JR nd,if_pos (h q (mem_cons_self ..)),Ct]
   have ih:=Hh nd (ds:=r) fun p m=>h p (mem_cons_of_mem _ m)
   have e2:(K.map fun k=>tot r k)=K.map (tot r):=rfl
   rw [e2,ih]
noncomputable def ded:List (List Int)->List (List Int)
 | []=>[]
 | x :: xs=>if x∈ded xs then ded xs else x :: ded xs
theorem LF:∀xs,(ded xs).Nodup
 | []=>nodup_nil
 | x :: xs=>by
   show (if x∈ded xs then ded xs else x :: ded xs).Nodup
   split
   ·exact LF xs
   ·rename_i h
    exact nodup_cons.mpr ⟨h,LF xs⟩
theorem GC:∀{xs:List (List Int)} {x:List Int},x∈xs->x∈ded xs
 | y :: xs,x,m=>by
   show x∈if y∈ded xs then ded xs else y :: ded xs
   rcases mem_cons.mp m with e | e
   ·subst e
    split
    ·assumption
    ·exact mem_cons_self ..
   ·split
    ·exact GC e
    ·exact mem_cons_of_mem _ (GC e)
theorem Pu {a b:Ds} (h:∀ts,tot a ts=tot b ts):Bp a=Bp b:=by
 have nd:=LF ((a++b).map (·.1))
 rw [<- Hh nd (ds:=a) fun q m=>GC (mem_map.mpr ⟨q,mem_append_left _ m,rfl⟩),<- Hh nd (ds:=b) fun q m=>GC (mem_map.mpr ⟨q,mem_append_right _ m,rfl⟩)]
 rw [show tot a=tot b from funext h]
noncomputable def Ej (a b:Ds):Int:=(a.map fun q=>if q.2 - tot b q.1 > 0 then q.2 - tot b q.1 else 0).sum
noncomputable def PX:Sp:=fun vs H Q _=>∃(l m:Addr) (ls ms:Ls) (p:List (List Int)),vs=[.ref l,.ref m]/\H l=some (.lst (vls ls))/\AM H ls/\ls.length < 64/\H m=some (.lst (vls ms))/\AM H ms/\(∀q∈Ao ms,q.1∈p)/\p.length < 64/\∀H':Hp,AJ H H'->Q (.int (Ej (Ao ls) (Ao ms))) H'
theorem Fd {K:PySem.W.Frag} {t:Value}:PySem.W.kitAny K t []=some false:=rfl
theorem kan {K:PySem.W.Frag} {t c:Value} {cs:List Value} (h:PySem.W.kitOne K t c=some false) (r:PySem.W.kitAny K t cs=some false):PySem.W.kitAny K t (c :: cs)=some false:=by
 unfold PySem.W.kitAny
 rw [h]
 exact r
noncomputable def CB:V->Bool
 | .int n=>decide (1<=n) && decide (n<=1000000000)
 | _=>false
noncomputable def QV (K:PySem.W.Frag):Sp:=fun vs H Q _=>∃x:V,vs=[x]/\((Wh K H x false/\CB x=false)\/∃n:Int,x=.int n)/\Q (.bl (CB x)) H
abbrev Ws:=List (Addr × Addr × List Int × V)
noncomputable def vws (ws:Ws):List V:=ws.map fun q=>.ref q.1
noncomputable def IN (K:PySem.W.Frag) (H:Hp) (ws:Ws):Prop:=∀q∈ws,H q.1=some (.tup [.ref q.2.1,q.2.2.2])/\H q.2.1=some (.tup (q.2.2.1.map V.int))/\((Wh K H q.2.2.2 false/\CB q.2.2.2=false)\/∃n:Int,q.2.2.2=.int n)
theorem PY {ws:Ws} {i:Nat} {x:V} (h:(vws ws)[i]?=some x):∃q,x=.ref q.1/\q∈ws/\ws.take (i+1)=ws.take i++[q]:=by
 unfold vws at h
 rw [List.getElem?_map] at h
 cases e:ws[i]? with
 | none=>rw [e] at h;cases h
 | some q =>
   rw [e] at h
   refine ⟨q,(Option.some.inj h).symm,mem_of_getElem? e,?_⟩
   rw [take_succ,e]
   rfl
noncomputable def PB (K:PySem.W.Frag) (C:Addr):Sp:=fun vs H Q E=>NF vs H Q E\/∃(l:Addr) (ws:Ws),vs=[.ref l]/\H l=some (.lst (vws ws))/\IN K H ws/\(∃q∈ws,CB q.2.2.2=false)/\∀H':Hp,AJ H H'->E (.ref C) none H'
noncomputable def Sg (K:PySem.W.Frag):Sp:=fun vs H Q _=>∃x b,vs=[x]/\Wh K H x b/\Q (.bl b) H
noncomputable def GH (K:PySem.W.Frag) (H:Hp) (x:V) (m:Nat):Prop:=Wh K H x false\/∃z:Int,x=.int z/\(z < 0\/(m:Int)<=z)
noncomputable def OI (K:PySem.W.Frag) (C N:Addr):Sp:=fun vs H Q E=>∃(b L:Addr) (n:Nat) (bs:List (Addr × Ls)) (x:V),vs=[.ref b,x]/\IsB C H b L n bs /\
 ((∃(k:Nat) (y:Addr × Ls),x=.int (k:Int)/\bs[k]?=some y/\∀(l:Addr) (H':Hp),H l=none->AJ H H'->H' l=some (.lst (vls y.2))->Q (.ref l) H')\/(GH K H x bs.length/\E (.ref N) none H))
noncomputable def Ph (K:PySem.W.Frag) (C N:Addr):Sp:=fun vs H Q E=>∃(b L:Addr) (n:Nat) (bs:List (Addr × Ls)) (x:V),vs=[.ref b,x]/\IsB C H b L n bs /\
 ((∃(k:Nat) (y:Addr × Ls) (p:List (List Int)),x=.int (k:Int)/\bs[k]?=some y/\Ci n p (Ao y.2)/\p.length < 64 /\
   ∀(l:Addr) (ls:Ls) (H':Hp),H l=none->AJ H H'->H' l=some (.lst (vls ls))->AM H' ls->Cl (Ao y.2) (Ao ls)->ls.length < 64->Q (.ref l) H')\/(GH K H x bs.length/\E (.ref N) none H))
theorem GH.same {K:PySem.W.Frag} {H H':Hp} {x:V} {m:Nat} (s:AJ H H') (h:GH K H x m):GH K H' x m:=h.imp (fun w=>w.same s) id
theorem QH {xs:List V} {P:V->Prop} (hp:∀x∈xs,P x) {m:Int} (h0:0<=m) (h:m < (xs.length:Int)):∃v,atI xs m=some v/\P v:=by
 obtain ⟨k,rfl⟩:∃k:Nat,m=(k:Int):=⟨m.toNat,by omega⟩
 have hk:k < xs.length:=by omega
 have e:xs[k]?=some xs[k]:=List.getElem?_eq_getElem hk
 exact ⟨xs[k],BE e,hp _ (getElem_mem hk)⟩
theorem IsB.more {C:Addr} {H H':Hp} {b L x:Addr} {n:Nat} {as:List (Addr × Ls)} {ls:Ls} (h:IsB C H b L n as) (s:AJ (Law.off H L) H') (hx:H x=none) (eL:H' L=some (.lst ((as++[(x,ls)]).map fun x=>V.ref x.1))) (ex:H' x=some (.lst (vls ls))) (g:AM H' ls):IsB C H' b L n (as++[(x,ls)]):=by
 obtain ⟨⟨dx,h1⟩,h2,h3,h4⟩:=h
 refine ⟨⟨dx,s _ _ (Bu h1 (fun z=>by rw [z,h2] at h1;cases h1))⟩,eL,fun y m=>?_,fun y m=>?_⟩
 ·rcases mem_append.mp m with m | m
  ·refine ⟨s _ _ (Bu (h3 y m).1 (h4 y m)),fun q k=>?_⟩
   obtain ⟨g1,g2⟩:=(h3 y m).2 q k
   exact ⟨s _ _ (Bu g1 (CO g1 h2 (fun z=>nomatch z))),s _ _ (Bu g2 (CO g2 h2 (fun z=>nomatch z)))⟩
  ·rw [mem_singleton.mp m]
   exact ⟨ex,g⟩
 ·rcases mem_append.mp m with m | m
  ·exact h4 y m
  ·rw [mem_singleton.mp m]
   exact fun (z:x=L)=>by rw [z,h2] at hx;cases hx
theorem EX {H H' H0:Hp} {L:Addr} (a:AJ H0 H) (n:H0 L=none) (s:AJ (off H L) H'):AJ H0 H':=(Pw a n).trans s
theorem AM.off {H H':Hp} {M:Addr} {zs:List V} {ls:Ls} (g:AM H ls) (s:AJ (Law.off H M) H') (hM:H M=some (.lst zs)):AM H' ls:=fun q k=>by
 obtain ⟨g1,g2⟩:=g q k
 exact ⟨s _ _ (Bu g1 (CO g1 hM (fun z=>nomatch z))),s _ _ (Bu g2 (CO g2 hM (fun z=>nomatch z)))⟩
theorem IsB.put {C:Addr} {H H':Hp} {b L y:Addr} {n k:Nat} {as:List (Addr × Ls)} {ls:Ls} (h:IsB C H b L n as) (s:AJ (Law.off H L) H') (hy:H y=none) (eL:H' L=some (.lst ((as.set k (y,ls)).map fun x=>V.ref x.1))) (ey:H' y=some (.lst (vls ls))) (g:AM H' ls):IsB C H' b L n (as.set k (y,ls)):=by
 obtain ⟨⟨dx,h1⟩,h2,h3,h4⟩:=h
 refine ⟨⟨dx,s _ _ (Bu h1 (fun z=>by rw [z,h2] at h1;cases h1))⟩,eL,fun x m=>?_,fun x m=>?_⟩
 ·rcases mem_or_eq_of_mem_set m with m | rfl
  ·exact ⟨s _ _ (Bu (h3 x m).1 (h4 x m)),(h3 x m).2.off s h2⟩
  ·exact ⟨ey,g⟩
 ·rcases mem_or_eq_of_mem_set m with m | rfl
  ·exact h4 x m
  ·exact fun (z:y=L)=>by rw [z,h2] at hy;cases hy
theorem NN {a b b':Ds} (h:∀ts,tot b ts=tot b' ts):Ej a b=Ej a b':=by
 unfold Ej
 congr 1
 apply map_congr_left
 intro q _
 rw [h]
noncomputable def Ap (o n:Ds) (v:Int):Prop:=∀s,Cl o s->Ej s n=v
noncomputable def Ox (K:PySem.W.Frag) (C NB NS NW:Addr):Sp:=fun vs H Q E=>∃(b L:Addr) (n:Nat) (bs:List (Addr × Ls)) (x:V) (l:Addr),vs=[.ref b,x,.ref l]/\IsB C H b L n bs /\
 ((GH K H x bs.length/\E (.ref NB) none H)\/∃(k:Nat) (y:Addr × Ls) (p:List (List Int)),x=.int (k:Int)/\bs[k]?=some y/\Ci n p (Ao y.2)/\p.length < 64 /\
   ((∃ws:Ws,H l=some (.lst (vws ws))/\IN K H ws/\(∃q∈ws,CB q.2.2.2=false)/\∀H':Hp,AJ H H'->E (.ref NS) none H') \/
    ∃ls:Ls,H l=some (.lst (vls ls))/\AM H ls/\(∀q∈Ao ls,q.1∈p/\1<=q.2/\q.2<=1000000000) /\
     ((Bp (Ao y.2)=Bp (Ao ls)/\∀(z:Addr) (v:Int) (H':Hp),Ap (Ao y.2) (Ao ls) v->H z=none->AJ (off H L) H'->H' L=some (.lst ((bs.set k (z,ls)).map fun x=>V.ref x.1))->H' z=some (.lst (vls ls))->Q (.int v) H') \/
      (Bp (Ao y.2)≠Bp (Ao ls)/\∀(dx:Addr) (H':Hp),AJ H H'->H' dx=some (hoD dx ((["wanted","got"]:List Str).zip [V.int (Bp (Ao y.2)),V.int (Bp (Ao ls))]))->E (.ref NW) (some dx) H'))))
noncomputable def R8 (C:Addr):Sp:=fun vs H Q _=>∃(b L:Addr) (n:Nat) (bs cs:List (Addr × Ls)) (B:Addr) (p:List (List Int)),vs=[.ref b,.ref B,.int (n:Int)]/\IsB C H b L n bs/\RB H n p B bs cs/\n<=12/\p.length < 64/\cs.length<=8/\∀H':Hp,AJ H H'->Q (.bl true) H'
theorem F8 {as bs:List (Addr × Ls)} (d:bs.map (fun x=>Ao x.2)=as.map (fun x=>Ao x.2)) {i:Nat} {x:Addr × Ls} (ex:as[i]?=some x):∃y,bs[i]?=some y/\Ao y.2=Ao x.2:=by
 have ln:bs.length=as.length:=by
  have:=congrArg List.length d
  rw [length_map,length_map] at this
  exact this
 have il:=(List.getElem?_eq_some_iff.mp ex).1
 obtain ⟨y,ey⟩:∃y,bs[i]?=some y:=⟨_,List.getElem?_eq_getElem (by omega)⟩
 refine ⟨y,ey,?_⟩
 have:=congrArg (fun l=>l[i]?) d
 simp only [List.getElem?_map,ex,ey] at this
 exact Option.some.inj this
theorem RM {a b:Ls} (e:Ao a=Ao b):a.length=b.length:=by
 have:=congrArg List.length e
 unfold Ao at this
 rw [length_map,length_map] at this
 exact this
theorem Ci.slip {n:Nat} {p:List (List Int)} {ls:Ls} (n12:n<=12) (o:Ci n p (Ao ls)):∀q∈ls,q.2.2.1.length<=12:=fun q m=>Nat.le_trans (o (q.2.2.1,q.2.2.2) (mem_map.mpr ⟨q,m,rfl⟩)).2.2.2.len n12
theorem Cl.slip {a:Ds} {ms:Ls} (sh:Cl a (Ao ms)) (h:∀d∈a,d.1.length<=12):∀q∈ms,q.2.2.1.length<=12:=fun q m=>by
 have k1:=sh.keys (p:=a.map (·.1)) (fun q m=>mem_map.mpr ⟨q,m,rfl⟩) (q.2.2.1,q.2.2.2) (mem_map.mpr ⟨q,m,rfl⟩)
 obtain ⟨d,dm,de⟩:=mem_map.mp k1
 have:=h d dm
 rw [de] at this
 exact this
noncomputable def Sd:Sp:=fun vs H Q _=>∃(a b:Addr) (ls ms:Ls) (p:List (List Int)),vs=[.ref a,.ref b]/\H a=some (.lst (vls ls))/\AM H ls/\(∀q∈Ao ls,q.1∈p)/\Pos (Ao ls)/\H b=some (.lst (vls ms))/\AM H ms/\(∀q∈Ao ms,q.1∈p)/\p.length < 64/\∀(v:Int) (H':Hp),AJ H H'->(∀w,Ap (Ao ls) (Ao ms) w->w=v)->Q (.int v) H'
theorem Lz (a:Ds) (q:List Int × Int) (b:Ds):Ej (a++[q]) b=Ej a b+(if q.2 - tot b q.1 > 0 then q.2 - tot b q.1 else 0):=by
 unfold Ej
 rw [map_append,sum_append]
 simp
theorem G2 (a b:Ds):Bp (a++b)=Bp a+Bp b:=by unfold Bp;rw [map_append,sum_append]
theorem LY (a b:List Int × Int):PyData.eqv (ld a) (ld b)=decide (a=b):=by
 show (PyData.eqvAll (a.1.map .int) (b.1.map .int) && ((a.2 == b.2) && true))=_
 rw [Dj]
 obtain ⟨a1,a2⟩:=a
 obtain ⟨b1,b2⟩:=b
 by_cases h:a1=b1
 ·by_cases k:a2=b2
  ·simp [h,k]
  ·simp [h,k]
 ·simp [h]
structure SR (n:Nat) (p p':List (List Int)) (ls fs:Ls):Prop where
 ok:Ci n p' (Ao fs)
 sub:∀t∈p,t∈p'
 plen:p'.length<=p.length+1
 sum:Bp (Ao fs)=Bp (Ao ls)
 len:fs.length<=ls.length+2
noncomputable def Rh:Sp:=fun vs H Q _=>∃(l:Addr) (z:Int) (n:Nat) (ls:Ls) (p:List (List Int)),vs=[.ref l,.int z,.int (n:Int)]/\H l=some (.lst (vls ls))/\AM H ls/\Ci n p (Ao ls)/\ls.length<=90/\1<=n/\n<=12/\0<=z/\z < 10 ^ 40 /\
 ∀(f:Addr) (fs:Ls) (p':List (List Int)) (H':Hp),H f=none->AJ H H'->H' f=some (.lst (vls fs))->AM H' fs->SR n p p' ls fs->Q (.ref f) H'
theorem Nf {fs:Ls} {i:Nat} {q r:Addr × Addr × List Int × Int} (h:fs[i]?=some q):Bp (Ao (fs.set i r))=Bp (Ao fs) - q.2.2.2+r.2.2.2:=by
 induction fs generalizing i with
 | nil=>cases h
 | cons x fs ih =>
   cases i with
   | zero =>
     cases Option.some.inj h
     show Bp ((r.2.2.1,r.2.2.2) :: Ao fs)=Bp ((q.2.2.1,q.2.2.2) :: Ao fs) - _+_
     rw [Ct,Ct]
     show r.2.2.2+_=q.2.2.2+_ - q.2.2.2+r.2.2.2
     omega
   | succ i =>
     have:=ih (show fs[i]?=some q from h)
     show Bp ((x.2.2.1,x.2.2.2) :: Ao (fs.set i r))=Bp ((x.2.2.1,x.2.2.2) :: Ao fs) - _+_
     rw [Ct,Ct,this]
     omega
theorem Os {n i:Nat} {p:List (List Int)} {fs:Ls} {r:Addr × Addr × List Int × Int} (h:Ci n p (Ao fs)) (k:r.2.2.1∈p/\1<=r.2.2.2/\r.2.2.2<=1000000000/\OkS n r.2.2.1):Ci n p (Ao (fs.set i r)):=fun q m=>by
 obtain ⟨x,xm,rfl⟩:=mem_map.mp m
 rcases mem_or_eq_of_mem_set xm with xm | rfl
 ·exact h _ (mem_map.mpr ⟨x,xm,rfl⟩)
 ·exact k
theorem O1 {n:Nat} {p:List (List Int)} {fs gs:Ls} {r:Addr × Addr × List Int × Int} (h:Ci n p (Ao (fs++gs))) (k:r.2.2.1∈p/\1<=r.2.2.2/\r.2.2.2<=1000000000/\OkS n r.2.2.1):Ci n p (Ao (fs++r :: gs)):=fun q m=>by
 rw [AK] at m
 rcases mem_append.mp m with m | m
 ·exact h q (by rw [AK];exact mem_append_left _ m)
 ·rcases mem_cons.mp (show q∈(r.2.2.1,r.2.2.2) :: Ao gs from m) with rfl | m
  ·exact k
  ·exact h q (by rw [AK];exact mem_append_right _ m)
theorem J9 {fs gs:Ls} {r:Addr × Addr × List Int × Int}:Bp (Ao (fs++r :: gs))=Bp (Ao (fs++gs))+r.2.2.2:=by
 rw [AK,AK,G2,G2]
 show _+Bp ((r.2.2.1,r.2.2.2) :: Ao gs)=_
 rw [Ct]
 show _+(r.2.2.2+_)=_
 omega
theorem Kp {H:Hp} {fs:Ls} {i:Nat} {r:Addr × Addr × List Int × Int} (g:AM H fs) (h1:H r.1=some (.tup [.ref r.2.1,.int r.2.2.2])) (h2:H r.2.1=some (.tup (r.2.2.1.map V.int))):AM H (fs.set i r):=fun q m=>by
 rcases mem_or_eq_of_mem_set m with m | rfl
 ·exact g q m
 ·exact ⟨h1,h2⟩
theorem Kf {α:Type} [DecidableEq α] {a:α}:∀{l:List α},a∈l->∃j:Nat,l[j]?=some a/\∀(m:Nat) (e:α),m < j->l[m]?=some e->e≠a
 | [],h=>nomatch h
 | x :: l,h=>by
   by_cases c:x=a
   ·exact ⟨0,by rw [c];rfl,fun m _ k=>nomatch k⟩
   ·obtain ⟨j,h1,h2⟩:=Kf ((mem_cons.mp h).resolve_left fun z=>c z.symm)
    refine ⟨j+1,h1,fun m e k z=>?_⟩
    cases m with
    | zero=>cases Option.some.inj z;exact c
    | succ m=>exact h2 m e (by omega) z
theorem MP {fs:Ls} {i:Nat} {r:Addr × Addr × List Int × Int}:(vls fs).set i (.ref r.1)=vls (fs.set i r):=by unfold vls;rw [map_set]
theorem Qt (ds:Ds):Bp ds.reverse=Bp ds:=by
 unfold Bp
 rw [map_reverse,sum_reverse]
theorem Ku (ls:Ls):Ao ls.reverse=(Ao ls).reverse:=map_reverse ..
noncomputable def Jt (K:PySem.W.Frag) (H:Hp) (v:V):Prop:=∃d,Rep K H v d/\d.canLay0=true/\d.depth<=12/\PyData.eqv d d=true
theorem QB {K:PySem.W.Frag} {H:Hp}:∀{vs:List V},(∀v∈vs,Jt K H v)->∃ds,Reps K H vs ds/\SeqAt.shaped (.list ds)=true/\PyData.eqv (.list ds) (.list ds)=true:=fun {vs} h=>by
 have:∃ds,Reps K H vs ds/\PyData.canLayAll0 ds=true/\PyData.depthAll ds<=12/\PyData.eqvAll ds ds=true:=by
  induction vs with
  | nil=>exact ⟨[],.nil,rfl,Nat.zero_le _,rfl⟩
  | cons v vs ih =>
    obtain ⟨d,h1,h2,h3,h4⟩:=h v (mem_cons_self ..)
    obtain ⟨ds,k1,k2,k3,k4⟩:=ih fun x m=>h x (mem_cons_of_mem _ m)
    refine ⟨d :: ds,.cons h1 k1,?_,?_,?_⟩
    ·show (d.canLay0 && PyData.canLayAll0 ds)=true
     rw [h2,k2];rfl
    ·show max d.depth (PyData.depthAll ds)<=12
     omega
    ·show (PyData.eqv d d && PyData.eqvAll ds ds)=true
     rw [h4,k4];rfl
 obtain ⟨ds,k1,k2,k3,k4⟩:=this
 refine ⟨ds,k1,?_,k4⟩
 unfold SeqAt.shaped
 rw [Bool.and_eq_true]
 refine ⟨k2,decide_eq_true ?_⟩
 show PyData.depthAll ds+1<=64
 omega
theorem AM.dat {K:PySem.W.Frag} {H:Hp} {ls:Ls} (g:AM H ls):∀v∈vls ls,Jt K H v:=fun v m=>by
 obtain ⟨q,qm,rfl⟩:=mem_map.mp m
 obtain ⟨g1,g2⟩:=g q qm
 have lay:=JG [(q.2.2.1,q.2.2.2)]
 have e:=LY (q.2.2.1,q.2.2.2) (q.2.2.1,q.2.2.2)
 rw [decide_eq_true rfl] at e
 refine ⟨ld (q.2.2.1,q.2.2.2),.tup (SqT.of g1) (.cons (.tup (SqT.of g2) (.ints _)) (.cons (.int _) .nil)),?_,?_,e⟩
 ·have:=lay.1
  simpa [PyData.canLayAll0] using this
 ·have h:max (ld (q.2.2.1,q.2.2.2)).depth 0<=2:=lay.2
  omega
theorem Rep.same' {K:PySem.W.Frag} {H H':Hp} (s:AJ H H') {vs:List V} (h:∀v∈vs,Jt K H v):(∀v∈vs,Jt K H' v):=fun v m=>by
 obtain ⟨d,h1,r⟩:=h v m
 exact ⟨d,h1.same s,r⟩
noncomputable def RL (C:Addr):Sp:=fun vs H Q _=>∃(b L:Addr) (n:Nat) (bs:List (Addr × Ls)) (k:Nat) (y:Addr × Ls) (p:List (List Int)) (l:Addr) (ls:Ls) (v:Int),vs=[.ref b,.int (k:Int),.ref l,.int v]/\IsB C H b L n bs/\bs[k]?=some y/\Ci n p (Ao y.2)/\p.length < 64/\H l=some (.lst (vls ls))/\AM H ls/\Ci n p (Ao ls)/\ls.length<=95/\l≠L/\Bp (Ao y.2)=Bp (Ao ls)/\(∀w,Ap (Ao y.2) (Ao ls) w->w=v) /\
 ∀(z:Addr) (H':Hp),H z=none->AJ (off H L) H'->H' L=some (.lst ((bs.set k (z,ls)).map fun x=>V.ref x.1))->H' z=some (.lst (vls ls))->Q (.bl true) H'
noncomputable def Kd (NB NS NW:Addr) (kd:Nat) (ws:List Int) (C:Addr) (od:Option Addr) (H:Hp):Prop:=(kd=0/\C=NB/\od=none/\ws=[])\/(kd=1/\C=NS/\od=none/\ws=[])\/(kd=2/\C=NW/\∃(dx:Addr) (a b:Int),od=some dx/\ws=[a,b]/\H dx=some (hoD dx ((["wanted","got"]:List Str).zip [V.int a,V.int b])))
noncomputable def Rfs (K:PySem.W.Frag) (C NB NS NW:Addr) (H:Hp) (b:Addr) (x:V) (zs:List V) (kd:Nat) (ws:List Int):Prop:=∀(H1:Hp) (h:Addr) (Qq:VK) (E:XK),AJ H H1->H1 h=some (.lst zs)->(∀(D:Addr) (od:Option Addr) (H2:Hp),AJ H1 H2->Kd NB NS NW kd ws D od H2->E (.ref D) od H2)->Ox K C NB NS NW [.ref b,x,.ref h] H1 Qq E
noncomputable def R1 (K:PySem.W.Frag) (C NB NS NW:Addr):Sp:=fun vs H Q _=>∃(b L:Addr) (n:Nat) (bs:List (Addr × Ls)) (x:V) (l:Addr) (zs:List V) (kd:Nat) (ws:List Int),vs=[.ref b,x,.ref l]/\IsB C H b L n bs/\H l=some (.lst zs)/\(∀v∈zs,Jt K H v)/\Rfs K C NB NS NW H b x zs kd ws /\
 ∀(t a c:Addr) (H':Hp),AJ H H'->H' t=some (.tup [.ref a,.ref c])->H' a=some (.lst [.bl (decide (kd=0)),.bl (decide (kd=1)),.bl (decide (kd=2))])->H' c=some (.lst (ws.map V.int))->Q (.ref t) H'
theorem Qn {ls:Ls} {k:Nat}:Ik (vls ls) (some (k:Int)) none=vls (ls.drop k):=(DM (j:=k)).trans (map_drop ..).symm
noncomputable def N8 (K:PySem.W.Frag) (H:Hp) (v:V):Prop:=((Wh K H v false/\CB v=false)\/∃n:Int,v=.int n)/\CB v=false/\∃d,Rep K H v d/\d.canLay0=true/\d.depth<=10/\PyData.eqv d d=true
theorem N8.same {K:PySem.W.Frag} {H H':Hp} {v:V} (s:AJ H H') (h:N8 K H v):N8 K H' v:=⟨h.1.imp (fun z=>⟨z.1.same s,z.2⟩) id,h.2.1,by obtain ⟨d,h1,r⟩:=h.2.2;exact ⟨d,h1.same s,r⟩⟩
theorem N8.of {K:PySem.W.Frag} {H:Hp} {v:V} {d:PyData} (w:(Wh K H v false/\CB v=false)\/∃n:Int,v=.int n) (o:CB v=false) (r:Rep K H v d) (h:d.canLay0=true) (k:d.depth<=10) (e:PyData.eqv d d=true):N8 K H v:=⟨w,o,d,r,h,k,e⟩
noncomputable def toW (ls:Ls):Ws:=ls.map fun q=>(q.1,q.2.1,q.2.2.1,.int q.2.2.2)
theorem Jf (ls:Ls):vws (toW ls)=vls ls:=by unfold vws toW vls;rw [map_map];rfl
theorem AM.toW {K:PySem.W.Frag} {H:Hp} {ls:Ls} (g:AM H ls):IN K H (toW ls):=fun q m=>by
 obtain ⟨x,xm,rfl⟩:=mem_map.mp m
 exact ⟨(g x xm).1,(g x xm).2,.inr ⟨_,rfl⟩⟩
theorem DP (a b c:Bool) (ws:List Int):SeqAt.shaped (.tuple [.list [.bool a,.bool b,.bool c],.list (ws.map .int)])=true/\PyData.eqv (.tuple [.list [.bool a,.bool b,.bool c],.list (ws.map .int)]) (.tuple [.list [.bool a,.bool b,.bool c],.list (ws.map .int)])=true:=by
 obtain ⟨h1,h2⟩:=DK ws
 refine ⟨?_,?_⟩
 ·unfold SeqAt.shaped
  rw [Bool.and_eq_true]
  refine ⟨?_,decide_eq_true ?_⟩
  ·show (true && (PyData.canLayAll0 (ws.map .int) && true))=true
   rw [h1];rfl
  ·show max (0+1) (max (PyData.depthAll (ws.map .int)+1) 0)+1<=64
   omega
 ·have e:=Dj ws ws
  rw [decide_eq_true rfl] at e
  show ((a == a) && ((b == b) && ((c == c) && true)) && (PyData.eqvAll (ws.map .int) (ws.map .int) && true))=true
  rw [e]
  simp
noncomputable def Rq (C:Addr):Sp:=fun vs H Q _=>∃(b L:Addr) (n:Nat) (bs cs:List (Addr × Ls)) (B:Addr) (k:Nat) (x:Addr × Ls) (p:List (List Int)) (w:Addr) (ls:Ls) (wy z:Int),vs=[.ref b,.ref B,.int (k:Int),.ref w,.int wy,.int z]/\IsB C H b L n bs/\RB H n p B bs cs/\cs[k]?=some x/\n<=12/\H w=some (.lst (vls ls))/\AM H ls/\Ci n p (Ao ls)/\p.length < 63/\ls.length<=95/\Bp (Ao ls)=Bp (Ao x.2)/\Sz 64 z/\Sz 64 wy/\∀H':Hp,AJ H H'->Q (.bl true) H'
structure Bn (H:Hp) (L:Addr) (n:Nat) (p:List (List Int)) (B:Addr) (cs:List (Addr × Ls)):Prop where
 lst:H B=some (.lst (cs.map fun x=>V.ref x.1))
 lies:∀x∈cs,H x.1=some (.lst (vls x.2))/\AM H x.2
 ok:∀x∈cs,Ci n p (Ao x.2)
 len:∀x∈cs,x.2.length<=95
 ne:B≠L
 nes:∀x∈cs,x.1≠L
section
variable {H H':Hp} {L B:Addr} {n:Nat} {p:List (List Int)} {cs:List (Addr × Ls)}
theorem Bn.same (s:AJ H H') (h:Bn H L n p B cs):Bn H' L n p B cs:=⟨s _ _ h.lst,fun x m=>⟨s _ _ (h.lies x m).1,(h.lies x m).2.same s⟩,h.ok,h.len,h.ne,h.nes⟩
theorem Bn.keep {zs:List V} (s:AJ (off H L) H') (hL:H L=some (.lst zs)) (h:Bn H L n p B cs):Bn H' L n p B cs:=⟨s _ _ (Bu h.lst h.ne),fun x m=>⟨s _ _ (Bu (h.lies x m).1 (h.nes x m)),(h.lies x m).2.off s hL⟩,h.ok,h.len,h.ne,h.nes⟩
theorem Bn.sub {p':List (List Int)} (s:∀t∈p,t∈p') (h:Bn H L n p B cs):Bn H L n p' B cs:=⟨h.lst,h.lies,fun x m q k=>⟨s _ (h.ok x m q k).1,(h.ok x m q k).2⟩,h.len,h.ne,h.nes⟩
theorem Bn.like {bs:List (Addr × Ls)} (h:Bn H L n p B cs) (d:bs.map (fun x=>Ao x.2)=cs.map (fun x=>Ao x.2)):RB H n p B bs cs:=⟨h.lst,h.lies,h.ok,fun x m=>Nat.le_trans (h.len x m) (by decide),d⟩
theorem Bn.put {B' f:Addr} {fs:Ls} {k:Nat} (h:Bn H L n p B cs) (e:H B'=some (.lst ((cs.set k (f,fs)).map fun x=>V.ref x.1))) (nb:B'≠L) (ef:H f=some (.lst (vls fs))) (gf:AM H fs) (of:Ci n p (Ao fs)) (lf:fs.length<=95) (nf:f≠L):Bn H L n p B' (cs.set k (f,fs)):=by
 have m':∀x∈cs.set k (f,fs),x∈cs\/x=(f,fs):=fun x m=>mem_or_eq_of_mem_set m
 refine ⟨e,fun x m=>?_,fun x m=>?_,fun x m=>?_,nb,fun x m=>?_⟩
 ·rcases m' x m with m | rfl
  ·exact h.lies x m
  ·exact ⟨ef,gf⟩
 ·rcases m' x m with m | rfl
  ·exact h.ok x m
  ·exact of
 ·rcases m' x m with m | rfl
  ·exact h.len x m
  ·exact lf
 ·rcases m' x m with m | rfl
  ·exact h.nes x m
  ·exact nf
theorem Bn.snoc {B':Addr} {x:Addr × Ls} (h:Bn H L n p B cs) (e:H B'=some (.lst ((cs++[x]).map fun x=>V.ref x.1))) (nb:B'≠L) (ex:H x.1=some (.lst (vls x.2))/\AM H x.2) (ox:Ci n p (Ao x.2)) (lx:x.2.length<=95) (nx:x.1≠L):Bn H L n p B' (cs++[x]):=by
 refine ⟨e,fun y m=>?_,fun y m=>?_,fun y m=>?_,nb,fun y m=>?_⟩
 ·rcases mem_append.mp m with m | m
  ·exact h.lies y m
  ·rw [mem_singleton.mp m];exact ex
 ·rcases mem_append.mp m with m | m
  ·exact h.ok y m
  ·rw [mem_singleton.mp m];exact ox
 ·rcases mem_append.mp m with m | m
  ·exact h.len y m
  ·rw [mem_singleton.mp m];exact lx
 ·rcases mem_append.mp m with m | m
  ·exact h.nes y m
  ·rw [mem_singleton.mp m];exact nx
end
theorem Jo {α:Type} {f:α->V} {cs:List α} {k:Nat} {a:α} (h:k < cs.length):(cs.map f).take k++[f a]++(cs.map f).drop (k+1)=(cs.set k a).map f:=by
 rw [set_eq_take_append_cons_drop,if_pos h,map_append,map_cons,map_take,map_drop,append_assoc]
 rfl
theorem LZ {as cs:List (Addr × Ls)} {k:Nat} {a b:Addr × Ls} (d:as.map (fun x=>Ao x.2)=cs.map (fun x=>Ao x.2)) (e:Ao a.2=Ao b.2):(as.set k a).map (fun x=>Ao x.2)=(cs.set k b).map (fun x=>Ao x.2):=by
 rw [map_set,map_set,d,e]
def top (i:Nat):Stmt:=PySem.Challenge.pw_pollproof_k36_recounts.main.body.getD i (.Pass ⟨0,0,0,0⟩)
abbrev HI:Stmt:=top 14
abbrev FV:Stmt:=top 15
abbrev GS:Stmt:=top 17
abbrev Dm:Stmt:=top 28
abbrev Ef:Stmt:=top 29
abbrev Eo:Stmt:=top 32
abbrev IT:Stmt:=top 39
abbrev HN:Stmt:=top 40
abbrev Ig:Stmt:=top 48
abbrev Gr:Stmt:=top 49
abbrev Gs:Stmt:=top 50
abbrev Fr:Stmt:=top 52
abbrev GZ:Stmt:=top 53
abbrev Ey:Stmt:=top 57
abbrev GO:Stmt:=top 58
abbrev Hn:Stmt:=CT (top 46) 1
abbrev Dh:Stmt:=CT (top 8) 0
abbrev IE:Stmt:=top 20
abbrev Jb:Stmt:=top 22
abbrev F0:Stmt:=top 24
abbrev Gu:Stmt:=top 27
abbrev KW:Stmt:=top 31
abbrev Jy:Stmt:=top 33
abbrev GR:Stmt:=top 41
abbrev Gm:Stmt:=top 44
abbrev BY:Stmt:=top 51
abbrev Hk:Stmt:=top 54
abbrev F4:Stmt:=top 55
abbrev EZ:Stmt:=top 59
abbrev DG:Stmt:=top 61
abbrev Gk:Stmt:=top 64
abbrev EL:Stmt:=CT (top 46) 3
abbrev Ew:Stmt:=top 21
abbrev Ha:Stmt:=top 30
abbrev IX:Stmt:=top 36
abbrev EJ:Stmt:=top 56
abbrev C7:Stmt:=top 60
abbrev Eu:Stmt:=top 63
abbrev HW:Stmt:=CT (top 46) 0
abbrev FT:Stmt:=top 23
abbrev EI:Stmt:=CT (top 46) 4
abbrev D7:Stmt:=CT (top 46) 5
abbrev EE:Stmt:=CT (top 46) 6
abbrev IK:Stmt:=top 37
abbrev Ia:Stmt:=top 62
abbrev Et:Stmt:=CT (top 46) 7
abbrev Fn:Stmt:=top 65
abbrev IP:Stmt:=top 67
abbrev Fz:Stmt:=CT (top 46) 2
abbrev CY:Stmt:=top 66
abbrev QM:Stmt:=top 68
theorem KJ:AH ["mask","hand"] ["mask","hand"] (Am HI):=⟨rfl,rfl,rfl,by decide +kernel,rfl,by decide +kernel,by decide +kernel⟩
theorem Li:AH ["mask"] ["mask"] (Am FV):=⟨rfl,rfl,rfl,by decide +kernel,rfl,by decide +kernel,by decide +kernel⟩
theorem Gn:AH ["thing"] ["thing"] (Am GS):=⟨rfl,rfl,rfl,by decide +kernel,rfl,by decide +kernel,by decide +kernel⟩
theorem BH:AH ["lines","numbers","slip","number"] ["lines"] (Am Dm):=⟨rfl,rfl,rfl,by decide +kernel,rfl,by decide +kernel,by decide +kernel⟩
theorem Ij:AH ["numbers"] ["numbers"] (Am Ef):=⟨rfl,rfl,rfl,by decide +kernel,rfl,by decide +kernel,by decide +kernel⟩
theorem Im:AH ["sheet"] ["sheet"] (Am Eo):=⟨rfl,rfl,rfl,by decide +kernel,rfl,by decide +kernel,by decide +kernel⟩
theorem BF:AH ["codes","plain","by_place","by_square","place","code"] ["codes"] (Am IT):=⟨rfl,rfl,rfl,by decide +kernel,rfl,by decide +kernel,by decide +kernel⟩
theorem Go:AH ["lacks","many","place"] ["lacks","many"] (Am HN):=⟨rfl,rfl,rfl,by decide +kernel,rfl,by decide +kernel,by decide +kernel⟩
theorem JW:AH ["_law_script","_law_k"] ["_law_script","_law_k"] (Am Ig):=⟨rfl,rfl,rfl,by decide +kernel,rfl,by decide +kernel,by decide +kernel⟩
theorem Ec:AH ["_law_cell_here","_law_by","_law_number"] ["_law_cell_here","_law_by"] (Am Gr):=⟨rfl,rfl,rfl,by decide +kernel,rfl,by decide +kernel,by decide +kernel⟩
theorem Jz:AH ["_law_found"] ["_law_found"] (Am Gs):=⟨rfl,rfl,rfl,by decide +kernel,rfl,by decide +kernel,by decide +kernel⟩
theorem EQ:AH ["_law_ranks_here","_law_tiers","_law_rank"] ["_law_ranks_here"] (Am Fr):=⟨rfl,rfl,rfl,by decide +kernel,rfl,by decide +kernel,by decide +kernel⟩
theorem Do:AH ["_law_ranks_here","_law_number","_law_code_here","_law_rank"] ["_law_ranks_here","_law_number"] (Am GZ):=⟨rfl,rfl,rfl,by decide +kernel,rfl,by decide +kernel,by decide +kernel⟩
theorem CS:AH ["_law_lines_here","_law_many_here","_law_slip_here","_law_number"] ["_law_lines_here"] (Am Ey):=⟨rfl,rfl,rfl,by decide +kernel,rfl,by decide +kernel,by decide +kernel⟩
theorem EC:AH ["_law_codes","_law_sums","_law_k"] ["_law_codes"] (Am GO):=⟨rfl,rfl,rfl,by decide +kernel,rfl,by decide +kernel,by decide +kernel⟩
theorem Kr:AH ["self"] ["self"] (Am Hn):=⟨rfl,rfl,rfl,by decide +kernel,rfl,by decide +kernel,by decide +kernel⟩
theorem Fj:AH ["self","wanted","got"] ["self","wanted","got"] (Am Dh):=⟨rfl,rfl,rfl,by decide +kernel,rfl,by decide +kernel,by decide +kernel⟩
theorem LG:AH ["thing"] ["thing"] (Am IE):=⟨rfl,rfl,rfl,by decide +kernel,rfl,by decide +kernel,by decide +kernel⟩
theorem CU:AH ["ranks","wanted","tier","hand","rank"] ["ranks","wanted"] (Am Jb):=⟨rfl,rfl,rfl,by decide +kernel,rfl,by decide +kernel,by decide +kernel⟩
theorem CA:AH ["slip","hands","ranks","place","tier","hand"] ["slip","hands"] (Am F0):=⟨rfl,rfl,rfl,by decide +kernel,rfl,by decide +kernel,by decide +kernel⟩
theorem Jh:AH ["thing"] ["thing"] (Am Gu):=⟨rfl,rfl,rfl,by decide +kernel,rfl,by decide +kernel,by decide +kernel⟩
theorem Gb:AH ["sheets","lines","sheet"] ["sheets"] (Am KW):=⟨rfl,rfl,rfl,by decide +kernel,rfl,by decide +kernel,by decide +kernel⟩
theorem Kl:AH ["one","other","others"] ["one","other"] (Am Jy):=⟨rfl,rfl,rfl,by decide +kernel,rfl,by decide +kernel,by decide +kernel⟩
theorem Fb:AH ["codes","seal","own","place","right"] ["codes","seal"] (Am GR):=⟨rfl,rfl,rfl,by decide +kernel,rfl,by decide +kernel,by decide +kernel⟩
theorem Jm:AH ["thing"] ["thing"] (Am Gm):=⟨rfl,rfl,rfl,by decide +kernel,rfl,by decide +kernel,by decide +kernel⟩
theorem B2:AH ["_law_cell_here","_law_hands","_law_number","_law_way","_law_order","_law_spread","_law_raw","_law_there"] ["_law_cell_here","_law_hands"] (Am BY):=⟨rfl,rfl,rfl,by decide +kernel,rfl,by decide +kernel,by decide +kernel⟩
theorem G3:AH ["_law_cell_here","_law_k","_law_number"] ["_law_cell_here","_law_k"] (Am Hk):=⟨rfl,rfl,rfl,by decide +kernel,rfl,by decide +kernel,by decide +kernel⟩
theorem KP:AH ["_law_found","_law_due"] ["_law_found","_law_due"] (Am F4):=⟨rfl,rfl,rfl,by decide +kernel,rfl,by decide +kernel,by decide +kernel⟩
theorem Bx:AH ["_law_lines_here","_law_hands","_law_codes","_law_slip_here","_law_number","_law_ranks_here","_law_at","_law_hand"] ["_law_lines_here","_law_hands"] (Am EZ):=⟨rfl,rfl,rfl,by decide +kernel,rfl,by decide +kernel,by decide +kernel⟩
theorem Ie:AH ["_law_found","_law_due"] ["_law_found","_law_due"] (Am DG):=⟨rfl,rfl,rfl,by decide +kernel,rfl,by decide +kernel,by decide +kernel⟩
theorem B5:AH ["_law_old","_law_new","_law_lacks","_law_there","_law_slip_here","_law_number"] ["_law_old","_law_new"] (Am Gk):=⟨rfl,rfl,rfl,by decide +kernel,rfl,by decide +kernel,by decide +kernel⟩
theorem G9:AH ["self","k"] ["self","k"] (Am EL):=⟨rfl,rfl,rfl,by decide +kernel,rfl,by decide +kernel,by decide +kernel⟩
theorem Ji:AH ["thing","hands"] ["thing","hands"] (Am Ew):=⟨rfl,rfl,rfl,by decide +kernel,rfl,by decide +kernel,by decide +kernel⟩
theorem Ex:AH ["lines","line"] ["lines"] (Am Ha):=⟨rfl,rfl,rfl,by decide +kernel,rfl,by decide +kernel,by decide +kernel⟩
theorem Ek:AH ["line","hands","code","rank"] ["line","hands"] (Am IX):=⟨rfl,rfl,rfl,by decide +kernel,rfl,by decide +kernel,by decide +kernel⟩
theorem J8:AH ["_law_found","_law_due"] ["_law_found","_law_due"] (Am EJ):=⟨rfl,rfl,rfl,by decide +kernel,rfl,by decide +kernel,by decide +kernel⟩
theorem Bz:AH ["_law_script","_law_hands","_law_cells","_law_many_here","_law_bundles_here","_law_k","_law_number","_law_line_here"] ["_law_script","_law_hands"] (Am C7):=⟨rfl,rfl,rfl,by decide +kernel,rfl,by decide +kernel,by decide +kernel⟩
theorem Bc:AH ["_law_lines_here","_law_cell_here","_law_hands","_law_number","_law_found","_law_at","_law_slip_here","_law_many_here","_law_moved","_law_new","_law_place"] ["_law_lines_here","_law_cell_here","_law_hands"] (Am Eu):=⟨rfl,rfl,rfl,by decide +kernel,rfl,by decide +kernel,by decide +kernel⟩
theorem JN:AH ["self","hands"] ["self","hands"] (Am HW):=⟨rfl,rfl,rfl,by decide +kernel,rfl,by decide +kernel,by decide +kernel⟩
theorem Mm:AH ["ranks","hands"] ["ranks","hands"] (Am FT):=⟨rfl,rfl,rfl,by decide +kernel,rfl,by decide +kernel,by decide +kernel⟩
theorem GA:AH ["self","k"] ["self","k"] (Am EI):=⟨rfl,rfl,rfl,by decide +kernel,rfl,by decide +kernel,by decide +kernel⟩
theorem HX:AH ["self","k"] ["self","k"] (Am D7):=⟨rfl,rfl,rfl,by decide +kernel,rfl,by decide +kernel,by decide +kernel⟩
theorem JC:AH ["self"] ["self"] (Am EE):=⟨rfl,rfl,rfl,by decide +kernel,rfl,by decide +kernel,by decide +kernel⟩
theorem Cr:AH ["code","hands","backwards","rest","hand","ranks","slip"] ["code","hands"] (Am IK):=⟨rfl,rfl,rfl,by decide +kernel,rfl,by decide +kernel,by decide +kernel⟩
theorem CC:AH ["_law_box","_law_bundles_here","_law_hands","_law_every","_law_k","_law_told_here"] ["_law_box","_law_bundles_here","_law_hands"] (Am Ia):=⟨rfl,rfl,rfl,by decide +kernel,rfl,by decide +kernel,by decide +kernel⟩
theorem C4:AH ["self","k","lines","old","new"] ["self","k","lines"] (Am Et):=⟨rfl,rfl,rfl,by decide +kernel,rfl,by decide +kernel,by decide +kernel⟩
theorem Cv:AH ["_law_box","_law_k","_law_lines_here","_law_handed","e","_law_kinds"] ["_law_box","_law_k","_law_lines_here"] (Am Fn):=⟨rfl,rfl,rfl,by decide +kernel,rfl,by decide +kernel,by decide +kernel⟩
theorem DZ:AH ["_law_box","_law_k","_law_lines_here","_law_due","_law_handed","_law_found","_law_stayed"] ["_law_box","_law_k","_law_lines_here","_law_due"] (Am IP):=⟨rfl,rfl,rfl,by decide +kernel,rfl,by decide +kernel,by decide +kernel⟩
theorem ET:AH ["self","codes","seal","told","lines"] ["self","codes","seal"] (Am Fz):=⟨rfl,rfl,rfl,by decide +kernel,rfl,by decide +kernel,by decide +kernel⟩
theorem Bb:AH ["_law_box","_law_bundles_here","_law_k","_law_new","_law_way","_law_number","_law_bad","_law_odd","_law_many_here","_law_more","_law_got","_law_at","_law_found"] ["_law_box","_law_bundles_here","_law_k","_law_new","_law_way","_law_number"] (Am CY):=⟨rfl,rfl,rfl,by decide +kernel,rfl,by decide +kernel,by decide +kernel⟩
theorem BG:AH ["_law_script","_law_hands","_law_number","_law_bundles_here","_law_box","_law_lines_here","_law_codes","_law_k","_law_old","_law_new","_law_due","_law_held","_law_kept","_law_after","_law_other","_law_second"] ["_law_script"] (Am QM):=⟨rfl,rfl,rfl,by decide +kernel,rfl,by decide +kernel,by decide +kernel⟩
set_option genInjectivity false in
set_option genSizeOf false in
structure Ads where
 f_with_one:Addr
 d_with_one:FuncData
 f_members:Addr
 d_members:FuncData
 f_is_whole:Addr
 d_is_whole:FuncData
 f_numbers_by_slip:Addr
 d_numbers_by_slip:FuncData
 f_sheet_from:Addr
 d_sheet_from:FuncData
 f_ballots_in:Addr
 d_ballots_in:FuncData
 f_seal_of:Addr
 d_seal_of:FuncData
 f_place_of:Addr
 d_place_of:FuncData
 f_law_cell:Addr
 d_law_cell:FuncData
 f_law_mixed:Addr
 d_law_mixed:FuncData
 f_law_whole:Addr
 d_law_whole:FuncData
 f_law_slip:Addr
 d_law_slip:FuncData
 f_law_code:Addr
 d_law_code:FuncData
 f_law_sheet:Addr
 d_law_sheet:FuncData
 f_law_seal:Addr
 d_law_seal:FuncData
 f_Box_many:Addr
 d_Box_many:FuncData
 f_WrongNumber_init:Addr
 d_WrongNumber_init:FuncData
 f_is_rank:Addr
 d_is_rank:FuncData
 f_tier_at:Addr
 d_tier_at:FuncData
 f_ranks_of:Addr
 d_ranks_of:FuncData
 f_is_number:Addr
 d_is_number:FuncData
 f_joined:Addr
 d_joined:FuncData
 f_apart:Addr
 d_apart:FuncData
 f_mended:Addr
 d_mended:FuncData
 f_are_hands:Addr
 d_are_hands:FuncData
 f_law_ranks:Addr
 d_law_ranks:FuncData
 f_law_many:Addr
 d_law_many:FuncData
 f_law_line:Addr
 d_law_line:FuncData
 f_law_codes_of:Addr
 d_law_codes_of:FuncData
 f_law_seal_is:Addr
 d_law_seal_is:FuncData
 f_law_apart:Addr
 d_law_apart:FuncData
 f_Box_lines_at:Addr
 d_Box_lines_at:FuncData
 f_are_ranks:Addr
 d_are_ranks:FuncData
 f_sheet_of:Addr
 d_sheet_of:FuncData
 f_code_of:Addr
 d_code_of:FuncData
 f_law_lines:Addr
 d_law_lines:FuncData
 f_law_bundles:Addr
 d_law_bundles:FuncData
 f_law_new_lines:Addr
 d_law_new_lines:FuncData
 f_Box_init:Addr
 d_Box_init:FuncData
 f_slip_of:Addr
 d_slip_of:FuncData
 f_Box_sheet_at:Addr
 d_Box_sheet_at:FuncData
 f_Box_seal_at:Addr
 d_Box_seal_at:FuncData
 f_Box_sheet:Addr
 d_Box_sheet:FuncData
 f_line_of:Addr
 d_line_of:FuncData
 f_law_told:Addr
 d_law_told:FuncData
 f_Box_put_right:Addr
 d_Box_put_right:FuncData
 f_law_refused:Addr
 d_law_refused:FuncData
 f_law_put:Addr
 d_law_put:FuncData
 f_Box_take:Addr
 d_Box_take:FuncData
 f_law_refusals:Addr
 d_law_refusals:FuncData
 f_law:Addr
 d_law:FuncData
 c_NoBundle:Addr
 c_NoSheet:Addr
 c_WrongNumber:Addr
 c_PollError:Addr
 c_Torn:Addr
 c_TooHard:Addr
 c_NoWay:Addr
 c_NoRow:Addr
 c_NoNumber:Addr
 c_NoChange:Addr
 c_NoBallot:Addr
 c_Ended:Addr
 c_Box:Addr
 t_MOST_RANK:Tok
 t_MOST_BALLOTS:Tok
 t_MOST_HANDS:Tok
 t_BASE:Tok
structure Tx (K:PySem.W.Frag) (mg:Str->Option Value) (a:Ads):Prop where
 m_with_one:mg "with_one"=some (.ref a.f_with_one)
 m_members:mg "members"=some (.ref a.f_members)
 m_is_whole:mg "is_whole"=some (.ref a.f_is_whole)
 m_numbers_by_slip:mg "numbers_by_slip"=some (.ref a.f_numbers_by_slip)
 m_sheet_from:mg "sheet_from"=some (.ref a.f_sheet_from)
 m_ballots_in:mg "ballots_in"=some (.ref a.f_ballots_in)
 m_seal_of:mg "seal_of"=some (.ref a.f_seal_of)
 m_place_of:mg "place_of"=some (.ref a.f_place_of)
 m_law_cell:mg "_law_cell"=some (.ref a.f_law_cell)
 m_law_mixed:mg "_law_mixed"=some (.ref a.f_law_mixed)
 m_law_whole:mg "_law_whole"=some (.ref a.f_law_whole)
 m_law_slip:mg "_law_slip"=some (.ref a.f_law_slip)
 m_law_code:mg "_law_code"=some (.ref a.f_law_code)
 m_law_sheet:mg "_law_sheet"=some (.ref a.f_law_sheet)
 m_law_seal:mg "_law_seal"=some (.ref a.f_law_seal)
 m_is_rank:mg "is_rank"=some (.ref a.f_is_rank)
 m_tier_at:mg "tier_at"=some (.ref a.f_tier_at)
 m_ranks_of:mg "ranks_of"=some (.ref a.f_ranks_of)
 m_is_number:mg "is_number"=some (.ref a.f_is_number)
 m_joined:mg "joined"=some (.ref a.f_joined)
 m_apart:mg "apart"=some (.ref a.f_apart)
 m_mended:mg "mended"=some (.ref a.f_mended)
 m_are_hands:mg "are_hands"=some (.ref a.f_are_hands)
 m_law_ranks:mg "_law_ranks"=some (.ref a.f_law_ranks)
 m_law_many:mg "_law_many"=some (.ref a.f_law_many)
 m_law_line:mg "_law_line"=some (.ref a.f_law_line)
 m_law_codes_of:mg "_law_codes_of"=some (.ref a.f_law_codes_of)
 m_law_seal_is:mg "_law_seal_is"=some (.ref a.f_law_seal_is)
 m_law_apart:mg "_law_apart"=some (.ref a.f_law_apart)
 m_are_ranks:mg "are_ranks"=some (.ref a.f_are_ranks)
 m_sheet_of:mg "sheet_of"=some (.ref a.f_sheet_of)
 m_code_of:mg "code_of"=some (.ref a.f_code_of)
 m_law_lines:mg "_law_lines"=some (.ref a.f_law_lines)
 m_law_bundles:mg "_law_bundles"=some (.ref a.f_law_bundles)
 m_law_new_lines:mg "_law_new_lines"=some (.ref a.f_law_new_lines)
 m_slip_of:mg "slip_of"=some (.ref a.f_slip_of)
 m_line_of:mg "line_of"=some (.ref a.f_line_of)
 m_law_told:mg "_law_told"=some (.ref a.f_law_told)
 m_law_refused:mg "_law_refused"=some (.ref a.f_law_refused)
 m_law_put:mg "_law_put"=some (.ref a.f_law_put)
 m_law_refusals:mg "_law_refusals"=some (.ref a.f_law_refusals)
 m_law:mg "law"=some (.ref a.f_law)
 z_ValueError:mg "ValueError"=none
 z_all:mg "all"=none
 z_bool:mg "bool"=none
 z_enumerate:mg "enumerate"=none
 z_int:mg "int"=none
 z_isinstance:mg "isinstance"=none
 z_len:mg "len"=none
 z_list:mg "list"=none
 z_max:mg "max"=none
 z_min:mg "min"=none
 z_range:mg "range"=none
 z_reversed:mg "reversed"=none
 z_set:mg "set"=none
 z_sorted:mg "sorted"=none
 z_sum:mg "sum"=none
 z_tuple:mg "tuple"=none
 k_MOST_RANK:mg "MOST_RANK"=some (.int 1000000000 a.t_MOST_RANK)
 k_MOST_BALLOTS:mg "MOST_BALLOTS"=some (.int 1000000000 a.t_MOST_BALLOTS)
 k_MOST_HANDS:mg "MOST_HANDS"=some (.int 12 a.t_MOST_HANDS)
 k_BASE:mg "BASE"=some (.int 13 a.t_BASE)
 m_NoBundle:mg "NoBundle"=some (.ref a.c_NoBundle)
 h_NoBundle:CP K a.c_NoBundle
 m_NoSheet:mg "NoSheet"=some (.ref a.c_NoSheet)
 h_NoSheet:CP K a.c_NoSheet
 m_WrongNumber:mg "WrongNumber"=some (.ref a.c_WrongNumber)
 h_WrongNumber:CP K a.c_WrongNumber
 m_PollError:mg "PollError"=some (.ref a.c_PollError)
 h_PollError:CP K a.c_PollError
 m_Torn:mg "Torn"=some (.ref a.c_Torn)
 h_Torn:CP K a.c_Torn
 m_TooHard:mg "TooHard"=some (.ref a.c_TooHard)
 h_TooHard:CP K a.c_TooHard
 m_NoWay:mg "NoWay"=some (.ref a.c_NoWay)
 h_NoWay:CP K a.c_NoWay
 m_NoRow:mg "NoRow"=some (.ref a.c_NoRow)
 h_NoRow:CP K a.c_NoRow
 m_NoNumber:mg "NoNumber"=some (.ref a.c_NoNumber)
 h_NoNumber:CP K a.c_NoNumber
 m_NoChange:mg "NoChange"=some (.ref a.c_NoChange)
 h_NoChange:CP K a.c_NoChange
 m_NoBallot:mg "NoBallot"=some (.ref a.c_NoBallot)
 h_NoBallot:CP K a.c_NoBallot
 m_Ended:mg "Ended"=some (.ref a.c_Ended)
 h_Ended:CP K a.c_Ended
 m_Box:mg "Box"=some (.ref a.c_Box)
 cl_Box:Cls K a.c_Box
 mk_Box:Mk K a.c_Box a.f_Box_init
 me_Box_many:Ib K a.c_Box "many" a.f_Box_many
 me_Box_take:Ib K a.c_Box "take" a.f_Box_take
 me_Box_lines_at:Ib K a.c_Box "lines_at" a.f_Box_lines_at
 me_Box_sheet_at:Ib K a.c_Box "sheet_at" a.f_Box_sheet_at
 me_Box_seal_at:Ib K a.c_Box "seal_at" a.f_Box_seal_at
 me_Box_sheet:Ib K a.c_Box "sheet" a.f_Box_sheet
 me_Box_put_right:Ib K a.c_Box "put_right" a.f_Box_put_right
 na_Box_hands:BX K a.c_Box "hands"
 na_Box_bundles:BX K a.c_Box "bundles"
 x_NoBundle:LC K a.c_NoBundle
 k_NoBundle:Ii K a.c_NoBundle
 v_NoBundle:PySem.W.subIn K (.ref a.c_NoBundle) (.type "ValueError")=some true
 s_NoBundle_NoBundle:PySem.W.subIn K (.ref a.c_NoBundle) (.ref a.c_NoBundle)=some true
 s_NoBundle_NoSheet:PySem.W.subIn K (.ref a.c_NoBundle) (.ref a.c_NoSheet)=some false
 s_NoBundle_WrongNumber:PySem.W.subIn K (.ref a.c_NoBundle) (.ref a.c_WrongNumber)=some false
 s_NoBundle_PollError:PySem.W.subIn K (.ref a.c_NoBundle) (.ref a.c_PollError)=some true
 s_NoBundle_Torn:PySem.W.subIn K (.ref a.c_NoBundle) (.ref a.c_Torn)=some false
 s_NoBundle_TooHard:PySem.W.subIn K (.ref a.c_NoBundle) (.ref a.c_TooHard)=some false
 s_NoBundle_NoWay:PySem.W.subIn K (.ref a.c_NoBundle) (.ref a.c_NoWay)=some false
 s_NoBundle_NoRow:PySem.W.subIn K (.ref a.c_NoBundle) (.ref a.c_NoRow)=some false
 s_NoBundle_NoNumber:PySem.W.subIn K (.ref a.c_NoBundle) (.ref a.c_NoNumber)=some false
 s_NoBundle_NoChange:PySem.W.subIn K (.ref a.c_NoBundle) (.ref a.c_NoChange)=some false
 s_NoBundle_NoBallot:PySem.W.subIn K (.ref a.c_NoBundle) (.ref a.c_NoBallot)=some false
 s_NoBundle_Ended:PySem.W.subIn K (.ref a.c_NoBundle) (.ref a.c_Ended)=some false
 x_NoSheet:LC K a.c_NoSheet
 k_NoSheet:Ii K a.c_NoSheet
 v_NoSheet:PySem.W.subIn K (.ref a.c_NoSheet) (.type "ValueError")=some true
 s_NoSheet_NoBundle:PySem.W.subIn K (.ref a.c_NoSheet) (.ref a.c_NoBundle)=some false
 s_NoSheet_NoSheet:PySem.W.subIn K (.ref a.c_NoSheet) (.ref a.c_NoSheet)=some true
 s_NoSheet_WrongNumber:PySem.W.subIn K (.ref a.c_NoSheet) (.ref a.c_WrongNumber)=some false
 s_NoSheet_PollError:PySem.W.subIn K (.ref a.c_NoSheet) (.ref a.c_PollError)=some true
 s_NoSheet_Torn:PySem.W.subIn K (.ref a.c_NoSheet) (.ref a.c_Torn)=some false
 s_NoSheet_TooHard:PySem.W.subIn K (.ref a.c_NoSheet) (.ref a.c_TooHard)=some false
 s_NoSheet_NoWay:PySem.W.subIn K (.ref a.c_NoSheet) (.ref a.c_NoWay)=some false
 s_NoSheet_NoRow:PySem.W.subIn K (.ref a.c_NoSheet) (.ref a.c_NoRow)=some false
 s_NoSheet_NoNumber:PySem.W.subIn K (.ref a.c_NoSheet) (.ref a.c_NoNumber)=some false
 s_NoSheet_NoChange:PySem.W.subIn K (.ref a.c_NoSheet) (.ref a.c_NoChange)=some false
 s_NoSheet_NoBallot:PySem.W.subIn K (.ref a.c_NoSheet) (.ref a.c_NoBallot)=some false
 s_NoSheet_Ended:PySem.W.subIn K (.ref a.c_NoSheet) (.ref a.c_Ended)=some false
 i_WrongNumber:Je K a.c_WrongNumber a.c_PollError a.f_WrongNumber_init
 kp_WrongNumber:PySem.W.keepIn K (.ref a.c_WrongNumber)=true
 hd_WrongNumber:PySem.W.hasDictIn K a.c_WrongNumber=true
 na_WrongNumber_wanted:BX K a.c_WrongNumber "wanted"
 na_WrongNumber_got:BX K a.c_WrongNumber "got"
 k_WrongNumber:Ii K a.c_WrongNumber
 v_WrongNumber:PySem.W.subIn K (.ref a.c_WrongNumber) (.type "ValueError")=some true
 s_WrongNumber_NoBundle:PySem.W.subIn K (.ref a.c_WrongNumber) (.ref a.c_NoBundle)=some false
 s_WrongNumber_NoSheet:PySem.W.subIn K (.ref a.c_WrongNumber) (.ref a.c_NoSheet)=some false
 s_WrongNumber_WrongNumber:PySem.W.subIn K (.ref a.c_WrongNumber) (.ref a.c_WrongNumber)=some true
 s_WrongNumber_PollError:PySem.W.subIn K (.ref a.c_WrongNumber) (.ref a.c_PollError)=some true
 s_WrongNumber_Torn:PySem.W.subIn K (.ref a.c_WrongNumber) (.ref a.c_Torn)=some false
 s_WrongNumber_TooHard:PySem.W.subIn K (.ref a.c_WrongNumber) (.ref a.c_TooHard)=some false
 s_WrongNumber_NoWay:PySem.W.subIn K (.ref a.c_WrongNumber) (.ref a.c_NoWay)=some false
 s_WrongNumber_NoRow:PySem.W.subIn K (.ref a.c_WrongNumber) (.ref a.c_NoRow)=some false
 s_WrongNumber_NoNumber:PySem.W.subIn K (.ref a.c_WrongNumber) (.ref a.c_NoNumber)=some false
 s_WrongNumber_NoChange:PySem.W.subIn K (.ref a.c_WrongNumber) (.ref a.c_NoChange)=some false
 s_WrongNumber_NoBallot:PySem.W.subIn K (.ref a.c_WrongNumber) (.ref a.c_NoBallot)=some false
 s_WrongNumber_Ended:PySem.W.subIn K (.ref a.c_WrongNumber) (.ref a.c_Ended)=some false
 F_with_one:Fun K "with_one" "with_one" HI a.f_with_one a.d_with_one
 b_with_one:AU K a.d_with_one ["mask","hand"] []
 F_members:Fun K "members" "members" FV a.f_members a.d_members
 b_members:AU K a.d_members ["mask"] []
 F_is_whole:Fun K "is_whole" "is_whole" GS a.f_is_whole a.d_is_whole
 b_is_whole:AU K a.d_is_whole ["thing"] []
 F_numbers_by_slip:Fun K "numbers_by_slip" "numbers_by_slip" Dm a.f_numbers_by_slip a.d_numbers_by_slip
 b_numbers_by_slip:AU K a.d_numbers_by_slip ["lines"] []
 F_sheet_from:Fun K "sheet_from" "sheet_from" Ef a.f_sheet_from a.d_sheet_from
 b_sheet_from:AU K a.d_sheet_from ["numbers"] []
 F_ballots_in:Fun K "ballots_in" "ballots_in" Eo a.f_ballots_in a.d_ballots_in
 b_ballots_in:AU K a.d_ballots_in ["sheet"] []
 F_seal_of:Fun K "seal_of" "seal_of" IT a.f_seal_of a.d_seal_of
 b_seal_of:AU K a.d_seal_of ["codes"] []
 F_place_of:Fun K "place_of" "place_of" HN a.f_place_of a.d_place_of
 b_place_of:AU K a.d_place_of ["lacks","many"] []
 F_law_cell:Fun K "_law_cell" "_law_cell" Ig a.f_law_cell a.d_law_cell
 b_law_cell:AU K a.d_law_cell ["_law_script","_law_k"] []
 F_law_mixed:Fun K "_law_mixed" "_law_mixed" Gr a.f_law_mixed a.d_law_mixed
 b_law_mixed:AU K a.d_law_mixed ["_law_cell_here","_law_by"] []
 F_law_whole:Fun K "_law_whole" "_law_whole" Gs a.f_law_whole a.d_law_whole
 b_law_whole:AU K a.d_law_whole ["_law_found"] []
 F_law_slip:Fun K "_law_slip" "_law_slip" Fr a.f_law_slip a.d_law_slip
 b_law_slip:AU K a.d_law_slip ["_law_ranks_here"] []
 F_law_code:Fun K "_law_code" "_law_code" GZ a.f_law_code a.d_law_code
 b_law_code:AU K a.d_law_code ["_law_ranks_here","_law_number"] []
 F_law_sheet:Fun K "_law_sheet" "_law_sheet" Ey a.f_law_sheet a.d_law_sheet
 b_law_sheet:AU K a.d_law_sheet ["_law_lines_here"] []
 F_law_seal:Fun K "_law_seal" "_law_seal" GO a.f_law_seal a.d_law_seal
 b_law_seal:AU K a.d_law_seal ["_law_codes"] []
 F_Box_many:Fun K "many" "Box.many" Hn a.f_Box_many a.d_Box_many
 b_Box_many:AU K a.d_Box_many ["self"] []
 F_WrongNumber_init:Fun K "__init__" "WrongNumber.__init__" Dh a.f_WrongNumber_init a.d_WrongNumber_init
 b_WrongNumber_init:AU K a.d_WrongNumber_init ["self","wanted","got"] []
 F_is_rank:Fun K "is_rank" "is_rank" IE a.f_is_rank a.d_is_rank
 b_is_rank:AU K a.d_is_rank ["thing"] []
 F_tier_at:Fun K "tier_at" "tier_at" Jb a.f_tier_at a.d_tier_at
 b_tier_at:AU K a.d_tier_at ["ranks","wanted"] []
 F_ranks_of:Fun K "ranks_of" "ranks_of" F0 a.f_ranks_of a.d_ranks_of
 b_ranks_of:AU K a.d_ranks_of ["slip","hands"] []
 F_is_number:Fun K "is_number" "is_number" Gu a.f_is_number a.d_is_number
 b_is_number:AU K a.d_is_number ["thing"] []
 F_joined:Fun K "joined" "joined" KW a.f_joined a.d_joined
 b_joined:AU K a.d_joined ["sheets"] []
 F_apart:Fun K "apart" "apart" Jy a.f_apart a.d_apart
 b_apart:AU K a.d_apart ["one","other"] []
 F_mended:Fun K "mended" "mended" GR a.f_mended a.d_mended
 b_mended:AU K a.d_mended ["codes","seal"] []
 F_are_hands:Fun K "are_hands" "are_hands" Gm a.f_are_hands a.d_are_hands
 b_are_hands:AU K a.d_are_hands ["thing"] []
 F_law_ranks:Fun K "_law_ranks" "_law_ranks" BY a.f_law_ranks a.d_law_ranks
 b_law_ranks:AU K a.d_law_ranks ["_law_cell_here","_law_hands"] []
 F_law_many:Fun K "_law_many" "_law_many" Hk a.f_law_many a.d_law_many
 b_law_many:AU K a.d_law_many ["_law_cell_here","_law_k"] []
 F_law_line:Fun K "_law_line" "_law_line" F4 a.f_law_line a.d_law_line
 b_law_line:AU K a.d_law_line ["_law_found","_law_due"] []
 F_law_codes_of:Fun K "_law_codes_of" "_law_codes_of" EZ a.f_law_codes_of a.d_law_codes_of
 b_law_codes_of:AU K a.d_law_codes_of ["_law_lines_here","_law_hands"] []
 F_law_seal_is:Fun K "_law_seal_is" "_law_seal_is" DG a.f_law_seal_is a.d_law_seal_is
 b_law_seal_is:AU K a.d_law_seal_is ["_law_found","_law_due"] []
 F_law_apart:Fun K "_law_apart" "_law_apart" Gk a.f_law_apart a.d_law_apart
 b_law_apart:AU K a.d_law_apart ["_law_old","_law_new"] []
 F_Box_lines_at:Fun K "lines_at" "Box.lines_at" EL a.f_Box_lines_at a.d_Box_lines_at
 b_Box_lines_at:AU K a.d_Box_lines_at ["self","k"] []
 F_are_ranks:Fun K "are_ranks" "are_ranks" Ew a.f_are_ranks a.d_are_ranks
 b_are_ranks:AU K a.d_are_ranks ["thing","hands"] []
 F_sheet_of:Fun K "sheet_of" "sheet_of" Ha a.f_sheet_of a.d_sheet_of
 b_sheet_of:AU K a.d_sheet_of ["lines"] []
 F_code_of:Fun K "code_of" "code_of" IX a.f_code_of a.d_code_of
 b_code_of:AU K a.d_code_of ["line","hands"] []
 F_law_lines:Fun K "_law_lines" "_law_lines" EJ a.f_law_lines a.d_law_lines
 b_law_lines:AU K a.d_law_lines ["_law_found","_law_due"] []
 F_law_bundles:Fun K "_law_bundles" "_law_bundles" C7 a.f_law_bundles a.d_law_bundles
 b_law_bundles:AU K a.d_law_bundles ["_law_script","_law_hands"] []
 F_law_new_lines:Fun K "_law_new_lines" "_law_new_lines" Eu a.f_law_new_lines a.d_law_new_lines
 b_law_new_lines:AU K a.d_law_new_lines ["_law_lines_here","_law_cell_here","_law_hands"] []
 F_Box_init:Fun K "__init__" "Box.__init__" HW a.f_Box_init a.d_Box_init
 b_Box_init:AU K a.d_Box_init ["self","hands"] []
 F_slip_of:Fun K "slip_of" "slip_of" FT a.f_slip_of a.d_slip_of
 b_slip_of:AU K a.d_slip_of ["ranks","hands"] []
 F_Box_sheet_at:Fun K "sheet_at" "Box.sheet_at" EI a.f_Box_sheet_at a.d_Box_sheet_at
 b_Box_sheet_at:AU K a.d_Box_sheet_at ["self","k"] []
 F_Box_seal_at:Fun K "seal_at" "Box.seal_at" D7 a.f_Box_seal_at a.d_Box_seal_at
 b_Box_seal_at:AU K a.d_Box_seal_at ["self","k"] []
 F_Box_sheet:Fun K "sheet" "Box.sheet" EE a.f_Box_sheet a.d_Box_sheet
 b_Box_sheet:AU K a.d_Box_sheet ["self"] []
 F_line_of:Fun K "line_of" "line_of" IK a.f_line_of a.d_line_of
 b_line_of:AU K a.d_line_of ["code","hands"] []
 F_law_told:Fun K "_law_told" "_law_told" Ia a.f_law_told a.d_law_told
 b_law_told:AU K a.d_law_told ["_law_box","_law_bundles_here","_law_hands"] []
 F_Box_put_right:Fun K "put_right" "Box.put_right" Et a.f_Box_put_right a.d_Box_put_right
 b_Box_put_right:AU K a.d_Box_put_right ["self","k","lines"] []
 F_law_refused:Fun K "_law_refused" "_law_refused" Fn a.f_law_refused a.d_law_refused
 b_law_refused:AU K a.d_law_refused ["_law_box","_law_k","_law_lines_here"] []
 F_law_put:Fun K "_law_put" "_law_put" IP a.f_law_put a.d_law_put
 b_law_put:AU K a.d_law_put ["_law_box","_law_k","_law_lines_here","_law_due"] []
 F_Box_take:Fun K "take" "Box.take" Fz a.f_Box_take a.d_Box_take
 b_Box_take:AU K a.d_Box_take ["self","codes","seal"] []
 F_law_refusals:Fun K "_law_refusals" "_law_refusals" CY a.f_law_refusals a.d_law_refusals
 b_law_refusals:AU K a.d_law_refusals ["_law_box","_law_bundles_here","_law_k","_law_new","_law_way","_law_number"] []
 F_law:Fun K "law" "law" QM a.f_law a.d_law
local macro_rules | `(tactic| trivial)=>`(tactic| refine Sz.neg (by trivial))
local macro_rules | `(tactic| trivial)=>`(tactic| refine Sz.fdiv (by trivial))
local macro_rules | `(tactic| trivial)=>`(tactic| refine Sz.sub (by trivial) (by trivial))
local macro_rules | `(tactic| trivial)=>`(tactic| refine Sz.add (by trivial) (by trivial))
local macro_rules | `(tactic| trivial)=>`(tactic| refine Sz.mul (by trivial) (by trivial))
local macro_rules | `(tactic| trivial)=>`(tactic| exact QG _ (by first | decide | decide +kernel) (szd 200))
local macro_rules | `(tactic| trivial)=>`(tactic| first | assumption | exact szd 64 | exact szd 200 | exact szd 1000)
local macro_rules | `(tactic| and_intros)=>`(tactic| (repeat (first | refine ⟨_,rfl,?_⟩ | refine ⟨_,_,rfl,rfl,?_⟩ | refine ⟨rfl,?_⟩ | refine ⟨(by show (_:Int)≠0;first | decide | decide +kernel),?_⟩ | refine ⟨⟨(by show (_:Int)≠0;decide),szd 9000⟩,?_⟩ | refine ⟨(by show Po _ _;exact ⟨by decide,by decide,by decide⟩),?_⟩ | refine ⟨(by show Pm _ _;refine ⟨_,_,(by trivial),(by trivial),?_⟩;decide +kernel),?_⟩ | refine ⟨_,_,_,_,rfl,rfl,SqL.of (by assumption),(by rfl),?_⟩ | refine ⟨_,_,_,_,rfl,rfl,SqT.of (by assumption),(by rfl),?_⟩ | refine ⟨_,_,rfl,.inl (SqL.of (by assumption)),?_⟩ | refine ⟨_,_,rfl,.inr (SqT.of (by assumption)),?_⟩)))
section
variable {P:Program} {w:World} {K:PySem.W.Frag} {mg:Str->Option Value} {base:Heap} {ad:Ads}
theorem KL (T:Tx K mg ad):Bd P w K mg base CX0 1 ad.f_with_one ad.d_with_one ["mask","hand"] Rk:=by
 refine T.F_with_one.ok KJ (fun vs H Q E h=>?_) (fun cdv A outer s H vs Q E hr h=>?_)
 ·obtain ⟨m,h,rfl,_⟩:=h
  rfl
 obtain ⟨m,h,rfl,h0,h1,q⟩:=h
 refine ⟨_,(@Al _ _ _ (@A9 _ _ _ _ (@Ar _ _ _ _ _ _ _ _ Sq (pv 0) (@Ar _ _ _ _ _ _ _ _ M7 Ak (pv 1))))),?_⟩
 exact ⟨_,rfl,_,rfl,_,_,rfl,rfl,⟨h0,by omega,by decide⟩,_,_,rfl,rfl,q⟩
theorem LW (T:Tx K mg ad):Bd P w K mg base CX0 1 ad.f_members ad.d_members ["mask"] N6:=by
 refine T.F_members.ok Li (fun vs H Q E h=>?_) (fun cdv A outer s H vs Q E hr h=>?_)
 ·obtain ⟨m,rfl,_⟩:=h
  rfl
 obtain ⟨m,rfl,m0,m1,q⟩:=h
 refine ⟨_,(@Al _ _ _ (@A9 _ _ _ _ (B3 (fsc:=Am FV) (N:=["mask"]) (Nc:=["mask","hand"]) rfl rfl ⟨rfl,by decide +kernel,by decide +kernel,rfl,by decide +kernel,rfl,by decide +kernel,rfl,by decide +kernel⟩ rfl (Bw rfl T.z_range (@Af _ _ _ _ _ (Pz PySem.F.plainAttrs_int PySem.F.slot_int_bit_length PySem.F.type_int_bit_length Qu (pv 0)) Ah (by rfl))) (fun _ _ _ _=>(Eh (@AQ _ _ _ _ _ _ _ _ C0 (@Ar _ _ _ _ _ _ _ _ RC (@Ar _ _ _ _ _ _ _ _ RI (pv 0) (pv 1)) Ak) Ak (AR _)))) (fun _ _ _ _=>(pv 1))))),?_⟩
 have hb:(Builtin.Int.intBits m)<=12:=intBits_le_iff.mpr (by show m.natAbs < 4096;omega)
 refine ⟨_,rfl,rfl,m,rfl,rfl,_,rfl,by omega,by omega,?_⟩
 have en:((Builtin.Int.intBits m:Nat):Int).toNat=Builtin.Int.intBits m:=by omega
 rw [en]
 refine BN (B0 (by omega)) (fun D i ys H'=>ys=(hands i (bit m)).map V.int/\H'=upd H D (.lst ys)) (fun D hD=>⟨rfl,rfl⟩) (fun D i ys H' ⟨e1,e2⟩=>by rw [e2,e1];exact ⟨Ag,by rw [length_map];exact Iw i (bit m)⟩) ?_ ?_
 ·rintro D i ys H' K1 K2 hD hi ⟨e1,rfl⟩ k1 k2
  have ei:(0+(i:Int)).toNat=i:=by omega
  refine ⟨_,rfl,_,rfl,_,_,rfl,rfl,(by show (0:Int)<=0+(i:Int);omega),_,_,rfl,rfl,rfl,_,rfl,?_⟩
  dsimp only
  rw [show decide (V.int (Builtin.bitAnd (m / 2 ^ (0+(i:Int)).toNat) 1)=V.int 1)=bit m i from by rw [Oa,ei]]
  have ms:=Ep i (bit m)
  cases e:bit m i with
  | true =>
    rw [e,if_pos rfl] at ms
    refine Od ⟨_,rfl,?_⟩
    refine k1 _ _ Ag ⟨?_,by rw [Cz]⟩
    rw [ms,map_append,e1,Int.zero_add]
    rfl
  | false =>
    rw [e,if_neg (by decide)] at ms
    refine NA ?_
    exact k2 _ ⟨by rw [ms];exact e1,rfl⟩
 ·rintro D ys H' hD ⟨rfl,rfl⟩
  refine q D _ hD (Ai hD _) ?_
  rw [Ag,OJ m0 m1]
theorem EK (T:Tx K mg ad):Bd P w K mg base CX0 1 ad.f_is_whole ad.d_is_whole ["thing"] MG:=by
 refine T.F_is_whole.ok Gn (fun vs H Q E h=>?_) (fun cdv A outer s H vs Q E hr h=>?_)
 ·obtain ⟨c,rfl,_⟩:=h
  rfl
 obtain ⟨c,rfl,q⟩:=h
 refine ⟨_,(@Al _ _ _ (@A9 _ _ _ _ (@CZ _ _ _ _ _ _ _ (@A6 _ _ _ _ _ _ _ _ _ Cb (by rfl) T.z_isinstance PyProof.Rows.boot_isinstance (@Af _ _ _ _ _ (pv 0) (@Af _ _ _ _ _ (Cn (v:=.ty "int") rfl T.z_int PyProof.Rows.boot_int rfl) Ah (by rfl)) (by rfl)) (by decide) (by decide) (by rfl) (by rfl)) (@DJ _ _ _ _ _ (@Lr _ _ _ _ (@A6 _ _ _ _ _ _ _ _ _ Cb (by rfl) T.z_isinstance PyProof.Rows.boot_isinstance (@Af _ _ _ _ _ (pv 0) (@Af _ _ _ _ _ (Cn (v:=.ty "bool") rfl T.z_bool PyProof.Rows.boot_bool rfl) Ah (by rfl)) (by rfl)) (by decide) (by decide) (by rfl) (by rfl))))))),?_⟩
 refine ⟨_,rfl,_,_,_,_,rfl,CD.int c,EO,_,rfl,?_⟩
 refine Od ?_
 exact ⟨_,rfl,_,_,_,_,rfl,CD.int c,DX,_,rfl,q⟩
theorem FI (T:Tx K mg ad):Bd P w K mg base CX0 1 ad.f_is_whole ad.d_is_whole ["thing"] (Sg K):=by
 refine T.F_is_whole.ok Gn (fun vs H Q E h=>?_) (fun cdv A outer s H vs Q E hr h=>?_)
 ·obtain ⟨x,b,rfl,_⟩:=h
  rfl
 obtain ⟨x,b,rfl,⟨t,b1,b2,ty,k1,k2,e⟩,q⟩:=h
 refine ⟨_,(@Al _ _ _ (@A9 _ _ _ _ (@CZ _ _ _ _ _ _ _ (@A6 _ _ _ _ _ _ _ _ _ Cb (by rfl) T.z_isinstance PyProof.Rows.boot_isinstance (@Af _ _ _ _ _ (pv 0) (@Af _ _ _ _ _ (Cn (v:=.ty "int") rfl T.z_int PyProof.Rows.boot_int rfl) Ah (by rfl)) (by rfl)) (by decide) (by decide) (by rfl) (by rfl)) (@DJ _ _ _ _ _ (@Lr _ _ _ _ (@A6 _ _ _ _ _ _ _ _ _ Cb (by rfl) T.z_isinstance PyProof.Rows.boot_isinstance (@Af _ _ _ _ _ (pv 0) (@Af _ _ _ _ _ (Cn (v:=.ty "bool") rfl T.z_bool PyProof.Rows.boot_bool rfl) Ah (by rfl)) (by rfl)) (by decide) (by decide) (by rfl) (by rfl))))))),?_⟩
 refine ⟨_,rfl,_,_,_,_,rfl,ty,k1,_,rfl,?_⟩
 subst e
 cases b1 with
 | true =>
   refine Od ?_
   exact ⟨_,rfl,_,_,_,_,rfl,ty,k2,_,rfl,q⟩
 | false=>exact NA q
theorem BM (T:Tx K mg ad):Bd P w K mg base CX0 1 ad.f_numbers_by_slip ad.d_numbers_by_slip ["lines"] Sc:=by
 refine T.F_numbers_by_slip.ok BH (fun vs H Q E h=>?_) (fun cdv A outer s H vs Q E hr h=>?_)
 ·obtain ⟨l,ls,p,rfl,_⟩:=h
  rfl
 obtain ⟨l,ls,p,rfl,hl,g,hp,p64,q⟩:=h
 refine ⟨_,(@Aj _ _ _ _ _ (@A7 _ _ (1) _ _ _ _ BH.nd rfl (Or.inl rfl) Hl (by rfl) (by first | exact .inl rfl | exact .inr rfl | assumption)) (@Aj _ _ _ _ _ (B1 PassesOwn.never rfl (Bm (pv 0)) (DH rfl (Bl (AY (i:=2) BH.nd rfl (Or.inl rfl)) (Bl (AY (i:=3) BH.nd rfl (Or.inl rfl)) C9))) (@Al _ _ _ (Jw (u1 hr.units) (pv 1) (pv 2) (@Ar _ _ _ _ _ _ _ _ AW (EB (u1 hr.units) (pv 1) (pv 2) Ak ⟨rfl,rfl,rfl,rfl⟩) (pv 3)) rfl))) (@Al _ _ _ (@A9 _ _ _ _ (pv 1))))),?_⟩
 intro d hd
 have s0:=Ai hd (.dT [])
 have e0:(upd H d (.dT [])) d=some (.dT []):=Ag
 generalize upd H d (.dT [])=H0 at s0 e0 ⊢
 refine ⟨_,rfl,l,rfl,⟨_,SqL.of (s0 _ _ hl)⟩,BO (xs:=vls ls) (fun i σ' H'=>∃(v2 v3:Option V) (kvs:List (List Key × V)),σ'=[some (.ref l),some (.ref d),v2,v3]/\AJ H H'/\H' d=some (.dT kvs)/\DictOf (Ao (ls.take i)) kvs) ⟨none,none,[],rfl,s0,e0,DictOf.nil⟩ (fun i σ' H' _ ⟨_,_,_,_,e,_⟩=>SqL.of (e _ _ hl)) ?_ ?_⟩
 ·rintro i x σ' H' hx ⟨v2,v3,kvs,rfl,s1,e1,dk⟩
  obtain ⟨f,hf,rfl,fm,et⟩:=C6 hx
  obtain ⟨g1,g2⟩:=g f fm
  have sub:∀q∈Ao (ls.take i),q.1∈p:=fun q m=>by
   obtain ⟨r,rm,rfl⟩:=mem_map.mp m
   exact hp _ (mem_map.mpr ⟨r,mem_of_mem_take rm,rfl⟩)
  have lim:=dk.len sub
  have kt:H' f.2.1=some (.tup ((f.2.2.1.map Sum.inl:List Key).map kV)):=by rw [Er];exact s1 _ _ g2
  refine ⟨f.1,_,rfl,SqT.of (s1 _ _ g1),rfl,_,_,rfl,_,_,rfl,rfl,?_⟩
  refine ⟨_,rfl,d,rfl,.inr ⟨_,.inl e1⟩,_,rfl,_,FH.t e1 kt,?_⟩
  rw [FL dk]
  refine ⟨_,rfl,_,_,rfl,rfl,_,rfl,_,rfl,d,_,rfl,L7.t e1 kt (Bq (by omega)),?_⟩
  refine ⟨_,_,_,rfl,AS s1 hd,Ag,?_⟩
  rw [et,AK]
  exact dk.put f.2.2.1 f.2.2.2
 ·rintro σ' H' ⟨v2,v3,kvs,rfl,s1,e1,dk⟩
  rw [AT,take_of_length_le (Nat.le_refl _)] at dk
  exact ⟨_,rfl,q d kvs H' hd s1 e1 dk⟩
theorem D8 (T:Tx K mg ad):Bd P w K mg base CX0 1 ad.f_sheet_from ad.d_sheet_from ["numbers"] SU:=by
 refine T.F_sheet_from.ok Ij (fun vs H Q E h=>?_) (fun cdv A outer s H vs Q E hr h=>?_)
 ·obtain ⟨d,kvs,rfl,_⟩:=h
  rfl
 obtain ⟨d,kvs,rfl,hd,vd,k64,q⟩:=h
 refine ⟨_,(@Al _ _ _ (@A9 _ _ _ _ (B3 (fsc:=Am Ef) (N:=["numbers"]) (Nc:=["numbers","slip"]) rfl rfl ⟨rfl,by decide +kernel,by decide +kernel,rfl,by decide +kernel,rfl,by decide +kernel,rfl,by decide +kernel⟩ rfl (Bm (@A6 _ _ _ _ _ _ _ _ _ (Fo rfl hr.units) (by rfl) T.z_sorted PyProof.Rows.boot_sorted (@Af _ _ _ _ _ (pv 0) Ah (by rfl)) (by decide) (by decide) (by rfl) (by rfl))) (fun _ _ _ _=>(Eh (@AQ _ _ _ _ _ _ _ _ HZ (Ju (u1 hr.units) (pv 0) (pv 1) (fun _ _=>rfl)) Ak (AR _)))) (fun _ _ _ _=>(@AZ _ _ _ _ _ (@Af _ _ _ _ _ (pv 1) (@Af _ _ _ _ _ (Ju (u1 hr.units) (pv 0) (pv 1) (fun _ _=>rfl)) Ah (by rfl)) (by rfl))))))),?_⟩
 obtain ⟨ks,k1,k2,knd,kmem⟩:=vd.keys
 refine ⟨_,rfl,d,kvs,ks,rfl,.inl hd,k1,by omega,fun l rs r1 r2 r3 hl=>?_⟩
 have sl:=Ai hl (.lst (rs.map fun q=>V.ref q.1))
 have el:(upd H l (.lst (rs.map fun q=>V.ref q.1))) l=some (.lst (rs.map fun q=>V.ref q.1)):=Ag
 generalize upd H l (.lst (rs.map fun q=>V.ref q.1))=H1 at sl el ⊢
 have rl:rs.length=ks.length:=by
  have:=r2.length_eq
  rw [length_map] at this
  exact this
 have ov:∀r∈rs,BP kvs (r.2.map Sum.inl:List Key)=some (.int (GB kvs r.2)):=fun r m=>by
  obtain ⟨n,e⟩:=(kmem r.2).mp (r2.mem_iff.mp (mem_map.mpr ⟨r,m,rfl⟩))
  unfold GB
  rw [e]
 refine ⟨l,rfl,⟨_,SqL.of el⟩,?_⟩
 refine BQ (xs:=rs.map fun q=>V.ref q.1) (by rw [length_map];exact B0 (by omega)) (fun D i ys H2=>∃ls:Ls,ys=vls ls/\ls.length<=i/\H2 D=some (.lst ys)/\AJ H1 H2/\AM H2 ls/\Ao ls=((rs.take i).filter fun r=>decide (0 < GB kvs r.2)).map fun r=>(r.2,GB kvs r.2)) (fun D hD=>⟨[],rfl,Nat.le_refl _,Ag,Ai hD _,(fun _ m=>nomatch m),rfl⟩) (fun D i ys H2 ⟨ls,f1,f2,f3,_⟩=>⟨f3,by rw [f1,AT];exact f2⟩) (fun D i ys H2 hD ⟨ls,_,_,_,f4,_⟩=>SqL.of (f4 _ _ el)) ?_ ?_
 ·rintro D i x ys H2 K1 K2 hD hx ⟨ls,rfl,f2,f3,f4,f5,f6⟩ kk1 kk2
  rw [List.getElem?_map] at hx
  cases er:rs[i]? with
  | none=>rw [er] at hx;cases hx
  | some r =>
    rw [er] at hx
    cases Option.some.inj hx
    have rm:=mem_of_getElem? er
    have et:rs.take (i+1)=rs.take i++[r]:=by rw [take_succ,er];rfl
    have sH:=sl.trans f4
    have ek:=sH _ _ (r1 r rm)
    have dg:=FH.t (k:=(r.2.map Sum.inl:List Key)) (sH _ _ hd) (by rw [Er];exact ek)
    rw [ov r rm] at dg
    refine ⟨_,rfl,_,rfl,d,_,rfl,dg,?_⟩
    and_intros
    by_cases c:0 < GB kvs r.2
    ·refine ifT (decide_eq_true c) ?_
     refine ⟨_,rfl,_,rfl,_,rfl,d,_,rfl,dg,(by show 2<=sizeLine;decide),fun t ht=>?_⟩
     have s6:=Ai ht (.tup [V.ref r.1,V.int (GB kvs r.2)])
     refine kk1 _ _ (s6 _ _ f3) ⟨ls++[(t,r.1,r.2,GB kvs r.2)],by rw [B9];rfl,by rw [length_append];exact Nat.succ_le_succ f2,Ag,AS (f4.trans s6) hD,?_,?_⟩
     ·refine AM.upd (s6 _ _ f3) ((f5.same s6).append fun q m=>?_)
      rw [mem_singleton.mp m]
      exact ⟨Ag,s6 _ _ ek⟩
     ·rw [AK,f6,et,filter_append,map_append]
      simp [c,Ao]
    ·refine ifF (decide_eq_false c) ?_
     refine kk2 _ ⟨ls,rfl,Nat.le_succ_of_le f2,f3,f4,f5,?_⟩
     rw [f6,et,filter_append,map_append]
     simp [c]
 ·rintro D ys H2 hD ⟨ls,rfl,f2,f3,f4,f5,f6⟩
  rw [length_map] at f2
  rw [length_map,take_of_length_le (Nat.le_refl _)] at f6
  have rnd:(rs.map (·.2)).Nodup:=r2.nodup_iff.mpr knd
  refine q D ls H2 (none_of sl hD) (sl.trans f4) f3 f5 ?_ (fun ts n=>?_) (by omega)
  ·rw [f6,pairwise_map]
   have st:rs.Pairwise (fun x y=>HT.lexLt x.2 y.2=true):=by
    have nd2:rs.Pairwise (fun x y=>x.2≠y.2):=pairwise_map.mp rnd
    exact (r3.and nd2).imp fun ⟨h1,h2⟩=>Jv h1 h2
   exact st.filter _
  ·rw [f6]
   constructor
   ·intro m
    obtain ⟨r,rm,e⟩:=mem_map.mp m
    obtain ⟨rm1,rm2⟩:=mem_filter.mp rm
    injection e with e1 e2
    subst e1
    subst e2
    exact ⟨ov r rm1,by simpa using rm2⟩
   ·rintro ⟨e,n0⟩
    have tk:ts∈ks:=(kmem ts).mpr ⟨n,e⟩
    obtain ⟨r,rm,rfl⟩:=mem_map.mp (r2.mem_iff.mpr tk)
    have o:=ov r rm
    rw [e] at o
    injection o with o
    injection o with o
    exact mem_map.mpr ⟨r,mem_filter.mpr ⟨rm,by rw [<- o];simpa using n0⟩,by rw [<- o]⟩
theorem C8 (T:Tx K mg ad):Bd P w K mg base CX0 1 ad.f_ballots_in ad.d_ballots_in ["sheet"] ND:=by
 refine T.F_ballots_in.ok Im (fun vs H Q E h=>?_) (fun cdv A outer s H vs Q E hr h=>?_)
 ·obtain ⟨l,ls,rfl,_⟩:=h
  rfl
 obtain ⟨l,ls,rfl,hl,g,l900,q⟩:=h
 refine ⟨_,(@Al _ _ _ (@A9 _ _ _ _ (@A6 _ _ _ _ _ _ _ _ _ (FC rfl) (by rfl) T.z_sum PyProof.Rows.boot_sum (@Af _ _ _ _ _ (JZ (fsc:=Am Eo) (N:=["sheet"]) (Nc:=["sheet","slip","number"]) rfl rfl ⟨rfl,by decide +kernel,by decide +kernel,by decide +kernel,by decide +kernel,rfl,by decide +kernel,rfl,by decide +kernel⟩ rfl (Bm (pv 0)) (fun _ _ _ _=>B7) (fun _ _ _ _=>(pv 2))) Ah (by rfl)) (by decide) (by decide) (by rfl) (by rfl)))),?_⟩
 refine ⟨_,rfl,l,rfl,⟨_,SqL.of hl⟩,?_⟩
 refine Hi (zs:=vls ls) rfl rfl (by rw [AT];exact Be l900) (fun D i ys H'=>ys=((Ao (ls.take i)).map (·.2)).map V.int/\H'=upd H D (.lst ys)) (fun D hD=>⟨rfl,rfl⟩) (fun D i ys H' ⟨f1,f2⟩=>⟨by rw [f2];exact Ag,by rw [f1,length_map,length_map];unfold Ao;rw [length_map];exact length_take_le _ _⟩) (fun D i ys H' hD ⟨_,f2⟩=>by rw [f2];exact SqL.of (Ai hD _ _ _ hl)) ?_ ?_
 ·rintro D i x ys H' K1 K2 hD hx ⟨f1,rfl⟩ k1 k2
  obtain ⟨f,hf,rfl,fm,et⟩:=C6 hx
  refine ⟨f.1,_,_,rfl,SqT.of (Ai hD _ _ _ (g f fm).1),?_⟩
  refine yes (ifT rfl ?_)
  refine ⟨_,rfl,?_⟩
  refine k1 _ _ Ag ⟨?_,by rw [Cz]⟩
  rw [et,AK,map_append,map_append,f1]
  rfl
 rintro D ys H' hD ⟨rfl,rfl⟩
 rw [AT,take_of_length_le (Nat.le_refl _)]
 exact ⟨D,_,rfl,SqL.of Ag,q _ (Ai hD _)⟩
theorem Hz (T:Tx K mg ad):Bd P w K mg base CX0 1 ad.f_seal_of ad.d_seal_of ["codes"] P3:=by
 refine T.F_seal_of.ok BF (fun vs H Q E h=>?_) (fun cdv A outer s H vs Q E hr h=>?_)
 ·obtain ⟨p,cs,rfl,_⟩:=h
  rfl
 obtain ⟨p,cs,rfl,h1,z1,h100,q⟩:=h
 refine ⟨_,(@Aj _ _ _ _ _ (@A7 _ _ (1) _ _ _ _ BF.nd rfl (Or.inl rfl) Ak (by rfl) (by first | exact .inl rfl | exact .inr rfl | assumption)) (@Aj _ _ _ _ _ (@A7 _ _ (2) _ _ _ _ BF.nd rfl (Or.inl rfl) Ak (by rfl) (by first | exact .inl rfl | exact .inr rfl | assumption)) (@Aj _ _ _ _ _ (@A7 _ _ (3) _ _ _ _ BF.nd rfl (Or.inl rfl) Ak (by rfl) (by first | exact .inl rfl | exact .inr rfl | assumption)) (@Aj _ _ _ _ _ (B1 PassesOwn.never rfl (PD rfl T.z_enumerate (pv 0) Ak) (DH rfl (Bl (AY (i:=4) BF.nd rfl (Or.inl rfl)) (Bl (AY (i:=5) BF.nd rfl (Or.inl rfl)) C9))) (@Aj _ _ _ _ _ (@A7 _ _ (1) _ _ _ _ BF.nd rfl (Or.inl rfl) (@Ar _ _ _ _ _ _ _ _ AW (pv 1) (pv 5)) (by rfl) (by first | exact .inl rfl | exact .inr rfl | assumption)) (@Aj _ _ _ _ _ (@A7 _ _ (2) _ _ _ _ BF.nd rfl (Or.inl rfl) (@Ar _ _ _ _ _ _ _ _ AW (pv 2) (@Ar _ _ _ _ _ _ _ _ BA (pv 5) (pv 4))) (by rfl) (by first | exact .inl rfl | exact .inr rfl | assumption)) (@Al _ _ _ (@A7 _ _ (3) _ _ _ _ BF.nd rfl (Or.inl rfl) (@Ar _ _ _ _ _ _ _ _ AW (pv 3) (@Ar _ _ _ _ _ _ _ _ BA (@Ar _ _ _ _ _ _ _ _ BA (pv 5) (pv 4)) (pv 4))) (by rfl) (by first | exact .inl rfl | exact .inr rfl | assumption)))))) (@Al _ _ _ (@A9 _ _ _ _ (@AZ _ _ _ _ _ (@Af _ _ _ _ _ (@A6 _ _ _ _ _ _ _ _ _ AG (by rfl) T.z_len PySem.boot_len (@Af _ _ _ _ _ (pv 0) Ah (by rfl)) (by decide) (by decide) (by rfl) (by rfl)) (@Af _ _ _ _ _ (pv 1) (@Af _ _ _ _ _ (pv 2) (@Af _ _ _ _ _ (pv 3) Ah (by rfl)) (by rfl)) (by rfl)) (by rfl))))))))),?_⟩
 refine ⟨_,rfl,p,rfl,⟨_,SqL.of h1⟩,Oi (xs:=cs.map V.int) (fun i σ' H'=>∃v4 v5,σ'=[some (.ref p),some (.int (ws f1 0 (cs.take i))),some (.int (ws f2 0 (cs.take i))),some (.int (ws f3 0 (cs.take i))),v4,v5]/\AJ H H') ⟨none,none,rfl,fun _ _ e=>e⟩ (fun i σ' H' _ ⟨_,_,_,e⟩=>SqL.of (e _ _ h1)) ?_ ?_⟩
 ·rintro i x T0 σ' H' hx ⟨v4,v5,rfl,s1⟩ hT
  obtain ⟨c,hc,rfl⟩:=int_at hx
  have hi:i < cs.length:=(List.getElem?_eq_some_iff.mp hc).1
  have s2:=Ai hT (.tup [.int ((i:Int)+1),.int c])
  have eT:(upd H' T0 (.tup [.int ((i:Int)+1),.int c])) T0=some (.tup [.int ((i:Int)+1),.int c]):=Ag
  generalize upd H' T0 (.tup [.int ((i:Int)+1),.int c])=H2 at s2 eT ⊢
  have szc:Sz 300 c:=z1 c (mem_of_getElem? hc)
  have szi:Sz 64 ((i:Int)+1):=Dq (by omega) (by omega)
  have et:cs.take (i+1)=cs.take i++[c]:=by rw [take_succ,hc];rfl
  have el:((cs.take i).length:Int)=i:=by rw [length_take];omega
  refine ⟨T0,_,rfl,SqT.of eT,rfl,_,_,rfl,_,_,rfl,rfl,?_⟩
  and_intros
  have w1:ws f1 0 (cs.take (i+1))=ws f1 0 (cs.take i)+c:=by
   rw [et,Ee]
   show _+c*1=_
   rw [Int.mul_one]
  have w2:ws f2 0 (cs.take (i+1))=ws f2 0 (cs.take i)+c*((i:Int)+1):=by
   rw [et,Ee,el,Int.zero_add]
   rfl
  have w3:ws f3 0 (cs.take (i+1))=ws f3 0 (cs.take i)+c*((i:Int)+1)*((i:Int)+1):=by
   rw [et,Ee,el,Int.zero_add,Int.mul_assoc]
   rfl
  exact ⟨_,_,by rw [w1,w2,w3];rfl,s1.trans s2⟩
 ·rintro σ' H' ⟨v4,v5,e,s1⟩
  rw [length_map,take_of_length_le (Nat.le_refl _)] at e
  subst e
  have hp:=s1 _ _ h1
  and_intros
  refine ⟨(by show 4<=sizeLine;decide),fun t ht=>?_⟩
  exact q t _ (none_of s1 ht) (s1.trans (Ai ht _)) (by rw [Ag];unfold EU;rw [length_map];rfl)
theorem JM (T:Tx K mg ad):Bd P w K mg base CX0 1 ad.f_place_of ad.d_place_of ["lacks","many"] Qb:=by
 refine T.F_place_of.ok Go (fun vs H Q E h=>?_) (fun cdv A outer s H vs Q E hr h=>?_)
 ·obtain ⟨p,x0,x1,x2,n,rfl,_⟩:=h
  rfl
 obtain ⟨p,x0,x1,x2,n,rfl,h1,z0,z1,q⟩:=h
 refine ⟨_,(@Aj _ _ _ _ _ (@Bj _ _ _ _ _ _ _ _ (@AQ _ _ _ _ _ _ _ _ C0 (@AN _ _ _ _ _ _ _ AI (pv 0) Ak (fun _ _=>rfl)) Ak (AR _)) (@Al _ _ _ (@A9 _ _ _ _ Ak)) AO) (@Aj _ _ _ _ _ (@A7 _ _ (2) _ _ _ _ Go.nd rfl (Or.inl rfl) (@Ar _ _ _ _ _ _ _ _ Bf (@AN _ _ _ _ _ _ _ AI (pv 0) Ak (fun _ _=>rfl)) (@AN _ _ _ _ _ _ _ AI (pv 0) Ak (fun _ _=>rfl))) (by rfl) (by first | exact .inl rfl | exact .inr rfl | assumption)) (@Aj _ _ _ _ _ (@Bj _ _ _ _ _ _ _ _ (PW.pt (@CF _ _ _ _ _ _ _ (@AQ _ _ _ _ _ _ _ _ Na (pv 2) Ak (AR _)) (@Cp _ _ _ _ (@AQ _ _ _ _ _ _ _ _ HZ (pv 2) (pv 1) (AR _))))) (@Al _ _ _ (@A9 _ _ _ _ Ak)) AO) (@Aj _ _ _ _ _ (@Bj _ _ _ _ _ _ _ _ (PW.pt (@CF _ _ _ _ _ _ _ (@AQ _ _ _ _ _ _ _ _ GM (@AN _ _ _ _ _ _ _ AI (pv 0) Ak (fun _ _=>rfl)) (@Ar _ _ _ _ _ _ _ _ BA (@AN _ _ _ _ _ _ _ AI (pv 0) Ak (fun _ _=>rfl)) (pv 2)) (AR _)) (@Cp _ _ _ _ (@AQ _ _ _ _ _ _ _ _ GM (@AN _ _ _ _ _ _ _ AI (pv 0) Ak (fun _ _=>rfl)) (@Ar _ _ _ _ _ _ _ _ BA (@Ar _ _ _ _ _ _ _ _ BA (@AN _ _ _ _ _ _ _ AI (pv 0) Ak (fun _ _=>rfl)) (pv 2)) (pv 2)) (AR _))))) (@Al _ _ _ (@A9 _ _ _ _ Ak)) AO) (@Al _ _ _ (@A9 _ _ _ _ (pv 2))))))),?_⟩
 and_intros
 have szp:Sz 1000 (x1.fdiv x0):=z1.fdiv
 by_cases c:x0=0
 ·have e:FU x0 x1 x2 n=0:=by unfold FU;rw [if_pos c]
  rw [e] at q
  exact ifT (Qk c) q
 refine ifF (ST c) ?_
 and_intros
 refine ⟨⟨c,z0.mono (by decide)⟩,?_⟩
 unfold FU at q
 rw [if_neg c] at q
 and_intros
 by_cases c1:x1.fdiv x0 < 1
 ·rw [if_pos (.inl c1)] at q
  exact ifT (decide_eq_true c1) (ifT rfl q)
 refine ifF (decide_eq_false c1) ?_
 and_intros
 by_cases c2:n < x1.fdiv x0
 ·rw [if_pos (.inr c2)] at q
  exact ifT (decide_eq_true c2) q
 rw [if_neg (by omega)] at q
 refine ifF (decide_eq_false c2) ?_
 and_intros
 by_cases c3:x1=x0*x1.fdiv x0
 ·refine ifF (Ob c3) ?_
  and_intros
  by_cases c4:x2=x0*x1.fdiv x0*x1.fdiv x0
  ·rw [if_neg (by rintro (z | z);exact z c3;exact z c4)] at q
   refine ifF (Ob c4) ⟨_,rfl,q⟩
  ·rw [if_pos (.inr c4)] at q
   exact ifT (RK c4) q
 ·rw [if_pos (.inl c3)] at q
  exact ifT (RK c3) (ifT rfl q)
theorem Cs (T:Tx K mg ad):Bd P w K mg base CX0 1 ad.f_law_cell ad.d_law_cell ["_law_script","_law_k"] (Su K):=by
 refine T.F_law_cell.ok JW (fun vs H Q E h=>?_) (fun cdv A outer s H vs Q E hr h=>?_)
 ·obtain ⟨p,ns,k,rfl,_⟩:=h
  rfl
 obtain ⟨p,ns,k,rfl,hS,h63,k0,k1,q⟩:=h
 refine ⟨_,(@Aj _ _ _ _ _ (@Bj _ _ _ _ _ _ _ _ (@AQ _ _ _ _ _ _ _ _ Na (pv 1) (@A6 _ _ _ _ _ _ _ _ _ AG (by rfl) T.z_len PySem.boot_len (@Af _ _ _ _ _ (pv 0) Ah (by rfl)) (by decide) (by decide) (by rfl) (by rfl)) (AR _)) (@Al _ _ _ (@A9 _ _ _ _ (@Ar _ _ _ _ _ _ _ _ Ba (@AN _ _ _ _ _ _ _ AI (pv 0) (pv 1) (fun _ _=>rfl)) (@Ar _ _ _ _ _ _ _ _ Fs Ak Ak)))) AO) (@Al _ _ _ (@A9 _ _ _ _ (@Ar _ _ _ _ _ _ _ _ Ba (@Ar _ _ _ _ _ _ _ _ BA (@Ar _ _ _ _ _ _ _ _ AW (@Ar _ _ _ _ _ _ _ _ BA (pv 1) (pv 1)) Ak) Ak) Ak)))),?_⟩
 have hl:(ns.map V.int).length=ns.length:=length_map _
 have szk:Sz 64 k:=Dq (by omega) (by omega)
 have p40:(0:Int) < 10 ^ (40:Int).toNat:=by decide +kernel
 refine ⟨_,rfl,_,rfl,p,_,rfl,.inl hS,_,_,rfl,rfl,_,rfl,?_⟩
 refine G6 (fun c=>?_) (fun c=>?_)
 ·have c':k < (((ns.map V.int).length:Nat):Int):=of_decide_eq_true c
  rw [hl] at c'
  obtain ⟨v,hv⟩:=Q2 k0 c'
  refine ⟨_,rfl,_,rfl,p,_,_,_,rfl,rfl,hS,hv,_,_,rfl,rfl,Rp,_,_,rfl,rfl,(Int.ne_of_gt p40),?_⟩
  exact q _ (Bh v p40).1 (Bh v p40).2
 ·and_intros
  have m:=Bh ((k*k+7)*48271) (show (0:Int) < 10007 by decide)
  exact q _ m.1 (Int.lt_trans m.2 (by decide))
theorem BI (T:Tx K mg ad):Bd P w K mg base CX0 1 ad.f_law_mixed ad.d_law_mixed ["_law_cell_here","_law_by"] QF:=by
 refine T.F_law_mixed.ok Ec (fun vs H Q E h=>?_) (fun cdv A outer s H vs Q E hr h=>?_)
 ·obtain ⟨c,b,rfl,_⟩:=h
  rfl
 obtain ⟨c,b,rfl,szc,szb,q⟩:=h
 refine ⟨_,(@Aj _ _ _ _ _ (@A7 _ _ (2) _ _ _ _ Ec.nd rfl (Or.inl rfl) (@Ar _ _ _ _ _ _ _ _ AW (@Ar _ _ _ _ _ _ _ _ BA (pv 0) Ak) (@Ar _ _ _ _ _ _ _ _ BA (pv 1) Ak)) (by rfl) (by first | exact .inl rfl | exact .inr rfl | assumption)) (@Aj _ _ _ _ _ (@A7 _ _ (2) _ _ _ _ Ec.nd rfl (Or.inl rfl) (@Ar _ _ _ _ _ _ _ _ Ba (@Ar _ _ _ _ _ _ _ _ AW (pv 2) Ak) (@Ar _ _ _ _ _ _ _ _ AW (@Ar _ _ _ _ _ _ _ _ Fs Ak Ak) Ak)) (by rfl) (by first | exact .inl rfl | exact .inr rfl | assumption)) (@Al _ _ _ (@A9 _ _ _ _ (@Ar _ _ _ _ _ _ _ _ Bf (@Ar _ _ _ _ _ _ _ _ Ba (@Ar _ _ _ _ _ _ _ _ BA (pv 2) (pv 2)) (@Ar _ _ _ _ _ _ _ _ AW (@Ar _ _ _ _ _ _ _ _ Fs Ak Ak) Ak)) Ak))))),?_⟩
 and_intros
 exact q _ (MW _).1 (MW _).2
theorem Cf (T:Tx K mg ad):Bd P w K mg base CX0 1 ad.f_law_whole ad.d_law_whole ["_law_found"] MG:=by
 refine T.F_law_whole.ok Jz (fun vs H Q E h=>?_) (fun cdv A outer s H vs Q E hr h=>?_)
 ·obtain ⟨c,rfl,_⟩:=h
  rfl
 obtain ⟨c,rfl,q⟩:=h
 refine ⟨_,(@Al _ _ _ (@A9 _ _ _ _ (@CZ _ _ _ _ _ _ _ (@A6 _ _ _ _ _ _ _ _ _ Cb (by rfl) T.z_isinstance PyProof.Rows.boot_isinstance (@Af _ _ _ _ _ (pv 0) (@Af _ _ _ _ _ (Cn (v:=.ty "int") rfl T.z_int PyProof.Rows.boot_int rfl) Ah (by rfl)) (by rfl)) (by decide) (by decide) (by rfl) (by rfl)) (@DJ _ _ _ _ _ (@Lr _ _ _ _ (@A6 _ _ _ _ _ _ _ _ _ Cb (by rfl) T.z_isinstance PyProof.Rows.boot_isinstance (@Af _ _ _ _ _ (pv 0) (@Af _ _ _ _ _ (Cn (v:=.ty "bool") rfl T.z_bool PyProof.Rows.boot_bool rfl) Ah (by rfl)) (by rfl)) (by decide) (by decide) (by rfl) (by rfl))))))),?_⟩
 refine ⟨_,rfl,_,_,_,_,rfl,CD.int c,EO,_,rfl,?_⟩
 refine Od ?_
 exact ⟨_,rfl,_,_,_,_,rfl,CD.int c,DX,_,rfl,q⟩
theorem Gx (T:Tx K mg ad):Bd P w K mg base CX0 1 ad.f_law_slip ad.d_law_slip ["_law_ranks_here"] Oy:=by
 refine T.F_law_slip.ok EQ (fun vs H Q E h=>?_) (fun cdv A outer s H vs Q E hr h=>?_)
 ·obtain ⟨p,rs,m,rfl,_⟩:=h
  rfl
 obtain ⟨p,rs,m,rfl,hp,l1,l12,hr12,gl,q⟩:=h
 refine ⟨_,(@Aj _ _ _ _ _ (@A7 _ _ (1) _ _ _ _ EQ.nd rfl (Or.inl rfl) (@AV _ _ _ _ Ah) (by rfl) (by first | exact .inl rfl | exact .inr rfl | assumption)) (@Aj _ _ _ _ _ (B1 PassesOwn.never rfl (IA rfl T.z_range (@Af _ _ _ _ _ Ak (@Af _ _ _ _ _ (@Ar _ _ _ _ _ _ _ _ AW (@A6 _ _ _ _ _ _ _ _ _ (Ny rfl) (by rfl) T.z_max PyProof.Rows.boot_max (@Af _ _ _ _ _ (pv 0) Ah (by rfl)) (by decide) (by decide) (by rfl) (by rfl)) Ak) Ah (by rfl)) (by rfl))) (AY (i:=2) EQ.nd rfl (Or.inr rfl)) (@Al _ _ _ (@BU _ _ _ _ (DR PySem.F.plainAttrs_list PySem.F.slot_list_append PySem.F.type_list_append BR (pv 1) (@Af _ _ _ _ _ (@A6 _ _ _ _ _ _ _ _ _ (FC rfl) (by rfl) T.z_sum PyProof.Rows.boot_sum (@Af _ _ _ _ _ (B3 (fsc:=Am Fr) (N:=["_law_ranks_here","_law_tiers","_law_rank"]) (Nc:=["_law_ranks_here","_law_tiers","_law_rank","_law_hand"]) rfl rfl ⟨rfl,by decide +kernel,by decide +kernel,rfl,by decide +kernel,rfl,by decide +kernel,rfl,by decide +kernel⟩ rfl (Bw rfl T.z_range (@Af _ _ _ _ _ (@A6 _ _ _ _ _ _ _ _ _ AG (by rfl) T.z_len PySem.boot_len (@Af _ _ _ _ _ (pv 0) Ah (by rfl)) (by decide) (by decide) (by rfl) (by rfl)) Ah (by rfl))) (fun _ _ _ _=>(Eh (@AQ _ _ _ _ _ _ _ _ C0 (@AN _ _ _ _ _ _ _ (Hd K) (pv 0) (pv 3) (fun _ _=>rfl)) (pv 2) (AR _)))) (fun _ _ _ _=>(@Ar _ _ _ _ _ _ _ _ M7 Ak (pv 3)))) Ah (by rfl)) (by decide) (by decide) (by rfl) (by rfl)) Ah (by rfl))) (by rfl)))) (@Al _ _ _ (@A9 _ _ _ _ (@Ce _ _ _ _ _ _ _ _ _ Fl (by rfl) T.z_tuple PyProof.Rows.boot_tuple (@Af _ _ _ _ _ (pv 1) Ah (by rfl)) (by decide) (by decide) (by rfl) (by rfl)))))),?_⟩
 refine ⟨(by show 0<=sizeLine;decide),fun l hl=>?_⟩
 have s1:=Ai hl (.lst [])
 have e1:(upd H l (.lst [])) l=some (.lst []):=Ag
 generalize upd H l (.lst [])=H1 at s1 e1 ⊢
 refine ⟨_,rfl,p,rs,rfl,SqL.of (s1 _ _ hp),l1,fun M M1 M2=>?_⟩
 obtain rfl:=QC gl M1 M2
 have m12:(m:Int)<=12:=(hr12 _ M1).2
 and_intros
 refine ⟨1,(m:Int)+1,rfl,⟨by decide,by decide,by omega,by omega⟩,?_⟩
 rw [show ((m:Int)+1 - 1).toNat=m from by omega]
 refine C5 (fun i σ' H'=>∃v2,σ'=[some (.ref p),some (.ref l),v2]/\AJ H H'/\H' l=some (.lst (((List.range i).map fun j:Nat=>CK rs ((j:Int)+1)).map V.int))) ⟨none,rfl,s1,e1⟩ ?_ ?_
 ·rintro i σ' H' hi ⟨v2,rfl,s2,e2⟩
  have hp2:=s2 _ _ hp
  have hl':(rs.map V.int).length=rs.length:=length_map _
  refine ⟨_,rfl,.inl ⟨rfl,_,SqL.of e2⟩,?_⟩
  refine ⟨_,rfl,p,_,rfl,.inl (SqL.of hp2),_,rfl,by omega,by omega,?_⟩
  have en:(((rs.map V.int).length:Nat):Int).toNat=rs.length:=by omega
  rw [en]
  refine BN (B0 (by omega)) (fun D j ys H2=>ys=((hands j (isR rs (1+(i:Int)))).map fun h=>(1:Int)*2 ^ h.toNat).map V.int/\H2=upd H' D (.lst ys)) (fun D hD=>⟨rfl,rfl⟩) (fun D j ys H2 ⟨f1,f2⟩=>⟨by rw [f2];exact Ag,by rw [f1,length_map,length_map];exact Iw _ _⟩) ?_ ?_
  ·rintro D j ys H2 K1 K2 hD hj ⟨f1,rfl⟩ k1 k2
   obtain ⟨z,hz⟩:∃z,rs[j]?=some z:=⟨_,List.getElem?_eq_getElem hj⟩
   have s3:=Ai hD (.lst ys)
   have ms:=Ep j (isR rs (1+(i:Int)))
   have e0:(0:Int)+(j:Int)=(j:Int):=Int.zero_add _
   refine ⟨_,rfl,_,rfl,p,_,_,_,rfl,rfl,SqL.of (s3 _ _ hp2),(by rw [e0];exact atN hz),_,rfl,rfl,_,rfl,?_⟩
   have eb:decide (V.int z=V.int (1+(i:Int)))=isR rs (1+(i:Int)) j:=by
    unfold isR
    rw [hz]
    by_cases c:z=1+(i:Int)
    ·rw [decide_eq_true (by rw [c]),decide_eq_true (by rw [c])]
    ·rw [decide_eq_false (fun e=>c (V.int.inj e)),decide_eq_false (fun e=>c (Option.some.inj e))]
   rw [eb]
   cases e:isR rs (1+(i:Int)) j with
   | true =>
     rw [e,if_pos rfl] at ms
     refine Od ?_
     refine ⟨_,rfl,_,_,rfl,rfl,(by rw [e0];exact Is (by omega)),?_⟩
     refine k1 _ _ Ag ⟨?_,by rw [Cz]⟩
     rw [ms,map_append,map_append,f1]
     show _=_++[V.int (1*2 ^ (j:Int).toNat)]
     rw [e0]
   | false =>
     rw [e,if_neg (by decide)] at ms
     refine NA ?_
     exact k2 _ ⟨by rw [ms];exact f1,rfl⟩
  ·rintro D ys H2 hD ⟨rfl,rfl⟩
   refine ⟨D,_,rfl,SqL.of Ag,?_⟩
   have es:((hands rs.length (isR rs (1+(i:Int)))).map fun h=>(1:Int)*2 ^ h.toNat).sum=CK rs (1+(i:Int)):=Fw _ _
   rw [es]
   have s3:=Ai hD (.lst (((hands rs.length (isR rs (1+(i:Int)))).map fun h=>(1:Int)*2 ^ h.toNat).map V.int))
   refine ⟨l,_,_,rfl,rfl,s3 _ _ e2,(by rw [length_map,length_map,length_range];exact Bq (by omega)),?_⟩
   refine ⟨_,rfl,AS (s2.trans s3) hl,?_⟩
   rw [Ag,range_succ,map_append,map_append,Int.add_comm 1 (i:Int)]
   rfl
 ·rintro σ' H' ⟨v2,rfl,s2,e2⟩
  rw [<- gl.tiers] at e2
  refine ⟨_,rfl,l,_,rfl,.inl ⟨SqL.of e2,fun t ht=>?_⟩⟩
  exact q t _ (s2.trans (Ai ht _)) Ag
theorem Kn (T:Tx K mg ad):Bd P w K mg base CX0 1 ad.f_law_code ad.d_law_code ["_law_ranks_here","_law_number"] Pr:=by
 refine T.F_law_code.ok Do (fun vs H Q E h=>?_) (fun cdv A outer s H vs Q E hr h=>?_)
 ·obtain ⟨p,rs,c,rfl,_⟩:=h
  rfl
 obtain ⟨p,rs,c,rfl,hp,l12,hr12,c0,c1,q⟩:=h
 refine ⟨_,(@Aj _ _ _ _ _ (@A7 _ _ (2) _ _ _ _ Do.nd rfl (Or.inl rfl) (pv 1) (by rfl) (by first | exact .inl rfl | exact .inr rfl | assumption)) (@Aj _ _ _ _ _ (B1 PassesOwn.never rfl (Bm (pv 0)) (AY (i:=3) Do.nd rfl (Or.inl rfl)) (@Al _ _ _ (@A7 _ _ (2) _ _ _ _ Do.nd rfl (Or.inl rfl) (@Ar _ _ _ _ _ _ _ _ AW (@Ar _ _ _ _ _ _ _ _ BA (pv 2) Ak) (pv 3)) (by rfl) (by first | exact .inl rfl | exact .inr rfl | assumption)))) (@Al _ _ _ (@A9 _ _ _ _ (pv 2))))),?_⟩
 refine ⟨_,rfl,_,rfl,p,rfl,⟨_,SqL.of hp⟩,BO (xs:=rs.map V.int) (fun i σ' H'=>∃v3,σ'=[some (.ref p),some (.int c),some (.int (Ch c (rs.take i))),v3]/\H'=H) ⟨none,rfl,rfl⟩ (fun i σ' H' _ ⟨_,_,e⟩=>by rw [e];exact SqL.of hp) ?_ ?_⟩
 ·rintro i x σ' H' hx ⟨v3,rfl,rfl⟩
  obtain ⟨z,hz,rfl⟩:=int_at hx
  have et:rs.take (i+1)=rs.take i++[z]:=by rw [take_succ,hz];rfl
  have cl:=JB (c:=c) c0 c1 (rs:=rs.take i) (fun r m=>hr12 r (mem_of_mem_take m)) (by rw [length_take];omega)
  have szc:=L6 cl.1 cl.2
  and_intros
  refine ⟨some (.int z),?_,rfl⟩
  rw [et,Ff]
  rfl
 ·rintro σ' H' ⟨v3,rfl,rfl⟩
  rw [length_map,take_of_length_le (Nat.le_refl _)]
  exact ⟨_,rfl,q⟩
theorem Ea (T:Tx K mg ad):Bd P w K mg base CX0 1 ad.f_law_sheet ad.d_law_sheet ["_law_lines_here"] LN:=by
 refine T.F_law_sheet.ok CS (fun vs H Q E h=>?_) (fun cdv A outer s H vs Q E hr h=>?_)
 ·obtain ⟨l,ls,p,rfl,_⟩:=h
  rfl
 obtain ⟨l,ls,p,rfl,hl,g,hp,p64,pos,q⟩:=h
 refine ⟨_,(@Aj _ _ _ _ _ (@A7 _ _ (1) _ _ _ _ CS.nd rfl (Or.inr rfl) Hl (by rfl) (by first | exact .inl rfl | exact .inr rfl | assumption)) (@Aj _ _ _ _ _ (B1 PassesOwn.never rfl (Bm (pv 0)) (DH rfl (Bl (AY (i:=2) CS.nd rfl (Or.inl rfl)) (Bl (AY (i:=3) CS.nd rfl (Or.inl rfl)) C9))) (@Al _ _ _ (Jw (u1 hr.units) (pv 1) (pv 2) (@Ar _ _ _ _ _ _ _ _ AW (EB (u1 hr.units) (pv 1) (pv 2) Ak ⟨rfl,rfl,rfl,rfl⟩) (pv 3)) rfl))) (@Al _ _ _ (@A9 _ _ _ _ (B3 (fsc:=Am Ey) (N:=["_law_lines_here","_law_many_here","_law_slip_here","_law_number"]) (Nc:=["_law_lines_here","_law_many_here",".s2","_law_number","_law_slip_here"]) rfl rfl ⟨rfl,by decide +kernel,by decide +kernel,rfl,by decide +kernel,rfl,by decide +kernel,rfl,by decide +kernel⟩ rfl (Bm (@A6 _ _ _ _ _ _ _ _ _ (Fo rfl hr.units) (by rfl) T.z_sorted PyProof.Rows.boot_sorted (@Af _ _ _ _ _ (pv 1) Ah (by rfl)) (by decide) (by decide) (by rfl) (by rfl))) (fun _ _ _ _=>B7) (fun _ _ _ _=>(@AZ _ _ _ _ _ (@Af _ _ _ _ _ (pv 4) (@Af _ _ _ _ _ (Ju (u1 hr.units) (pv 1) (pv 4) (fun _ _=>rfl)) Ah (by rfl)) (by rfl))))))))),?_⟩
 intro d hd
 have s0:=Ai hd (.dT [])
 have e0:(upd H d (.dT [])) d=some (.dT []):=Ag
 generalize upd H d (.dT [])=H0 at s0 e0 ⊢
 refine ⟨_,rfl,l,rfl,⟨_,SqL.of (s0 _ _ hl)⟩,BO (xs:=vls ls) (fun i σ' H'=>∃(v2 v3:Option V) (kvs:List (List Key × V)),σ'=[some (.ref l),some (.ref d),v2,v3]/\AJ H H'/\H' d=some (.dT kvs)/\DictOf (Ao (ls.take i)) kvs) ⟨none,none,[],rfl,s0,e0,DictOf.nil⟩ (fun i σ' H' _ ⟨_,_,_,_,e,_⟩=>SqL.of (e _ _ hl)) ?_ ?_⟩
 ·rintro i x σ' H' hx ⟨v2,v3,kvs,rfl,s1,e1,dk⟩
  obtain ⟨f,hf,rfl,fm,et⟩:=C6 hx
  obtain ⟨g1,g2⟩:=g f fm
  have sub:∀q∈Ao (ls.take i),q.1∈p:=fun q m=>by
   obtain ⟨r,rm,rfl⟩:=mem_map.mp m
   exact hp _ (mem_map.mpr ⟨r,mem_of_mem_take rm,rfl⟩)
  have lim:=dk.len sub
  have kt:H' f.2.1=some (.tup ((f.2.2.1.map Sum.inl:List Key).map kV)):=by rw [Er];exact s1 _ _ g2
  refine ⟨f.1,_,rfl,SqT.of (s1 _ _ g1),rfl,_,_,rfl,_,_,rfl,rfl,?_⟩
  refine ⟨_,rfl,d,rfl,.inr ⟨_,.inl e1⟩,_,rfl,_,FH.t e1 kt,?_⟩
  rw [FL dk]
  refine ⟨_,rfl,_,_,rfl,rfl,_,rfl,_,rfl,d,_,rfl,L7.t e1 kt (Bq (by omega)),?_⟩
  refine ⟨_,_,_,rfl,AS s1 hd,Ag,?_⟩
  rw [et,AK]
  exact dk.put f.2.2.1 f.2.2.2
 ·rintro σ' H' ⟨v2,v3,kvs,rfl,s1,e1,dk⟩
  rw [AT,take_of_length_le (Nat.le_refl _)] at dk
  have k64:=dk.len (fun q m=>hp q m)
  obtain ⟨ks,k1,k2,knd,kmem⟩:=dk.vd.keys
  refine ⟨_,rfl,d,kvs,ks,rfl,.inl e1,k1,by omega,fun l2 rs r1 r2 r3 hl2=>?_⟩
  have sl:=Ai hl2 (.lst (rs.map fun q=>V.ref q.1))
  have el:(upd H' l2 (.lst (rs.map fun q=>V.ref q.1))) l2=some (.lst (rs.map fun q=>V.ref q.1)):=Ag
  generalize upd H' l2 (.lst (rs.map fun q=>V.ref q.1))=H1 at sl el ⊢
  have rl:rs.length=ks.length:=by
   have:=r2.length_eq
   rw [length_map] at this
   exact this
  have ov:∀r∈rs,BP kvs (r.2.map Sum.inl:List Key)=some (.int (GB kvs r.2)):=fun r m=>by
   obtain ⟨n,e⟩:=(kmem r.2).mp (r2.mem_iff.mp (mem_map.mpr ⟨r,m,rfl⟩))
   unfold GB
   rw [e]
  refine ⟨l2,rfl,⟨_,SqL.of el⟩,?_⟩
  refine BQ (xs:=rs.map fun q=>V.ref q.1) (by rw [length_map];exact B0 (by omega)) (fun D i ys H2=>∃ms:Ls,ys=vls ms/\ms.length=i/\H2 D=some (.lst ys)/\AJ H1 H2/\AM H2 ms/\Ao ms=(rs.take i).map fun r=>(r.2,GB kvs r.2)) (fun D hD=>⟨[],rfl,rfl,Ag,Ai hD _,(fun _ m=>nomatch m),rfl⟩) (fun D i ys H2 ⟨ms,f1,f2,f3,_⟩=>⟨f3,by rw [f1,AT,f2];exact Nat.le_refl _⟩) (fun D i ys H2 hD ⟨ms,_,_,_,f4,_⟩=>SqL.of (f4 _ _ el)) ?_ ?_
  ·rintro D i x ys H2 K1 K2 hD hx ⟨ms,rfl,f2,f3,f4,f5,f6⟩ kk1 kk2
   rw [List.getElem?_map] at hx
   obtain ⟨r,er,rfl⟩:=Option.map_eq_some_iff.mp hx
   have rm:=mem_of_getElem? er
   have et:rs.take (i+1)=rs.take i++[r]:=by rw [take_succ,er];rfl
   have sH:=sl.trans f4
   have ek:=sH _ _ (r1 r rm)
   have dg:=FH.t (k:=(r.2.map Sum.inl:List Key)) (sH _ _ e1) (by rw [Er];exact ek)
   rw [ov r rm] at dg
   refine yes (ifT rfl ?_)
   refine ⟨_,rfl,_,rfl,_,rfl,d,_,rfl,dg,(by show 2<=sizeLine;decide),fun t ht=>?_⟩
   have s6:=Ai ht (.tup [V.ref r.1,V.int (GB kvs r.2)])
   refine kk1 _ _ (s6 _ _ f3) ⟨ms++[(t,r.1,r.2,GB kvs r.2)],by rw [B9];rfl,by rw [length_append,f2];rfl,Ag,AS (f4.trans s6) hD,?_,?_⟩
   ·refine AM.upd (s6 _ _ f3) ((f5.same s6).append fun q m=>?_)
    rw [mem_singleton.mp m]
    exact ⟨Ag,s6 _ _ ek⟩
   ·rw [AK,f6,et,map_append]
    rfl
  ·rintro D ys H2 hD ⟨ms,rfl,f2,f3,f4,f5,f6⟩
   rw [length_map] at f2 f6
   rw [take_length] at f6
   have rnd:(rs.map (·.2)).Nodup:=r2.nodup_iff.mpr knd
   have pv:∀(ts:List Int) (n:Int),BP kvs (ts.map Sum.inl)=some (.int n)->0 < n:=fun ts n e=>by
    rw [dk.val] at e
    by_cases c:ts∈(Ao ls).map (·.1)
    ·rw [if_pos c] at e
     injection e with e
     injection e with e
     rw [<- e]
     exact Pq pos c
    ·rw [if_neg c] at e
     cases e
   refine q D ms H2 (none_of (s1.trans sl) hD) ((s1.trans sl).trans f4) f3 f5 (dk.sheet pos ?_ (fun ts n=>?_)) (by omega)
   ·rw [f6,pairwise_map]
    have nd2:rs.Pairwise (fun x y=>x.2≠y.2):=pairwise_map.mp rnd
    exact (r3.and nd2).imp fun ⟨h1,h2⟩=>Jv h1 h2
   ·rw [f6]
    constructor
    ·intro m
     obtain ⟨r,rm,e⟩:=mem_map.mp m
     injection e with e1 e2
     subst e1
     subst e2
     exact ⟨ov r rm,pv _ _ (ov r rm)⟩
    ·rintro ⟨e,n0⟩
     have tk:ts∈ks:=(kmem ts).mpr ⟨n,e⟩
     obtain ⟨r,rm,rfl⟩:=mem_map.mp (r2.mem_iff.mpr tk)
     have o:=ov r rm
     rw [e] at o
     injection o with o
     injection o with o
     exact mem_map.mpr ⟨r,rm,by rw [<- o]⟩
theorem EF (T:Tx K mg ad):Bd P w K mg base CX0 1 ad.f_law_seal ad.d_law_seal ["_law_codes"] P3:=by
 refine T.F_law_seal.ok EC (fun vs H Q E h=>?_) (fun cdv A outer s H vs Q E hr h=>?_)
 ·obtain ⟨p,cs,rfl,_⟩:=h
  rfl
 obtain ⟨p,cs,rfl,h1,z1,h100,q⟩:=h
 refine ⟨_,(@Aj _ _ _ _ _ (@A7 _ _ (1) _ _ _ _ EC.nd rfl (Or.inl rfl) (@AV _ _ _ _ (@Af _ _ _ _ _ (@A6 _ _ _ _ _ _ _ _ _ AG (by rfl) T.z_len PySem.boot_len (@Af _ _ _ _ _ (pv 0) Ah (by rfl)) (by decide) (by decide) (by rfl) (by rfl)) (@Af _ _ _ _ _ Ak (@Af _ _ _ _ _ Ak (@Af _ _ _ _ _ Ak Ah (by rfl)) (by rfl)) (by rfl)) (by rfl))) (by rfl) (by first | exact .inl rfl | exact .inr rfl | assumption)) (@Aj _ _ _ _ _ (B1 PassesOwn.never rfl (Bw rfl T.z_range (@Af _ _ _ _ _ (@A6 _ _ _ _ _ _ _ _ _ AG (by rfl) T.z_len PySem.boot_len (@Af _ _ _ _ _ (pv 0) Ah (by rfl)) (by decide) (by decide) (by rfl) (by rfl)) Ah (by rfl))) (AY (i:=2) EC.nd rfl (Or.inl rfl)) (@Aj _ _ _ _ _ (CV (@Ar _ _ _ _ _ _ _ _ AW (@AN _ _ _ _ _ _ _ AI (pv 1) Ak (fun _ _=>rfl)) (@AN _ _ _ _ _ _ _ AI (pv 0) (pv 2) (fun _ _=>rfl))) (D9 (pv 1) Ak Cm)) (@Aj _ _ _ _ _ (CV (@Ar _ _ _ _ _ _ _ _ AW (@AN _ _ _ _ _ _ _ AI (pv 1) Ak (fun _ _=>rfl)) (@Ar _ _ _ _ _ _ _ _ BA (@Ar _ _ _ _ _ _ _ _ AW (pv 2) Ak) (@AN _ _ _ _ _ _ _ AI (pv 0) (pv 2) (fun _ _=>rfl)))) (D9 (pv 1) Ak Cm)) (@Al _ _ _ (CV (@Ar _ _ _ _ _ _ _ _ AW (@AN _ _ _ _ _ _ _ AI (pv 1) Ak (fun _ _=>rfl)) (@Ar _ _ _ _ _ _ _ _ BA (@Ar _ _ _ _ _ _ _ _ BA (@Ar _ _ _ _ _ _ _ _ AW (pv 2) Ak) (@Ar _ _ _ _ _ _ _ _ AW (pv 2) Ak)) (@AN _ _ _ _ _ _ _ AI (pv 0) (pv 2) (fun _ _=>rfl)))) (D9 (pv 1) Ak Cm)))))) (@Al _ _ _ (@A9 _ _ _ _ (@AZ _ _ _ _ _ (@Af _ _ _ _ _ (@AN _ _ _ _ _ _ _ AI (pv 1) Ak (fun _ _=>rfl)) (@Af _ _ _ _ _ (@AN _ _ _ _ _ _ _ AI (pv 1) Ak (fun _ _=>rfl)) (@Af _ _ _ _ _ (@AN _ _ _ _ _ _ _ AI (pv 1) Ak (fun _ _=>rfl)) (@Af _ _ _ _ _ (@AN _ _ _ _ _ _ _ AI (pv 1) Ak (fun _ _=>rfl)) Ah (by rfl)) (by rfl)) (by rfl)) (by rfl))))))),?_⟩
 and_intros
 refine ⟨(by show 4<=sizeLine;decide),fun l hl=>?_⟩
 have hp0:=Ai hl (.lst [V.int ((cs.map V.int).length:Nat),V.int 0,V.int 0,V.int 0]) _ _ h1
 refine ⟨_,rfl,p,_,rfl,.inl (SqL.of hp0),_,rfl,(by rw [length_map];omega),(by rw [length_map];omega),C5 (fun i σ' H'=>∃v,σ'=[some (.ref p),some (.ref l),v]/\H' l=some (.lst [V.int ((cs.map V.int).length:Nat),V.int (ws f1 0 (cs.take i)),V.int (ws f2 0 (cs.take i)),V.int (ws f3 0 (cs.take i))])/\AJ H H') ⟨none,rfl,Ag,Ai hl _⟩ ?_ ?_⟩
 ·rintro i σ' H' hi ⟨v,rfl,e1,s1⟩
  have hi':i < cs.length:=by rw [length_map] at hi;omega
  obtain ⟨c,hc⟩:∃c,cs[i]?=some c:=⟨_,List.getElem?_eq_getElem hi'⟩
  have szc:Sz 300 c:=z1 c (mem_of_getElem? hc)
  have szi:Sz 64 (0+(i:Int)+1):=Dq (by omega) (by omega)
  have et:cs.take (i+1)=cs.take i++[c]:=by rw [take_succ,hc];rfl
  have el:((cs.take i).length:Int)=i:=by rw [length_take];omega
  have w1:ws f1 0 (cs.take (i+1))=ws f1 0 (cs.take i)+c:=by
   rw [et,Ee]
   show _+c*1=_
   rw [Int.mul_one]
  have w2:ws f2 0 (cs.take (i+1))=ws f2 0 (cs.take i)+(0+(i:Int)+1)*c:=by
   rw [et,Ee,el,Int.mul_comm c]
   rfl
  have w3:ws f3 0 (cs.take (i+1))=ws f3 0 (cs.take i)+(0+(i:Int)+1)*(0+(i:Int)+1)*c:=by
   rw [et,Ee,el,Int.mul_comm c]
   rfl
  have o1:∀xs,AJ H (upd H' l (.lst xs)):=fun xs=>AS s1 hl
  refine ⟨_,rfl,l,_,_,_,rfl,rfl,SqL.of e1,rfl,_,rfl,_,rfl,p,_,_,_,rfl,rfl,SqL.of (s1 _ _ h1),(by rw [Int.zero_add];exact atN hc),_,_,rfl,rfl,_,rfl,l,_,_,_,rfl,rfl,e1,rfl,?_⟩
  have s2:=o1 [V.int ((cs.map V.int).length:Nat),V.int (ws f1 0 (cs.take i)+c),V.int (ws f2 0 (cs.take i)),V.int (ws f3 0 (cs.take i))]
  have e2:(upd H' l (.lst [V.int ((cs.map V.int).length:Nat),V.int (ws f1 0 (cs.take i)+c),V.int (ws f2 0 (cs.take i)),V.int (ws f3 0 (cs.take i))])) l=some (.lst [V.int ((cs.map V.int).length:Nat),V.int (ws f1 0 (cs.take i)+c),V.int (ws f2 0 (cs.take i)),V.int (ws f3 0 (cs.take i))]):=Ag
  show (fun (σ':St) (H':Hp)=>_) _ (upd H' l (.lst [V.int ((cs.map V.int).length:Nat),V.int (ws f1 0 (cs.take i)+c),V.int (ws f2 0 (cs.take i)),V.int (ws f3 0 (cs.take i))]))
  generalize upd H' l (.lst [V.int ((cs.map V.int).length:Nat),V.int (ws f1 0 (cs.take i)+c),V.int (ws f2 0 (cs.take i)),V.int (ws f3 0 (cs.take i))])=H2 at s2 e2 ⊢
  have o2:∀xs,AJ H (upd H2 l (.lst xs)):=fun xs=>AS s2 hl
  refine ⟨_,rfl,l,_,_,_,rfl,rfl,SqL.of e2,rfl,_,rfl,_,_,rfl,rfl,_,rfl,_,rfl,p,_,_,_,rfl,rfl,SqL.of (s2 _ _ h1),(by rw [Int.zero_add];exact atN hc),_,_,rfl,rfl,RF szi szc,_,_,rfl,rfl,_,rfl,l,_,_,_,rfl,rfl,e2,rfl,?_⟩
  have s3:=o2 [V.int ((cs.map V.int).length:Nat),V.int (ws f1 0 (cs.take i)+c),V.int (ws f2 0 (cs.take i)+(0+(i:Int)+1)*c),V.int (ws f3 0 (cs.take i))]
  have e3:(upd H2 l (.lst [V.int ((cs.map V.int).length:Nat),V.int (ws f1 0 (cs.take i)+c),V.int (ws f2 0 (cs.take i)+(0+(i:Int)+1)*c),V.int (ws f3 0 (cs.take i))])) l=some (.lst [V.int ((cs.map V.int).length:Nat),V.int (ws f1 0 (cs.take i)+c),V.int (ws f2 0 (cs.take i)+(0+(i:Int)+1)*c),V.int (ws f3 0 (cs.take i))]):=Ag
  show (fun (σ':St) (H':Hp)=>_) _ (upd H2 l (.lst [V.int ((cs.map V.int).length:Nat),V.int (ws f1 0 (cs.take i)+c),V.int (ws f2 0 (cs.take i)+(0+(i:Int)+1)*c),V.int (ws f3 0 (cs.take i))]))
  generalize upd H2 l (.lst [V.int ((cs.map V.int).length:Nat),V.int (ws f1 0 (cs.take i)+c),V.int (ws f2 0 (cs.take i)+(0+(i:Int)+1)*c),V.int (ws f3 0 (cs.take i))])=H3 at s3 e3 ⊢
  refine ⟨_,rfl,l,_,_,_,rfl,rfl,SqL.of e3,rfl,_,rfl,_,_,rfl,rfl,_,rfl,_,_,rfl,rfl,_,_,rfl,rfl,RF szi szi,_,rfl,_,rfl,p,_,_,_,rfl,rfl,SqL.of (s3 _ _ h1),(by rw [Int.zero_add];exact atN hc),_,_,rfl,rfl,RF (szi.mul szi) szc,_,_,rfl,rfl,_,rfl,l,_,_,_,rfl,rfl,e3,rfl,?_⟩
  have s4:AJ H (upd H3 l (.lst [V.int ((cs.map V.int).length:Nat),V.int (ws f1 0 (cs.take i)+c),V.int (ws f2 0 (cs.take i)+(0+(i:Int)+1)*c),V.int (ws f3 0 (cs.take i)+(0+(i:Int)+1)*(0+(i:Int)+1)*c)])):=AS s3 hl
  refine ⟨_,rfl,?_,s4⟩
  rw [w1,w2,w3]
  exact Ag
 ·rintro σ' H' ⟨v,rfl,e1,s1⟩
  rw [length_map,take_of_length_le (by omega)] at e1
  and_intros
  refine ⟨(by show 4<=sizeLine;decide),fun t ht=>?_⟩
  exact q t _ (none_of s1 ht) (s1.trans (Ai ht _)) (by rw [Ag];unfold EU;rfl)
theorem EH (T:Tx K mg ad):Bd P w K mg base CX0 1 ad.f_Box_many ad.d_Box_many ["self"] (Rz ad.c_Box):=by
 refine T.F_Box_many.ok Kr (fun vs H Q E h=>?_) (fun cdv A outer s H vs Q E hr h=>?_)
 ·obtain ⟨b,L,n,bs,rfl,_⟩:=h
  rfl
 obtain ⟨b,L,n,bs,rfl,ib,q⟩:=h
 refine ⟨_,(@Al _ _ _ (@A9 _ _ _ _ (@A6 _ _ _ _ _ _ _ _ _ AG (by rfl) T.z_len PySem.boot_len (@Af _ _ _ _ _ (FR (pv 0) rfl) Ah (by rfl)) (by decide) (by decide) (by rfl) (by rfl)))),?_⟩
 obtain ⟨⟨dx,hb⟩,hL,hx,hn⟩:=ib
 refine ⟨_,rfl,b,_,dx,_,_,rfl,hb,T.cl_Box,T.na_Box_bundles,rfl,?_⟩
 refine ⟨L,_,rfl,.inl (SqL.of hL),?_⟩
 rw [length_map]
 exact q
theorem Fi (T:Tx K mg ad):Bd P w K mg base CX0 1 ad.f_WrongNumber_init ad.d_WrongNumber_init ["self","wanted","got"] (Le ad.c_WrongNumber ["wanted","got"]):=by
 refine T.F_WrongNumber_init.ok Fj (fun vs H Q E h=>?_) (fun cdv A outer s H vs Q E hr h=>?_)
 ·obtain ⟨e,ws,args,rfl,l,_⟩:=h
  show args.length+1=3
  rw [l]
  rfl
 obtain ⟨e,ws,args,rfl,l,he,q⟩:=h
 obtain ⟨a,b,rfl⟩:∃a b,args=[a,b]:=by
  match args,l with
  | [a,b],_=>exact ⟨a,b,rfl⟩
 refine ⟨_,(@Aj _ _ _ _ _ (M9 (pv 0) (pv 1) rfl) (@Al _ _ _ (M9 (pv 0) (pv 2) rfl))),?_⟩
 refine ⟨_,rfl,_,rfl,e,_,_,_,none,ws,[],rfl,he,.inl ⟨rfl,rfl⟩,T.i_WrongNumber,T.na_WrongNumber_wanted,by decide,fun dx H1 z1 z2 z3 z4 z5=>?_⟩
 refine ⟨_,rfl,_,rfl,e,_,_,_,some dx,ws,_,rfl,z4,.inr ⟨dx,rfl,z5⟩,T.i_WrongNumber,T.na_WrongNumber_got,(by show 1 < 1000;decide),fun dx' H2 y1 y2 y3 y4 y5=>?_⟩
 have e1:dx'=dx:=by
  rcases y2 with y | ⟨y,_⟩
  ·exact (Option.some.inj y).symm
  ·cases y
 subst e1
 have e2:H dx'=none:=by
  rcases z2 with z | ⟨_,z⟩
  ·cases z
  ·exact z
 refine q dx' H2 (fun k h1 h2=>(y1 k h1 h2).trans (z1 k h1 h2)) e2 z3 y4 ?_
 have e3:CQ "got" b (CQ "wanted" a [])=[(("wanted":Str),a),(("got":Str),b)]:=by
  show (if ("wanted":Str)="got" then _ else _)=_
  rw [if_neg (by decide)]
  rfl
 rw [e3] at y5
 exact y5
theorem Ll (T:Tx K mg ad):Bd P w K mg base CX0 2 ad.f_is_rank ad.d_is_rank ["thing"] Re:=by
 refine T.F_is_rank.ok LG (fun vs H Q E h=>?_) (fun cdv A outer s H vs Q E hr h=>?_)
 ·obtain ⟨r,rfl,_⟩:=h
  rfl
 obtain ⟨r,rfl,r0,r1,q⟩:=h
 refine ⟨_,(@Al _ _ _ (@A9 _ _ _ _ (@CZ _ _ _ _ _ _ _ (@Aq _ _ _ _ _ _ _ _ _ _ _ _ _ _ _ _ (EK T) (hr.mono (by decide)) rfl T.m_is_whole T.F_is_whole.kp T.b_is_whole .nil AF (@Af _ _ _ _ _ (pv 0) Ah (by rfl)) (by decide) (by rfl) (by rfl)) (@DJ _ _ _ _ _ (Hc Iy Iy Ak (pv 0) (B4 (v:=.int 1000000000) rfl T.k_MOST_RANK ⟨_,rfl⟩)))))),?_⟩
 refine ⟨_,rfl,r,rfl,?_⟩
 and_intros
 refine ifT (decide_eq_true r0) ?_
 and_intros
 show Q (.bl (decide (r<=1000000000))) H
 rw [decide_eq_true r1]
 exact q
theorem Lg (T:Tx K mg ad):Bd P w K mg base CX0 2 ad.f_tier_at ad.d_tier_at ["ranks","wanted"] (QW K):=by
 refine T.F_tier_at.ok CU (fun vs H Q E h=>?_) (fun cdv A outer s H vs Q E hr h=>?_)
 ·obtain ⟨p,rs,r,rfl,_⟩:=h
  rfl
 obtain ⟨p,rs,r,rfl,hS,h12,q⟩:=h
 refine ⟨_,(@Aj _ _ _ _ _ (@A7 _ _ (2) _ _ _ _ CU.nd rfl (Or.inl rfl) Ak (by rfl) (by first | exact .inl rfl | exact .inr rfl | assumption)) (@Aj _ _ _ _ _ (B1 PassesOwn.never rfl (Qe rfl T.z_enumerate (@Af _ _ _ _ _ (pv 0) Ah (by rfl))) (DH rfl (Bl (AY (i:=3) CU.nd rfl (Or.inl rfl)) (Bl (AY (i:=4) CU.nd rfl (Or.inl rfl)) C9))) (@Al _ _ _ (@Bj _ _ _ _ _ _ _ _ (@AQ _ _ _ _ _ _ _ _ C0 (pv 4) (pv 1) (AR _)) (@Al _ _ _ (@A7 _ _ (2) _ _ _ _ CU.nd rfl (Or.inl rfl) (@Aq _ _ _ _ _ _ _ _ _ _ _ _ _ _ _ _ (KL T) (hr.mono (by decide)) rfl T.m_with_one T.F_with_one.kp T.b_with_one .nil AF (@Af _ _ _ _ _ (pv 2) (@Af _ _ _ _ _ (pv 3) Ah (by rfl)) (by rfl)) (by decide) (by rfl) (by rfl)) (by rfl) (by first | exact .inl rfl | exact .inr rfl | assumption))) AO))) (@Al _ _ _ (@A9 _ _ _ _ (pv 2))))),?_⟩
 refine ⟨_,rfl,p,rfl,⟨_,hS⟩,Ou (xs:=rs.map V.int) (fun i σ' H'=>∃v3 v4,σ'=[some (.ref p),some (.int r),some (.int (CW i (isR rs r))),v3,v4]/\AJ H H') ⟨none,none,rfl,fun _ _ e=>e⟩ (fun i σ' H' _ ⟨_,_,_,e⟩=>e.seq hS) ?_ ?_⟩
 ·rintro i x T0 σ' H' hx ⟨v3,v4,rfl,s1⟩ hT
  obtain ⟨z,hz,rfl⟩:=int_at hx
  have hi:i < rs.length:=(List.getElem?_eq_some_iff.mp hz).1
  have s2:=Ai hT (.tup [.int (i:Int),.int z])
  have eT:(upd H' T0 (.tup [.int (i:Int),.int z])) T0=some (.tup [.int (i:Int),.int z]):=Ag
  generalize upd H' T0 (.tup [.int (i:Int),.int z])=H2 at s2 eT ⊢
  refine ⟨T0,_,rfl,SqT.of eT,rfl,_,_,rfl,_,_,rfl,rfl,?_⟩
  have ms:=Gg i (isR rs r)
  have eb:decide (V.int z=V.int r)=isR rs r i:=by
   unfold isR
   rw [hz]
   by_cases c:z=r
   ·rw [decide_eq_true (by rw [c]),decide_eq_true (by rw [c])]
   ·rw [decide_eq_false (fun e=>c (V.int.inj e)),decide_eq_false (fun e=>c (Option.some.inj e))]
  and_intros
  cases er:isR rs r i with
  | true =>
    refine ifT (eb.trans er) ?_
    refine ⟨_,rfl,_,rfl,CW i (isR rs r),(i:Int),rfl,by omega,by omega,?_⟩
    have e:Builtin.bitOr (CW i (isR rs r)) (1*2 ^ (i:Int).toNat)=CW (i+1) (isR rs r):=by
     rw [ms,er,if_pos rfl,Int.toNat_natCast]
     exact Q9 i _
    rw [e]
    exact ⟨_,_,rfl,s1.trans s2⟩
  | false =>
    refine ifF (eb.trans er) ?_
    rw [er,if_neg (by decide),Int.add_zero] at ms
    exact ⟨_,_,by rw [ms];rfl,s1.trans s2⟩
 ·rintro σ' H' ⟨v3,v4,rfl,s1⟩
  refine ⟨_,rfl,?_⟩
  rw [length_map]
  exact q _ s1
theorem Gj (T:Tx K mg ad):Bd P w K mg base CX0 2 ad.f_ranks_of ad.d_ranks_of ["slip","hands"] NU:=by
 refine T.F_ranks_of.ok CA (fun vs H Q E h=>?_) (fun cdv A outer s H vs Q E hr h=>?_)
 ·obtain ⟨t,ts,n,rfl,_⟩:=h
  rfl
 obtain ⟨t,ts,n,rfl,ht,n12,hts,q⟩:=h
 refine ⟨_,(@Aj _ _ _ _ _ (FO (j:=2) (fsc:=Am F0) (N:=["slip","hands","ranks","place","tier","hand"]) (Nc:=["slip","hands","ranks","place","tier",".s5","hand"]) rfl rfl ⟨rfl,by decide +kernel,by decide +kernel,rfl,by decide +kernel,rfl,by decide +kernel,rfl,by decide +kernel⟩ rfl CA.nd rfl rfl (Bw rfl T.z_range (@Af _ _ _ _ _ (pv 1) Ah (by rfl))) (fun _ _ _ _=>B7) (fun _ _ _ _=>Ak) rfl) (@Aj _ _ _ _ _ (B1 PassesOwn.never rfl (Pd rfl T.z_enumerate (@Af _ _ _ _ _ (pv 0) Ah (by rfl))) (DH rfl (Bl (AY (i:=3) CA.nd rfl (Or.inl rfl)) (Bl (AY (i:=4) CA.nd rfl (Or.inl rfl)) C9))) (@Al _ _ _ (B1 PassesOwn.never rfl (Bm (@Aq _ _ _ _ _ _ _ _ _ _ _ _ _ _ _ _ (LW T) (hr.mono (by decide)) rfl T.m_members T.F_members.kp T.b_members .nil AF (@Af _ _ _ _ _ (pv 4) Ah (by rfl)) (by decide) (by rfl) (by rfl))) (AY (i:=5) CA.nd rfl (Or.inl rfl)) (@Al _ _ _ (CV (@Ar _ _ _ _ _ _ _ _ AW (pv 3) Ak) (D9 (pv 2) (pv 5) Cm)))))) (@Al _ _ _ (@A9 _ _ _ _ (pv 2))))),?_⟩
 refine ⟨_,rfl,(n:Int),rfl,by omega,by omega,?_⟩
 rw [show ((n:Int)).toNat=n from Int.toNat_natCast n]
 refine BN (B0 (by omega)) (fun D i ys H'=>ys=(List.replicate i (0:Int)).map V.int/\H'=upd H D (.lst ys)) (fun D hD=>⟨rfl,rfl⟩) (fun D i ys H' ⟨f1,f2⟩=>⟨by rw [f2];exact Ag,by rw [f1,length_map,length_replicate];exact Nat.le_refl _⟩) ?_ ?_
 ·rintro D i ys H' K1 K2 hD hi ⟨f1,rfl⟩ k1 k2
  refine yes (ifT rfl ?_)
  refine k1 _ _ Ag ⟨?_,by rw [Cz]⟩
  rw [f1,replicate_succ',map_append]
  rfl
 rintro l ys H1 hl ⟨rfl,rfl⟩
 have s1:=Ai hl (.lst ((List.replicate n (0:Int)).map V.int))
 have e1:(upd H l (.lst ((List.replicate n (0:Int)).map V.int))) l=some (.lst ((List.replicate n (0:Int)).map V.int)):=Ag
 generalize upd H l (.lst ((List.replicate n (0:Int)).map V.int))=H1 at s1 e1 ⊢
 have e0:H1 l=some (.lst (((List.range n).map fun h=>rk ts h 0).map V.int)):=by
  rw [e1]
  congr 3
  apply ext_getElem
  ·simp
  ·intro i h1 h2
   simp [rk]
 refine ⟨_,rfl,t,rfl,⟨_,SqT.of (s1 _ _ ht)⟩,NI (xs:=ts.map V.int) (fun i σ' H'=>∃v3 v4 v5,σ'=[some (.ref t),some (.int (n:Int)),some (.ref l),v3,v4,v5]/\AJ H H'/\H' l=some (.lst (((List.range n).map fun h=>rk ts h i).map V.int))) ⟨none,none,none,rfl,s1,e0⟩ (fun i σ' H' _ ⟨_,_,_,_,e,_⟩=>SqT.of (e _ _ ht)) ?_ ?_⟩
 ·rintro i x T0 σ' H' hx ⟨v3,v4,v5,rfl,s2,e2⟩ hT
  obtain ⟨z,hz,rfl⟩:=int_at hx
  have hi:i < ts.length:=(List.getElem?_eq_some_iff.mp hz).1
  obtain ⟨z0,z1⟩:=hts z (mem_of_getElem? hz)
  have z12:z < 4096:=by
   have q:2 ^ n<=2 ^ 12:=Nat.pow_le_pow_right (by decide) n12
   have a1:((2 ^ n:Nat):Int)=(2:Int) ^ n:=by simp
   omega
  have s3:=Ai hT (.tup [.int (i:Int),.int z])
  have eT:(upd H' T0 (.tup [.int (i:Int),.int z])) T0=some (.tup [.int (i:Int),.int z]):=Ag
  generalize upd H' T0 (.tup [.int (i:Int),.int z])=H2 at s3 eT ⊢
  refine ⟨T0,_,rfl,SqT.of eT,rfl,_,_,rfl,_,_,rfl,rfl,?_⟩
  refine ⟨_,rfl,z,rfl,z0,z12,fun m H3 hm s4 e4=>?_⟩
  have e3:=(s3.trans s4) _ _ e2
  have lm:l≠m:=fun e=>by
   rw [<- e] at hm
   rw [s3 _ _ e2] at hm
   cases hm
  have sH3:=s2.trans (s3.trans s4)
  refine ⟨m,rfl,⟨_,SqL.of e4⟩,BO (xs:=(hands 12 (bit z)).map V.int) (fun j σ' H'=>∃v5,σ'=[some (.ref t),some (.int (n:Int)),some (.ref l),some (.int (i:Int)),some (.int z),v5]/\AJ H H'/\H' m=some (.lst ((hands 12 (bit z)).map V.int))/\H' l=some (.lst (((List.range n).map fun h:Nat=>if (h:Int)∈(hands 12 (bit z)).take j then (i:Int)+1 else rk ts h i).map V.int))) ⟨_,rfl,sH3,e4,by rw [e3];simp⟩ (fun j σ' H' _ ⟨_,_,_,e,_⟩=>SqL.of e) ?_ ?_⟩
  ·rintro j y σ' H4 hy ⟨v5',rfl,s5,e5,e6⟩
   obtain ⟨h,hh,rfl⟩:=int_at hy
   obtain ⟨h',h12,hb,rfl⟩:=IZ.mp (mem_of_getElem? hh)
   have hn:h' < n:=by
    cases Nat.lt_or_ge h' n with
    | inl c=>exact c
    | inr c =>
      have p:(2:Int) ^ n<=2 ^ h':=by
       have q:2 ^ n<=2 ^ h':=Nat.pow_le_pow_right (by decide) c
       have a1:((2 ^ n:Nat):Int)=(2:Int) ^ n:=by simp
       have a2:((2 ^ h':Nat):Int)=(2:Int) ^ h':=by simp
       omega
      rw [Kq z0 (by omega)] at hb
      cases hb
   have et:(hands 12 (bit z)).take (j+1)=(hands 12 (bit z)).take j++[(h':Int)]:=by rw [take_succ,hh];rfl
   and_intros
   refine ⟨l,_,_,h',rfl,rfl,e6,DU (by rw [length_map,length_map,length_range];exact hn),?_⟩
   refine ⟨_,rfl,AS s5 hl,?_,?_⟩
   ·rw [A8 (Ne.symm lm)];exact e5
   ·rw [Ag,<- map_set,IF _ _ hn,et]
    congr 3
    apply map_congr_left
    intro k _
    by_cases c:k=h'
    ·subst c;simp
    ·have c':¬ (k:Int)=(h':Int):=by omega
     simp [c,c']
  ·rintro σ' H4 ⟨v5',rfl,s5,e5,e6⟩
   refine ⟨_,_,_,rfl,s5,?_⟩
   rw [length_map,take_of_length_le (Nat.le_refl _)] at e6
   rw [e6]
   congr 3
   apply map_congr_left
   intro h hm'
   have hn:=mem_range.mp hm'
   show _=if bit (ts.getD i 0) h=true then (i:Int)+1 else rk ts h i
   rw [getD_eq_getElem?_getD,hz,Option.getD_some]
   have iff:(h:Int)∈hands 12 (bit z)↔bit z h=true:=by
    rw [IZ]
    constructor
    ·rintro ⟨k,_,k2,k3⟩
     have:h=k:=by omega
     rw [this];exact k2
    ·intro b
     exact ⟨h,by omega,b,rfl⟩
   by_cases c:bit z h=true
   ·rw [if_pos c,if_pos (iff.mpr c)]
   ·rw [if_neg c,if_neg (fun e=>c (iff.mp e))]
 ·rintro σ' H' ⟨v3,v4,v5,rfl,s2,e2⟩
  rw [length_map] at e2
  exact ⟨_,rfl,q l H' hl s2 e2⟩
theorem Ei (T:Tx K mg ad):Bd P w K mg base CX0 2 ad.f_is_number ad.d_is_number ["thing"] (QV K):=by
 refine T.F_is_number.ok Jh (fun vs H Q E h=>?_) (fun cdv A outer s H vs Q E hr h=>?_)
 ·obtain ⟨x,rfl,_⟩:=h
  rfl
 obtain ⟨x,rfl,hx,q⟩:=h
 refine ⟨_,(@Al _ _ _ (@A9 _ _ _ _ (@CZ _ _ _ _ _ _ _ (@Aq _ _ _ _ _ _ _ _ _ _ _ _ _ _ _ _ (FI T) (hr.mono (by decide)) rfl T.m_is_whole T.F_is_whole.kp T.b_is_whole .nil AF (@Af _ _ _ _ _ (pv 0) Ah (by rfl)) (by decide) (by rfl) (by rfl)) (@DJ _ _ _ _ _ (Hc Iy Iy Ak (pv 0) (B4 (v:=.int 1000000000) rfl T.k_MOST_BALLOTS ⟨_,rfl⟩)))))),?_⟩
 rcases hx with ⟨hw,hn⟩ | ⟨n,rfl⟩
 ·rw [hn] at q
  refine ⟨_,rfl,x,false,rfl,hw,?_⟩
  refine ⟨_,rfl,?_⟩
  exact NA q
 ·refine ⟨_,rfl,_,true,rfl,Wh.int n,?_⟩
  and_intros
  by_cases c:1<=n
  ·refine ifT (decide_eq_true c) ?_
   and_intros
   rw [show CB (.int n)=decide (n<=1000000000) from (by show (decide (1<=n) && decide (n<=1000000000))=_;rw [decide_eq_true c];rfl)] at q
   exact q
  ·refine ifF (decide_eq_false c) ?_
   rw [show CB (.int n)=false from (by show (decide (1<=n) && decide (n<=1000000000))=_;rw [decide_eq_false c];rfl)] at q
   exact q
theorem NZ (T:Tx K mg ad):Bd P w K mg base CX0 2 ad.f_joined ad.d_joined ["sheets"] PF:=by
 refine T.F_joined.ok Gb (fun vs H Q E h=>?_) (fun cdv A outer s H vs Q E hr h=>?_)
 ·obtain ⟨l,bs,p,rfl,_⟩:=h
  rfl
 obtain ⟨l,bs,p,rfl,hl,g,hp,p64,pos,l900,q⟩:=h
 refine ⟨_,(@Aj _ _ _ _ _ (@A7 _ _ (1) _ _ _ _ Gb.nd rfl (Or.inl rfl) (@AV _ _ _ _ Ah) (by rfl) (by first | exact .inl rfl | exact .inr rfl | assumption)) (@Aj _ _ _ _ _ (B1 PassesOwn.never rfl (Bm (pv 0)) (AY (i:=2) Gb.nd rfl (Or.inl rfl)) (@Al _ _ _ (@BU _ _ _ _ (DR PySem.F.plainAttrs_list PySem.F.slot_list_extend PySem.F.type_list_extend NX (pv 1) (@Af _ _ _ _ _ (pv 2) Ah (by rfl))) (by rfl)))) (@Al _ _ _ (@A9 _ _ _ _ (@Aq _ _ _ _ _ _ _ _ _ _ _ _ _ _ _ _ (D8 T) (hr.mono (by decide)) rfl T.m_sheet_from T.F_sheet_from.kp T.b_sheet_from .nil AF (@Af _ _ _ _ _ (@Aq _ _ _ _ _ _ _ _ _ _ _ _ _ _ _ _ (BM T) (hr.mono (by decide)) rfl T.m_numbers_by_slip T.F_numbers_by_slip.kp T.b_numbers_by_slip .nil AF (@Af _ _ _ _ _ (pv 1) Ah (by rfl)) (by decide) (by rfl) (by rfl)) Ah (by rfl)) (by decide) (by rfl) (by rfl)))))),?_⟩
 refine ⟨(by show 0<=sizeLine;decide),fun a ha=>?_⟩
 have s0:=Ai ha (.lst [])
 have e0:(upd H a (.lst [])) a=some (.lst (vls [])):=Ag
 generalize upd H a (.lst [])=H0 at s0 e0 ⊢
 refine ⟨_,rfl,l,rfl,⟨_,SqL.of (s0 _ _ hl)⟩,BO (xs:=bs.map fun b=>V.ref b.1) (fun i σ' H'=>∃v,σ'=[some (.ref l),some (.ref a),v]/\AJ H H'/\H' a=some (.lst (vls (Ck (bs.take i))))) ⟨none,rfl,s0,e0⟩ (fun i σ' H' _ ⟨_,_,e,_⟩=>SqL.of (e _ _ hl)) ?_ ?_⟩
 ·rintro i x σ' H' hx ⟨v,rfl,s1,e1⟩
  rw [List.getElem?_map] at hx
  cases eb:bs[i]? with
  | none=>rw [eb] at hx;cases hx
  | some b =>
    rw [eb] at hx
    cases Option.some.inj hx
    have bm:=mem_of_getElem? eb
    have et:bs.take (i+1)=bs.take i++[b]:=by rw [take_succ,eb];rfl
    have ea:Ck (bs.take (i+1))=Ck (bs.take i)++b.2:=by
     unfold Ck
     rw [et,map_append,flatten_append]
     simp
    have le:(Ck (bs.take i)).length+b.2.length<=900:=by
     have e2:Ck bs=Ck (bs.take (i+1))++Ck (bs.drop (i+1)):=by
      unfold Ck
      rw [<- flatten_append,<- map_append,take_append_drop]
     rw [e2,ea,length_append,length_append] at l900
     omega
    refine ⟨_,rfl,.inl ⟨rfl,_,SqL.of e1⟩,_,rfl,a,b.1,_,_,rfl,rfl,e1,s1 _ _ (g b bm).1,(by rw [AT,AT];exact Be le),?_⟩
    refine ⟨_,rfl,AS s1 ha,?_⟩
    rw [Ag,ea,B9]
 ·rintro σ' H' ⟨v,rfl,s1,e1⟩
  rw [length_map,take_of_length_le (Nat.le_refl _)] at e1
  have gA:AM H' (Ck bs):=fun q m=>by
   obtain ⟨ls,lm,qm⟩:=mem_flatten.mp m
   obtain ⟨b,bm,rfl⟩:=mem_map.mp lm
   exact ((g b bm).2.same s1) q qm
  refine ⟨_,rfl,a,Ck bs,p,rfl,e1,gA,hp,p64,fun d kvs H1 hd s2 e2 dk=>?_⟩
  refine ⟨d,kvs,rfl,e2,dk.vd,Nat.lt_of_le_of_lt (dk.len hp) p64,fun l' ls' H2 hl' s3 e3 g2 srt mem l64=>?_⟩
  exact q l' ls' H2 (none_of (s1.trans s2) hl') ((s1.trans s2).trans s3) e3 g2 (dk.sheet pos srt mem) l64
theorem PJ (T:Tx K mg ad):Bd P w K mg base CX0 2 ad.f_apart ad.d_apart ["one","other"] PX:=by
 refine T.F_apart.ok Kl (fun vs H Q E h=>?_) (fun cdv A outer s H vs Q E hr h=>?_)
 ·obtain ⟨l,m,ls,ms,p,rfl,_⟩:=h
  rfl
 obtain ⟨l,m,ls,ms,p,rfl,hl,gl,l64,hm,gm,kp,p64,q⟩:=h
 refine ⟨_,(@Aj _ _ _ _ _ (@A7 _ _ (2) _ _ _ _ Kl.nd rfl (Or.inr rfl) (@Aq _ _ _ _ _ _ _ _ _ _ _ _ _ _ _ _ (BM T) (hr.mono (by decide)) rfl T.m_numbers_by_slip T.F_numbers_by_slip.kp T.b_numbers_by_slip .nil AF (@Af _ _ _ _ _ (pv 1) Ah (by rfl)) (by decide) (by rfl) (by rfl)) (by rfl) (by first | exact .inl rfl | exact .inr rfl | assumption)) (@Al _ _ _ (@A9 _ _ _ _ (@A6 _ _ _ _ _ _ _ _ _ (FC rfl) (by rfl) T.z_sum PyProof.Rows.boot_sum (@Af _ _ _ _ _ (JZ (fsc:=Am Jy) (N:=["one","other","others"]) (Nc:=["one","other","others","slip","number"]) rfl rfl ⟨rfl,by decide +kernel,by decide +kernel,by decide +kernel,by decide +kernel,rfl,by decide +kernel,rfl,by decide +kernel⟩ rfl (Bm (pv 0)) (fun _ _ _ _=>B7) (fun _ _ _ _=>(@A6 _ _ _ _ _ _ _ _ _ (FS rfl) (by rfl) T.z_max PyProof.Rows.boot_max (@Af _ _ _ _ _ Ak (@Af _ _ _ _ _ (@Ar _ _ _ _ _ _ _ _ Di (pv 4) (EB (u1 hr.units) (pv 2) (pv 3) Ak ⟨rfl,rfl,rfl,rfl⟩)) Ah (by rfl)) (by rfl)) (by decide) (by decide) (by rfl) (by rfl)))) Ah (by rfl)) (by decide) (by decide) (by rfl) (by rfl))))),?_⟩
 refine ⟨_,rfl,m,ms,p,rfl,hm,gm,kp,p64,fun d kvs H1 hd s1 e1 dk=>?_⟩
 have hl1:=s1 _ _ hl
 refine ⟨_,rfl,l,rfl,⟨_,SqL.of hl1⟩,?_⟩
 refine Hi (zs:=vls ls) rfl rfl (by rw [AT];exact B0 (by omega)) (fun D i ys H'=>ys=((Ao (ls.take i)).map fun q=>if q.2 - tot (Ao ms) q.1 > 0 then q.2 - tot (Ao ms) q.1 else 0).map V.int/\H'=upd H1 D (.lst ys)) (fun D hD=>⟨rfl,rfl⟩) (fun D i ys H' ⟨f1,f2⟩=>⟨by rw [f2];exact Ag,by rw [f1,length_map,length_map];unfold Ao;rw [length_map];exact length_take_le _ _⟩) (fun D i ys H' hD ⟨_,f2⟩=>by rw [f2];exact SqL.of (Ai hD _ _ _ hl1)) ?_ ?_
 ·rintro D i x ys H' K1 K2 hD hx ⟨f1,rfl⟩ k1 k2
  obtain ⟨f,hf,rfl,fm,et⟩:=C6 hx
  have sD:=Ai hD (.lst ys)
  obtain ⟨g1,g2⟩:=gl f fm
  have kt:(upd H1 D (.lst ys)) f.2.1=some (.tup ((f.2.2.1.map Sum.inl:List Key).map kV)):=by rw [Er];exact (s1.trans sD) _ _ g2
  refine ⟨f.1,_,_,rfl,SqT.of ((s1.trans sD) _ _ g1),?_⟩
  refine yes (ifT rfl ?_)
  refine ⟨_,rfl,_,rfl,d,rfl,.inr ⟨_,.inl (sD _ _ e1)⟩,_,rfl,_,FH.t (sD _ _ e1) kt,?_⟩
  rw [FL dk]
  refine ⟨_,_,rfl,rfl,_,_,rfl,?_⟩
  refine k1 _ _ Ag ⟨?_,by rw [Cz]⟩
  rw [et,AK,map_append,map_append,f1]
  rfl
 rintro D ys H' hD ⟨rfl,rfl⟩
 rw [AT,take_of_length_le (Nat.le_refl _)]
 exact ⟨D,_,rfl,SqL.of Ag,q _ (s1.trans (Ai hD _))⟩
theorem NE (T:Tx K mg ad):Bd P w K mg base CX0 2 ad.f_mended ad.d_mended ["codes","seal"] O8:=by
 refine T.F_mended.ok Fb (fun vs H Q E h=>?_) (fun cdv A outer s H vs Q E hr h=>?_)
 ·obtain ⟨p,r,cs,ds,pl,rfl,_⟩:=h
  rfl
 obtain ⟨p,r,cs,ds,pl,rfl,h1,h2,z1,z2,h100,alt,q⟩:=h
 refine ⟨_,(@Aj _ _ _ _ _ (@A7 _ _ (2) _ _ _ _ Fb.nd rfl (Or.inr rfl) (@Aq _ _ _ _ _ _ _ _ _ _ _ _ _ _ _ _ (Hz T) (hr.mono (by decide)) rfl T.m_seal_of T.F_seal_of.kp T.b_seal_of .nil AF (@Af _ _ _ _ _ (pv 0) Ah (by rfl)) (by decide) (by rfl) (by rfl)) (by rfl) (by first | exact .inl rfl | exact .inr rfl | assumption)) (@Aj _ _ _ _ _ (@Bj _ _ _ _ _ _ _ _ (@AQ _ _ _ _ _ _ _ _ (R5 hr.units0) (pv 2) (pv 1) (AR _)) (@Al _ _ _ (@A9 _ _ _ _ (@AZ _ _ _ _ _ (@Af _ _ _ _ _ (@Ce _ _ _ _ _ _ _ _ _ BK (by rfl) T.z_list PyProof.Rows.boot_list (@Af _ _ _ _ _ (pv 0) Ah (by rfl)) (by decide) (by decide) (by rfl) (by rfl)) (@Af _ _ _ _ _ Ak Ah (by rfl)) (by rfl))))) AO) (@Aj _ _ _ _ _ (@A7 _ _ (3) _ _ _ _ Fb.nd rfl (Or.inl rfl) (@Aq _ _ _ _ _ _ _ _ _ _ _ _ _ _ _ _ (JM T) (hr.mono (by decide)) rfl T.m_place_of T.F_place_of.kp T.b_place_of .nil AF (@Af _ _ _ _ _ (B3 (fsc:=Am GR) (N:=["codes","seal","own","place","right"]) (Nc:=["codes","seal","own","place","right","k"]) rfl rfl ⟨rfl,by decide +kernel,by decide +kernel,rfl,by decide +kernel,rfl,by decide +kernel,rfl,by decide +kernel⟩ rfl (Mg (@AZ _ _ _ _ _ (@Af _ _ _ _ _ Ak (@Af _ _ _ _ _ Ak (@Af _ _ _ _ _ Ak Ah (by rfl)) (by rfl)) (by rfl)))) (fun _ _ _ _=>B7) (fun _ _ _ _=>(@Ar _ _ _ _ _ _ _ _ Di (@AN _ _ _ _ _ _ _ (GE K) (pv 1) (pv 5) (fun _ _=>rfl)) (@AN _ _ _ _ _ _ _ (GE K) (pv 2) (pv 5) (fun _ _=>rfl))))) (@Af _ _ _ _ _ (@A6 _ _ _ _ _ _ _ _ _ AG (by rfl) T.z_len PySem.boot_len (@Af _ _ _ _ _ (pv 0) Ah (by rfl)) (by decide) (by decide) (by rfl) (by rfl)) Ah (by rfl)) (by rfl)) (by decide) (by rfl) (by rfl)) (by rfl) (by first | exact .inl rfl | exact .inr rfl | assumption)) (@Aj _ _ _ _ _ (@Bj _ _ _ _ _ _ _ _ (PW.pt (@CF _ _ _ _ _ _ _ (@AQ _ _ _ _ _ _ _ _ GM (@AN _ _ _ _ _ _ _ B8 (pv 2) Ak (fun _ _=>rfl)) (@AN _ _ _ _ _ _ _ B8 (pv 1) Ak (fun _ _=>rfl)) (AR _)) (@Cp _ _ _ _ (@AQ _ _ _ _ _ _ _ _ C0 (pv 3) Ak (AR _))))) (@Al _ _ _ DO) AO) (@Aj _ _ _ _ _ (@A7 _ _ (4) _ _ _ _ Fb.nd rfl (Or.inl rfl) (@Ce _ _ _ _ _ _ _ _ _ BK (by rfl) T.z_list PyProof.Rows.boot_list (@Af _ _ _ _ _ (pv 0) Ah (by rfl)) (by decide) (by decide) (by rfl) (by rfl)) (by rfl) (by first | exact .inl rfl | exact .inr rfl | assumption)) (@Aj _ _ _ _ _ (CV (@Ar _ _ _ _ _ _ _ _ Di (@Ar _ _ _ _ _ _ _ _ AW (@AN _ _ _ _ _ _ _ AI (pv 4) (@Ar _ _ _ _ _ _ _ _ Di (pv 3) Ak) (fun _ _=>rfl)) (@AN _ _ _ _ _ _ _ B8 (pv 1) Ak (fun _ _=>rfl))) (@AN _ _ _ _ _ _ _ B8 (pv 2) Ak (fun _ _=>rfl))) (D9 (pv 4) (@Ar _ _ _ _ _ _ _ _ Di (pv 3) Ak) Cm)) (@Al _ _ _ (@A9 _ _ _ _ (@AZ _ _ _ _ _ (@Af _ _ _ _ _ (pv 4) (@Af _ _ _ _ _ (pv 3) Ah (by rfl)) (by rfl))))))))))),?_⟩
 refine ⟨_,rfl,p,cs,rfl,h1,z1,h100,fun o H1 ho s1 e1=>?_⟩
 refine ⟨_,rfl,_,rfl,o,r,EU cs,EU ds,rfl,rfl,SqT.of e1,SqT.of (s1 _ _ h2),_,rfl,?_⟩
 rcases alt with ⟨rfl,rfl⟩ | ⟨i,c,d,hc,d0,szd',rfl,rfl⟩
 ·refine ifT (decide_eq_true rfl) ?_
  refine ⟨_,rfl,p,_,rfl,.inl (SqL.of (s1 _ _ h1)),fun a ha=>⟨(by show 2<=sizeLine;decide),fun t ht=>?_⟩⟩
  exact q a t _ (none_of s1 ha) (s1.trans ((Ai ha _).trans (Ai ht _))) (Ai ht _ _ _ Ag) Ag
 have hi:i < cs.length:=(List.getElem?_eq_some_iff.mp hc).1
 have g1:ws f1 0 (cs.set i (c+d)) - ws f1 0 cs=d:=by
  rw [Jn f1 0 cs i c d hc]
  show _+d*1 - _=d
  omega
 have g2:ws f2 0 (cs.set i (c+d)) - ws f2 0 cs=d*((i:Int)+1):=by
  rw [Jn f2 0 cs i c d hc,Int.zero_add]
  show _+d*((i:Int)+1) - _=_
  omega
 have g3:ws f3 0 (cs.set i (c+d)) - ws f3 0 cs=d*(((i:Int)+1)*((i:Int)+1)):=by
  rw [Jn f3 0 cs i c d hc,Int.zero_add]
  show _+d*(((i:Int)+1)*((i:Int)+1)) - _=_
  omega
 have ne:EU cs≠EU (cs.set i (c+d)):=fun e=>by
  unfold EU at e
  injection e with _ e
  injection e with e _
  rw [e] at g1
  omega
 refine ifF (decide_eq_false ne) ?_
 refine ⟨(by show 3<=sizeLine;decide),fun a ha=>?_⟩
 have s2:=s1.trans (Ai ha (.tup [V.int 1,V.int 2,V.int 3]))
 have ea:(upd H1 a (.tup [V.int 1,V.int 2,V.int 3])) a=some (.tup [V.int 1,V.int 2,V.int 3]):=Ag
 have eo:=Ai ha (.tup [V.int 1,V.int 2,V.int 3]) _ _ e1
 generalize upd H1 a (.tup [V.int 1,V.int 2,V.int 3])=H2 at s2 ea eo ⊢
 refine ⟨a,rfl,⟨_,SqT.of ea⟩,?_⟩
 refine HQ (xs:=[V.int 1,V.int 2,V.int 3]) (by show 3<=sizeLine;decide) (fun D j ys H'=>ys=([d,d*((i:Int)+1),d*(((i:Int)+1)*((i:Int)+1))].take j).map V.int/\H'=upd H2 D (.lst ys)) (fun D hD=>⟨rfl,rfl⟩) (fun D j ys H' ⟨f1,f2⟩=>⟨by rw [f2];exact Ag,by rw [f1,length_map];exact length_take_le _ _⟩) (fun D j ys H' hD ⟨_,f2⟩=>by rw [f2];exact SqT.of (Ai hD _ _ _ ea)) ?_ ?_
 ·rintro D j x ys H' K1 K2 hD hx ⟨e9,rfl⟩ k1 k2
  have er:=(s2.trans (Ai hD (.lst ys))) _ _ h2
  have eo':=Ai hD (.lst ys) _ _ eo
  refine yes (ifT rfl ?_)
  rcases j with _ | _ | _ | j
  ·cases Option.some.inj hx
   refine ⟨_,rfl,_,rfl,r,_,_,_,rfl,rfl,SqT.of er,rfl,_,rfl,_,rfl,o,_,_,_,rfl,rfl,SqT.of eo',rfl,_,_,rfl,rfl,?_⟩
   refine k1 _ _ Ag ⟨?_,by rw [Cz]⟩
   rw [e9]
   dsimp only
   rw [g1]
   rfl
  ·cases Option.some.inj hx
   refine ⟨_,rfl,_,rfl,r,_,_,_,rfl,rfl,SqT.of er,rfl,_,rfl,_,rfl,o,_,_,_,rfl,rfl,SqT.of eo',rfl,_,_,rfl,rfl,?_⟩
   refine k1 _ _ Ag ⟨?_,by rw [Cz]⟩
   rw [e9]
   dsimp only
   rw [g2]
   rfl
  ·cases Option.some.inj hx
   refine ⟨_,rfl,_,rfl,r,_,_,_,rfl,rfl,SqT.of er,rfl,_,rfl,_,rfl,o,_,_,_,rfl,rfl,SqT.of eo',rfl,_,_,rfl,rfl,?_⟩
   refine k1 _ _ Ag ⟨?_,by rw [Cz]⟩
   rw [e9]
   dsimp only
   rw [g3]
   rfl
  ·cases hx
 rintro D ys H3 hD ⟨rfl,rfl⟩
 have s3:=s2.trans (Ai hD (.lst [V.int d,V.int (d*((i:Int)+1)),V.int (d*(((i:Int)+1)*((i:Int)+1)))]))
 have eo3:=Ai hD (.lst [V.int d,V.int (d*((i:Int)+1)),V.int (d*(((i:Int)+1)*((i:Int)+1)))]) _ _ eo
 have eD:(upd H2 D (.lst [V.int d,V.int (d*((i:Int)+1)),V.int (d*(((i:Int)+1)*((i:Int)+1)))])) D=some (.lst [V.int d,V.int (d*((i:Int)+1)),V.int (d*(((i:Int)+1)*((i:Int)+1)))]):=Ag
 rw [show ([d,d*((i:Int)+1),d*(((i:Int)+1)*((i:Int)+1))].take [V.int 1,V.int 2,V.int 3].length).map V.int=[V.int d,V.int (d*((i:Int)+1)),V.int (d*(((i:Int)+1)*((i:Int)+1)))] from rfl]
 generalize upd H2 D (.lst [V.int d,V.int (d*((i:Int)+1)),V.int (d*(((i:Int)+1)*((i:Int)+1)))])=H3 at s3 eo3 eD ⊢
 have hp3:=s3 _ _ h1
 have hr3:=s3 _ _ h2
 have szi:Sz 64 ((i:Int)+1):=Dq (by omega) (by omega)
 refine ⟨_,rfl,p,_,rfl,.inl (SqL.of hp3),?_⟩
 refine ⟨D,_,_,_,_,rfl,eD,szd'.mono (by decide),(szd'.mul szi).mono (by decide),?_⟩
 rw [Ot d0 (by omega) (by rw [length_map];omega)]
 and_intros
 refine ifF (Ob (by rw [length_set])) ?_
 and_intros
 intro b hb
 have s4:=s3.trans (Ai hb (.lst (cs.map V.int)))
 have eb:(upd H3 b (.lst (cs.map V.int))) b=some (.lst (cs.map V.int)):=Ag
 have eo4:=Ai hb (.lst (cs.map V.int)) _ _ eo3
 have hbH:=none_of s3 hb
 generalize upd H3 b (.lst (cs.map V.int))=H4 at s4 eb eo4 ⊢
 have hr4:=s4 _ _ h2
 have e1':(i:Int)+1 - 1=(i:Int):=by omega
 refine ⟨_,rfl,_,rfl,_,_,rfl,rfl,b,_,_,_,rfl,rfl,SqL.of eb,(by rw [e1'];exact atN hc),?_⟩
 and_intros
 refine ⟨b,_,_,i,rfl,rfl,eb,(by rw [e1'];exact DU (by rw [length_map];exact hi)),?_⟩
 have ev:c+ws f1 0 (cs.set i (c+d)) - ws f1 0 cs=c+d:=by omega
 have es:(cs.map V.int).set i (V.int (c+ws f1 0 (cs.set i (c+d)) - ws f1 0 cs))=(cs.set i (c+d)).map V.int:=by rw [ev,map_set]
 show (fun (σ':St) (H':Hp)=>_) _ (upd H4 b (.lst ((cs.map V.int).set i (V.int (c+ws f1 0 (cs.set i (c+d)) - ws f1 0 cs)))))
 rw [es]
 and_intros
 refine ⟨(by show 2<=sizeLine;decide),fun t ht=>?_⟩
 exact q b t _ hbH ((AS s4 hbH).trans (Ai ht _)) (Ai ht _ _ _ Ag) Ag
theorem Jq (T:Tx K mg ad):Bd P w K mg base CX0 2 ad.f_are_hands ad.d_are_hands ["thing"] PR:=by
 refine T.F_are_hands.ok Jm (fun vs H Q E h=>?_) (fun cdv A outer s H vs Q E hr h=>?_)
 ·obtain ⟨n,rfl,_⟩:=h
  rfl
 obtain ⟨n,rfl,n0,n1,q⟩:=h
 refine ⟨_,(@Al _ _ _ (@A9 _ _ _ _ (@CZ _ _ _ _ _ _ _ (@Aq _ _ _ _ _ _ _ _ _ _ _ _ _ _ _ _ (EK T) (hr.mono (by decide)) rfl T.m_is_whole T.F_is_whole.kp T.b_is_whole .nil AF (@Af _ _ _ _ _ (pv 0) Ah (by rfl)) (by decide) (by rfl) (by rfl)) (@DJ _ _ _ _ _ (Hc Iy Iy Ak (pv 0) (B4 (v:=.int 12) rfl T.k_MOST_HANDS ⟨_,rfl⟩)))))),?_⟩
 refine ⟨_,rfl,n,rfl,?_⟩
 and_intros
 refine ifT (decide_eq_true n0) ?_
 and_intros
 show Q (.bl (decide (n<=12))) H
 rw [decide_eq_true n1]
 exact q
theorem FD (T:Tx K mg ad):Bd P w K mg base CX0 2 ad.f_law_ranks ad.d_law_ranks ["_law_cell_here","_law_hands"] N3:=by
 refine T.F_law_ranks.ok B2 (fun vs H Q E h=>?_) (fun cdv A outer s H vs Q E hr h=>?_)
 ·obtain ⟨c,n,rfl,_⟩:=h
  rfl
 obtain ⟨c,n,rfl,c0,c1,n1,n12,q⟩:=h
 refine ⟨_,(@Aj _ _ _ _ _ (@A7 _ _ (2) _ _ _ _ B2.nd rfl (Or.inl rfl) (@Aq _ _ _ _ _ _ _ _ _ _ _ _ _ _ _ _ (BI T) (hr.mono (by decide)) rfl T.m_law_mixed T.F_law_mixed.kp T.b_law_mixed .nil AF (@Af _ _ _ _ _ (pv 0) (@Af _ _ _ _ _ Ak Ah (by rfl)) (by rfl)) (by decide) (by rfl) (by rfl)) (by rfl) (by first | exact .inl rfl | exact .inr rfl | assumption)) (@Aj _ _ _ _ _ (@A7 _ _ (3) _ _ _ _ B2.nd rfl (Or.inl rfl) (@Ar _ _ _ _ _ _ _ _ Ba (pv 2) Ak) (by rfl) (by first | exact .inl rfl | exact .inr rfl | assumption)) (@Aj _ _ _ _ _ (@Bj _ _ _ _ _ _ _ _ (@AQ _ _ _ _ _ _ _ _ C0 (pv 3) Ak (AR _)) (@Aj _ _ _ _ _ (@A7 _ _ (4) _ _ _ _ B2.nd rfl (Or.inr rfl) (@A6 _ _ _ _ _ _ _ _ _ (Jk hr.units) (by rfl) T.z_sorted PyProof.Rows.boot_sorted (@Af _ _ _ _ _ (B3 (fsc:=Am BY) (N:=["_law_cell_here","_law_hands","_law_number","_law_way","_law_order","_law_spread","_law_raw","_law_there"]) (Nc:=["_law_cell_here","_law_hands","_law_number","_law_way","_law_order","_law_spread","_law_raw","_law_there","_law_hand"]) rfl rfl ⟨rfl,by decide +kernel,by decide +kernel,rfl,by decide +kernel,rfl,by decide +kernel,rfl,by decide +kernel⟩ rfl (Bw rfl T.z_range (@Af _ _ _ _ _ (pv 1) Ah (by rfl))) (fun _ _ _ _=>B7) (fun _ _ _ _=>(@AZ _ _ _ _ _ (@Af _ _ _ _ _ (@Aq _ _ _ _ _ _ _ _ _ _ _ _ _ _ _ _ (BI T) (hr.mono (by decide)) rfl T.m_law_mixed T.F_law_mixed.kp T.b_law_mixed .nil AF (@Af _ _ _ _ _ (pv 0) (@Af _ _ _ _ _ (@Ar _ _ _ _ _ _ _ _ AW Ak (pv 8)) Ah (by rfl)) (by rfl)) (by decide) (by rfl) (by rfl)) (@Af _ _ _ _ _ (pv 8) Ah (by rfl)) (by rfl))))) Ah (by rfl)) (by decide) (by decide) (by rfl) (by rfl)) (by rfl) (by first | exact .inl rfl | exact .inr rfl | assumption)) (@Aj _ _ _ _ _ (@A7 _ _ (4) _ _ _ _ B2.nd rfl (Or.inr rfl) (B3 (fsc:=Am BY) (N:=["_law_cell_here","_law_hands","_law_number","_law_way","_law_order","_law_spread","_law_raw","_law_there"]) (Nc:=["_law_cell_here","_law_hands","_law_number","_law_way","_law_order","_law_spread","_law_raw","_law_there","_law_pair"]) rfl rfl ⟨rfl,by decide +kernel,by decide +kernel,rfl,by decide +kernel,rfl,by decide +kernel,rfl,by decide +kernel⟩ rfl (Bm (pv 4)) (fun _ _ _ _=>B7) (fun _ _ _ _=>(@AN _ _ _ _ _ _ _ (GE K) (pv 8) Ak (fun _ _=>rfl)))) (by rfl) (by first | exact .inl rfl | exact .inr rfl | assumption)) (@Al _ _ _ (@A9 _ _ _ _ (B3 (fsc:=Am BY) (N:=["_law_cell_here","_law_hands","_law_number","_law_way","_law_order","_law_spread","_law_raw","_law_there"]) (Nc:=["_law_cell_here","_law_hands","_law_number","_law_way","_law_order","_law_spread","_law_raw","_law_there","_law_hand"]) rfl rfl ⟨rfl,by decide +kernel,by decide +kernel,rfl,by decide +kernel,rfl,by decide +kernel,rfl,by decide +kernel⟩ rfl (Bw rfl T.z_range (@Af _ _ _ _ _ (pv 1) Ah (by rfl))) (fun _ _ _ _=>B7) (fun _ _ _ _=>(@Ar _ _ _ _ _ _ _ _ AW Ak (@O5 _ _ _ _ _ _ _ _ _ _ _ _ K PySem.F.plainAttrs_list PySem.F.slot_list_index PySem.F.type_list_index (Kj (K:=K)) (pv 4) (@Af _ _ _ _ _ (pv 8) Ah (by rfl)) (by rfl) (by rfl) (by rfl) (by rfl) (by rfl) (by rfl))))))))) AO) (@Aj _ _ _ _ _ (@A7 _ _ (5) _ _ _ _ B2.nd rfl (Or.inr rfl) (@AN _ _ _ _ _ _ _ AI (@AV _ _ _ _ (@Af _ _ _ _ _ Ak (@Af _ _ _ _ _ Ak (@Af _ _ _ _ _ Ak (@Af _ _ _ _ _ (@Ar _ _ _ _ _ _ _ _ AW (pv 1) Ak) Ah (by rfl)) (by rfl)) (by rfl)) (by rfl))) (pv 3) (fun _ _=>rfl)) (by rfl) (by first | exact .inl rfl | exact .inr rfl | assumption)) (@Aj _ _ _ _ _ (FO (j:=6) (fsc:=Am BY) (N:=["_law_cell_here","_law_hands","_law_number","_law_way","_law_order","_law_spread","_law_raw","_law_there"]) (Nc:=["_law_cell_here","_law_hands","_law_number","_law_way","_law_order","_law_spread","_law_raw","_law_there","_law_hand"]) rfl rfl ⟨rfl,by decide +kernel,by decide +kernel,rfl,by decide +kernel,rfl,by decide +kernel,rfl,by decide +kernel⟩ rfl B2.nd rfl rfl (Bw rfl T.z_range (@Af _ _ _ _ _ (pv 1) Ah (by rfl))) (fun _ _ _ _=>B7) (fun _ _ _ _=>(@Ar _ _ _ _ _ _ _ _ Ba (@Ar _ _ _ _ _ _ _ _ Bf (@Aq _ _ _ _ _ _ _ _ _ _ _ _ _ _ _ _ (BI T) (hr.mono (by decide)) rfl T.m_law_mixed T.F_law_mixed.kp T.b_law_mixed .nil AF (@Af _ _ _ _ _ (pv 0) (@Af _ _ _ _ _ (@Ar _ _ _ _ _ _ _ _ AW Ak (pv 8)) Ah (by rfl)) (by rfl)) (by decide) (by rfl) (by rfl)) Ak) (pv 5))) rfl) (@Aj _ _ _ _ _ (@A7 _ _ (7) _ _ _ _ B2.nd rfl (Or.inr rfl) (FA rfl (by rfl) T.z_sorted (by rfl) T.z_set (@Ar _ _ _ _ _ _ _ _ Cj (pv 6) (@AV _ _ _ _ (@Af _ _ _ _ _ Ak Ah (by rfl))))) (by rfl) (by first | exact .inl rfl | exact .inr rfl | assumption)) (@Al _ _ _ (@A9 _ _ _ _ (B3 (fsc:=Am BY) (N:=["_law_cell_here","_law_hands","_law_number","_law_way","_law_order","_law_spread","_law_raw","_law_there"]) (Nc:=["_law_cell_here","_law_hands","_law_number","_law_way","_law_order","_law_spread","_law_raw","_law_there","_law_rank"]) rfl rfl ⟨rfl,by decide +kernel,by decide +kernel,rfl,by decide +kernel,rfl,by decide +kernel,rfl,by decide +kernel⟩ rfl (Bm (pv 6)) (fun _ _ _ _=>B7) (fun _ _ _ _=>(@O5 _ _ _ _ _ _ _ _ _ _ _ _ K PySem.F.plainAttrs_list PySem.F.slot_list_index PySem.F.type_list_index (Kj (K:=K)) (pv 7) (@Af _ _ _ _ _ (pv 8) Ah (by rfl)) (by rfl) (by rfl) (by rfl) (by rfl) (by rfl) (by rfl)))))))))))),?_⟩
 have szc:=L6 c0 c1
 refine ⟨_,rfl,c,1,rfl,szc,szd 64,fun z z0 z1=>?_⟩
 and_intros
 have wm:=Bh z (show (0:Int) < 5 by decide)
 refine G6 (fun cw=>?_) (fun cw=>?_)
 ·refine ⟨_,rfl,(n:Int),rfl,by omega,by omega,?_⟩
  rw [show ((n:Int)).toNat=n from Int.toNat_natCast n]
  refine BN (B0 (by omega)) (fun D i ys H'=>∃qs:List (Addr × List Int),ys=qs.map (fun q=>V.ref q.1)/\qs.map (fun q=>q.2.getD 1 0)=(List.range i).map (fun j:Nat=>(j:Int))/\(∀q∈qs,H' q.1=some (.tup (q.2.map V.int))/\∃z k,q.2=[z,k])/\H' D=some (.lst ys)/\AJ H H') (fun D hD=>⟨[],rfl,rfl,(fun q m=>nomatch m),Ag,Ai hD _⟩) (fun D i ys H' ⟨qs,f1,f2,_,f3,_⟩=>⟨f3,by
   have:=congrArg List.length f2
   rw [length_map,length_map,length_range] at this
   rw [f1,length_map];omega⟩) ?_ ?_
  ·rintro D i ys H' K1 K2 hD hi ⟨qs,rfl,f2,f3,f4,f5⟩ k1 k2
   refine yes (ifT rfl ?_)
   and_intros
   refine ⟨c,_,rfl,szc,Dq (by omega) (by omega),fun y y0 y1=>?_⟩
   and_intros
   refine ⟨(by show 2<=sizeLine;decide),fun a ha=>?_⟩
   have e0:(0:Int)+(i:Int)=(i:Int):=Int.zero_add _
   rw [e0]
   have s6:=Ai ha (.tup [V.int y,V.int (i:Int)])
   have ea:(upd H' a (.tup [V.int y,V.int (i:Int)])) a=some (.tup [V.int y,V.int (i:Int)]):=Ag
   have aD:a≠D:=fun e=>by rw [e,f4] at ha;cases ha
   generalize upd H' a (.tup [V.int y,V.int (i:Int)])=H5 at s6 ea ⊢
   refine k1 _ _ (s6 _ _ f4) ⟨qs++[(a,[y,(i:Int)])],by rw [map_append];rfl,by rw [map_append,f2,range_succ,map_append];rfl,fun q m=>?_,Ag,AS (f5.trans s6) hD⟩
   rcases mem_append.mp m with m | m
   ·obtain ⟨g1,g2⟩:=f3 q m
    have qD:q.1≠D:=fun e=>by rw [e,f4] at g1;cases g1
    exact ⟨by rw [A8 qD];exact s6 _ _ g1,g2⟩
   ·obtain rfl:=mem_singleton.mp m
    exact ⟨by rw [A8 aD];exact ea,y,(i:Int),rfl⟩
  rintro D ys H1 hD ⟨qs,rfl,f2,f3,f4,f5⟩
  have lq:qs.length=n:=by
   have:=congrArg List.length f2
   rw [length_map,length_map,length_range] at this
   exact this
  refine ⟨D,qs,rfl,SqL.of f4,fun q m=>SqT.of (f3 q m).1,by omega,fun l ps pm _ hl=>?_⟩
  have pf:∀q∈ps,H1 q.1=some (.tup (q.2.map V.int))/\∃z k,q.2=[z,k]:=fun q m=>f3 q (pm.mem_iff.mp m)
  have po:(ps.map fun q=>q.2.getD 1 0).Perm ((List.range n).map fun j:Nat=>(j:Int)):=by rw [<- f2];exact pm.map _
  have lp:ps.length=n:=by rw [pm.length_eq,lq]
  have s6:=Ai hl (.lst (ps.map fun q=>V.ref q.1))
  have el:(upd H1 l (.lst (ps.map fun q=>V.ref q.1))) l=some (.lst (ps.map fun q=>V.ref q.1)):=Ag
  generalize upd H1 l (.lst (ps.map fun q=>V.ref q.1))=H2 at s6 el ⊢
  refine ⟨_,rfl,l,rfl,⟨_,SqL.of el⟩,?_⟩
  refine BQ (xs:=ps.map fun q=>V.ref q.1) (by rw [length_map];exact B0 (by omega)) (fun D2 i ys H'=>ys=((ps.take i).map fun q=>q.2.getD 1 0).map V.int/\H' D2=some (.lst ys)/\AJ H2 H') (fun D2 hD2=>⟨rfl,Ag,Ai hD2 _⟩) (fun D2 i ys H' ⟨g1,g2,_⟩=>⟨g2,by rw [g1,length_map,length_map];exact length_take_le _ _⟩) (fun D2 i ys H' hD2 ⟨_,_,g3⟩=>SqL.of (g3 _ _ el)) ?_ ?_
  ·rintro D2 i x ys H' K1 K2 hD2 hx ⟨g1,g2,g3⟩ k1 k2
   rw [List.getElem?_map] at hx
   obtain ⟨q0,hq0,rfl⟩:=Option.map_eq_some_iff.mp hx
   obtain ⟨h1,z,k,h2⟩:=pf q0 (mem_of_getElem? hq0)
   have et:ps.take (i+1)=ps.take i++[q0]:=by rw [take_succ,hq0];rfl
   rw [h2] at h1
   refine yes (ifT rfl ?_)
   refine ⟨_,rfl,q0.1,_,_,_,rfl,rfl,SqT.of (g3 _ _ (s6 _ _ h1)),rfl,?_⟩
   refine k1 _ _ g2 ⟨?_,Ag,AS g3 hD2⟩
   rw [et,map_append,map_append,g1]
   show _=_++[V.int (q0.2.getD 1 0)]
   rw [h2]
   rfl
  rintro D2 ys H3 hD2 ⟨g1,g2,g3⟩
  rw [length_map,take_of_length_le (Nat.le_refl _)] at g1
  subst g1
  generalize (ps.map fun q=>q.2.getD 1 0)=os at po g2 ⊢
  obtain ⟨gp,g12⟩:=P0 po
  refine ⟨_,rfl,(n:Int),rfl,by omega,by omega,?_⟩
  rw [show ((n:Int)).toNat=n from Int.toNat_natCast n]
  refine BN (B0 (by omega)) (fun D4 i ys H'=>ys=((List.range i).map fun h:Nat=>1+((os.idxOf (h:Int):Nat):Int)).map V.int/\H' D4=some (.lst ys)/\AJ H3 H') (fun D4 hD4=>⟨rfl,Ag,Ai hD4 _⟩) (fun D4 i ys H' ⟨g1,g2,_⟩=>⟨g2,by rw [g1,length_map,length_map,length_range];exact Nat.le_refl _⟩) ?_ ?_
  ·rintro D4 i ys H' K1 K2 hD4 hi ⟨k3,k4,k5⟩ k1 k2
   have e0:(0:Int)+(i:Int)=(i:Int):=Int.zero_add _
   refine yes (ifT rfl ?_)
   rw [e0]
   refine ⟨_,rfl,.inl ⟨rfl,_,SqL.of (k5 _ _ g2)⟩,_,rfl,D2,os,(i:Int),rfl,rfl,SqL.of (k5 _ _ g2),po.mem_iff.mpr (mem_map.mpr ⟨i,mem_range.mpr hi,rfl⟩),?_⟩
   refine ⟨_,_,rfl,rfl,?_⟩
   refine k1 _ _ k4 ⟨?_,Ag,AS k5 hD4⟩
   rw [range_succ,map_append,map_append,k3]
   rfl
  rintro D4 ys H4 hD4 ⟨rfl,k4,k5⟩
  exact q D4 _ n H4 (KI ((f5.trans s6).trans g3) hD4) (((f5.trans s6).trans g3).trans k5) k4 (by rw [length_map,length_range]) gp fun r m=>⟨gp.low r m,by have:=g12 r m;omega⟩
 ·have w4:z.fmod 5≠4:=fun e=>cw (Qk e)
  and_intros
  refine ⟨(by show 4<=sizeLine;decide),fun a ha=>?_⟩
  have s1:=Ai ha (.lst [V.int 1,V.int 2,V.int 4,V.int ((n:Int)+2)])
  have ea:(upd H a (.lst [V.int 1,V.int 2,V.int 4,V.int ((n:Int)+2)])) a=some (.lst [V.int 1,V.int 2,V.int 4,V.int ((n:Int)+2)]):=Ag
  generalize upd H a (.lst [V.int 1,V.int 2,V.int 4,V.int ((n:Int)+2)])=H1 at s1 ea ⊢
  obtain ⟨sp,hsp,sp1⟩:=QN (x0:=1) (x1:=2) (x2:=4) (x3:=(n:Int)+2) (fun v=>1<=v) (z.fmod 5) wm.1 (by omega) (by decide) (by decide) (by decide) (by omega)
  refine ⟨_,rfl,a,_,_,_,rfl,rfl,SqL.of ea,hsp,?_⟩
  refine ⟨_,rfl,(n:Int),rfl,by omega,by omega,?_⟩
  rw [show ((n:Int)).toNat=n from Int.toNat_natCast n]
  refine BN (B0 (by omega)) (fun D i ys H'=>∃zs:List Int,ys=zs.map V.int/\zs.length=i/\(∀z∈zs,0<=z)/\H' D=some (.lst ys)/\AJ H1 H') (fun D hD=>⟨[],rfl,rfl,(fun z m=>nomatch m),Ag,Ai hD _⟩) (fun D i ys H' ⟨zs,g1,g2,_,g3,_⟩=>⟨g3,by rw [g1,length_map];omega⟩) ?_ ?_
  ·rintro D i ys H' K1 K2 hD hi ⟨zs,rfl,f2,f3,f4,f5⟩ k1 k2
   refine yes (ifT rfl ?_)
   and_intros
   refine ⟨c,_,rfl,szc,Dq (by omega) (by omega),fun y y0 y1=>?_⟩
   and_intros
   refine ⟨(by show (_:Int)≠0;omega),?_⟩
   have m:=Bh (y.fdiv 8) (show (0:Int) < sp by omega)
   refine k1 _ _ f4 ⟨zs++[(y.fdiv 8).fmod sp],by rw [map_append];rfl,by rw [length_append,f2];rfl,fun z mz=>?_,Ag,AS f5 hD⟩
   rcases mem_append.mp mz with mz | mz
   ·exact f3 z mz
   ·rw [mem_singleton.mp mz];exact m.1
  rintro D ys H2 hD ⟨raw,rfl,lr,pr,f4,f5⟩
  refine ⟨_,rfl,(by show 1<=sizeLine;decide),fun b hb=>?_⟩
  have s3:=Ai hb (.lst [V.int 0])
  have eb:(upd H2 b (.lst [V.int 0])) b=some (.lst [V.int 0]):=Ag
  generalize upd H2 b (.lst [V.int 0])=H3 at s3 eb ⊢
  refine ⟨D,b,_,_,rfl,rfl,s3 _ _ f4,eb,(by rw [length_map];exact Nat.le_of_lt (Bq (by show raw.length+1<=1000;omega))),fun d hd=>?_⟩
  rw [show raw.map V.int++[V.int 0]=(raw++[0]).map V.int from (by rw [map_append];rfl)]
  have s4:=Ai hd (.lst ((raw++[0]).map V.int))
  have ed:(upd H3 d (.lst ((raw++[0]).map V.int))) d=some (.lst ((raw++[0]).map V.int)):=Ag
  generalize upd H3 d (.lst ((raw++[0]).map V.int))=H4 at s4 ed ⊢
  refine ⟨d,raw++[0],rfl,SqL.of ed,(by rw [length_append];show raw.length+1 < 64;omega),fun l us u1 u2 hl=>?_⟩
  have s5:=Ai hl (.lst (us.map V.int))
  have el:(upd H4 l (.lst (us.map V.int))) l=some (.lst (us.map V.int)):=Ag
  generalize upd H4 l (.lst (us.map V.int))=H5 at s5 el ⊢
  have gp:=PV u1 u2 pr
  have lu:us.length<=13:=by
   obtain rfl:=Nl u1 u2
   have:=FN (raw++[0])
   rw [length_append] at this
   have:(Ev (raw++[0])).length<=raw.length+1:=this
   omega
  have f6:=s5 _ _ (s4 _ _ (s3 _ _ f4))
  refine ⟨_,rfl,D,rfl,⟨_,SqL.of f6⟩,?_⟩
  refine BQ (xs:=raw.map V.int) (by rw [length_map];exact B0 (by omega)) (fun D4 i ys H'=>ys=((raw.take i).map fun r=>((us.idxOf r:Nat):Int)).map V.int/\H' D4=some (.lst ys)/\AJ H5 H') (fun D4 hD4=>⟨rfl,Ag,Ai hD4 _⟩) (fun D4 i ys H' ⟨g1,g2,_⟩=>⟨g2,by rw [g1,length_map,length_map];exact length_take_le _ _⟩) (fun D4 i ys H' hD4 ⟨_,_,g3⟩=>SqL.of (g3 _ _ f6)) ?_ ?_
  ·rintro D4 i x ys H' K1 K2 hD4 hx ⟨k3,k4,k5⟩ k1 k2
   obtain ⟨z,hz,rfl⟩:=int_at hx
   have et:raw.take (i+1)=raw.take i++[z]:=by rw [take_succ,hz];rfl
   refine yes (ifT rfl ?_)
   refine ⟨_,rfl,.inl ⟨rfl,_,SqL.of (k5 _ _ el)⟩,_,rfl,l,us,z,rfl,rfl,SqL.of (k5 _ _ el),(u2 z).mpr (mem_append_left _ (mem_of_getElem? hz)),?_⟩
   refine k1 _ _ k4 ⟨?_,Ag,AS k5 hD4⟩
   rw [et,map_append,map_append,k3]
   rfl
  rintro D4 ys H6 hD4 ⟨k3,k4,k5⟩
  rw [length_map,take_of_length_le (Nat.le_refl _)] at k3
  subst k3
  refine q D4 _ (us.length - 1) H6 (KI ((((s1.trans f5).trans s3).trans s4).trans s5) hD4) (((((s1.trans f5).trans s3).trans s4).trans s5).trans k5) k4 (by rw [length_map];exact lr) gp fun r m=>⟨gp.low r m,?_⟩
  by_cases c:0 < r
  ·have:=(gp.all r c).mp m
   omega
  ·omega
theorem Kc (T:Tx K mg ad):Bd P w K mg base CX0 2 ad.f_law_many ad.d_law_many ["_law_cell_here","_law_k"] OQ:=by
 refine T.F_law_many.ok G3 (fun vs H Q E h=>?_) (fun cdv A outer s H vs Q E hr h=>?_)
 ·obtain ⟨c,k,rfl,_⟩:=h
  rfl
 obtain ⟨c,k,rfl,c0,c1,k0,k1,q⟩:=h
 refine ⟨_,(@Aj _ _ _ _ _ (@A7 _ _ (2) _ _ _ _ G3.nd rfl (Or.inl rfl) (@Aq _ _ _ _ _ _ _ _ _ _ _ _ _ _ _ _ (BI T) (hr.mono (by decide)) rfl T.m_law_mixed T.F_law_mixed.kp T.b_law_mixed .nil AF (@Af _ _ _ _ _ (pv 0) (@Af _ _ _ _ _ (@Ar _ _ _ _ _ _ _ _ AW (pv 1) Ak) Ah (by rfl)) (by rfl)) (by decide) (by rfl) (by rfl)) (by rfl) (by first | exact .inl rfl | exact .inr rfl | assumption)) (@Al _ _ _ (@A9 _ _ _ _ (@AN _ _ _ _ _ _ _ AI (@AV _ _ _ _ (@Af _ _ _ _ _ (@Ar _ _ _ _ _ _ _ _ AW Ak (@Ar _ _ _ _ _ _ _ _ Ba (@Ar _ _ _ _ _ _ _ _ Bf (pv 2) Ak) Ak)) (@Af _ _ _ _ _ (@Ar _ _ _ _ _ _ _ _ AW Ak (@Ar _ _ _ _ _ _ _ _ Ba (@Ar _ _ _ _ _ _ _ _ Bf (pv 2) Ak) (@Ar _ _ _ _ _ _ _ _ Fs Ak Ak))) (@Af _ _ _ _ _ (@Ar _ _ _ _ _ _ _ _ Fs Ak Ak) (@Af _ _ _ _ _ Ak Ah (by rfl)) (by rfl)) (by rfl)) (by rfl))) (@Ar _ _ _ _ _ _ _ _ Ba (@Ar _ _ _ _ _ _ _ _ Bf (pv 2) Ak) Ak) (fun _ _=>rfl))))),?_⟩
 and_intros
 refine ⟨c,_,rfl,L6 c0 c1,Dq (by omega) (by omega),fun z z0 z1=>?_⟩
 and_intros
 refine ⟨(by show 4<=sizeLine;decide),fun a ha=>?_⟩
 and_intros
 have m4:=Bh (z.fdiv 3) (show (0:Int) < 4 by decide)
 have b9:=Bh (z.fdiv 8) (show (0:Int) < 9 by decide)
 have e9:(10:Int) ^ (9:Int).toNat=1000000000:=by decide
 have bb:=Bh (z.fdiv 8) (show (0:Int) < (10:Int) ^ (9:Int).toNat by decide)
 rw [e9] at bb
 obtain ⟨v,hv,v0,v1⟩:=QN (x0:=1+(z.fdiv 8).fmod 9) (x1:=1+(z.fdiv 8).fmod ((10:Int) ^ (9:Int).toNat)) (x2:=(10:Int) ^ (9:Int).toNat) (x3:=1) (fun v=>1<=v/\v<=1000000000) ((z.fdiv 3).fmod 4) m4.1 m4.2 ⟨by omega,by omega⟩ ⟨by rw [e9];omega,by rw [e9];omega⟩ ⟨by rw [e9];decide,by rw [e9];decide⟩ ⟨by decide,by decide⟩
 refine ⟨a,_,_,_,rfl,rfl,SqL.of Ag,hv,?_⟩
 exact q v _ v0 v1 (Ai ha _)
theorem JH (T:Tx K mg ad):Bd P w K mg base CX0 2 ad.f_law_line ad.d_law_line ["_law_found","_law_due"] Pa:=by
 refine T.F_law_line.ok KP (fun vs H Q E h=>?_) (fun cdv A outer s H vs Q E hr h=>?_)
 ·obtain ⟨p,b,t,u,ts,c,rfl,_⟩:=h
  rfl
 obtain ⟨p,b,t,u,ts,c,rfl,l12,hp,ht,hb,hu,q⟩:=h
 refine ⟨_,(@Aj _ _ _ _ _ (@Bj _ _ _ _ _ _ _ _ (PW.pt (@CF _ _ _ _ _ _ _ (@Bv _ _ _ _ (@Br _ _ _ (@A6 _ _ _ _ _ _ _ _ _ Cb (by rfl) T.z_isinstance PyProof.Rows.boot_isinstance (@Af _ _ _ _ _ (pv 0) (@Af _ _ _ _ _ (Cn (v:=.ty "tuple") rfl T.z_tuple PyProof.Rows.boot_tuple rfl) Ah (by rfl)) (by rfl)) (by decide) (by decide) (by rfl) (by rfl)) (by intro _;rfl))) (@CF _ _ _ _ _ _ _ (@AQ _ _ _ _ _ _ _ _ GM (@A6 _ _ _ _ _ _ _ _ _ AG (by rfl) T.z_len PySem.boot_len (@Af _ _ _ _ _ (pv 0) Ah (by rfl)) (by decide) (by decide) (by rfl) (by rfl)) Ak (AR _)) (@Cp _ _ _ _ (@Bv _ _ _ _ (@Br _ _ _ (@A6 _ _ _ _ _ _ _ _ _ Cb (by rfl) T.z_isinstance PyProof.Rows.boot_isinstance (@Af _ _ _ _ _ (@AN _ _ _ _ _ _ _ B8 (pv 0) Ak (fun _ _=>rfl)) (@Af _ _ _ _ _ (Cn (v:=.ty "tuple") rfl T.z_tuple PyProof.Rows.boot_tuple rfl) Ah (by rfl)) (by rfl)) (by decide) (by decide) (by rfl) (by rfl)) (by intro _;rfl))))))) (@Al _ _ _ (@A9 _ _ _ _ Bs)) AO) (@Aj _ _ _ _ _ (@Bj _ _ _ _ _ _ _ _ (@AQ _ _ _ _ _ _ _ _ HZ (@A6 _ _ _ _ _ _ _ _ _ AG (by rfl) T.z_len PySem.boot_len (@Af _ _ _ _ _ (B3 (fsc:=Am F4) (N:=["_law_found","_law_due"]) (Nc:=["_law_found","_law_due","_law_tier"]) rfl rfl ⟨rfl,by decide +kernel,by decide +kernel,rfl,by decide +kernel,rfl,by decide +kernel,rfl,by decide +kernel⟩ rfl (Mg (@AN _ _ _ _ _ _ _ B8 (pv 0) Ak (fun _ _=>rfl))) (fun _ _ _ _=>(Eh (@Bv _ _ _ _ (@Br _ _ _ (@Aq _ _ _ _ _ _ _ _ _ _ _ _ _ _ _ _ (Cf T) (hr.mono (by decide)) rfl T.m_law_whole T.F_law_whole.kp T.b_law_whole .nil AF (@Af _ _ _ _ _ (pv 2) Ah (by rfl)) (by decide) (by rfl) (by rfl)) (by intro _;rfl))))) (fun _ _ _ _=>(pv 2))) Ah (by rfl)) (by decide) (by decide) (by rfl) (by rfl)) Ak (AR _)) (@Al _ _ _ (@A9 _ _ _ _ Bs)) AO) (@Al _ _ _ (@A9 _ _ _ _ (@CZ _ _ _ _ _ _ _ (@Aq _ _ _ _ _ _ _ _ _ _ _ _ _ _ _ _ (Cf T) (hr.mono (by decide)) rfl T.m_law_whole T.F_law_whole.kp T.b_law_whole .nil AF (@Af _ _ _ _ _ (@AN _ _ _ _ _ _ _ B8 (pv 0) Ak (fun _ _=>rfl)) Ah (by rfl)) (by decide) (by rfl) (by rfl)) (@DJ _ _ _ _ _ (@Cu _ _ _ _ _ _ _ _ (D6 (K:=K) hr.units) (pv 0) (pv 1) (AR _)))))))),?_⟩
 refine ⟨_,rfl,_,_,_,_,rfl,CD.tup hp,CL,?_⟩
 and_intros
 refine ⟨_,_,_,_,rfl,CD.tup ht,CL,?_⟩
 and_intros
 refine ⟨⟨_,SqT.of ht⟩,?_⟩
 refine HQ (xs:=ts.map V.int) (by rw [length_map];exact B0 (by omega)) (fun D i ys H'=>ys=[]/\H'=upd H D (.lst [])) (fun D hD=>⟨rfl,rfl⟩) (fun D i ys H' ⟨f1,f2⟩=>by rw [f2,f1];exact ⟨Ag,Nat.zero_le _⟩) (fun D i ys H' hD ⟨_,f2⟩=>by rw [f2];exact SqT.of (Ai hD _ _ _ ht)) ?_ ?_
 ·rintro D i x ys H' K1 K2 hD hx ⟨rfl,rfl⟩ k1 k2
  obtain ⟨z,hz,rfl⟩:=int_at hx
  refine ⟨_,rfl,z,rfl,_,rfl,?_⟩
  exact k2 _ ⟨rfl,rfl⟩
 rintro D ys H1 hD ⟨rfl,rfl⟩
 have s1:=Ai hD (.lst [])
 have eD:(upd H D (.lst [])) D=some (.lst []):=Ag
 generalize upd H D (.lst [])=H1 at s1 eD ⊢
 have hp1:=s1 _ _ hp
 have ht1:=s1 _ _ ht
 and_intros
 refine ⟨.tuple [.tuple (ts.map .int),.int c],.tuple [.tuple (ts.map .int),.int c],.tup (SqT.of hp1) (.cons (.tup (SqT.of ht1) (.ints ts)) (.cons (.int c) .nil)),.tup (SqT.of (s1 _ _ hb)) (.cons (.tup (SqT.of (s1 _ _ hu)) (.ints ts)) (.cons (.int c) .nil)),GJ ts c,GJ ts c,?_⟩
 rw [Oz]
 exact q _ s1
theorem CN (T:Tx K mg ad):Bd P w K mg base CX0 2 ad.f_law_codes_of ad.d_law_codes_of ["_law_lines_here","_law_hands"] Og:=by
 refine T.F_law_codes_of.ok Bx (fun vs H Q E h=>?_) (fun cdv A outer s H vs Q E hr h=>?_)
 ·obtain ⟨l,ls,n,p,rfl,_⟩:=h
  rfl
 obtain ⟨l,ls,n,p,rfl,hl,g,ok,n12,l9,q⟩:=h
 refine ⟨_,(@Aj _ _ _ _ _ (@A7 _ _ (2) _ _ _ _ Bx.nd rfl (Or.inl rfl) (@AV _ _ _ _ Ah) (by rfl) (by first | exact .inl rfl | exact .inr rfl | assumption)) (@Aj _ _ _ _ _ (B1 PassesOwn.never rfl (Bm (pv 0)) (DH rfl (Bl (AY (i:=3) Bx.nd rfl (Or.inl rfl)) (Bl (AY (i:=4) Bx.nd rfl (Or.inl rfl)) C9))) (@Aj _ _ _ _ _ (@A7 _ _ (5) _ _ _ _ Bx.nd rfl (Or.inl rfl) (@Ar _ _ _ _ _ _ _ _ QS (@AV _ _ _ _ (@Af _ _ _ _ _ Ak Ah (by rfl))) (pv 1)) (by rfl) (by first | exact .inl rfl | exact .inr rfl | assumption)) (@Aj _ _ _ _ _ (B1 PassesOwn.never rfl (Bw rfl T.z_range (@Af _ _ _ _ _ (@A6 _ _ _ _ _ _ _ _ _ AG (by rfl) T.z_len PySem.boot_len (@Af _ _ _ _ _ (pv 3) Ah (by rfl)) (by decide) (by decide) (by rfl) (by rfl)) Ah (by rfl))) (AY (i:=6) Bx.nd rfl (Or.inl rfl)) (@Al _ _ _ (B1 PassesOwn.never rfl (Bw rfl T.z_range (@Af _ _ _ _ _ (pv 1) Ah (by rfl))) (AY (i:=7) Bx.nd rfl (Or.inl rfl)) (@Al _ _ _ (@Bj _ _ _ _ _ _ _ _ (@AQ _ _ _ _ _ _ _ _ C0 (@Ar _ _ _ _ _ _ _ _ Ba (@Ar _ _ _ _ _ _ _ _ Bf (@AN _ _ _ _ _ _ _ B8 (pv 3) (pv 6) (fun _ _=>rfl)) (@Ar _ _ _ _ _ _ _ _ M7 Ak (pv 7))) Ak) Ak (AR _)) (@Al _ _ _ (CV (@Ar _ _ _ _ _ _ _ _ AW (pv 6) Ak) (D9 (pv 5) (pv 7) Cm))) AO))))) (@Al _ _ _ (@BU _ _ _ _ (DR PySem.F.plainAttrs_list PySem.F.slot_list_append PySem.F.type_list_append BR (pv 2) (@Af _ _ _ _ _ (@Aq _ _ _ _ _ _ _ _ _ _ _ _ _ _ _ _ (Kn T) (hr.mono (by decide)) rfl T.m_law_code T.F_law_code.kp T.b_law_code .nil AF (@Af _ _ _ _ _ (pv 5) (@Af _ _ _ _ _ (pv 4) Ah (by rfl)) (by rfl)) (by decide) (by rfl) (by rfl)) Ah (by rfl))) (by rfl)))))) (@Al _ _ _ (@A9 _ _ _ _ (pv 2))))),?_⟩
 refine ⟨(by show 0<=sizeLine;decide),fun c hc=>?_⟩
 have s0:=Ai hc (.lst [])
 have e0:(upd H c (.lst [])) c=some (.lst []):=Ag
 generalize upd H c (.lst [])=H0 at s0 e0 ⊢
 and_intros
 refine ⟨⟨_,SqL.of (s0 _ _ hl)⟩,BO (xs:=vls ls) (fun i σ' H'=>∃(v3 v4 v5 v6 v7:Option V),σ'=[some (.ref l),some (.int (n:Int)),some (.ref c),v3,v4,v5,v6,v7]/\AJ H H'/\H' c=some (.lst ((CJ n (Ao (ls.take i))).map V.int))) ⟨none,none,none,none,none,rfl,s0,e0⟩ (fun i σ' H' _ ⟨_,_,_,_,_,_,e,_⟩=>SqL.of (e _ _ hl)) ?_ ?_⟩
 ·rintro i x σ' H' hx ⟨v3,v4,v5,v6,v7,rfl,s1,e1⟩
  obtain ⟨f,hf,rfl,fm,et⟩:=C6 hx
  obtain ⟨g1,g2⟩:=g f fm
  obtain ⟨_,f1',f9,okf⟩:=ok (f.2.2.1,f.2.2.2) (mem_map.mpr ⟨f,fm,rfl⟩)
  have tl:f.2.2.1.length<=n:=okf.len
  obtain ⟨rs,m,er,_,ln,_,r12,tin⟩:=okf.ranks
  refine ⟨f.1,_,rfl,SqT.of (s1 _ _ g1),rfl,_,_,rfl,_,_,rfl,rfl,?_⟩
  refine ⟨(by show 1<=sizeLine;decide),fun z hz=>?_⟩
  have s2:=Ai hz (.lst [V.int 0])
  have e2:(upd H' z (.lst [V.int 0])) z=some (.lst [V.int 0]):=Ag
  generalize upd H' z (.lst [V.int 0])=H2 at s2 e2 ⊢
  refine ⟨_,rfl,z,(n:Int),_,rfl,rfl,e2,by omega,by omega,B0 (by show 1*Int.toNat (n:Int)<=1000;omega),fun rl hrl=>?_⟩
  rw [Int.toNat_natCast,P1]
  have s3:=Ai hrl (.lst ((List.replicate n (0:Int)).map V.int))
  have e3:(upd H2 rl (.lst ((List.replicate n (0:Int)).map V.int))) rl=some (.lst (((List.range n).map fun h=>rk f.2.2.1 h 0).map V.int)):=by
   rw [Ag]
   congr 3
   apply ext_getElem
   ·simp
   ·intro i h1 h2
    simp [rk]
  generalize upd H2 rl (.lst ((List.replicate n (0:Int)).map V.int))=H3 at s3 e3 ⊢
  have s13:=s1.trans (s2.trans s3)
  have rlH:H' rl=none:=none_of s2 hrl
  have crl:c≠rl:=fun z=>by rw [<- z,e1] at rlH;cases rlH
  have c3:=(s2.trans s3) _ _ e1
  have t3:=s13 _ _ g2
  and_intros
  have lt:(f.2.2.1.map V.int).length=f.2.2.1.length:=length_map _
  have sv3:=s2.trans s3
  refine ⟨by omega,by omega,C5 (fun a σ' J=>∃v6 v7:Option V,σ'=[some (.ref l),some (.int (n:Int)),some (.ref c),some (.ref f.2.1),some (.int f.2.2.2),some (.ref rl),v6,v7]/\AJ H' J/\J rl=some (.lst (((List.range n).map fun h=>rk f.2.2.1 h a).map V.int))) ⟨v6,v7,rfl,sv3,e3⟩ ?_ ?_⟩
  ·rintro a σ' J ha ⟨v6,v7,rfl,sJ,eJ⟩
   rw [lt,Int.toNat_natCast] at ha
   obtain ⟨z,hz'⟩:∃z:Int,f.2.2.1[a]?=some z:=⟨_,List.getElem?_eq_getElem ha⟩
   and_intros
   refine ⟨by omega,by omega,C5 (fun j σ' J=>∃v7:Option V,σ'=[some (.ref l),some (.int (n:Int)),some (.ref c),some (.ref f.2.1),some (.int f.2.2.2),some (.ref rl),some (.int (0+(a:Int))),v7]/\AJ H' J/\J rl=some (.lst (((List.range n).map fun h=>if h < j then rk f.2.2.1 h (a+1) else rk f.2.2.1 h a).map V.int))) ⟨v7,rfl,sJ,by rw [eJ];simp⟩ ?_ ?_⟩
   ·rintro j σ' J2 hj ⟨v7,rfl,sJ2,eJ2⟩
    rw [Int.toNat_natCast] at hj
    obtain ⟨p1,p2⟩:=Q4 (i:=j) (by omega)
    have ej:(0+(j:Int)).toNat=j:=by omega
    have step:∀h:Nat,(if h=j then rk f.2.2.1 j (a+1) else if h < j then rk f.2.2.1 h (a+1) else rk f.2.2.1 h a)=if h < j+1 then rk f.2.2.1 h (a+1) else rk f.2.2.1 h a:=fun h=>by
     by_cases c1:h=j
     ·rw [if_pos c1,if_pos (by omega),c1]
     ·rw [if_neg c1]
      by_cases c2:h < j
      ·rw [if_pos c2,if_pos (by omega)]
      ·rw [if_neg c2,if_neg (by omega)]
    have rkj:rk f.2.2.1 j (a+1)=if bit z j=true then (a:Int)+1 else rk f.2.2.1 j a:=by
     show (if bit (f.2.2.1.getD a 0) j=true then _ else _)=_
     rw [getD_eq_getElem?_getD,hz',Option.getD_some]
    and_intros
    refine ⟨f.2.1,_,_,_,rfl,rfl,SqT.of (sJ2 _ _ (s1 _ _ g2)),(by rw [Int.zero_add];exact atN hz'),?_⟩
    and_intros
    refine ⟨(by rw [Int.zero_add];exact Is (by omega)),?_⟩
    refine ⟨_,_,rfl,rfl,(by rw [ej];exact ⟨p1,p2⟩),?_⟩
    and_intros
    have ob:=Q7 z j
    cases eo:bit z j with
    | false =>
      refine ifF ?_ ⟨_,rfl,sJ2,?_⟩
      ·dsimp only
       rw [ej,ob,eo]
      ·rw [eJ2]
       congr 3
       apply map_congr_left
       intro h _
       rw [<- step h]
       by_cases c1:h=j
       ·rw [if_pos c1,if_neg (show ¬ h < j by omega),c1,rkj,eo]
        exact (if_neg (by decide)).symm
       ·rw [if_neg c1]
    | true =>
      refine ifT ?_ ?_
      ·dsimp only
       rw [ej,ob,eo]
      and_intros
      refine ⟨rl,_,_,j,rfl,rfl,eJ2,(by rw [Int.zero_add];exact DU (by rw [length_map,length_map,length_range];exact hj)),?_⟩
      refine ⟨_,rfl,AS sJ2 rlH,?_⟩
      rw [Ag,<- map_set,IF _ _ hj]
      congr 3
      apply map_congr_left
      intro h _
      rw [<- step h]
      by_cases c1:h=j
      ·rw [if_pos c1,if_pos c1,rkj,eo,if_pos rfl]
       omega
      ·rw [if_neg c1,if_neg c1]
   ·rintro σ' J2 ⟨v7,rfl,sJ2,eJ2⟩
    refine ⟨_,_,rfl,sJ2,?_⟩
    rw [eJ2]
    congr 3
    apply map_congr_left
    intro h hm
    have:=mem_range.mp hm
    rw [if_pos (by omega)]
  ·rintro σ' J ⟨v6,v7,rfl,sJ,eJ⟩
   rw [lt,Int.toNat_natCast] at eJ
   have eJ':J rl=some (.lst ((By f.2.2.1 n).map V.int)):=eJ
   have cJ:=sJ _ _ e1
   and_intros
   refine ⟨.inl ⟨rfl,_,SqL.of cJ⟩,?_⟩
   refine ⟨_,rfl,_,rfl,rl,_,f.2.2.2,rfl,eJ',(by rw [er,ln];exact n12),(by rw [er];exact r12),by omega,by omega,?_⟩
   refine ⟨c,_,_,rfl,rfl,cJ,(by rw [length_map,Cg];unfold Ao;rw [length_map];rw [length_take];exact Bq (by omega)),?_⟩
   refine ⟨_,_,_,_,_,rfl,AS (s1.trans sJ) hc,?_⟩
   rw [Ag,et,AK]
   unfold CJ
   rw [map_append,map_append]
   rfl
 ·rintro σ' H' ⟨v3,v4,v5,v6,v7,rfl,s1,e1⟩
  rw [AT,take_length] at e1
  exact ⟨_,rfl,q c H' hc s1 e1⟩
theorem HY (T:Tx K mg ad):Bd P w K mg base CX0 2 ad.f_law_seal_is ad.d_law_seal_is ["_law_found","_law_due"] PL:=by
 refine T.F_law_seal_is.ok Ie (fun vs H Q E h=>?_) (fun cdv A outer s H vs Q E hr h=>?_)
 ·obtain ⟨a,b,ns,rfl,_⟩:=h
  rfl
 obtain ⟨a,b,ns,rfl,ha,hb,l60,q⟩:=h
 refine ⟨_,(@Aj _ _ _ _ _ (@Bj _ _ _ _ _ _ _ _ (PW.pt (@CF _ _ _ _ _ _ _ (@Bv _ _ _ _ (@Br _ _ _ (@A6 _ _ _ _ _ _ _ _ _ Cb (by rfl) T.z_isinstance PyProof.Rows.boot_isinstance (@Af _ _ _ _ _ (pv 0) (@Af _ _ _ _ _ (Cn (v:=.ty "tuple") rfl T.z_tuple PyProof.Rows.boot_tuple rfl) Ah (by rfl)) (by rfl)) (by decide) (by decide) (by rfl) (by rfl)) (by intro _;rfl))) (@Cp _ _ _ _ (@AQ _ _ _ _ _ _ _ _ HZ (@A6 _ _ _ _ _ _ _ _ _ AG (by rfl) T.z_len PySem.boot_len (@Af _ _ _ _ _ (B3 (fsc:=Am DG) (N:=["_law_found","_law_due"]) (Nc:=["_law_found","_law_due","_law_one"]) rfl rfl ⟨rfl,by decide +kernel,by decide +kernel,rfl,by decide +kernel,rfl,by decide +kernel,rfl,by decide +kernel⟩ rfl (Mg (pv 0)) (fun _ _ _ _=>(Eh (@Bv _ _ _ _ (@Br _ _ _ (@Aq _ _ _ _ _ _ _ _ _ _ _ _ _ _ _ _ (Cf T) (hr.mono (by decide)) rfl T.m_law_whole T.F_law_whole.kp T.b_law_whole .nil AF (@Af _ _ _ _ _ (pv 2) Ah (by rfl)) (by decide) (by rfl) (by rfl)) (by intro _;rfl))))) (fun _ _ _ _=>(pv 2))) Ah (by rfl)) (by decide) (by decide) (by rfl) (by rfl)) Ak (AR _))))) (@Al _ _ _ (@A9 _ _ _ _ Bs)) AO) (@Al _ _ _ (@A9 _ _ _ _ (@Cu _ _ _ _ _ _ _ _ (D6 (K:=K) hr.units) (pv 0) (pv 1) (AR _))))),?_⟩
 refine ⟨_,rfl,_,_,_,_,rfl,CD.tup ha,CL,?_⟩
 and_intros
 refine ⟨⟨_,SqT.of ha⟩,?_⟩
 refine HQ (xs:=ns.map V.int) (by rw [length_map];exact B0 (by omega)) (fun D i ys H'=>ys=[]/\H'=upd H D (.lst [])) (fun D hD=>⟨rfl,rfl⟩) (fun D i ys H' ⟨f1,f2⟩=>by rw [f2,f1];exact ⟨Ag,Nat.zero_le _⟩) (fun D i ys H' hD ⟨_,f2⟩=>by rw [f2];exact SqT.of (Ai hD _ _ _ ha)) ?_ ?_
 ·rintro D i x ys H' K1 K2 hD hx ⟨rfl,rfl⟩ k1 k2
  obtain ⟨z,hz,rfl⟩:=int_at hx
  refine ⟨_,rfl,z,rfl,_,rfl,?_⟩
  exact k2 _ ⟨rfl,rfl⟩
 rintro D ys H1 hD ⟨rfl,rfl⟩
 have s1:=Ai hD (.lst [])
 have eD:(upd H D (.lst [])) D=some (.lst []):=Ag
 generalize upd H D (.lst [])=H1 at s1 eD ⊢
 refine ⟨D,_,rfl,.inl (SqL.of eD),?_⟩
 and_intros
 refine ⟨.tuple (ns.map .int),.tuple (ns.map .int),.tup (SqT.of (s1 _ _ ha)) (.ints _),.tup (SqT.of (s1 _ _ hb)) (.ints _),(El _).1,(El _).1,?_⟩
 rw [show PyData.eqv (.tuple (ns.map .int)) (.tuple (ns.map .int))=true from by show PyData.eqvAll _ _=true;rw [Dj];exact decide_eq_true rfl]
 exact q _ s1
theorem Eg (T:Tx K mg ad):Bd P w K mg base CX0 2 ad.f_law_apart ad.d_law_apart ["_law_old","_law_new"] Sd:=by
 refine T.F_law_apart.ok B5 (fun vs H Q E h=>?_) (fun cdv A outer s H vs Q E hr h=>?_)
 ·obtain ⟨a,b,ls,ms,p,rfl,_⟩:=h
  rfl
 obtain ⟨a,b,ls,ms,p,rfl,ha,ga,ka,pos,hb,gb,kb,p64,q⟩:=h
 refine ⟨_,(@Aj _ _ _ _ _ (@A7 _ _ (2) _ _ _ _ B5.nd rfl (Or.inl rfl) Ak (by rfl) (by first | exact .inl rfl | exact .inr rfl | assumption)) (@Aj _ _ _ _ _ (@A7 _ _ (3) _ _ _ _ B5.nd rfl (Or.inl rfl) Hl (by rfl) (by first | exact .inl rfl | exact .inr rfl | assumption)) (@Aj _ _ _ _ _ (B1 PassesOwn.never rfl (Bm (pv 1)) (DH rfl (Bl (AY (i:=4) B5.nd rfl (Or.inl rfl)) (Bl (AY (i:=5) B5.nd rfl (Or.inl rfl)) C9))) (@Al _ _ _ (Jw (u1 hr.units) (pv 3) (pv 4) (@Ar _ _ _ _ _ _ _ _ AW (EB (u1 hr.units) (pv 3) (pv 4) Ak ⟨rfl,rfl,rfl,rfl⟩) (pv 5)) rfl))) (@Aj _ _ _ _ _ (B1 PassesOwn.never rfl (Bm (@Aq _ _ _ _ _ _ _ _ _ _ _ _ _ _ _ _ (Ea T) (hr.mono (by decide)) rfl T.m_law_sheet T.F_law_sheet.kp T.b_law_sheet .nil AF (@Af _ _ _ _ _ (pv 0) Ah (by rfl)) (by decide) (by rfl) (by rfl))) (DH rfl (Bl (AY (i:=4) B5.nd rfl (Or.inl rfl)) (Bl (AY (i:=5) B5.nd rfl (Or.inl rfl)) C9))) (@Al _ _ _ (@A7 _ _ (2) _ _ _ _ B5.nd rfl (Or.inl rfl) (@Ar _ _ _ _ _ _ _ _ AW (pv 2) (@A6 _ _ _ _ _ _ _ _ _ (FS rfl) (by rfl) T.z_max PyProof.Rows.boot_max (@Af _ _ _ _ _ Ak (@Af _ _ _ _ _ (@Ar _ _ _ _ _ _ _ _ Di (pv 5) (EB (u1 hr.units) (pv 3) (pv 4) Ak ⟨rfl,rfl,rfl,rfl⟩)) Ah (by rfl)) (by rfl)) (by decide) (by decide) (by rfl) (by rfl))) (by rfl) (by first | exact .inl rfl | exact .inr rfl | assumption)))) (@Al _ _ _ (@A9 _ _ _ _ (pv 2))))))),?_⟩
 and_intros
 intro d hd
 have s0:=Ai hd (.dT [])
 have e0:(upd H d (.dT [])) d=some (.dT []):=Ag
 generalize upd H d (.dT [])=H0 at s0 e0 ⊢
 and_intros
 refine ⟨⟨_,SqL.of (s0 _ _ hb)⟩,BO (xs:=vls ms) (fun i σ' H'=>∃(v4 v5:Option V) (kvs:List (List Key × V)),σ'=[some (.ref a),some (.ref b),some (.int 0),some (.ref d),v4,v5]/\AJ H H'/\H' d=some (.dT kvs)/\DictOf (Ao (ms.take i)) kvs) ⟨none,none,[],rfl,s0,e0,.nil⟩ (fun i σ' H' _ ⟨_,_,_,_,e,_⟩=>SqL.of (e _ _ hb)) ?_ ?_⟩
 ·rintro i x σ' H' hx ⟨v4,v5,kvs,rfl,s1,e1,dk⟩
  obtain ⟨f,hf,rfl,fm,et⟩:=C6 hx
  obtain ⟨g1,g2⟩:=gb f fm
  have lim:=dk.len (p:=p) (fun q m=>by
   obtain ⟨r,rm,rfl⟩:=mem_map.mp m
   exact kb _ (mem_map.mpr ⟨r,mem_of_mem_take rm,rfl⟩))
  have kt:H' f.2.1=some (.tup ((f.2.2.1.map Sum.inl:List Key).map kV)):=by rw [Er];exact s1 _ _ g2
  refine ⟨f.1,_,rfl,SqT.of (s1 _ _ g1),rfl,_,_,rfl,_,_,rfl,rfl,?_⟩
  refine ⟨_,rfl,d,rfl,.inr ⟨_,.inl e1⟩,_,rfl,_,FH.t e1 kt,?_⟩
  rw [FL dk]
  refine ⟨_,rfl,_,_,rfl,rfl,_,rfl,_,rfl,d,_,rfl,L7.t e1 kt (Bq (by omega)),?_⟩
  refine ⟨_,_,_,rfl,AS s1 hd,Ag,?_⟩
  rw [et,AK]
  exact dk.put f.2.2.1 f.2.2.2
 rintro σ' H' ⟨v4,v5,kvs,rfl,s1,e1,dk⟩
 rw [AT,take_of_length_le (Nat.le_refl _)] at dk
 and_intros
 refine ⟨a,ls,p,rfl,s1 _ _ ha,ga.same s1,ka,p64,pos,fun l ss H2 hl s2 e2 g2 sh l64=>?_⟩
 have e12:=s2 _ _ e1
 refine ⟨l,rfl,⟨_,SqL.of e2⟩,BO (xs:=vls ss) (fun i σ' J=>∃(v4 v5:Option V),σ'=[some (.ref a),some (.ref b),some (.int (Ej (Ao (ss.take i)) (Ao ms))),some (.ref d),v4,v5]/\J=H2) ⟨_,_,rfl,rfl⟩ (fun i σ' J _ ⟨_,_,_,e⟩=>by rw [e];exact SqL.of e2) ?_ ?_⟩
 ·rintro i x σ' J hx ⟨v4,v5,rfl,rfl⟩
  obtain ⟨f,hf,rfl,fm,et⟩:=C6 hx
  obtain ⟨f1,f2⟩:=g2 f fm
  have kt:J f.2.1=some (.tup ((f.2.2.1.map Sum.inl:List Key).map kV)):=by rw [Er];exact f2
  refine ⟨f.1,_,rfl,SqT.of f1,rfl,_,_,rfl,_,_,rfl,rfl,?_⟩
  and_intros
  refine ⟨.inr ⟨_,.inl e12⟩,_,rfl,_,FH.t e12 kt,?_⟩
  rw [FL dk]
  and_intros
  refine ⟨_,_,rfl,?_⟩
  and_intros
  refine ⟨some (.ref f.2.1),some (.int f.2.2.2),?_,rfl⟩
  rw [et,AK,show Ao [f]=[(f.2.2.1,f.2.2.2)] from rfl,Lz]
  rfl
 rintro σ' J ⟨v4,v5,rfl,rfl⟩
 rw [AT,take_of_length_le (Nat.le_refl _)]
 and_intros
 exact q _ _ (s1.trans s2) (fun w hw=>(hw _ sh).symm)
theorem CM (T:Tx K mg ad):Bd P w K mg base (CX1 P w) 2 ad.f_Box_lines_at ad.d_Box_lines_at ["self","k"] (OI K ad.c_Box ad.c_NoBundle):=by
 refine T.F_Box_lines_at.okX G9 (fun vs H Q E h=>?_) (fun cdv A outer s H vs Q E hr h=>?_)
 ·obtain ⟨b,L,n,bs,x,rfl,_⟩:=h
  rfl
 obtain ⟨b,L,n,bs,x,rfl,ib,q⟩:=h
 refine ⟨_,(@Aj _ _ _ _ _ (@Bj _ _ _ _ _ _ _ _ (PW.pt (@CF _ _ _ _ _ _ _ (@Bv _ _ _ _ (@Br _ _ _ (@Aq _ _ _ _ _ _ _ _ _ _ _ _ _ _ _ _ (FI T) (hr.mono (by decide)) rfl T.m_is_whole T.F_is_whole.kp T.b_is_whole .nil AF (@Af _ _ _ _ _ (pv 1) Ah (by rfl)) (by decide) (by rfl) (by rfl)) (by intro _;rfl))) (@CF _ _ _ _ _ _ _ (@AQ _ _ _ _ _ _ _ _ Na (pv 1) Ak (AR _)) (@Cp _ _ _ _ (@AQ _ _ _ _ _ _ _ _ Se (pv 1) (EG (pv 0) T.cl_Box T.me_Box_many (EH T) (hr.mono (by decide)) T.b_Box_many .nil AF) (AR _)))))) (@Al _ _ _ (GN ⟨rfl,rfl,rfl⟩ rfl rfl T.m_NoBundle T.x_NoBundle (@Af _ _ _ _ _ Hr Ah (by rfl)))) AO) (@Al _ _ _ (@A9 _ _ _ _ (@Ce _ _ _ _ _ _ _ _ _ BK (by rfl) T.z_list PyProof.Rows.boot_list (@Af _ _ _ _ _ (@AN _ _ _ _ _ _ _ AI (FR (pv 0) rfl) (pv 1) (fun _ _=>rfl)) Ah (by rfl)) (by decide) (by decide) (by rfl) (by rfl))))),?_⟩
 have ib':=ib
 obtain ⟨⟨dx,hb⟩,hL,hx,hn⟩:=ib'
 have say:1<=sizeLine:=by decide
 have int:∀z:Int,x=.int z->Wh K H x true:=fun z e=>by rw [e];exact Wh.int z
 rcases q with ⟨k,y,rfl,ex,q⟩ | ⟨w0 | ⟨z,rfl,bad⟩,q⟩
 ·have kl:k < bs.length:=(List.getElem?_eq_some_iff.mp ex).1
  refine ⟨_,rfl,_,true,rfl,Wh.int _,?_⟩
  and_intros
  refine ⟨b,dx,_,rfl,hb,rfl,?_⟩
  refine ⟨b,L,n,bs,rfl,ib,?_⟩
  and_intros
  refine ifF (decide_eq_false (by omega)) ?_
  and_intros
  refine ⟨b,_,dx,_,_,rfl,hb,T.cl_Box,T.na_Box_bundles,rfl,?_⟩
  and_intros
  refine ⟨L,_,_,_,rfl,rfl,SqL.of hL,(BE (by rw [List.getElem?_map,ex];rfl)),?_⟩
  refine ⟨y.1,_,rfl,.inl (SqL.of (hx y (mem_of_getElem? ex)).1),fun l hl=>?_⟩
  exact q l _ hl (Ai hl _) Ag
 ·refine ⟨_,rfl,_,false,rfl,w0,?_⟩
  and_intros
  exact ⟨say,q⟩
 ·refine ⟨_,rfl,_,true,rfl,Wh.int _,?_⟩
  and_intros
  by_cases z0:z < 0
  ·refine ifT (decide_eq_true z0) ?_
   and_intros
   exact ⟨say,q⟩
  refine ifF (decide_eq_false z0) ?_
  and_intros
  refine ⟨b,dx,_,rfl,hb,rfl,?_⟩
  refine ⟨b,L,n,bs,rfl,ib,?_⟩
  and_intros
  refine ifT (decide_eq_true (by omega)) ?_
  and_intros
  exact ⟨say,q⟩
theorem Jg (T:Tx K mg ad):Bd P w K mg base CX0 3 ad.f_are_ranks ad.d_are_ranks ["thing","hands"] (Sm K):=by
 refine T.F_are_ranks.ok Ji (fun vs H Q E h=>?_) (fun cdv A outer s H vs Q E hr h=>?_)
 ·obtain ⟨p,rs,rfl,_⟩:=h
  rfl
 obtain ⟨p,rs,rfl,hS,h12,hR,q⟩:=h
 refine ⟨_,(@Aj _ _ _ _ _ (@Bj _ _ _ _ _ _ _ _ (@Bv _ _ _ _ (@Br _ _ _ (@A6 _ _ _ _ _ _ _ _ _ Cb (by rfl) T.z_isinstance PyProof.Rows.boot_isinstance (@Af _ _ _ _ _ (pv 0) (@Af _ _ _ _ _ (Cn (v:=.ty "list") rfl T.z_list PyProof.Rows.boot_list rfl) Ah (by rfl)) (by rfl)) (by decide) (by decide) (by rfl) (by rfl)) (by intro _;rfl))) (@Al _ _ _ (@A9 _ _ _ _ Bs)) AO) (@Al _ _ _ (@A9 _ _ _ _ (@CZ _ _ _ _ _ _ _ (@Cu _ _ _ _ _ _ _ _ C0 (@A6 _ _ _ _ _ _ _ _ _ AG (by rfl) T.z_len PySem.boot_len (@Af _ _ _ _ _ (pv 0) Ah (by rfl)) (by decide) (by decide) (by rfl) (by rfl)) (pv 1) (AR _)) (@DJ _ _ _ _ _ (@A6 _ _ _ _ _ _ _ _ _ (OP rfl) (by rfl) T.z_all PyProof.Rows.boot_all (@Af _ _ _ _ _ (B3 (fsc:=Am Ew) (N:=["thing","hands"]) (Nc:=["thing","hands","rank"]) rfl rfl ⟨rfl,by decide +kernel,by decide +kernel,rfl,by decide +kernel,rfl,by decide +kernel,rfl,by decide +kernel⟩ rfl (Bm (pv 0)) (fun _ _ _ _=>B7) (fun _ _ _ _=>(@Aq _ _ _ _ _ _ _ _ _ _ _ _ _ _ _ _ (Ll T) (hr.mono (by decide)) rfl T.m_is_rank T.F_is_rank.kp T.b_is_rank .nil AF (@Af _ _ _ _ _ (pv 2) Ah (by rfl)) (by decide) (by rfl) (by rfl)))) Ah (by rfl)) (by decide) (by decide) (by rfl) (by rfl))))))),?_⟩
 refine ⟨_,rfl,_,_,_,_,rfl,CD.lst hS,Fk,?_⟩
 and_intros
 first | refine ifT (Qk (by rw [length_map])) ?_ | (refine ⟨p,_,rfl,.inl (SqL.of hS),?_⟩;and_intros;refine ifT (Qk (by rw [length_map])) ?_)
 refine ⟨_,rfl,p,rfl,⟨_,SqL.of hS⟩,?_⟩
 refine BQ (xs:=rs.map V.int) (by rw [length_map];exact B0 (by omega)) (fun D i ys H'=>ys=(List.replicate i true).map V.bl/\H'=upd H D (.lst ys)) (fun D hD=>⟨rfl,rfl⟩) (fun D i ys H' ⟨f1,f2⟩=>⟨by rw [f2];exact Ag,by rw [f1,length_map,length_replicate];exact Nat.le_refl _⟩) (fun D i ys H' hD ⟨_,f2⟩=>by rw [f2];exact SqL.of (Ai hD _ _ _ hS)) ?_ ?_
 ·rintro D i x ys H' K1 K2 hD hx ⟨f1,rfl⟩ k1 k2
  obtain ⟨z,hz,rfl⟩:=int_at hx
  obtain ⟨z0,z1⟩:=hR z (mem_of_getElem? hz)
  refine yes (ifT rfl ?_)
  refine ⟨_,rfl,z,rfl,z0,z1,?_⟩
  refine k1 _ _ Ag ⟨?_,by rw [Cz]⟩
  rw [f1,replicate_succ',map_append]
  rfl
 ·rintro D ys H' hD ⟨rfl,rfl⟩
  refine ⟨D,_,rfl,SqL.of Ag,?_⟩
  rw [show (List.replicate (rs.map V.int).length true).all id=true from all_eq_true.mpr fun b m=>(mem_replicate.mp m).2]
  exact q _ (Ai hD _)
theorem ES (T:Tx K mg ad):Bd P w K mg base (CX1 P w) 3 ad.f_sheet_of ad.d_sheet_of ["lines"] (PB K ad.c_NoSheet):=by
 refine T.F_sheet_of.okX Ex (fun vs H Q E h=>?_) (fun cdv A outer s H vs Q E hr h=>?_)
 ·rcases h with ⟨l,ls,p,rfl,_⟩ | ⟨l,ws,rfl,_⟩
  ·rfl
  ·rfl
 have say:1<=sizeLine:=by decide
 rcases h with ⟨l,ls,p,rfl,hl,g,hp,p64,hn,q⟩ | ⟨l,ws,rfl,hl,g,bad,he⟩
 ·refine ⟨_,(@Aj _ _ _ _ _ (B1 (QR ⟨rfl,rfl,rfl⟩) rfl (Bm (pv 0)) (AY (i:=1) Ex.nd rfl (Or.inl rfl)) (@Al _ _ _ (@Bj _ _ _ _ _ _ _ _ (@Bv _ _ _ _ (@Br _ _ _ (@Aq _ _ _ _ _ _ _ _ _ _ _ _ _ _ _ _ (Ei T) (hr.mono (by decide)) rfl T.m_is_number T.F_is_number.kp T.b_is_number .nil AF (@Af _ _ _ _ _ (@AN _ _ _ _ _ _ _ B8 (pv 1) Ak (fun _ _=>rfl)) Ah (by rfl)) (by decide) (by rfl) (by rfl)) (by intro _;rfl))) (@Al _ _ _ (GN ⟨rfl,rfl,rfl⟩ rfl rfl T.m_NoSheet T.x_NoSheet (@Af _ _ _ _ _ Hr Ah (by rfl)))) AO))) (@Al _ _ _ (@A9 _ _ _ _ (@Aq _ _ _ _ _ _ _ _ _ _ _ _ _ _ _ _ (D8 T) (hr.mono (by decide)) rfl T.m_sheet_from T.F_sheet_from.kp T.b_sheet_from .nil AF (@Af _ _ _ _ _ (@Aq _ _ _ _ _ _ _ _ _ _ _ _ _ _ _ _ (BM T) (hr.mono (by decide)) rfl T.m_numbers_by_slip T.F_numbers_by_slip.kp T.b_numbers_by_slip .nil AF (@Af _ _ _ _ _ (pv 0) Ah (by rfl)) (by decide) (by rfl) (by rfl)) Ah (by rfl)) (by decide) (by rfl) (by rfl))))),?_⟩
  refine ⟨_,rfl,l,rfl,⟨_,SqL.of hl⟩,BO (xs:=vls ls) (fun i σ' H'=>∃v,σ'=[some (.ref l),v]/\H=H') ⟨none,rfl,rfl⟩ (fun i σ' H' _ ⟨_,_,e⟩=>by rw [<- e];exact SqL.of hl) ?_ ?_⟩
  ·rintro i x σ' H' hx ⟨v,rfl,rfl⟩
   obtain ⟨f,hf,rfl,fm,et⟩:=C6 hx
   obtain ⟨n0,n1⟩:=hn (f.2.2.1,f.2.2.2) (mem_map.mpr ⟨f,fm,rfl⟩)
   refine ⟨_,rfl,f.1,_,_,_,rfl,rfl,SqT.of (g f fm).1,rfl,_,rfl,.inr ⟨_,rfl⟩,?_⟩
   rw [show CB (.int f.2.2.2)=true from (by show (decide (1<=f.2.2.2) && decide (f.2.2.2<=1000000000))=true;rw [decide_eq_true n0,decide_eq_true n1];rfl)]
   refine ⟨_,rfl,?_⟩
   exact NA ⟨_,rfl,rfl⟩
  ·rintro σ' H' ⟨v,rfl,rfl⟩
   refine ⟨_,rfl,l,ls,p,rfl,hl,g,hp,p64,fun d kvs H1 hd s1 e1 dk=>?_⟩
   refine ⟨d,kvs,rfl,e1,dk.vd,Nat.lt_of_le_of_lt (dk.len hp) p64,fun l' ls' H2 hl' s2 e2 g2 srt mem l64=>?_⟩
   exact q l' ls' H2 (none_of s1 hl') (s1.trans s2) e2 g2 (dk.sheet (fun q m=>(hn q m).1) srt mem) l64
 ·refine ⟨_,(@Aj _ _ _ _ _ (B1 (QR ⟨rfl,rfl,rfl⟩) rfl (Bm (pv 0)) (AY (i:=1) Ex.nd rfl (Or.inl rfl)) (@Al _ _ _ (@Bj _ _ _ _ _ _ _ _ (@Bv _ _ _ _ (@Br _ _ _ (@Aq _ _ _ _ _ _ _ _ _ _ _ _ _ _ _ _ (Ei T) (hr.mono (by decide)) rfl T.m_is_number T.F_is_number.kp T.b_is_number .nil AF (@Af _ _ _ _ _ (@AN _ _ _ _ _ _ _ B8 (pv 1) Ak (fun _ _=>rfl)) Ah (by rfl)) (by decide) (by rfl) (by rfl)) (by intro _;rfl))) (@Al _ _ _ (GN ⟨rfl,rfl,rfl⟩ rfl rfl T.m_NoSheet T.x_NoSheet (@Af _ _ _ _ _ Hr Ah (by rfl)))) AO))) (@Al _ _ _ (@A9 _ _ _ _ (@Aq _ _ _ _ _ _ _ _ _ _ _ _ _ _ _ _ (D8 T) (hr.mono (by decide)) rfl T.m_sheet_from T.F_sheet_from.kp T.b_sheet_from .nil AF (@Af _ _ _ _ _ (@Aq _ _ _ _ _ _ _ _ _ _ _ _ _ _ _ _ (BM T) (hr.mono (by decide)) rfl T.m_numbers_by_slip T.F_numbers_by_slip.kp T.b_numbers_by_slip .nil AF (@Af _ _ _ _ _ (pv 0) Ah (by rfl)) (by decide) (by rfl) (by rfl)) Ah (by rfl)) (by decide) (by rfl) (by rfl))))),?_⟩
  refine ⟨_,rfl,l,rfl,⟨_,SqL.of hl⟩,BO (xs:=vws ws) (fun i σ' H'=>∃v,σ'=[some (.ref l),v]/\H=H'/\∀q∈ws.take i,CB q.2.2.2=true) ⟨none,rfl,rfl,(fun q m=>nomatch m)⟩ (fun i σ' H' _ ⟨_,_,e,_⟩=>by rw [<- e];exact SqL.of hl) ?_ ?_⟩
  ·rintro i x σ' H' hx ⟨v,rfl,rfl,all⟩
   obtain ⟨f,rfl,fm,et⟩:=PY hx
   obtain ⟨g1,g2,g3⟩:=g f fm
   refine ⟨_,rfl,f.1,_,_,_,rfl,rfl,SqT.of g1,rfl,_,rfl,g3,?_⟩
   refine ⟨_,rfl,?_⟩
   cases c:CB f.2.2.2 with
   | true =>
     refine NA ⟨_,rfl,rfl,fun q m=>?_⟩
     rw [et] at m
     rcases mem_append.mp m with m | m
     ·exact all q m
     ·rw [mem_singleton.mp m];exact c
   | false=>exact Od ⟨say,he H fun _ _ e=>e⟩
  ·rintro σ' H' ⟨v,rfl,rfl,all⟩
   obtain ⟨q0,qm,qf⟩:=bad
   rw [show (vws ws).length=ws.length from length_map ..,take_of_length_le (Nat.le_refl _)] at all
   rw [all q0 qm] at qf
   cases qf
theorem Ml (T:Tx K mg ad):Bd P w K mg base CX0 3 ad.f_code_of ad.d_code_of ["line","hands"] OX:=by
 refine T.F_code_of.ok Ek (fun vs H Q E h=>?_) (fun cdv A outer s H vs Q E hr h=>?_)
 ·obtain ⟨p,t,ts,c,n,rfl,_⟩:=h
  rfl
 obtain ⟨p,t,ts,c,n,rfl,hp,ht,n12,hts,c0,c1,hr12,q⟩:=h
 refine ⟨_,(@Aj _ _ _ _ _ (@A7 _ _ (2) _ _ _ _ Ek.nd rfl (Or.inl rfl) (@AN _ _ _ _ _ _ _ B8 (pv 0) Ak (fun _ _=>rfl)) (by rfl) (by first | exact .inl rfl | exact .inr rfl | assumption)) (@Aj _ _ _ _ _ (B1 PassesOwn.never rfl (Bm (@Aq _ _ _ _ _ _ _ _ _ _ _ _ _ _ _ _ (Gj T) (hr.mono (by decide)) rfl T.m_ranks_of T.F_ranks_of.kp T.b_ranks_of .nil AF (@Af _ _ _ _ _ (@AN _ _ _ _ _ _ _ B8 (pv 0) Ak (fun _ _=>rfl)) (@Af _ _ _ _ _ (pv 1) Ah (by rfl)) (by rfl)) (by decide) (by rfl) (by rfl))) (AY (i:=3) Ek.nd rfl (Or.inl rfl)) (@Al _ _ _ (@A7 _ _ (2) _ _ _ _ Ek.nd rfl (Or.inl rfl) (@Ar _ _ _ _ _ _ _ _ AW (@Ar _ _ _ _ _ _ _ _ BA (pv 2) (B4 (v:=.int 13) rfl T.k_BASE ⟨_,rfl⟩)) (pv 3)) (by rfl) (by first | exact .inl rfl | exact .inr rfl | assumption)))) (@Al _ _ _ (@A9 _ _ _ _ (pv 2))))),?_⟩
 refine ⟨_,rfl,p,_,_,_,rfl,rfl,SqT.of hp,rfl,?_⟩
 refine ⟨_,rfl,p,_,_,_,rfl,rfl,SqT.of hp,rfl,_,rfl,t,ts,n,rfl,ht,n12,hts,fun l H1 hl s1 e1=>?_⟩
 have ln:(By ts n).length=n:=by unfold By;rw [length_map,length_range]
 refine ⟨l,rfl,⟨_,SqL.of e1⟩,BO (xs:=(By ts n).map V.int) (fun i σ' H'=>∃v3,σ'=[some (.ref p),some (.int (n:Int)),some (.int (Ch c ((By ts n).take i))),v3]/\H'=H1) ⟨none,rfl,rfl⟩ (fun i σ' H' _ ⟨_,_,e⟩=>by rw [e];exact SqL.of e1) ?_ ?_⟩
 ·rintro i x σ' H' hx ⟨v3,rfl,rfl⟩
  obtain ⟨z,hz,rfl⟩:=int_at hx
  have et:(By ts n).take (i+1)=(By ts n).take i++[z]:=by rw [take_succ,hz];rfl
  have cl:=JB c0 (show c<=2000000000 by omega) (rs:=(By ts n).take i) (fun r m=>hr12 r (mem_of_mem_take m)) (by rw [length_take];omega)
  have szc:=L6 cl.1 cl.2
  and_intros
  refine ⟨some (.int z),?_,rfl⟩
  rw [et,Ff]
  rfl
 ·rintro σ' H' ⟨v3,rfl,rfl⟩
  rw [length_map,take_of_length_le (Nat.le_refl _)]
  exact ⟨_,rfl,q _ s1⟩
theorem DV (T:Tx K mg ad):Bd P w K mg base CX0 3 ad.f_law_lines ad.d_law_lines ["_law_found","_law_due"] P5:=by
 refine T.F_law_lines.ok J8 (fun vs H Q E h=>?_) (fun cdv A outer s H vs Q E hr h=>?_)
 ·obtain ⟨a,b,ls,ms,rfl,_⟩:=h
  rfl
 obtain ⟨a,b,ls,ms,rfl,ha,hb,g1,g2,e,l9,s12,q⟩:=h
 refine ⟨_,(@Aj _ _ _ _ _ (@Bj _ _ _ _ _ _ _ _ (PW.pt (@CF _ _ _ _ _ _ _ (@Bv _ _ _ _ (@Br _ _ _ (@A6 _ _ _ _ _ _ _ _ _ Cb (by rfl) T.z_isinstance PyProof.Rows.boot_isinstance (@Af _ _ _ _ _ (pv 0) (@Af _ _ _ _ _ (Cn (v:=.ty "list") rfl T.z_list PyProof.Rows.boot_list rfl) Ah (by rfl)) (by rfl)) (by decide) (by decide) (by rfl) (by rfl)) (by intro _;rfl))) (@Cp _ _ _ _ (@AQ _ _ _ _ _ _ _ _ GM (@A6 _ _ _ _ _ _ _ _ _ AG (by rfl) T.z_len PySem.boot_len (@Af _ _ _ _ _ (pv 0) Ah (by rfl)) (by decide) (by decide) (by rfl) (by rfl)) (@A6 _ _ _ _ _ _ _ _ _ AG (by rfl) T.z_len PySem.boot_len (@Af _ _ _ _ _ (pv 1) Ah (by rfl)) (by decide) (by decide) (by rfl) (by rfl)) (AR _))))) (@Al _ _ _ (@A9 _ _ _ _ Bs)) AO) (@Al _ _ _ (@A9 _ _ _ _ (@Cu _ _ _ _ _ _ _ _ C0 (@A6 _ _ _ _ _ _ _ _ _ AG (by rfl) T.z_len PySem.boot_len (@Af _ _ _ _ _ (B3 (fsc:=Am EJ) (N:=["_law_found","_law_due"]) (Nc:=["_law_found","_law_due","_law_k"]) rfl rfl ⟨rfl,by decide +kernel,by decide +kernel,rfl,by decide +kernel,rfl,by decide +kernel,rfl,by decide +kernel⟩ rfl (Bw rfl T.z_range (@Af _ _ _ _ _ (@A6 _ _ _ _ _ _ _ _ _ AG (by rfl) T.z_len PySem.boot_len (@Af _ _ _ _ _ (pv 1) Ah (by rfl)) (by decide) (by decide) (by rfl) (by rfl)) Ah (by rfl))) (fun _ _ _ _=>(Eh (@Bv _ _ _ _ (@Br _ _ _ (@Aq _ _ _ _ _ _ _ _ _ _ _ _ _ _ _ _ (JH T) (hr.mono (by decide)) rfl T.m_law_line T.F_law_line.kp T.b_law_line .nil AF (@Af _ _ _ _ _ (@AN _ _ _ _ _ _ _ (Hd K) (pv 0) (pv 2) (fun _ _=>rfl)) (@Af _ _ _ _ _ (@AN _ _ _ _ _ _ _ (Hd K) (pv 1) (pv 2) (fun _ _=>rfl)) Ah (by rfl)) (by rfl)) (by decide) (by rfl) (by rfl)) (by intro _;rfl))))) (fun _ _ _ _=>(pv 2))) Ah (by rfl)) (by decide) (by decide) (by rfl) (by rfl)) Ak (AR _))))),?_⟩
 have lm:ls.length=ms.length:=by
  have:=congrArg List.length e
  unfold Ao at this
  rw [length_map,length_map] at this
  exact this
 refine ⟨_,rfl,_,_,_,_,rfl,CD.lst ha,Fk,?_⟩
 and_intros
 refine ifF (Ob (by rw [AT,AT,lm])) ?_
 and_intros
 have lv:(vls ms).length=ls.length:=by rw [AT];exact lm.symm
 refine ⟨by omega,by omega,?_⟩
 refine BN (by rw [lv,Int.toNat_natCast];exact Be l9) (fun D i ys H'=>ys=[]/\H' D=some (.lst [])/\AJ H H') (fun D hD=>⟨rfl,Ag,Ai hD _⟩) (fun D i ys H' ⟨f1,f2,_⟩=>⟨by rw [f1];exact f2,by rw [f1];exact Nat.zero_le _⟩) ?_ ?_
 ·rintro D i ys H' K1 K2 hD hi ⟨rfl,f2,f3⟩ k1 k2
  rw [lv,Int.toNat_natCast] at hi
  obtain ⟨f,hf⟩:∃f,ls[i]?=some f:=⟨_,List.getElem?_eq_getElem hi⟩
  obtain ⟨g,hg⟩:∃g,ms[i]?=some g:=⟨_,List.getElem?_eq_getElem (by omega)⟩
  have fg:(f.2.2.1,f.2.2.2)=(g.2.2.1,g.2.2.2):=by
   have e1:(Ao ls)[i]?=some (f.2.2.1,f.2.2.2):=by unfold Ao;rw [List.getElem?_map,hf];rfl
   have e2:(Ao ms)[i]?=some (g.2.2.1,g.2.2.2):=by unfold Ao;rw [List.getElem?_map,hg];rfl
   rw [e,e2] at e1
   exact (Option.some.inj e1).symm
  injection fg with fg1 fg2
  obtain ⟨a1,a2⟩:=g1 f (mem_of_getElem? hf)
  obtain ⟨b1,b2⟩:=g2 g (mem_of_getElem? hg)
  rw [<- fg2] at b1
  rw [<- fg1] at b2
  and_intros
  refine ⟨a,_,_,_,rfl,rfl,SqL.of (f3 _ _ ha),(by rw [Int.zero_add];exact BE (by unfold vls;rw [List.getElem?_map,hf];rfl)),?_⟩
  and_intros
  refine ⟨b,_,_,_,rfl,rfl,SqL.of (f3 _ _ hb),(by rw [Int.zero_add];exact BE (by unfold vls;rw [List.getElem?_map,hg];rfl)),?_⟩
  refine ⟨f.1,g.1,f.2.1,g.2.1,f.2.2.1,f.2.2.2,rfl,s12 f (mem_of_getElem? hf),f3 _ _ a1,f3 _ _ a2,f3 _ _ b1,f3 _ _ b2,fun H5 s5=>?_⟩
  refine ⟨_,rfl,?_⟩
  exact ifF rfl (k2 _ ⟨rfl,s5 _ _ f2,f3.trans s5⟩)
 ·rintro D ys H' hD ⟨rfl,f2,f3⟩
  refine ⟨D,_,rfl,.inl (SqL.of f2),?_⟩
  and_intros
  exact q _ f3
theorem Ht (T:Tx K mg ad):Bd P w K mg base CX0 3 ad.f_law_bundles ad.d_law_bundles ["_law_script","_law_hands"] (Nu K):=by
 refine T.F_law_bundles.ok Bz (fun vs H Q E h=>?_) (fun cdv A outer s H vs Q E hr h=>?_)
 ·obtain ⟨s',ns,n,rfl,_⟩:=h
  rfl
 obtain ⟨s',ns,n,rfl,hS,h63,n1,n12,q⟩:=h
 refine ⟨_,(@Aj _ _ _ _ _ (FO (j:=2) (fsc:=Am C7) (N:=["_law_script","_law_hands","_law_cells","_law_many_here","_law_bundles_here","_law_k","_law_number","_law_line_here"]) (Nc:=["_law_script","_law_hands","_law_cells","_law_many_here","_law_bundles_here",".s5","_law_number","_law_line_here","_law_k"]) rfl rfl ⟨rfl,by decide +kernel,by decide +kernel,rfl,by decide +kernel,rfl,by decide +kernel,rfl,by decide +kernel⟩ rfl Bz.nd rfl rfl (IA rfl T.z_range (@Af _ _ _ _ _ Ak (@Af _ _ _ _ _ (@A6 _ _ _ _ _ _ _ _ _ (FS rfl) (by rfl) T.z_max PyProof.Rows.boot_max (@Af _ _ _ _ _ Ak (@Af _ _ _ _ _ (@A6 _ _ _ _ _ _ _ _ _ (NK rfl) (by rfl) T.z_min PyProof.Rows.boot_min (@Af _ _ _ _ _ (@A6 _ _ _ _ _ _ _ _ _ AG (by rfl) T.z_len PySem.boot_len (@Af _ _ _ _ _ (pv 0) Ah (by rfl)) (by decide) (by decide) (by rfl) (by rfl)) (@Af _ _ _ _ _ Ak Ah (by rfl)) (by rfl)) (by decide) (by decide) (by rfl) (by rfl)) Ah (by rfl)) (by rfl)) (by decide) (by decide) (by rfl) (by rfl)) Ah (by rfl)) (by rfl))) (fun _ _ _ _=>B7) (fun _ _ _ _=>(@Aq _ _ _ _ _ _ _ _ _ _ _ _ _ _ _ _ (Cs T) (hr.mono (by decide)) rfl T.m_law_cell T.F_law_cell.kp T.b_law_cell .nil AF (@Af _ _ _ _ _ (pv 0) (@Af _ _ _ _ _ (pv 8) Ah (by rfl)) (by rfl)) (by decide) (by rfl) (by rfl))) rfl) (@Aj _ _ _ _ _ (@A7 _ _ (3) _ _ _ _ Bz.nd rfl (Or.inl rfl) (@Ar _ _ _ _ _ _ _ _ AW Ak (@Ar _ _ _ _ _ _ _ _ Ba (@Aq _ _ _ _ _ _ _ _ _ _ _ _ _ _ _ _ (Cs T) (hr.mono (by decide)) rfl T.m_law_cell T.F_law_cell.kp T.b_law_cell .nil AF (@Af _ _ _ _ _ (pv 0) (@Af _ _ _ _ _ Ak Ah (by rfl)) (by rfl)) (by decide) (by rfl) (by rfl)) Ak)) (by rfl) (by first | exact .inl rfl | exact .inr rfl | assumption)) (@Aj _ _ _ _ _ (FO (j:=4) (fsc:=Am C7) (N:=["_law_script","_law_hands","_law_cells","_law_many_here","_law_bundles_here","_law_k","_law_number","_law_line_here"]) (Nc:=["_law_script","_law_hands","_law_cells","_law_many_here","_law_bundles_here",".s5","_law_number","_law_line_here","_law_k"]) rfl rfl ⟨rfl,by decide +kernel,by decide +kernel,rfl,by decide +kernel,rfl,by decide +kernel,rfl,by decide +kernel⟩ rfl Bz.nd rfl rfl (Bw rfl T.z_range (@Af _ _ _ _ _ (pv 3) Ah (by rfl))) (fun _ _ _ _=>B7) (fun _ _ _ _=>(@AV _ _ _ _ Ah)) rfl) (@Aj _ _ _ _ _ (B1 PassesOwn.never rfl (Bw rfl T.z_range (@Af _ _ _ _ _ (@A6 _ _ _ _ _ _ _ _ _ AG (by rfl) T.z_len PySem.boot_len (@Af _ _ _ _ _ (pv 2) Ah (by rfl)) (by decide) (by decide) (by rfl) (by rfl)) Ah (by rfl))) (AY (i:=5) Bz.nd rfl (Or.inl rfl)) (@Aj _ _ _ _ _ (@A7 _ _ (6) _ _ _ _ Bz.nd rfl (Or.inl rfl) (@Aq _ _ _ _ _ _ _ _ _ _ _ _ _ _ _ _ (BI T) (hr.mono (by decide)) rfl T.m_law_mixed T.F_law_mixed.kp T.b_law_mixed .nil AF (@Af _ _ _ _ _ (@AN _ _ _ _ _ _ _ AI (pv 2) (pv 5) (fun _ _=>rfl)) (@Af _ _ _ _ _ (@Ar _ _ _ _ _ _ _ _ AW (pv 5) Ak) Ah (by rfl)) (by rfl)) (by decide) (by rfl) (by rfl)) (by rfl) (by first | exact .inl rfl | exact .inr rfl | assumption)) (@Aj _ _ _ _ _ (@A7 _ _ (7) _ _ _ _ Bz.nd rfl (Or.inl rfl) (@AZ _ _ _ _ _ (@Af _ _ _ _ _ (@Aq _ _ _ _ _ _ _ _ _ _ _ _ _ _ _ _ (Gx T) (hr.mono (by decide)) rfl T.m_law_slip T.F_law_slip.kp T.b_law_slip .nil AF (@Af _ _ _ _ _ (@Aq _ _ _ _ _ _ _ _ _ _ _ _ _ _ _ _ (FD T) (hr.mono (by decide)) rfl T.m_law_ranks T.F_law_ranks.kp T.b_law_ranks .nil AF (@Af _ _ _ _ _ (@AN _ _ _ _ _ _ _ AI (pv 2) (pv 5) (fun _ _=>rfl)) (@Af _ _ _ _ _ (pv 1) Ah (by rfl)) (by rfl)) (by decide) (by rfl) (by rfl)) Ah (by rfl)) (by decide) (by rfl) (by rfl)) (@Af _ _ _ _ _ (@Aq _ _ _ _ _ _ _ _ _ _ _ _ _ _ _ _ (Kc T) (hr.mono (by decide)) rfl T.m_law_many T.F_law_many.kp T.b_law_many .nil AF (@Af _ _ _ _ _ (@AN _ _ _ _ _ _ _ AI (pv 2) (pv 5) (fun _ _=>rfl)) (@Af _ _ _ _ _ (pv 5) Ah (by rfl)) (by rfl)) (by decide) (by rfl) (by rfl)) Ah (by rfl)) (by rfl))) (by rfl) (by first | exact .inl rfl | exact .inr rfl | assumption)) (@Aj _ _ _ _ _ (@BU _ _ _ _ (DR PySem.F.plainAttrs_list PySem.F.slot_list_append PySem.F.type_list_append BR (@AN _ _ _ _ _ _ _ AI (pv 4) (@Ar _ _ _ _ _ _ _ _ Ba (pv 6) (pv 3)) (fun _ _=>rfl)) (@Af _ _ _ _ _ (pv 7) Ah (by rfl))) (by rfl)) (@Al _ _ _ (@Lf _ _ _ _ _ _ _ _ (@AQ _ _ _ _ _ _ _ _ C0 (@Ar _ _ _ _ _ _ _ _ Ba (@Ar _ _ _ _ _ _ _ _ Bf (pv 6) Ak) Ak) Ak (AR _)) (@Al _ _ _ (@BU _ _ _ _ (DR PySem.F.plainAttrs_list PySem.F.slot_list_append PySem.F.type_list_append BR (@AN _ _ _ _ _ _ _ AI (pv 4) (@Ar _ _ _ _ _ _ _ _ Ba (@Ar _ _ _ _ _ _ _ _ Bf (pv 6) Ak) (pv 3)) (fun _ _=>rfl)) (@Af _ _ _ _ _ (@AZ _ _ _ _ _ (@Af _ _ _ _ _ (@AN _ _ _ _ _ _ _ B8 (pv 7) Ak (fun _ _=>rfl)) (@Af _ _ _ _ _ (@Ar _ _ _ _ _ _ _ _ AW Ak (@Ar _ _ _ _ _ _ _ _ Ba (@Ar _ _ _ _ _ _ _ _ Bf (pv 6) Ak) Ak)) Ah (by rfl)) (by rfl))) Ah (by rfl))) (by rfl))) AO)))))) (@Al _ _ _ (@A9 _ _ _ _ (pv 4))))))),?_⟩
 have hl':(ns.map V.int).length=ns.length:=length_map _
 and_intros
 refine ⟨s',_,rfl,.inl hS,?_⟩
 and_intros
 refine ⟨_,_,rfl,_,_,rfl,?_⟩
 have hM:6<=(if (if 42 < ((ns.map V.int).length:Int) then 42 else ((ns.map V.int).length:Int)) > 6 then (if 42 < ((ns.map V.int).length:Int) then 42 else ((ns.map V.int).length:Int)) else 6)/\(if (if 42 < ((ns.map V.int).length:Int) then 42 else ((ns.map V.int).length:Int)) > 6 then (if 42 < ((ns.map V.int).length:Int) then 42 else ((ns.map V.int).length:Int)) else 6)<=42:=by
  split <;> split at*<;> omega
 generalize (if (if 42 < ((ns.map V.int).length:Int) then 42 else ((ns.map V.int).length:Int)) > 6 then (if 42 < ((ns.map V.int).length:Int) then 42 else ((ns.map V.int).length:Int)) else 6)=M at hM ⊢
 refine ⟨2,M,rfl,⟨by decide,by decide,by omega,by omega⟩,?_⟩
 refine BN (B0 (by omega)) (fun D i ys H'=>∃zs:List Int,ys=zs.map V.int/\zs.length=i/\H'=upd H D (.lst ys)/\∀z∈zs,0<=z/\z < 10 ^ 40) (fun D hD=>⟨[],rfl,rfl,rfl,fun _ m=>nomatch m⟩) (fun D i ys H' ⟨zs,f1,f2,f3,_⟩=>⟨by rw [f3];exact Ag,by rw [f1,length_map];omega⟩) ?_ ?_
 ·rintro D i ys H' K1 K2 hD hi ⟨zs,rfl,f2,rfl,f4⟩ k1 k2
  refine yes (ifT rfl ?_)
  and_intros
  refine ⟨s',ns,2+(i:Int),rfl,(Ai hD _).seq hS,h63,by omega,by omega,fun z z0 z1=>?_⟩
  refine k1 _ _ Ag ⟨zs++[z],by rw [map_append];rfl,by rw [length_append,f2];rfl,by rw [Cz],fun y m=>?_⟩
  rcases mem_append.mp m with m | m
  ·exact f4 y m
  ·rw [mem_singleton.mp m]
   exact ⟨z0,z1⟩
 rintro D ys H1 hD ⟨zs,rfl,f2,rfl,f4⟩
 have zl:zs.length<=40:=by omega
 have s1:=Ai hD (.lst (zs.map V.int))
 have e1:(upd H D (.lst (zs.map V.int))) D=some (.lst (zs.map V.int)):=Ag
 generalize upd H D (.lst (zs.map V.int))=H1 at s1 e1 ⊢
 and_intros
 refine ⟨s',ns,1,rfl,s1.seq hS,h63,by decide,by decide,fun c c0 c1=>?_⟩
 have m5:=Bh c (show (0:Int) < 5 by decide)
 and_intros
 dsimp only
 obtain ⟨mb,emb,mb1,mb5⟩:∃mb:Nat,1+c.fmod 5=(mb:Int)/\1<=mb/\mb<=5:=⟨(1+c.fmod 5).toNat,by omega,by omega,by omega⟩
 rw [emb]
 refine ⟨by omega,by omega,?_⟩
 refine BN (B0 (by omega)) (fun D i ys H'=>∃bs:List (Addr × Ls),ys=(bs.map fun x=>V.ref x.1)/\bs.length=i/\H' D=some (.lst ys)/\AJ H1 H'/\Bun H1 H' n [] bs/\(∀x∈bs,x.2.length<=0)/\∀x∈bs,x.1≠D) (fun D hD=>⟨[],rfl,rfl,Ag,Ai hD _,⟨(fun _ m=>nomatch m),(fun _ m=>nomatch m),nodup_nil,(fun _ m=>nomatch m)⟩,(fun _ m=>nomatch m),(fun _ m=>nomatch m)⟩) (fun D i ys H' ⟨bs,g1,g2,g3,_⟩=>⟨g3,by rw [g1,length_map];omega⟩) ?_ ?_
 ·rintro D2 i ys H' K1 K2 hD2 hi ⟨bs,rfl,g2,g3,g4,g5,g6,g7⟩ k1 k2
  refine yes (ifT rfl ?_)
  refine ⟨(by show 0<=sizeLine;decide),fun nl hnl=>?_⟩
  have s2:=Ai hnl (.lst [])
  have nD:nl≠D2:=fun z=>by rw [z,g3] at hnl;cases hnl
  have nb:∀x∈bs,x.1≠nl:=fun x m z=>by have:=(g5.lies x m).1;rw [z,hnl] at this;cases this
  refine k1 _ _ (s2 _ _ g3) ⟨bs++[(nl,[])],by rw [map_append];rfl,by rw [length_append,g2];rfl,Ag,AS (g4.trans s2) hD2,⟨fun x m=>?_,fun x m=>?_,?_,fun x m=>?_⟩,fun x m=>?_,fun x m=>?_⟩
  ·rcases mem_append.mp m with m | m
   ·exact ⟨by rw [A8 (g7 x m)];exact s2 _ _ (g5.lies x m).1,((g5.lies x m).2.same s2).upd (s2 _ _ g3)⟩
   ·rw [mem_singleton.mp m]
    exact ⟨by rw [A8 nD];exact Ag,fun _ k=>nomatch k⟩
  ·rcases mem_append.mp m with m | m
   ·exact g5.ok x m
   ·rw [mem_singleton.mp m]
    exact fun _ k=>nomatch k
  ·rw [map_append,nodup_append]
   refine ⟨g5.nd,nodup_cons.mpr ⟨(fun k=>nomatch k),nodup_nil⟩,fun a am b bm=>?_⟩
   obtain ⟨x,xm,rfl⟩:=mem_map.mp am
   rw [mem_singleton.mp bm]
   exact nb x xm
  ·rcases mem_append.mp m with m | m
   ·exact g5.new x m
   ·rw [mem_singleton.mp m]
    exact none_of g4 hnl
  ·rcases mem_append.mp m with m | m
   ·exact g6 x m
   ·rw [mem_singleton.mp m]
    exact Nat.le_refl _
  ·rcases mem_append.mp m with m | m
   ·exact g7 x m
   ·rw [mem_singleton.mp m]
    exact nD
 rintro B ys H2 hB ⟨bs,rfl,g2,g3,g4,g5,g6,g7⟩
 rw [Int.toNat_natCast] at g2
 have eD2:=g4 _ _ e1
 and_intros
 have zl':(zs.map V.int).length=zs.length:=length_map _
 refine ⟨by omega,by omega,C5 (fun i σ' J=>∃(v5 v6 v7:Option V) (bs:List (Addr × Ls)) (p:List (List Int)),σ'=[some (.ref s'),some (.int (n:Int)),some (.ref D),some (.int (mb:Int)),some (.ref B),v5,v6,v7]/\AJ H1 J/\J B=some (.lst (bs.map fun x=>V.ref x.1))/\Bun H1 J n p bs/\p.length<=i/\bs.length=mb/\(∀x∈bs,x.2.length<=2*(i))/\∀x∈bs,x.1≠B) ⟨none,none,none,bs,[],rfl,g4,g3,g5,Nat.le_refl _,g2,g6,g7⟩ ?_ ?_⟩
 ·rintro i σ' J hi ⟨v5,v6,v7,bs,p,rfl,sJ,eB,bu,pi,bl,bn,bB⟩
  rw [zl',Int.toNat_natCast] at hi
  obtain ⟨z,hz⟩:∃z:Int,zs[i]?=some z:=⟨_,List.getElem?_eq_getElem hi⟩
  obtain ⟨z0,z1⟩:=f4 z (mem_of_getElem? hz)
  have hat:atI (zs.map V.int) (0+(i:Int))=some (.int z):=by rw [Int.zero_add];exact atN hz
  and_intros
  refine ⟨D,_,_,_,rfl,rfl,SqL.of (sJ _ _ e1),hat,?_⟩
  and_intros
  refine ⟨z,0+(i:Int)+90,rfl,L6 z0 z1,Dq (by omega) (by omega),fun y y0 y1=>?_⟩
  have szy:=RN y0 y1
  and_intros
  refine ⟨D,_,_,_,rfl,rfl,SqL.of (sJ _ _ e1),hat,?_⟩
  and_intros
  refine ⟨z,n,rfl,z0,z1,n1,n12,fun l rs m J1 hl sj1 ej1 ln gp r12=>?_⟩
  and_intros
  refine ⟨l,rs,m,rfl,ej1,by omega,by omega,r12,gp,fun t J2 sj2 et=>?_⟩
  have sA:=sj1.trans sj2
  and_intros
  refine ⟨D,_,_,_,rfl,rfl,SqL.of ((sJ.trans sA) _ _ e1),hat,?_⟩
  and_intros
  refine ⟨z,0+(i:Int),rfl,z0,z1,by omega,by omega,fun y' J3 y1' y9' sj3=>?_⟩
  refine ⟨(by show 2<=sizeLine;decide),fun tl htl=>?_⟩
  have sj4:=Ai htl (.tup [V.ref t,V.int y'])
  have etl:(upd J3 tl (.tup [V.ref t,V.int y'])) tl=some (.tup [V.ref t,V.int y']):=Ag
  generalize upd J3 tl (.tup [V.ref t,V.int y'])=J4 at sj4 etl ⊢
  have sB:=(sA.trans sj3).trans sj4
  have et4:=(sj3.trans sj4) _ _ et
  have okS:OkS n (Av rs):=⟨rs,m,rfl,ln,gp,r12⟩
  have my:=Bh y (show (0:Int) < (mb:Int) by omega)
  obtain ⟨j,hj⟩:∃j:Nat,y.fmod (mb:Int)=(j:Int):=⟨(y.fmod (mb:Int)).toNat,by omega⟩
  obtain ⟨x,ex⟩:∃x,bs[j]?=some x:=⟨_,List.getElem?_eq_getElem (by omega)⟩
  have xm:=mem_of_getElem? ex
  have eB4:=sB _ _ eB
  have bu4:=bu.same sB
  and_intros
  refine ⟨by show (_:Int)≠0;omega,?_⟩
  refine ⟨B,_,_,_,rfl,rfl,SqL.of eB4,(by rw [hj];exact BE (by rw [List.getElem?_map,ex];rfl)),?_⟩
  refine ⟨.inl ⟨rfl,_,SqL.of (bu4.lies x xm).1⟩,?_⟩
  and_intros
  refine ⟨x.1,_,_,rfl,rfl,(bu4.lies x xm).1,(by rw [AT];have:=bn x xm;exact Bq (by omega)),?_⟩
  have bu5:Bun H1 (upd J4 x.1 (.lst (vls x.2++[V.ref tl]))) n (p++[Av rs]) (bs.set j (x.1,x.2++[(tl,t,Av rs,y')])):=by
   have:=bu4.push (p':=p++[Av rs]) (q:=(tl,t,Av rs,y')) ex (fun z m=>mem_append_left _ m) etl et4 ⟨mem_append_right _ (mem_singleton.mpr rfl),y1',y9',okS⟩
   rw [B9] at this
   exact this
  have sJ5:AJ H1 (upd J4 x.1 (.lst (vls x.2++[V.ref tl]))):=AS (sJ.trans sB) (bu4.new x (mem_of_getElem? ex))
  have eB5:(upd J4 x.1 (.lst (vls x.2++[V.ref tl]))) B=some (.lst ((bs.set j (x.1,x.2++[(tl,t,Av rs,y')])).map fun x=>V.ref x.1)):=by rw [A8 (Ne.symm (bB x (mem_of_getElem? ex))),JI ex];exact eB4
  have bn5:=MF (q:=(tl,t,Av rs,y')) ex bn
  have bB5:=O0 (l:=x.2++[(tl,t,Av rs,y')]) ex bB
  have bl5:(bs.set j (x.1,x.2++[(tl,t,Av rs,y')])).length=mb:=by rw [length_set];exact bl
  have g15:(upd J4 x.1 (.lst (vls x.2++[V.ref tl]))) tl=some (.tup [V.ref t,V.int y']):=by rw [A8 (CO etl (bu4.lies x (mem_of_getElem? ex)).1 (fun z=>nomatch z))];exact etl
  have g25:(upd J4 x.1 (.lst (vls x.2++[V.ref tl]))) t=some (.tup ((Av rs).map V.int)):=by rw [A8 (CO et4 (bu4.lies x (mem_of_getElem? ex)).1 (fun z=>nomatch z))];exact et4
  generalize upd J4 x.1 (.lst (vls x.2++[V.ref tl]))=J5 at bu5 sJ5 eB5 g15 g25 ⊢
  generalize bs.set j (x.1,x.2++[(tl,t,Av rs,y')])=bs5 at bu5 eB5 bn5 bB5 bl5
  and_intros
  refine ⟨fun σ' J=>∃(v5 v6 v7:Option V) (bs:List (Addr × Ls)) (p:List (List Int)),σ'=[some (.ref s'),some (.int (n:Int)),some (.ref D),some (.int (mb:Int)),some (.ref B),v5,v6,v7]/\AJ H1 J/\J B=some (.lst (bs.map fun x=>V.ref x.1))/\Bun H1 J n p bs/\p.length<=i+1/\bs.length=mb/\(∀x∈bs,x.2.length<=2*(i+1))/\∀x∈bs,x.1≠B,?_,?_⟩
  ·and_intros
   refine G6 (fun _=>?_) (fun _=>?_)
   ·and_intros
    have my2:=Bh (y.fdiv 512) (show (0:Int) < (mb:Int) by omega)
    have m99:=Bh (y.fdiv 4096) (show (0:Int) < 99 by decide)
    obtain ⟨j2,hj2⟩:∃j:Nat,(y.fdiv 512).fmod (mb:Int)=(j:Int):=⟨((y.fdiv 512).fmod (mb:Int)).toNat,by omega⟩
    obtain ⟨x2,ex2⟩:∃x,bs5[j2]?=some x:=⟨_,List.getElem?_eq_getElem (by omega)⟩
    have xm2:=mem_of_getElem? ex2
    refine ⟨by show (_:Int)≠0;omega,?_⟩
    refine ⟨B,_,_,_,rfl,rfl,SqL.of eB5,(by rw [hj2];exact BE (by rw [List.getElem?_map,ex2];rfl)),?_⟩
    refine ⟨.inl ⟨rfl,_,SqL.of (bu5.lies x2 xm2).1⟩,?_⟩
    and_intros
    refine ⟨(by show 2<=sizeLine;decide),fun tm htm=>?_⟩
    have sj6:=Ai htm (.tup [V.ref t,V.int (1+(y.fdiv 4096).fmod 99)])
    have etm:(upd J5 tm (.tup [V.ref t,V.int (1+(y.fdiv 4096).fmod 99)])) tm=some (.tup [V.ref t,V.int (1+(y.fdiv 4096).fmod 99)]):=Ag
    generalize upd J5 tm (.tup [V.ref t,V.int (1+(y.fdiv 4096).fmod 99)])=J6 at sj6 etm ⊢
    have bu6:=bu5.same sj6
    refine ⟨x2.1,_,_,rfl,rfl,(bu6.lies x2 xm2).1,(by rw [AT];have:=bn5 x2 xm2;exact Bq (by omega)),?_⟩
    have bu7:Bun H1 (upd J6 x2.1 (.lst (vls x2.2++[V.ref tm]))) n (p++[Av rs]) (bs5.set j2 (x2.1,x2.2++[(tm,t,Av rs,1+(y.fdiv 4096).fmod 99)])):=by
     have:=bu6.push (p':=p++[Av rs]) (q:=(tm,t,Av rs,1+(y.fdiv 4096).fmod 99)) ex2 (fun z m=>m) etm (sj6 _ _ g25) ⟨mem_append_right _ (mem_singleton.mpr rfl),by show 1<=1+(y.fdiv 4096).fmod 99;omega,by show 1+(y.fdiv 4096).fmod 99<=1000000000;omega,okS⟩
     rw [B9] at this
     exact this
    have sJ7:AJ H1 (upd J6 x2.1 (.lst (vls x2.2++[V.ref tm]))):=AS (sJ5.trans sj6) (bu6.new x2 (mem_of_getElem? ex2))
    have eB7:(upd J6 x2.1 (.lst (vls x2.2++[V.ref tm]))) B=some (.lst ((bs5.set j2 (x2.1,x2.2++[(tm,t,Av rs,1+(y.fdiv 4096).fmod 99)])).map fun x=>V.ref x.1)):=by rw [A8 (Ne.symm (bB5 x2 (mem_of_getElem? ex2))),JI ex2];exact (sj6 _ _ eB5)
    have bn7:=MF (q:=(tm,t,Av rs,1+(y.fdiv 4096).fmod 99)) ex2 bn5
    have bB7:=O0 (l:=x2.2++[(tm,t,Av rs,1+(y.fdiv 4096).fmod 99)]) ex2 bB5
    have bl7:(bs5.set j2 (x2.1,x2.2++[(tm,t,Av rs,1+(y.fdiv 4096).fmod 99)])).length=mb:=by rw [length_set];exact bl5
    generalize upd J6 x2.1 (.lst (vls x2.2++[V.ref tm]))=J7 at bu7 sJ7 eB7 ⊢
    generalize bs5.set j2 (x2.1,x2.2++[(tm,t,Av rs,1+(y.fdiv 4096).fmod 99)])=bs7 at bu7 eB7 bn7 bB7 bl7
    exact ⟨_,_,_,bs7,p++[Av rs],rfl,sJ7,eB7,bu7,by rw [length_append];show _+1<=_;omega,bl7,(fun x m=>by have:=bn7 x m;omega),bB7⟩
   ·exact ⟨_,_,_,bs5,p++[Av rs],rfl,sJ5,eB5,bu5,by rw [length_append];show _+1<=_;omega,bl5,(fun x m=>by have:=bn5 x m;omega),bB5⟩
  ·exact fun _ _ z=>z
 ·rintro σ' J ⟨v5,v6,v7,bs,p,rfl,sJ,eB,bu,pi,bl,bn,bB⟩
  rw [zl',Int.toNat_natCast] at pi bn
  exact ⟨_,rfl,q B bs p J (s1.trans sJ) eB ⟨bu.lies,bu.ok,bu.nd,fun x m=>none_of s1 (bu.new x m)⟩ (by omega) (by omega) (fun x m=>by have:=bn x m;omega)⟩
theorem DQ (T:Tx K mg ad):Bd P w K mg base CX0 3 ad.f_law_new_lines ad.d_law_new_lines ["_law_lines_here","_law_cell_here","_law_hands"] Rh:=by
 refine T.F_law_new_lines.ok Bc (fun vs H Q E h=>?_) (fun cdv A outer s H vs Q E hr h=>?_)
 ·obtain ⟨l,z,n,ls,p,rfl,_⟩:=h
  rfl
 obtain ⟨l,z,n,ls,p,rfl,hl,g,ok,l90,n1,n12,z0,z1,q⟩:=h
 refine ⟨_,(@Aj _ _ _ _ _ (@A7 _ _ (3) _ _ _ _ Bc.nd rfl (Or.inl rfl) (@Aq _ _ _ _ _ _ _ _ _ _ _ _ _ _ _ _ (BI T) (hr.mono (by decide)) rfl T.m_law_mixed T.F_law_mixed.kp T.b_law_mixed .nil AF (@Af _ _ _ _ _ (pv 1) (@Af _ _ _ _ _ Ak Ah (by rfl)) (by rfl)) (by decide) (by rfl) (by rfl)) (by rfl) (by first | exact .inl rfl | exact .inr rfl | assumption)) (@Aj _ _ _ _ _ (@A7 _ _ (4) _ _ _ _ Bc.nd rfl (Or.inl rfl) (Hj rfl (by rfl) T.z_list (by rfl) T.z_reversed (pv 0)) (by rfl) (by first | exact .inl rfl | exact .inr rfl | assumption)) (@Aj _ _ _ _ _ (@Bj _ _ _ _ _ _ _ _ (PW.pt (@CF _ _ _ _ _ _ _ (@AQ _ _ _ _ _ _ _ _ (D6 (K:=K) hr.units) (pv 0) (@AV _ _ _ _ Ah) (AR _)) (@Cp _ _ _ _ (@AQ _ _ _ _ _ _ _ _ C0 (@Ar _ _ _ _ _ _ _ _ Ba (pv 3) Ak) Ak (AR _))))) (@Al _ _ _ (@A9 _ _ _ _ (pv 4))) AO) (@Aj _ _ _ _ _ (@A7 _ _ (5) _ _ _ _ Bc.nd rfl (Or.inl rfl) (@Ar _ _ _ _ _ _ _ _ Ba (@Ar _ _ _ _ _ _ _ _ Bf (pv 3) Ak) (@A6 _ _ _ _ _ _ _ _ _ AG (by rfl) T.z_len PySem.boot_len (@Af _ _ _ _ _ (pv 0) Ah (by rfl)) (by decide) (by decide) (by rfl) (by rfl))) (by rfl) (by first | exact .inl rfl | exact .inr rfl | assumption)) (@Aj _ _ _ _ _ (CV (@AN _ _ _ _ _ _ _ AI (pv 4) (pv 5) (fun _ _=>rfl)) (DH rfl (Bl (AY (i:=6) Bc.nd rfl (Or.inl rfl)) (Bl (AY (i:=7) Bc.nd rfl (Or.inl rfl)) C9)))) (@Aj _ _ _ _ _ (@A7 _ _ (8) _ _ _ _ Bc.nd rfl (Or.inl rfl) (@AN _ _ _ _ _ _ _ AI (@AV _ _ _ _ (@Af _ _ _ _ _ (pv 7) (@Af _ _ _ _ _ (@Ar _ _ _ _ _ _ _ _ AW Ak (@Ar _ _ _ _ _ _ _ _ Ba (@Ar _ _ _ _ _ _ _ _ Bf (pv 3) Ak) (pv 7))) Ah (by rfl)) (by rfl))) (@Ar _ _ _ _ _ _ _ _ Ba (@Ar _ _ _ _ _ _ _ _ Bf (pv 3) Ak) Ak) (fun _ _=>rfl)) (by rfl) (by first | exact .inl rfl | exact .inr rfl | assumption)) (@Aj _ _ _ _ _ (@A7 _ _ (9) _ _ _ _ Bc.nd rfl (Or.inl rfl) (@Aq _ _ _ _ _ _ _ _ _ _ _ _ _ _ _ _ (Gx T) (hr.mono (by decide)) rfl T.m_law_slip T.F_law_slip.kp T.b_law_slip .nil AF (@Af _ _ _ _ _ (@Aq _ _ _ _ _ _ _ _ _ _ _ _ _ _ _ _ (FD T) (hr.mono (by decide)) rfl T.m_law_ranks T.F_law_ranks.kp T.b_law_ranks .nil AF (@Af _ _ _ _ _ (@Ar _ _ _ _ _ _ _ _ Bf (pv 3) Ak) (@Af _ _ _ _ _ (pv 2) Ah (by rfl)) (by rfl)) (by decide) (by rfl) (by rfl)) Ah (by rfl)) (by decide) (by rfl) (by rfl)) (by rfl) (by first | exact .inl rfl | exact .inr rfl | assumption)) (@Aj _ _ _ _ _ (CV (@AZ _ _ _ _ _ (@Af _ _ _ _ _ (pv 9) (@Af _ _ _ _ _ (pv 8) Ah (by rfl)) (by rfl))) (D9 (pv 4) (pv 5) Cm)) (@Aj _ _ _ _ _ (@Lf _ _ _ _ _ _ _ _ (@AQ _ _ _ _ _ _ _ _ Na (pv 8) (pv 7) (AR _)) (@Al _ _ _ (@BU _ _ _ _ (DR PySem.F.plainAttrs_list PySem.F.slot_list_insert PySem.F.type_list_insert Oj (pv 4) (@Af _ _ _ _ _ (@Ar _ _ _ _ _ _ _ _ Ba (@Ar _ _ _ _ _ _ _ _ Bf (pv 3) Ak) (@A6 _ _ _ _ _ _ _ _ _ AG (by rfl) T.z_len PySem.boot_len (@Af _ _ _ _ _ (pv 0) Ah (by rfl)) (by decide) (by decide) (by rfl) (by rfl))) (@Af _ _ _ _ _ (@AZ _ _ _ _ _ (@Af _ _ _ _ _ (pv 6) (@Af _ _ _ _ _ (@Ar _ _ _ _ _ _ _ _ Di (pv 7) (pv 8)) Ah (by rfl)) (by rfl))) Ah (by rfl)) (by rfl))) (by rfl))) AO) (@Aj _ _ _ _ _ (@Bj _ _ _ _ _ _ _ _ (PW.pt (@LM _ _ _ _ _ _ _ (@AQ _ _ _ _ _ _ _ _ HZ (pv 8) Ak (AR _)) (@Ng _ _ _ _ (@AQ _ _ _ _ _ _ _ _ C0 (@Ar _ _ _ _ _ _ _ _ Ba (pv 3) Ak) Ak (AR _))))) (@Aj _ _ _ _ _ (@A7 _ _ (10) _ _ _ _ Bc.nd rfl (Or.inl rfl) (DR PySem.F.plainAttrs_list PySem.F.slot_list_index PySem.F.type_list_index (NY (K:=K) hr.units) (pv 4) (@Af _ _ _ _ _ (@AZ _ _ _ _ _ (@Af _ _ _ _ _ (pv 9) (@Af _ _ _ _ _ (pv 8) Ah (by rfl)) (by rfl))) Ah (by rfl))) (by rfl) (by first | exact .inl rfl | exact .inr rfl | assumption)) (@Aj _ _ _ _ _ (CV (@AZ _ _ _ _ _ (@Af _ _ _ _ _ (pv 9) (@Af _ _ _ _ _ (@Ar _ _ _ _ _ _ _ _ Di (pv 8) Ak) Ah (by rfl)) (by rfl))) (D9 (pv 4) (pv 10) Cm)) (@Al _ _ _ (@BU _ _ _ _ (DR PySem.F.plainAttrs_list PySem.F.slot_list_append PySem.F.type_list_append BR (pv 4) (@Af _ _ _ _ _ (@AZ _ _ _ _ _ (@Af _ _ _ _ _ (pv 9) (@Af _ _ _ _ _ Ak Ah (by rfl)) (by rfl))) Ah (by rfl))) (by rfl))))) AO) (@Al _ _ _ (@A9 _ _ _ _ (pv 4))))))))))))),?_⟩
 and_intros
 refine ⟨z,3,rfl,L6 z0 z1,szd 64,fun y y0 y1=>?_⟩
 have szy:=RN y0 y1
 and_intros
 refine ⟨l,_,rfl,SqL.of hl,fun f hf=>?_⟩
 have s1:=Ai hf (.lst (vls ls).reverse)
 have e1:(upd H f (.lst (vls ls).reverse)) f=some (.lst (vls ls.reverse)):=by rw [Ag];unfold vls;rw [map_reverse]
 generalize upd H f (.lst (vls ls).reverse)=H1 at s1 e1 ⊢
 have g1:AM H1 ls.reverse:=fun q m=>(g.same s1) q (mem_reverse.mp m)
 have ok1:Ci n p (Ao ls.reverse):=fun q m=>ok q (by rw [Ku] at m;exact mem_reverse.mp m)
 have sm1:Bp (Ao ls.reverse)=Bp (Ao ls):=by rw [Ku,Qt]
 have ln1:ls.reverse.length=ls.length:=length_reverse
 have plain:Q (.ref f) H1:=q f ls.reverse p H1 hf s1 e1 g1 ⟨ok1,fun _ m=>m,Nat.le_succ _,sm1,by omega⟩
 and_intros
 refine ⟨(by show 0<=sizeLine;decide),fun n0 hn0=>?_⟩
 have s2:=Ai hn0 (.lst [])
 have en0:(upd H1 n0 (.lst [])) n0=some (.lst []):=Ag
 generalize upd H1 n0 (.lst [])=H2 at s2 en0 ⊢
 have e2:=s2 _ _ e1
 have g2:=g1.same s2
 have hl2:=(s1.trans s2) _ _ hl
 refine ⟨.list ((Ao ls).map ld),.list [],.lst (SqL.of hl2) (Dr (g.same (s1.trans s2))),.lst (SqL.of en0) .nil,CG _,CG [],?_⟩
 rw [show PyData.eqv (.list ((Ao ls).map ld)) (.list [])=decide (ls=[]) from by cases ls <;> rfl]
 replace plain:Q (.ref f) H2:=q f ls.reverse p H2 hf (s1.trans s2) e2 g2 ⟨ok1,fun _ m=>m,Nat.le_succ _,sm1,by omega⟩
 by_cases c0:ls=[]
 ·refine ⟨_,rfl,ifT (decide_eq_true c0) ?_⟩
  and_intros
  exact plain
 have lp:0 < ls.length:=length_pos_iff.mpr c0
 refine ⟨_,rfl,ifF (decide_eq_false c0) ?_⟩
 and_intros
 refine G6 (fun _=>?_) (fun _=>?_)
 ·and_intros
  exact plain
 clear plain
 have lv:(vls ls).length=ls.length:=AT ls
 and_intros
 refine ⟨by show ((vls ls).length:Int)≠0;omega,?_⟩
 have mi:=Bh (y.fdiv 4) (show (0:Int) < ((vls ls).length:Int) by omega)
 dsimp only
 generalize hi0:(y.fdiv 4).fmod ((vls ls).length:Int)=w1 at mi ⊢
 obtain ⟨i,rfl⟩:∃i:Nat,w1=(i:Int):=⟨w1.toNat,by omega⟩
 clear hi0
 obtain ⟨o,eo⟩:∃o,ls.reverse[i]?=some o:=⟨_,List.getElem?_eq_getElem (by omega)⟩
 have om:=mem_of_getElem? eo
 obtain ⟨go1,go2⟩:=g2 o om
 obtain ⟨opp,o1,o9,oks⟩:=ok1 (o.2.2.1,o.2.2.2) (mem_map.mpr ⟨o,om,rfl⟩)
 have ato:atI (vls ls.reverse) (i:Int)=some (.ref o.1):=BE (by unfold vls;rw [List.getElem?_map,eo];rfl)
 and_intros
 refine ⟨f,_,_,_,rfl,rfl,SqL.of e2,ato,?_⟩
 refine ⟨o.1,_,rfl,SqT.of go1,rfl,_,_,rfl,_,_,rfl,rfl,?_⟩
 and_intros
 refine ⟨by show o.2.2.2≠0;omega,?_⟩
 have mm:=Bh (y.fdiv 64) (show 0 < o.2.2.2 by omega)
 and_intros
 refine ⟨(by show 2<=sizeLine;decide),fun ml hml=>?_⟩
 dsimp only
 have s3:=Ai hml (.lst [V.int o.2.2.2,V.int (1+(y.fdiv 64).fmod o.2.2.2)])
 have eml:(upd H2 ml (.lst [V.int o.2.2.2,V.int (1+(y.fdiv 64).fmod o.2.2.2)])) ml=some (.lst [V.int o.2.2.2,V.int (1+(y.fdiv 64).fmod o.2.2.2)]):=Ag
 generalize upd H2 ml (.lst [V.int o.2.2.2,V.int (1+(y.fdiv 64).fmod o.2.2.2)])=H3 at s3 eml ⊢
 have m2:=Bh (y.fdiv 32) (show (0:Int) < 2 by decide)
 obtain ⟨mv,hv,mv1,mvM⟩:∃mv:Int,atI [V.int o.2.2.2,V.int (1+(y.fdiv 64).fmod o.2.2.2)] ((y.fdiv 32).fmod 2)=some (.int mv)/\1<=mv/\mv<=o.2.2.2:=by
  rcases (by omega:(y.fdiv 32).fmod 2=0\/(y.fdiv 32).fmod 2=1) with h | h
  ·exact ⟨o.2.2.2,by rw [h];rfl,o1,Int.le_refl _⟩
  ·exact ⟨1+(y.fdiv 64).fmod o.2.2.2,by rw [h];rfl,by omega,by omega⟩
 have szm:Sz 64 mv:=Dq (by omega) (by omega)
 have szo:Sz 64 o.2.2.2:=Dq (by omega) (by omega)
 have y7:0<=y.fdiv 7/\y.fdiv 7 < 10 ^ 40:=by
  rw [Int.fdiv_eq_ediv_of_nonneg _ (by decide)]
  omega
 and_intros
 refine ⟨ml,_,_,_,rfl,rfl,SqL.of eml,hv,?_⟩
 and_intros
 refine ⟨y.fdiv 7,n,rfl,y7.1,y7.2,n1,n12,fun l' rs m9 H4 hl' s4 e4 ln gp r12=>?_⟩
 and_intros
 refine ⟨l',rs,m9,rfl,e4,by omega,by omega,r12,gp,fun t H5 s5 et=>?_⟩
 have okS:OkS n (Av rs):=⟨rs,m9,rfl,ln,gp,r12⟩
 and_intros
 refine ⟨(by show 2<=sizeLine;decide),fun t1 ht1=>?_⟩
 have s6:=Ai ht1 (.tup [V.ref t,V.int mv])
 have et1:(upd H5 t1 (.tup [V.ref t,V.int mv])) t1=some (.tup [V.ref t,V.int mv]):=Ag
 generalize upd H5 t1 (.tup [V.ref t,V.int mv])=H6 at s6 et1 ⊢
 have s26:=(s3.trans s4).trans (s5.trans s6)
 have s06:=(s1.trans s2).trans s26
 have e6:=s26 _ _ e2
 have g6:=g2.same s26
 have et6:=s6 _ _ et
 have lr:(vls ls.reverse).length=ls.length:=by rw [AT];exact ln1
 and_intros
 refine ⟨f,_,_,i,rfl,rfl,e6,DU (by omega),?_⟩
 have s7:=AS (o:=.lst ((vls ls.reverse).set i (.ref t1))) s06 hf
 have e7:(upd H6 f (.lst ((vls ls.reverse).set i (.ref t1)))) f=some (.lst (vls (ls.reverse.set i (t1,t,Av rs,mv)))):=by rw [Ag];exact congrArg (fun v=>some (HO.lst v)) (MP (r:=(t1,t,Av rs,mv)))
 have g7:AM (upd H6 f (.lst ((vls ls.reverse).set i (.ref t1)))) (ls.reverse.set i (t1,t,Av rs,mv)):=AM.upd e6 (Kp g6 et1 et6)
 have et7:(upd H6 f (.lst ((vls ls.reverse).set i (.ref t1)))) t=some (.tup ((Av rs).map V.int)):=by rw [A8 (CO et6 e6 (fun z=>nomatch z))];exact et6
 have go7:(upd H6 f (.lst ((vls ls.reverse).set i (.ref t1)))) o.2.1=some (.tup (o.2.2.1.map V.int)):=by rw [A8 (CO (s26 _ _ go2) e6 (fun z=>nomatch z))];exact s26 _ _ go2
 generalize upd H6 f (.lst ((vls ls.reverse).set i (.ref t1)))=H7 at s7 e7 g7 et7 go7 ⊢
 have sm7:=Nf (r:=(t1,t,Av rs,mv)) eo
 have ok7:Ci n (p++[Av rs]) (Ao (ls.reverse.set i (t1,t,Av rs,mv))):=Os (fun q m=>⟨mem_append_left _ (ok1 q m).1,(ok1 q m).2⟩) ⟨mem_append_right _ (mem_singleton.mpr rfl),mv1,Int.le_trans mvM o9,okS⟩
 have in7:(t1,t,Av rs,mv)∈ls.reverse.set i (t1,t,Av rs,mv):=mem_iff_getElem?.mpr ⟨i,List.getElem?_set_self (by omega)⟩
 have ln7:(ls.reverse.set i (t1,t,Av rs,mv)).length=ls.length:=by rw [length_set];exact ln1
 generalize ls.reverse.set i (t1,t,Av rs,mv)=f7 at e7 g7 sm7 ok7 in7 ln7
 clear e6 g6 et6 s26 s06 s6 s5 s4 s3 s2 e4 et et1 eml hml hv mm m2 ato eo g2 e2 hl2 go1
 replace sm7:Bp (Ao f7)=Bp (Ao ls) - o.2.2.2+mv:=by rw [sm7,sm1]
 have hl7:=s7 _ _ hl
 and_intros
 refine ⟨fun σ' J=>∃(fs:Ls),σ'=[some (.ref l),some (.int z),some (.int (n:Int)),some (.int y),some (.ref f),some (.int (i:Int)),some (.ref o.2.1),some (.int o.2.2.2),some (.int mv),some (.ref t),none]/\AJ H J/\J f=some (.lst (vls fs))/\AM J fs/\Ci n (p++[Av rs]) (Ao fs)/\Bp (Ao fs)=Bp (Ao ls)/\fs.length<=ls.length+1/\(t1,t,Av rs,mv)∈fs/\J t=some (.tup ((Av rs).map V.int)),?_,?_⟩
 ·and_intros
  by_cases c:mv < o.2.2.2
  ·refine ifT (decide_eq_true c) ?_
   and_intros
   refine ⟨.inl ⟨rfl,_,SqL.of e7⟩,?_⟩
   and_intros
   refine ⟨by show ((vls ls).length:Int)≠0;omega,?_⟩
   have mk:=Bh (y.fdiv 128) (show (0:Int) < ((vls ls).length:Int) by omega)
   dsimp only
   generalize (y.fdiv 128).fmod ((vls ls).length:Int)=w2 at mk ⊢
   obtain ⟨k,rfl⟩:∃k:Nat,w2=(k:Int):=⟨w2.toNat,by omega⟩
   and_intros
   refine ⟨(by show 2<=sizeLine;decide),fun t2 ht2=>?_⟩
   dsimp only
   have s8:=Ai ht2 (.tup [V.ref o.2.1,V.int (o.2.2.2 - mv)])
   have et2:(upd H7 t2 (.tup [V.ref o.2.1,V.int (o.2.2.2 - mv)])) t2=some (.tup [V.ref o.2.1,V.int (o.2.2.2 - mv)]):=Ag
   generalize upd H7 t2 (.tup [V.ref o.2.1,V.int (o.2.2.2 - mv)])=H8 at s8 et2 ⊢
   have e8:=s8 _ _ e7
   refine ⟨f,_,k,_,rfl,rfl,e8,(by rw [AT];omega),(by rw [AT];exact Bq (by omega)),?_⟩
   have ev:(vls f7).take k++V.ref t2 :: (vls f7).drop k=vls (f7.take k++(t2,o.2.1,o.2.2.1,o.2.2.2 - mv) :: f7.drop k):=by
    rw [B9]
    unfold vls
    rw [map_cons,map_take,map_drop]
   rw [ev]
   refine ⟨_,rfl,AS (s7.trans s8) hf,Ag,AM.upd e8 (fun q m=>?_),O1 (by rw [take_append_drop];exact ok7) ⟨mem_append_left _ opp,by show 1<=o.2.2.2 - mv;omega,by show o.2.2.2 - mv<=_;omega,oks⟩,?_,?_,?_,by rw [A8 (CO (s8 _ _ et7) e8 (fun z=>nomatch z))];exact s8 _ _ et7⟩
   ·rcases mem_append.mp m with m | m
    ·exact (g7.same s8) q (mem_of_mem_take m)
    ·rcases mem_cons.mp m with rfl | m
     ·exact ⟨et2,s8 _ _ go7⟩
     ·exact (g7.same s8) q (mem_of_mem_drop m)
   ·rw [J9,take_append_drop,sm7]
    show _+(o.2.2.2 - mv)=_
    omega
   ·rw [length_append,length_cons,length_take,length_drop]
    omega
   ·have:=take_append_drop k f7
    rw [<- this] at in7
    rcases mem_append.mp in7 with m | m
    ·exact mem_append_left _ m
    ·exact mem_append_right _ (mem_cons_of_mem _ m)
  ·refine ifF (decide_eq_false c) ?_
   exact ⟨f7,rfl,s7,e7,g7,ok7,by omega,by omega,in7,et7⟩
 clear e7 g7 ok7 sm7 in7 ln7 s7 et7 go7 hl7
 rintro σ' J ⟨fs,rfl,sJ,eJ,gJ,okJ,smJ,lnJ,inJ,etJ⟩
 have fin:∀H',AJ J H'->Q (.ref f) H':=fun H' s'=>q f fs (p++[Av rs]) H' hf (sJ.trans s') (s' _ _ eJ) (gJ.same s') ⟨okJ,fun _ m=>mem_append_left _ m,by rw [length_append];exact Nat.le_refl _,smJ,by omega⟩
 and_intros
 by_cases c1:mv > 1
 rotate_left
 ·refine ifF (decide_eq_false c1) ?_
  and_intros
  exact fin _ (fun _ _ e=>e)
 refine ifT (decide_eq_true c1) ?_
 and_intros
 refine G6 (fun _=>?_) (fun _=>?_)
 rotate_left
 ·and_intros
  exact fin _ (fun _ _ e=>e)
 have inD:(Av rs,mv)∈Ao fs:=mem_map.mpr ⟨_,inJ,rfl⟩
 obtain ⟨j,hj,first⟩:=Kf inD
 have hj':=hj
 unfold Ao at hj'
 rw [List.getElem?_map] at hj'
 obtain ⟨r0,er0,eq0⟩:=Option.map_eq_some_iff.mp hj'
 have r0n:r0.2.2.2=mv:=congrArg Prod.snd eq0
 have jl:=(List.getElem?_eq_some_iff.mp er0).1
 and_intros
 refine ⟨.inl ⟨rfl,_,SqL.of eJ⟩,?_⟩
 and_intros
 refine ⟨(by show 2<=sizeLine;decide),fun t3 ht3=>?_⟩
 have j1:=Ai ht3 (.tup [V.ref t,V.int mv])
 have et3:(upd J t3 (.tup [V.ref t,V.int mv])) t3=some (.tup [V.ref t,V.int mv]):=Ag
 generalize upd J t3 (.tup [V.ref t,V.int mv])=J1 at j1 et3 ⊢
 have lay:=JG (Ao fs)
 have ldl:(Ao fs).length=fs.length:=length_map _
 refine ⟨f,vls fs,(Ao fs).map ld,.ref t3,ld (Av rs,mv),j,rfl,rfl,SqL.of (j1 _ _ eJ),Dr (gJ.same j1),.tup (SqT.of et3) (.cons (.tup (SqT.of (j1 _ _ etJ)) (.ints _)) (.cons (.int _) .nil)),lay.1,(by show (PyData.canLayAll0 ((Av rs).map .int) && (true && true))=true;rw [(DK _).1];rfl),by omega,(by rw [length_map];omega),⟨_,by rw [List.getElem?_map,hj];rfl,by rw [LY];exact decide_eq_true rfl⟩,(fun m e k z=>by
  rw [List.getElem?_map] at z
  obtain ⟨e',z1,rfl⟩:=Option.map_eq_some_iff.mp z
  rw [LY]
  exact decide_eq_false (first m e' k z1)),?_⟩
 and_intros
 refine ⟨(by show 2<=sizeLine;decide),fun t4 ht4=>?_⟩
 dsimp only
 have j2:=Ai ht4 (.tup [V.ref t,V.int (mv - 1)])
 have et4:(upd J1 t4 (.tup [V.ref t,V.int (mv - 1)])) t4=some (.tup [V.ref t,V.int (mv - 1)]):=Ag
 generalize upd J1 t4 (.tup [V.ref t,V.int (mv - 1)])=J2 at j2 et4 ⊢
 have j12:=j1.trans j2
 have e2':=j12 _ _ eJ
 and_intros
 refine ⟨f,_,_,j,rfl,rfl,e2',DU (by rw [AT];exact jl),?_⟩
 have s3':=AS (o:=.lst ((vls fs).set j (.ref t4))) (sJ.trans j12) hf
 have e3':(upd J2 f (.lst ((vls fs).set j (.ref t4)))) f=some (.lst (vls (fs.set j (t4,t,Av rs,mv - 1)))):=by rw [Ag];exact congrArg (fun v=>some (HO.lst v)) (MP (r:=(t4,t,Av rs,mv - 1)))
 have g3':AM (upd J2 f (.lst ((vls fs).set j (.ref t4)))) (fs.set j (t4,t,Av rs,mv - 1)):=AM.upd e2' (Kp (gJ.same j12) et4 (j12 _ _ etJ))
 have et3':(upd J2 f (.lst ((vls fs).set j (.ref t4)))) t=some (.tup ((Av rs).map V.int)):=by rw [A8 (CO (j12 _ _ etJ) e2' (fun z=>nomatch z))];exact j12 _ _ etJ
 generalize upd J2 f (.lst ((vls fs).set j (.ref t4)))=J3 at s3' e3' g3' et3' ⊢
 have sm3:=Nf (r:=(t4,t,Av rs,mv - 1)) er0
 have pin:Av rs∈p++[Av rs]:=mem_append_right _ (mem_singleton.mpr rfl)
 have ok3:Ci n (p++[Av rs]) (Ao (fs.set j (t4,t,Av rs,mv - 1))):=Os okJ ⟨pin,by show 1<=mv - 1;omega,by show mv - 1<=_;omega,okS⟩
 have ln3:(fs.set j (t4,t,Av rs,mv - 1)).length=fs.length:=length_set ..
 and_intros
 refine ⟨.inl ⟨rfl,_,SqL.of e3'⟩,?_⟩
 and_intros
 refine ⟨(by show 2<=sizeLine;decide),fun t5 ht5=>?_⟩
 have j4:=Ai ht5 (.tup [V.ref t,V.int 1])
 have et5:(upd J3 t5 (.tup [V.ref t,V.int 1])) t5=some (.tup [V.ref t,V.int 1]):=Ag
 generalize upd J3 t5 (.tup [V.ref t,V.int 1])=J4 at j4 et5 ⊢
 have e4':=j4 _ _ e3'
 refine ⟨f,_,_,rfl,rfl,e4',(by rw [AT];exact Bq (by omega)),?_⟩
 and_intros
 refine q f (fs.set j (t4,t,Av rs,mv - 1)++[(t5,t,Av rs,1)]) (p++[Av rs]) _ hf (AS (s3'.trans j4) hf) (by rw [Ag,B9];rfl) (AM.upd e4' ((g3'.same j4).append fun q m=>by rw [mem_singleton.mp m];exact ⟨et5,j4 _ _ et3'⟩)) ⟨O1 (by rw [append_nil];exact ok3) ⟨pin,by show (1:Int)<=1;decide,by show (1:Int)<=1000000000;decide,okS⟩,fun _ m=>mem_append_left _ m,by rw [length_append];exact Nat.le_refl _,?_,by rw [length_append,ln3];show _+1<=_;omega⟩
 rw [J9,append_nil,sm3,smJ]
 show _ - r0.2.2.2+(mv - 1)+1=_
 omega
theorem Kb (T:Tx K mg ad):Bd P w K mg base CX0 3 ad.f_Box_init ad.d_Box_init ["self","hands"] (NO K):=by
 refine T.F_Box_init.ok JN (fun vs H Q E h=>?_) (fun cdv A outer s H vs Q E hr h=>?_)
 ·obtain ⟨a,C,dx,n,rfl,_⟩:=h
  rfl
 obtain ⟨a,C,dx,n,rfl,ha,cl,na1,na2,n1,n12,q⟩:=h
 refine ⟨_,(@Aj _ _ _ _ _ (@Bj _ _ _ _ _ _ _ _ (@Bv _ _ _ _ (@Br _ _ _ (@Aq _ _ _ _ _ _ _ _ _ _ _ _ _ _ _ _ (Jq T) (hr.mono (by decide)) rfl T.m_are_hands T.F_are_hands.kp T.b_are_hands .nil AF (@Af _ _ _ _ _ (pv 1) Ah (by rfl)) (by decide) (by rfl) (by rfl)) (by intro _;rfl))) (@Al _ _ _ DO) AO) (@Aj _ _ _ _ _ (Pf (pv 0) (pv 1) rfl) (@Al _ _ _ (Pf (pv 0) (@AV _ _ _ _ Ah) rfl)))),?_⟩
 refine ⟨_,rfl,n,rfl,n1,n12,?_⟩
 and_intros
 refine ⟨a,C,dx,[],rfl,ha,cl,na1,(by simp only [length_cons,length_nil];decide),?_⟩
 rw [Sh]
 have g2:=GD (o:=.ins C dx [("hands",.int n)]) (Lk H a)
 have a2:(upd H a (.ins C dx [("hands",.int n)])) a=_:=Ag
 generalize upd H a (.ins C dx [("hands",.int n)])=H2 at g2 a2 ⊢
 refine ⟨(by show 0<=sizeLine;decide),fun L hL=>?_⟩
 have La:L≠a:=fun z=>by rw [z,a2] at hL;cases hL
 have hLH:H L=none:=by
  cases e:H L with
  | none=>rfl
  | some o =>
    have:=g2 _ _ (Bu e La)
    rw [hL] at this
    cases this
 have g3:=g2.trans (Ai hL (.lst []))
 have a3:=Ai hL (.lst []) _ _ a2
 have e3:(upd H2 L (.lst [])) L=some (.lst []):=Ag
 generalize upd H2 L (.lst [])=H3 at g3 a3 e3 ⊢
 refine ⟨_,rfl,a,C,dx,_,rfl,a3,cl,na2,(by simp only [length_cons,length_nil];decide),?_⟩
 rw [Sb]
 exact q L _ La hLH (GD g3) Ag (by rw [A8 La];exact e3)
theorem Mr (T:Tx K mg ad):Bd P w K mg base CX0 4 ad.f_slip_of ad.d_slip_of ["ranks","hands"] (OC K):=by
 refine T.F_slip_of.ok Mm (fun vs H Q E h=>?_) (fun cdv A outer s H vs Q E hr h=>?_)
 ·obtain ⟨p,rs,rfl,_⟩:=h
  rfl
 obtain ⟨p,rs,rfl,hS,h12,hR,q⟩:=h
 refine ⟨_,(@Aj _ _ _ _ _ (@Bj _ _ _ _ _ _ _ _ (@Bv _ _ _ _ (@Br _ _ _ (@Aq _ _ _ _ _ _ _ _ _ _ _ _ _ _ _ _ (Jg T) (hr.mono (by decide)) rfl T.m_are_ranks T.F_are_ranks.kp T.b_are_ranks .nil AF (@Af _ _ _ _ _ (pv 0) (@Af _ _ _ _ _ (pv 1) Ah (by rfl)) (by rfl)) (by decide) (by rfl) (by rfl)) (by intro _;rfl))) (@Al _ _ _ DO) AO) (@Al _ _ _ (@A9 _ _ _ _ (@Ce _ _ _ _ _ _ _ _ _ Fl (by rfl) T.z_tuple PyProof.Rows.boot_tuple (@Af _ _ _ _ _ (B3 (fsc:=Am FT) (N:=["ranks","hands"]) (Nc:=["ranks","hands","rank"]) rfl rfl ⟨rfl,by decide +kernel,by decide +kernel,rfl,by decide +kernel,rfl,by decide +kernel,rfl,by decide +kernel⟩ rfl (Bm (FA rfl (by rfl) T.z_sorted (by rfl) T.z_set (pv 0))) (fun _ _ _ _=>(Eh (@AQ _ _ _ _ _ _ _ _ HZ (pv 2) Ak (AR _)))) (fun _ _ _ _=>(@Aq _ _ _ _ _ _ _ _ _ _ _ _ _ _ _ _ (Lg T) (hr.mono (by decide)) rfl T.m_tier_at T.F_tier_at.kp T.b_tier_at .nil AF (@Af _ _ _ _ _ (pv 0) (@Af _ _ _ _ _ (pv 2) Ah (by rfl)) (by rfl)) (by decide) (by rfl) (by rfl)))) Ah (by rfl)) (by decide) (by decide) (by rfl) (by rfl))))),?_⟩
 refine ⟨_,rfl,_,rfl,p,rs,rfl,hS,h12,hR,fun H0 s00=>?_⟩
 and_intros
 refine ⟨p,rs,rfl,SqL.of (s00 _ _ hS),by omega,fun l ms m1 m2 hl=>?_⟩
 obtain rfl:=Nl m1 m2
 have sl:=FN rs
 have s0:=s00.trans (Ai hl (.lst ((Ev rs).map V.int)))
 have el:(upd H0 l (.lst ((Ev rs).map V.int))) l=some (.lst ((Ev rs).map V.int)):=Ag
 generalize upd H0 l (.lst ((Ev rs).map V.int))=H1 at s0 el ⊢
 refine ⟨l,rfl,⟨_,SqL.of el⟩,?_⟩
 refine BQ (xs:=(Ev rs).map V.int) (by rw [length_map];exact B0 (by omega)) (fun D i ys H'=>ys=((((Ev rs).take i).filter fun r=>decide (0 < r)).map (CK rs)).map V.int/\H' D=some (.lst ys)/\AJ H1 H') (fun D hD=>⟨rfl,Ag,Ai hD _⟩)
  (fun D i ys H' ⟨e1,e2,_⟩=>⟨e2,by rw [e1,length_map,length_map];exact Nat.le_trans (length_filter_le _ _) (length_take_le _ _)⟩) (fun D i ys H' hD ⟨_,_,e3⟩=>SqL.of (e3 _ _ el)) ?_ ?_
 ·rintro D i x ys H' K1 K2 hD hx ⟨e1,e2,e3⟩ k1 k2
  obtain ⟨z,hz,rfl⟩:=int_at hx
  have et:(Ev rs).take (i+1)=(Ev rs).take i++[z]:=by rw [take_succ,hz];rfl
  refine ⟨_,rfl,_,_,rfl,rfl,_,rfl,?_⟩
  refine G6 (fun c=>?_) (fun c=>?_)
  ·have c':decide (0 < z)=true:=c
   refine ⟨_,rfl,_,rfl,p,rs,z,rfl,SqL.of ((s0.trans e3) _ _ hS),h12,fun H5 s5=>?_⟩
   refine k1 _ _ (s5 _ _ e2) ⟨?_,Ag,AS (e3.trans s5) hD⟩
   rw [et,filter_append,map_append,map_append,e1]
   simp [c']
  ·have c':decide (0 < z)=false:=Bool.eq_false_iff.mpr c
   refine k2 _ ⟨?_,e2,e3⟩
   rw [et,filter_append,e1]
   simp [c']
 ·rintro D ys H' hD ⟨e1,e2,e3⟩
  rw [length_map,take_of_length_le (Nat.le_refl _)] at e1
  subst e1
  refine ⟨D,_,rfl,.inl ⟨SqL.of e2,fun t ht=>?_⟩⟩
  have s9:=(s0.trans e3)
  exact q t _ (by
   cases e:H t with
   | none=>rfl
   | some u=>rw [s9 _ _ e] at ht;cases ht) (s9.trans (Ai ht _)) Ag
theorem Es (T:Tx K mg ad):Bd P w K mg base (CX1 P w) 4 ad.f_Box_sheet_at ad.d_Box_sheet_at ["self","k"] (Ph K ad.c_Box ad.c_NoBundle):=by
 refine T.F_Box_sheet_at.okX GA (fun vs H Q E h=>?_) (fun cdv A outer s H vs Q E hr h=>?_)
 ·obtain ⟨b,L,n,bs,x,rfl,_⟩:=h
  rfl
 obtain ⟨b,L,n,bs,x,rfl,ib,q⟩:=h
 refine ⟨_,(@Al _ _ _ (@A9 _ _ _ _ (@Ky _ _ _ _ _ _ _ _ _ _ _ _ _ _ _ ⟨rfl,rfl,rfl⟩ (ES T) (hr.mono (by decide)) rfl T.m_sheet_of T.F_sheet_of.kp T.b_sheet_of .nil (@Af _ _ _ _ _ (Hs ⟨rfl,rfl,rfl⟩ (pv 0) T.cl_Box T.me_Box_lines_at (CM T) (hr.mono (by decide)) T.b_Box_lines_at .nil (@Af _ _ _ _ _ (pv 1) Ah (by rfl))) Ah (by rfl)) (by decide) (by rfl) (by rfl)))),?_⟩
 obtain ⟨dx,hb⟩:=ib.at_
 and_intros
 refine ⟨b,dx,_,rfl,hb,rfl,?_⟩
 and_intros
 rcases q with ⟨k,y,p,rfl,ex,ok,p64,q⟩ | ⟨no,q⟩
 ·refine ⟨b,L,n,bs,_,rfl,ib,.inl ⟨k,y,rfl,ex,fun l H1 hl s1 e1=>?_⟩⟩
  refine .inl ⟨l,y.2,p,rfl,e1,(ib.lies y (mem_of_getElem? ex)).2.same s1,fun q m=>(ok q m).1,p64,fun q m=>⟨(ok q m).2.1,(ok q m).2.2.1⟩,fun l' ls' H' hl' s2 e2 g2 sh ln=>?_⟩
  exact q l' ls' H' (none_of s1 hl') (s1.trans s2) e2 g2 sh ln
 ·exact ⟨b,L,n,bs,_,rfl,ib,.inr ⟨no,q⟩⟩
theorem GQ (T:Tx K mg ad):Bd P w K mg base CX0 4 ad.f_Box_seal_at ad.d_Box_seal_at ["self","k"] (Pp ad.c_Box):=by
 refine T.F_Box_seal_at.ok HX (fun vs H Q E h=>?_) (fun cdv A outer s H vs Q E hr h=>?_)
 ·obtain ⟨b,L,n,bs,k,x,p,rfl,_⟩:=h
  rfl
 obtain ⟨b,L,n,bs,k,x,p,rfl,ib,ex,ok,n12,x100,q⟩:=h
 refine ⟨_,(@Al _ _ _ (@A9 _ _ _ _ (@Aq _ _ _ _ _ _ _ _ _ _ _ _ _ _ _ _ (Hz T) (hr.mono (by decide)) rfl T.m_seal_of T.F_seal_of.kp T.b_seal_of .nil AF (@Af _ _ _ _ _ (B3 (fsc:=Am D7) (N:=["self","k"]) (Nc:=["self","k","line"]) rfl rfl ⟨rfl,by decide +kernel,by decide +kernel,rfl,by decide +kernel,rfl,by decide +kernel,rfl,by decide +kernel⟩ rfl (Bm (DW (pv 0) T.cl_Box T.me_Box_lines_at (CM T) (hr.mono (by decide)) T.b_Box_lines_at .nil KY (@Af _ _ _ _ _ (pv 1) Ah (by rfl)))) (fun _ _ _ _=>B7) (fun _ _ _ _=>(@Aq _ _ _ _ _ _ _ _ _ _ _ _ _ _ _ _ (Ml T) (hr.mono (by decide)) rfl T.m_code_of T.F_code_of.kp T.b_code_of .nil AF (@Af _ _ _ _ _ (pv 2) (@Af _ _ _ _ _ (MI K (pv 0) rfl) Ah (by rfl)) (by rfl)) (by decide) (by rfl) (by rfl)))) Ah (by rfl)) (by decide) (by rfl) (by rfl)))),?_⟩
 obtain ⟨dx,hb⟩:=ib.at_
 have gx:=(ib.lies x (mem_of_getElem? ex)).2
 and_intros
 refine ⟨b,dx,_,rfl,hb,rfl,?_⟩
 and_intros
 refine ⟨b,L,n,bs,_,rfl,ib,.inl ⟨k,x,rfl,ex,fun l H1 hl s1 e1=>?_⟩⟩
 refine ⟨l,rfl,⟨_,SqL.of e1⟩,?_⟩
 refine BQ (xs:=vls x.2) (by rw [AT];exact Be (by omega)) (fun D i ys H'=>ys=(CJ n (Ao (x.2.take i))).map V.int/\H' D=some (.lst ys)/\AJ H1 H') (fun D hD=>⟨rfl,Ag,Ai hD _⟩) (fun D i ys H' ⟨f1,f2,_⟩=>⟨f2,by rw [f1,length_map,Cg];unfold Ao;rw [length_map];exact length_take_le _ _⟩) (fun D i ys H' hD ⟨_,_,f3⟩=>SqL.of (f3 _ _ e1)) ?_ ?_
 ·rintro D i y ys H' K1 K2 hD hy ⟨f1,f2,f3⟩ k1 k2
  obtain ⟨f,hf,rfl,fm,et⟩:=C6 hy
  obtain ⟨g1,g2⟩:=gx f fm
  obtain ⟨_,f1',f9,okf⟩:=ok (f.2.2.1,f.2.2.2) (mem_map.mpr ⟨f,fm,rfl⟩)
  obtain ⟨rs,m,er,_,ln,_,r12,tin⟩:=okf.ranks
  have s3:=s1.trans f3
  refine yes (ifT rfl ?_)
  and_intros
  refine ⟨b,_,dx,_,_,rfl,s3 _ _ hb,T.cl_Box,T.na_Box_hands,rfl,?_⟩
  refine ⟨f.1,f.2.1,f.2.2.1,f.2.2.2,n,rfl,s3 _ _ g1,s3 _ _ g2,n12,tin,by omega,f9,(by rw [er];exact r12),fun H5 s5=>?_⟩
  refine k1 _ _ (s5 _ _ f2) ⟨?_,Ag,AS (f3.trans s5) hD⟩
  rw [f1,et,AK]
  unfold CJ
  rw [map_append,map_append]
  rfl
 ·rintro D ys H' hD ⟨f1,f2,f3⟩
  rw [AT,take_length] at f1
  subst f1
  refine ⟨D,_,rfl,f2,Fa n12 ok,(by rw [Cg];unfold Ao;rw [length_map];exact x100),fun t H5 ht s5 e5=>?_⟩
  exact q t H5 ((s1.trans f3).trans s5) e5
theorem FJ (T:Tx K mg ad):Bd P w K mg base CX0 4 ad.f_Box_sheet ad.d_Box_sheet ["self"] (Pb ad.c_Box):=by
 refine T.F_Box_sheet.ok JC (fun vs H Q E h=>?_) (fun cdv A outer s H vs Q E hr h=>?_)
 ·obtain ⟨b,L,n,bs,p,rfl,_⟩:=h
  rfl
 obtain ⟨b,L,n,bs,p,rfl,ib,ok,p64,b12,q⟩:=h
 refine ⟨_,(@Al _ _ _ (@A9 _ _ _ _ (@Aq _ _ _ _ _ _ _ _ _ _ _ _ _ _ _ _ (NZ T) (hr.mono (by decide)) rfl T.m_joined T.F_joined.kp T.b_joined .nil AF (@Af _ _ _ _ _ (B3 (fsc:=Am EE) (N:=["self"]) (Nc:=["self","lines"]) rfl rfl ⟨rfl,by decide +kernel,by decide +kernel,rfl,by decide +kernel,rfl,by decide +kernel,rfl,by decide +kernel⟩ rfl (Bm (FR (pv 0) rfl)) (fun _ _ _ _=>B7) (fun _ _ _ _=>(@Aq _ _ _ _ _ _ _ _ _ _ _ _ _ _ _ _ (ES T) (hr.mono (by decide)) rfl T.m_sheet_of T.F_sheet_of.kp T.b_sheet_of .nil KY (@Af _ _ _ _ _ (pv 1) Ah (by rfl)) (by decide) (by rfl) (by rfl)))) Ah (by rfl)) (by decide) (by rfl) (by rfl)))),?_⟩
 have ib':=ib
 obtain ⟨⟨dx,hb⟩,hL,hx,hn⟩:=ib'
 and_intros
 refine ⟨b,_,dx,_,_,rfl,hb,T.cl_Box,T.na_Box_bundles,rfl,?_⟩
 refine ⟨L,rfl,⟨_,SqL.of hL⟩,?_⟩
 refine BQ (xs:=bs.map fun x=>V.ref x.1) (by rw [length_map];exact Be (by omega)) (fun D i ys H'=>∃ss:List (Addr × Ls),ys=(ss.map fun x=>V.ref x.1)/\ss.length=i/\H' D=some (.lst ys)/\AJ H H'/\(∀x∈ss,H' x.1=some (.lst (vls x.2))/\AM H' x.2/\x.1≠D)/\(∀ts,tot (Ao (Ck ss)) ts=tot (Ao (Ck (bs.take i))) ts)/\(∀q∈Ao (Ck ss),q.1∈p/\1<=q.2)/\(Ck ss).length<=64*i) (fun D hD=>⟨[],rfl,rfl,Ag,Ai hD _,(fun _ m=>nomatch m),(fun _=>rfl),(fun _ m=>nomatch m),Nat.zero_le _⟩) (fun D i ys H' ⟨ss,f1,f2,f3,_⟩=>⟨f3,by rw [f1,length_map,f2];exact Nat.le_refl _⟩) (fun D i ys H' hD ⟨_,_,_,_,f4,_⟩=>SqL.of (f4 _ _ hL)) ?_ ?_
 ·rintro D i y ys H' K1 K2 hD hy ⟨ss,rfl,f2,f3,f4,f5,f6,f7,f8⟩ k1 k2
  rw [List.getElem?_map] at hy
  obtain ⟨x,ex,rfl⟩:=Option.map_eq_some_iff.mp hy
  have xm:=mem_of_getElem? ex
  have et:bs.take (i+1)=bs.take i++[x]:=by rw [take_succ,ex];rfl
  have okx:=ok x xm
  refine yes (ifT rfl ?_)
  refine ⟨_,rfl,.inl ⟨x.1,x.2,p,rfl,f4 _ _ (hx x xm).1,(hx x xm).2.same f4,(fun q m=>(okx q m).1),p64,(fun q m=>⟨(okx q m).2.1,(okx q m).2.2.1⟩),fun l' ls' H5 hl' s5 e5 g5 sh l64=>?_⟩⟩
  have lD:l'≠D:=fun z=>by rw [z,f3] at hl';cases hl'
  have D5:=s5 _ _ f3
  refine k1 _ _ D5 ⟨ss++[(l',ls')],by rw [map_append];rfl,by rw [length_append,f2];rfl,Ag,AS (f4.trans s5) hD,fun z m=>?_,fun ts=>?_,fun q m=>?_,?_⟩
  ·rcases mem_append.mp m with m | m
   ·obtain ⟨z1,z2,z3⟩:=f5 z m
    exact ⟨by rw [A8 z3];exact s5 _ _ z1,(z2.same s5).upd D5,z3⟩
   ·rw [mem_singleton.mp m]
    exact ⟨by rw [A8 lD];exact e5,g5.upd D5,lD⟩
  ·rw [et,DN,DN,AK,AK,Em,Em,f6,sh.tot (fun q m=>(okx q m).2.1)]
  ·rw [DN,AK] at m
   rcases mem_append.mp m with m | m
   ·exact f7 q m
   ·exact ⟨sh.keys (fun q m=>(okx q m).1) q m,sh.pos q m⟩
  ·rw [DN,length_append]
   have:(Prod.mk l' ls').2.length < 64:=l64
   omega
 ·rintro D ys H' hD ⟨ss,rfl,f2,f3,f4,f5,f6,f7,f8⟩
  rw [length_map] at f2 f6 f8
  rw [take_length] at f6
  refine ⟨D,ss,p,rfl,f3,(fun x m=>⟨(f5 x m).1,(f5 x m).2.1⟩),(fun q m=>(f7 q m).1),p64,(fun q m=>(f7 q m).2),by omega,fun l' ls' H5 hl' s5 e5 g5 sh l64=>?_⟩
  exact q l' ls' H5 (none_of f4 hl') (f4.trans s5) e5 g5 (sh.of_tot fun ts=>(f6 ts).symm) l64
theorem Mp (T:Tx K mg ad):Bd P w K mg base CX0 5 ad.f_line_of ad.d_line_of ["code","hands"] Ov:=by
 refine T.F_line_of.ok Cr (fun vs H Q E h=>?_) (fun cdv A outer s H vs Q E hr h=>?_)
 ·obtain ⟨rs,c,m,rfl,_⟩:=h
  rfl
 obtain ⟨rs,c,m,rfl,l12,hr12,c0,c1,gl,q⟩:=h
 refine ⟨_,(@Aj _ _ _ _ _ (@Bj _ _ _ _ _ _ _ _ (@Bv _ _ _ _ (@Br _ _ _ (@Aq _ _ _ _ _ _ _ _ _ _ _ _ _ _ _ _ (EK T) (hr.mono (by decide)) rfl T.m_is_whole T.F_is_whole.kp T.b_is_whole .nil AF (@Af _ _ _ _ _ (pv 0) Ah (by rfl)) (by decide) (by rfl) (by rfl)) (by intro _;rfl))) (@Al _ _ _ DO) AO) (@Aj _ _ _ _ _ (@A7 _ _ (2) _ _ _ _ Cr.nd rfl (Or.inl rfl) (@AV _ _ _ _ Ah) (by rfl) (by first | exact .inl rfl | exact .inr rfl | assumption)) (@Aj _ _ _ _ _ (@A7 _ _ (3) _ _ _ _ Cr.nd rfl (Or.inl rfl) (pv 0) (by rfl) (by first | exact .inl rfl | exact .inr rfl | assumption)) (@Aj _ _ _ _ _ (B1 PassesOwn.never rfl (Bw rfl T.z_range (@Af _ _ _ _ _ (pv 1) Ah (by rfl))) (AY (i:=4) Cr.nd rfl (Or.inl rfl)) (@Aj _ _ _ _ _ (@BU _ _ _ _ (DR PySem.F.plainAttrs_list PySem.F.slot_list_append PySem.F.type_list_append BR (pv 2) (@Af _ _ _ _ _ (@Ar _ _ _ _ _ _ _ _ Ba (pv 3) (B4 (v:=.int 13) rfl T.k_BASE ⟨_,rfl⟩)) Ah (by rfl))) (by rfl)) (@Al _ _ _ (@A7 _ _ (3) _ _ _ _ Cr.nd rfl (Or.inl rfl) (@Ar _ _ _ _ _ _ _ _ Bf (pv 3) (B4 (v:=.int 13) rfl T.k_BASE ⟨_,rfl⟩)) (by rfl) (by first | exact .inl rfl | exact .inr rfl | assumption))))) (@Aj _ _ _ _ _ (@Bj _ _ _ _ _ _ _ _ (@Bv _ _ _ _ (@Br _ _ _ (@Aq _ _ _ _ _ _ _ _ _ _ _ _ _ _ _ _ (Ei T) (hr.mono (by decide)) rfl T.m_is_number T.F_is_number.kp T.b_is_number .nil AF (@Af _ _ _ _ _ (pv 3) Ah (by rfl)) (by decide) (by rfl) (by rfl)) (by intro _;rfl))) (@Al _ _ _ DO) AO) (@Aj _ _ _ _ _ (@A7 _ _ (5) _ _ _ _ Cr.nd rfl (Or.inl rfl) (Hj rfl (by rfl) T.z_list (by rfl) T.z_reversed (pv 2)) (by rfl) (by first | exact .inl rfl | exact .inr rfl | assumption)) (@Aj _ _ _ _ _ (@A7 _ _ (6) _ _ _ _ Cr.nd rfl (Or.inl rfl) (@Aq _ _ _ _ _ _ _ _ _ _ _ _ _ _ _ _ (Mr T) (hr.mono (by decide)) rfl T.m_slip_of T.F_slip_of.kp T.b_slip_of .nil AF (@Af _ _ _ _ _ (pv 5) (@Af _ _ _ _ _ (pv 1) Ah (by rfl)) (by rfl)) (by decide) (by rfl) (by rfl)) (by rfl) (by first | exact .inl rfl | exact .inr rfl | assumption)) (@Aj _ _ _ _ _ (@Bj _ _ _ _ _ _ _ _ (@AQ _ _ _ _ _ _ _ _ (RE hr.units) (@Aq _ _ _ _ _ _ _ _ _ _ _ _ _ _ _ _ (Gj T) (hr.mono (by decide)) rfl T.m_ranks_of T.F_ranks_of.kp T.b_ranks_of .nil AF (@Af _ _ _ _ _ (pv 6) (@Af _ _ _ _ _ (pv 1) Ah (by rfl)) (by rfl)) (by decide) (by rfl) (by rfl)) (pv 5) (AR _)) (@Al _ _ _ DO) AO) (@Al _ _ _ (@A9 _ _ _ _ (@AZ _ _ _ _ _ (@Af _ _ _ _ _ (pv 6) (@Af _ _ _ _ _ (pv 3) Ah (by rfl)) (by rfl))))))))))))),?_⟩
 refine ⟨_,rfl,_,rfl,?_⟩
 and_intros
 refine ⟨(by show 0<=sizeLine;decide),fun l hl=>?_⟩
 have s1:=Ai hl (.lst [])
 have e1:(upd H l (.lst [])) l=some (.lst []):=Ag
 generalize upd H l (.lst [])=H1 at s1 e1 ⊢
 refine ⟨_,rfl,_,rfl,(rs.length:Int),rfl,by omega,by omega,C5 (fun i σ' H'=>∃v4,σ'=[some (.int (Ch c rs)),some (.int (rs.length:Nat)),some (.ref l),some (.int (Ch c (rs.take (rs.length - i)))),v4,none,none]/\AJ H H'/\H' l=some (.lst ((rs.drop (rs.length - i)).reverse.map V.int))) ⟨none,by rw [Nat.sub_zero,take_length];rfl,s1,by rw [e1,Nat.sub_zero,drop_length];rfl⟩ ?_ ?_⟩
 ·rintro i σ' H' hi ⟨v4,rfl,s2,e2⟩
  obtain ⟨r,r0,r12,ec,ed⟩:=Pg (c:=c) (show i < rs.length by omega) hr12
  obtain ⟨o1,o2⟩:=S3 (a:=Ch c (rs.take (rs.length - (i+1)))) r0 r12
  rw [<- ec] at o1 o2
  generalize Ch c (rs.take (rs.length - i))=old at o1 o2 ⊢
  have lim:((rs.drop (rs.length - i)).reverse.map V.int).length < sizeLine:=by
   rw [length_map,length_reverse,length_drop];exact Bq (by omega)
  refine ⟨_,rfl,.inl ⟨rfl,_,SqL.of e2⟩,?_⟩
  and_intros
  refine ⟨l,_,_,rfl,rfl,e2,lim,?_⟩
  and_intros
  refine ⟨some (.int (0+(i:Int))),?_,AS s2 hl,?_⟩
  ·rw [<- o2];rfl
  ·rw [Ag,ed,map_append,<- o1];rfl
 ·rintro σ' H' ⟨v4,rfl,s2,e2⟩
  rw [show ((rs.length:Int)).toNat=rs.length from Int.toNat_natCast _,Nat.sub_self,drop_zero] at e2
  rw [show ((rs.length:Int)).toNat=rs.length from Int.toNat_natCast _,Nat.sub_self,take_zero,show Ch c []=c from rfl]
  refine ⟨_,rfl,_,rfl,.inr ⟨c,rfl⟩,?_⟩
  rw [show CB (.int c)=true from (by show (decide (1<=c) && decide (c<=1000000000))=true;rw [decide_eq_true c0,decide_eq_true c1];rfl)]
  and_intros
  refine ⟨l,_,rfl,SqL.of e2,fun b hb=>?_⟩
  rw [<- map_reverse,reverse_reverse]
  have s3:=Ai hb (.lst (rs.map V.int))
  have e3:(upd H' b (.lst (rs.map V.int))) b=some (.lst (rs.map V.int)):=Ag
  generalize upd H' b (.lst (rs.map V.int))=H3 at s3 e3 ⊢
  refine ⟨_,rfl,_,rfl,b,rs,rfl,e3,l12,fun r mr=>⟨(hr12 r mr).1,Int.le_trans (hr12 r mr).2 (by decide)⟩,fun t H4 _ s4 e4=>?_⟩
  refine ⟨_,rfl,_,rfl,t,Av rs,rs.length,rfl,e4,l12,Ka,fun l2 H5 _ s5 e5=>?_⟩
  rw [gl.ranks] at e5
  refine ⟨_,rfl,l2,b,rs,rs,rfl,rfl,SqL.of e5,SqL.of (s5 _ _ (s4 _ _ e3)),?_⟩
  and_intros
  refine ifF (by rw [decide_eq_true rfl];rfl) ?_
  refine ⟨_,rfl,_,rfl,(by show 2<=sizeLine;decide),fun a ha=>?_⟩
  have s6:=Ai ha (.tup [V.ref t,V.int c])
  exact q a t _ (((((s2.trans s3).trans s4).trans s5)).trans s6) Ag (s6 _ _ (s5 _ _ e4))
theorem Dv (T:Tx K mg ad):Bd P w K mg base CX0 5 ad.f_law_told ad.d_law_told ["_law_box","_law_bundles_here","_law_hands"] (R8 ad.c_Box):=by
 refine T.F_law_told.ok CC (fun vs H Q E h=>?_) (fun cdv A outer s H vs Q E hr h=>?_)
 ·obtain ⟨b,L,n,bs,cs,B,p,rfl,_⟩:=h
  rfl
 obtain ⟨b,L,n,bs,cs,B,p,rfl,ib,lk,n12,p64,c8,q⟩:=h
 refine ⟨_,(@Aj _ _ _ _ _ (@Bj _ _ _ _ _ _ _ _ (@AQ _ _ _ _ _ _ _ _ GM (EG (pv 0) T.cl_Box T.me_Box_many (EH T) (hr.mono (by decide)) T.b_Box_many .nil AF) (@A6 _ _ _ _ _ _ _ _ _ AG (by rfl) T.z_len PySem.boot_len (@Af _ _ _ _ _ (pv 1) Ah (by rfl)) (by decide) (by decide) (by rfl) (by rfl)) (AR _)) (@Al _ _ _ (@A9 _ _ _ _ Bs)) AO) (@Aj _ _ _ _ _ (@A7 _ _ (3) _ _ _ _ CC.nd rfl (Or.inl rfl) (@AV _ _ _ _ Ah) (by rfl) (by first | exact .inl rfl | exact .inr rfl | assumption)) (@Aj _ _ _ _ _ (B1 PassesOwn.never rfl (Bw rfl T.z_range (@Af _ _ _ _ _ (@A6 _ _ _ _ _ _ _ _ _ AG (by rfl) T.z_len PySem.boot_len (@Af _ _ _ _ _ (pv 1) Ah (by rfl)) (by decide) (by decide) (by rfl) (by rfl)) Ah (by rfl))) (AY (i:=4) CC.nd rfl (Or.inl rfl)) (@Aj _ _ _ _ _ (@A7 _ _ (3) _ _ _ _ CC.nd rfl (Or.inl rfl) (@Ar _ _ _ _ _ _ _ _ Cj (pv 3) (@AN _ _ _ _ _ _ _ AI (pv 1) (pv 4) (fun _ _=>rfl))) (by rfl) (by first | exact .inl rfl | exact .inr rfl | assumption)) (@Aj _ _ _ _ _ (@A7 _ _ (5) _ _ _ _ CC.nd rfl (Or.inl rfl) (@AV _ _ _ _ (@Af _ _ _ _ _ (DW (pv 0) T.cl_Box T.me_Box_lines_at (CM T) (hr.mono (by decide)) T.b_Box_lines_at .nil KY (@Af _ _ _ _ _ (pv 4) Ah (by rfl))) (@Af _ _ _ _ _ (DW (pv 0) T.cl_Box T.me_Box_sheet_at (Es T) (hr.mono (by decide)) T.b_Box_sheet_at .nil KY (@Af _ _ _ _ _ (pv 4) Ah (by rfl))) Ah (by rfl)) (by rfl))) (by rfl) (by first | exact .inl rfl | exact .inr rfl | assumption)) (@Aj _ _ _ _ _ (@Bj _ _ _ _ _ _ _ _ (PW.pt (@CF _ _ _ _ _ _ _ (@Bv _ _ _ _ (@Br _ _ _ (@Aq _ _ _ _ _ _ _ _ _ _ _ _ _ _ _ _ (DV T) (hr.mono (by decide)) rfl T.m_law_lines T.F_law_lines.kp T.b_law_lines .nil AF (@Af _ _ _ _ _ (@AN _ _ _ _ _ _ _ AI (pv 5) Ak (fun _ _=>rfl)) (@Af _ _ _ _ _ (@AN _ _ _ _ _ _ _ AI (pv 1) (pv 4) (fun _ _=>rfl)) Ah (by rfl)) (by rfl)) (by decide) (by rfl) (by rfl)) (by intro _;rfl))) (@Cp _ _ _ _ (@Bv _ _ _ _ (@Br _ _ _ (@Aq _ _ _ _ _ _ _ _ _ _ _ _ _ _ _ _ (DV T) (hr.mono (by decide)) rfl T.m_law_lines T.F_law_lines.kp T.b_law_lines .nil AF (@Af _ _ _ _ _ (@AN _ _ _ _ _ _ _ AI (pv 5) Ak (fun _ _=>rfl)) (@Af _ _ _ _ _ (@Aq _ _ _ _ _ _ _ _ _ _ _ _ _ _ _ _ (Ea T) (hr.mono (by decide)) rfl T.m_law_sheet T.F_law_sheet.kp T.b_law_sheet .nil AF (@Af _ _ _ _ _ (@AN _ _ _ _ _ _ _ AI (pv 1) (pv 4) (fun _ _=>rfl)) Ah (by rfl)) (by decide) (by rfl) (by rfl)) Ah (by rfl)) (by rfl)) (by decide) (by rfl) (by rfl)) (by intro _;rfl)))))) (@Al _ _ _ (@A9 _ _ _ _ Bs)) AO) (@Aj _ _ _ _ _ (@BU _ _ _ _ (Pz PySem.F.plainAttrs_list PySem.F.slot_list_clear PySem.F.type_list_clear Pi (@AN _ _ _ _ _ _ _ AI (pv 5) Ak (fun _ _=>rfl))) (by rfl)) (@Aj _ _ _ _ _ (@BU _ _ _ _ (DR PySem.F.plainAttrs_list PySem.F.slot_list_append PySem.F.type_list_append BR (@AN _ _ _ _ _ _ _ AI (pv 5) Ak (fun _ _=>rfl)) (@Af _ _ _ _ _ (@AZ _ _ _ _ _ (@Af _ _ _ _ _ (@AZ _ _ _ _ _ Ah) (@Af _ _ _ _ _ Ak Ah (by rfl)) (by rfl))) Ah (by rfl))) (by rfl)) (@Al _ _ _ (@Bj _ _ _ _ _ _ _ _ (@Bv _ _ _ _ (@Br _ _ _ (@Aq _ _ _ _ _ _ _ _ _ _ _ _ _ _ _ _ (HY T) (hr.mono (by decide)) rfl T.m_law_seal_is T.F_law_seal_is.kp T.b_law_seal_is .nil AF (@Af _ _ _ _ _ (DW (pv 0) T.cl_Box T.me_Box_seal_at (GQ T) (hr.mono (by decide)) T.b_Box_seal_at .nil AF (@Af _ _ _ _ _ (pv 4) Ah (by rfl))) (@Af _ _ _ _ _ (@Aq _ _ _ _ _ _ _ _ _ _ _ _ _ _ _ _ (EF T) (hr.mono (by decide)) rfl T.m_law_seal T.F_law_seal.kp T.b_law_seal .nil AF (@Af _ _ _ _ _ (@Aq _ _ _ _ _ _ _ _ _ _ _ _ _ _ _ _ (CN T) (hr.mono (by decide)) rfl T.m_law_codes_of T.F_law_codes_of.kp T.b_law_codes_of .nil AF (@Af _ _ _ _ _ (@AN _ _ _ _ _ _ _ AI (pv 1) (pv 4) (fun _ _=>rfl)) (@Af _ _ _ _ _ (pv 2) Ah (by rfl)) (by rfl)) (by decide) (by rfl) (by rfl)) Ah (by rfl)) (by decide) (by rfl) (by rfl)) Ah (by rfl)) (by rfl)) (by decide) (by rfl) (by rfl)) (by intro _;rfl))) (@Al _ _ _ (@A9 _ _ _ _ Bs)) AO)))))))) (@Al _ _ _ (@A9 _ _ _ _ (@Aq _ _ _ _ _ _ _ _ _ _ _ _ _ _ _ _ (DV T) (hr.mono (by decide)) rfl T.m_law_lines T.F_law_lines.kp T.b_law_lines .nil AF (@Af _ _ _ _ _ (EG (pv 0) T.cl_Box T.me_Box_sheet (FJ T) (hr.mono (by decide)) T.b_Box_sheet .nil AF) (@Af _ _ _ _ _ (@Aq _ _ _ _ _ _ _ _ _ _ _ _ _ _ _ _ (Ea T) (hr.mono (by decide)) rfl T.m_law_sheet T.F_law_sheet.kp T.b_law_sheet .nil AF (@Af _ _ _ _ _ (pv 3) Ah (by rfl)) (by decide) (by rfl) (by rfl)) Ah (by rfl)) (by rfl)) (by decide) (by rfl) (by rfl))))))),?_⟩
 obtain ⟨dx,hb⟩:=ib.at_
 have lbc:bs.length=cs.length:=by
  have:=congrArg List.length lk.same
  rw [length_map,length_map] at this
  exact this
 have lB:(cs.map fun x=>V.ref x.1).length=cs.length:=length_map _
 have hB:=lk.lst
 and_intros
 refine ⟨b,dx,_,rfl,hb,rfl,?_⟩
 refine ⟨b,L,n,bs,rfl,ib,?_⟩
 and_intros
 refine ifF (Ob (by rw [lB,lbc])) ?_
 and_intros
 refine ⟨(by show 0<=sizeLine;decide),fun e0 he0=>?_⟩
 have s1:=Ai he0 (.lst [])
 have ee0:(upd H e0 (.lst [])) e0=some (.lst []):=Ag
 generalize upd H e0 (.lst [])=H1 at s1 ee0 ⊢
 have hB1:=s1 _ _ hB
 and_intros
 refine ⟨by omega,by omega,C5 (fun i σ' J=>∃(v4 v5:Option V) (E:Addr) (es:Ls),σ'=[some (.ref b),some (.ref B),some (.int (n:Int)),some (.ref E),v4,v5]/\AJ H J/\J E=some (.lst (vls es))/\AM J es/\Ao es=Ao (Ck (cs.take i))/\es.length<=100*i) ⟨none,none,e0,[],rfl,s1,ee0,(fun _ m=>nomatch m),rfl,Nat.zero_le _⟩ ?_ ?_⟩
 ·rintro i σ' J hi ⟨v4,v5,E,es,rfl,sJ,eE,gE,dE,lE⟩
  rw [lB,Int.toNat_natCast] at hi
  obtain ⟨x,ex⟩:∃x,cs[i]?=some x:=⟨_,List.getElem?_eq_getElem hi⟩
  have xm:=mem_of_getElem? ex
  obtain ⟨y,ey,e⟩:=F8 lk.same ex
  have okx:=lk.ok x xm
  have lx:=lk.len x xm
  have oky:Ci n p (Ao y.2):=by rw [e];exact okx
  have lxy:=RM e
  have atx:atI (cs.map fun x=>V.ref x.1) (0+(i:Int))=some (.ref x.1):=by rw [Int.zero_add];exact BE (by rw [List.getElem?_map,ex];rfl)
  and_intros
  refine ⟨B,_,_,_,rfl,rfl,SqL.of (sJ _ _ hB),atx,?_⟩
  refine ⟨E,x.1,_,_,rfl,rfl,eE,sJ _ _ (lk.lies x xm).1,(by rw [AT,AT];exact Be (by omega)),fun E2 hE2=>?_⟩
  have w0:=Ai hE2 (.lst (vls es++vls x.2))
  have e0':(upd J E2 (.lst (vls es++vls x.2))) E2=some (.lst (vls (es++x.2))):=by rw [Ag,B9]
  generalize upd J E2 (.lst (vls es++vls x.2))=K0 at w0 e0' ⊢
  have sK:=sJ.trans w0
  have ik:=ib.same sK
  have hbk:=sK _ _ hb
  have gy:=(ik.lies y (mem_of_getElem? ey)).2
  have gx:=(lk.lies x xm).2.same sK
  have hx:=sK _ _ (lk.lies x xm).1
  have hBk:=sK _ _ hB
  and_intros
  refine ⟨b,dx,_,rfl,hbk,rfl,?_⟩
  and_intros
  refine ⟨b,L,n,bs,_,rfl,ik,.inl ⟨i,y,(by rw [Int.zero_add]),ey,fun l1 K1 hl1 t1 e1=>?_⟩⟩
  have hb1:=t1 _ _ hbk
  and_intros
  refine ⟨b,dx,_,rfl,hb1,rfl,?_⟩
  and_intros
  refine ⟨b,L,n,bs,_,rfl,ik.same t1,.inl ⟨i,y,p,(by rw [Int.zero_add]),ey,oky,p64,fun l2 ms K2 hl2 t2 e2 g2 sh2 l64=>?_⟩⟩
  refine ⟨(by show 2<=sizeLine;decide),fun tl htl=>?_⟩
  have t3:=Ai htl (.lst [V.ref l1,V.ref l2])
  have etl:(upd K2 tl (.lst [V.ref l1,V.ref l2])) tl=some (.lst [V.ref l1,V.ref l2]):=Ag
  generalize upd K2 tl (.lst [V.ref l1,V.ref l2])=K3 at t3 etl ⊢
  have t13:=(t1.trans t2).trans t3
  have hB3:=t13 _ _ hBk
  and_intros
  refine ⟨B,_,_,_,rfl,rfl,SqL.of hB3,atx,?_⟩
  refine ⟨l1,x.1,y.2,x.2,rfl,(t2.trans t3) _ _ e1,t13 _ _ hx,gy.same t13,gx.same t13,e,by omega,oky.slip n12,fun K4 t4=>?_⟩
  have t14:=t13.trans t4
  have etl4:=t4 _ _ etl
  have hB4:=t14 _ _ hBk
  and_intros
  refine ⟨B,_,_,_,rfl,rfl,SqL.of hB4,atx,?_⟩
  and_intros
  refine ⟨x.1,x.2,p,rfl,t14 _ _ hx,gx.same t14,(fun q m=>(okx q m).1),p64,(fun q m=>(okx q m).2.1),fun l3 ms3 K5 hl3 t5 e5 g5 sh5 _=>?_⟩
  have em:Ao ms=Ao ms3:=sh2.uniq sh5 (fun ts=>by rw [e])
  refine ⟨l2,l3,ms,ms3,rfl,((t3.trans t4).trans t5) _ _ e2,e5,g2.same ((t3.trans t4).trans t5),g5,em,by omega,sh2.slip (fun d m=>Nat.le_trans (oky d m).2.2.2.len n12),fun K6 t6=>?_⟩
  have t36:=(t4.trans t5).trans t6
  have t06:=t13.trans t36
  have etl6:=t36 _ _ etl
  and_intros
  have el1:=((t2.trans t3).trans t36) _ _ e1
  refine ⟨.inl ⟨rfl,_,SqL.of el1⟩,l1,_,rfl,rfl,el1,?_⟩
  have u7:=AS (o:=.lst []) t06 hl1
  have etl7:(upd K6 l1 (.lst [])) tl=some (.lst [V.ref l1,V.ref l2]):=by rw [A8 (fun z=>by rw [z,t2 _ _ e1] at htl;cases htl)];exact etl6
  have el2:(upd K6 l1 (.lst [])) l2=some (.lst (vls ms)):=by rw [A8 (fun z=>by rw [z,e1] at hl2;cases hl2)];exact (t3.trans t36) _ _ e2
  generalize upd K6 l1 (.lst [])=K7 at u7 etl7 el2 ⊢
  and_intros
  refine ⟨.inl ⟨rfl,_,SqL.of el2⟩,?_⟩
  refine ⟨(by show 0<=sizeLine;decide),fun u11 hu11=>?_⟩
  have w11:=Ai hu11 (.tup [])
  have y11:(upd K7 u11 (.tup [])) u11=some (.tup []):=Ag
  generalize upd K7 u11 (.tup [])=U11 at w11 y11 ⊢
  refine ⟨(by show 2<=sizeLine;decide),fun u21 hu21=>?_⟩
  have w21:=Ai hu21 (.tup [V.ref u11,V.int 1])
  have y21:(upd U11 u21 (.tup [V.ref u11,V.int 1])) u21=some (.tup [V.ref u11,V.int 1]):=Ag
  generalize upd U11 u21 (.tup [V.ref u11,V.int 1])=U21 at w21 y21 ⊢
  have w1:=w11.trans w21
  refine ⟨l2,_,_,rfl,rfl,w1 _ _ el2,(by rw [AT];exact Bq (by omega)),?_⟩
  have u8:=AS (o:=.lst (vls ms++[V.ref u21])) (u7.trans w1) (none_of t1 hl2)
  generalize upd U21 l2 (.lst (vls ms++[V.ref u21]))=K8 at u8 ⊢
  have hb8:=u8 _ _ hbk
  and_intros
  refine ⟨b,dx,_,rfl,hb8,rfl,?_⟩
  and_intros
  refine ⟨b,L,n,bs,i,y,p,(by show [_,V.int (0+(i:Int))]=_;rw [Int.zero_add]),ik.same u8,ey,oky,n12,by omega,fun t K9 t9 et=>?_⟩
  have u9:=u8.trans t9
  have hB9:=u9 _ _ hBk
  and_intros
  refine ⟨B,_,_,_,rfl,rfl,SqL.of hB9,atx,?_⟩
  and_intros
  refine ⟨x.1,x.2,n,p,rfl,u9 _ _ hx,gx.same u9,okx,n12,by omega,fun c KA hc tA ec=>?_⟩
  and_intros
  refine ⟨c,_,rfl,ec,Fa n12 okx,(by rw [Cg];unfold Ao;rw [length_map];exact lx),fun t2' KB ht2 tB et2=>?_⟩
  rw [e] at et
  refine ⟨t,t2',_,rfl,(tA.trans tB) _ _ et,et2,(by show 4<=60;decide),fun KC tC=>?_⟩
  have uC:=u9.trans ((tA.trans tB).trans tC)
  refine ⟨_,rfl,ifF rfl ?_⟩
  refine ⟨_,_,E2,es++x.2,rfl,sK.trans uC,uC _ _ e0',(gE.same (w0.trans uC)).append (gx.same uC),?_,?_⟩
  ·rw [AK,dE,take_succ,ex]
   show _=Ao (Ck (cs.take i++[x]))
   rw [DN,AK]
  ·rw [length_append]
   omega
 rintro σ' J ⟨v4,v5,E,es,rfl,sJ,eE,gE,dE,lE⟩
 rw [lB,Int.toNat_natCast,take_length] at dE
 rw [lB,Int.toNat_natCast] at lE
 have hbJ:=sJ _ _ hb
 and_intros
 refine ⟨b,dx,_,rfl,hbJ,rfl,?_⟩
 have okA:Ci n p (Ao (Ck cs)):=fun q m=>by
  obtain ⟨y,ym,qm⟩:=KN m
  exact lk.ok y ym q qm
 have dA:=Hg lk.same
 refine ⟨b,L,n,bs,p,rfl,ib.same sJ,(fun x m=>by
  have:Ao x.2∈cs.map (fun x=>Ao x.2):=by rw [<- lk.same];exact mem_map.mpr ⟨x,m,rfl⟩
  obtain ⟨y,ym,e⟩:=mem_map.mp this
  rw [<- e]
  exact lk.ok y ym),p64,by omega,fun l6 ms K3 hl6 s6 e6 g6 sh6 l64=>?_⟩
 and_intros
 refine ⟨E,es,p,rfl,s6 _ _ eE,gE.same s6,(fun q m=>(okA q (dE ▸ m)).1),p64,(fun q m=>(okA q (dE ▸ m)).2.1),fun l7 ms7 K4 hl7 s7 e7 g7 sh7 _=>?_⟩
 have em:=sh6.uniq sh7 (fun ts=>by rw [dE,dA])
 exact ⟨l6,l7,ms,ms7,rfl,s7 _ _ e6,e7,g6.same s7,g7,em,by omega,sh6.slip (fun d m=>by rw [dA] at m;exact Nat.le_trans (okA d m).2.2.2.len n12),fun K5 s8=>q _ ((sJ.trans s6).trans (s7.trans s8))⟩
theorem DS (T:Tx K mg ad):Bd P w K mg base (CX1 P w) 5 ad.f_Box_put_right ad.d_Box_put_right ["self","k","lines"] (Ox K ad.c_Box ad.c_NoBundle ad.c_NoSheet ad.c_WrongNumber):=by
 refine T.F_Box_put_right.okX C4 (fun vs H Q E h=>?_) (fun cdv A outer s H vs Q E hr h=>?_)
 ·obtain ⟨b,L,n,bs,x,l,rfl,_⟩:=h
  rfl
 obtain ⟨b,L,n,bs,x,l,rfl,ib,q⟩:=h
 refine ⟨_,(@Aj _ _ _ _ _ (@A7 _ _ (3) _ _ _ _ C4.nd rfl (Or.inl rfl) (Hs ⟨rfl,rfl,rfl⟩ (pv 0) T.cl_Box T.me_Box_sheet_at (Es T) (hr.mono (by decide)) T.b_Box_sheet_at .nil (@Af _ _ _ _ _ (pv 1) Ah (by rfl))) (by rfl) (by first | exact .inl rfl | exact .inr rfl | assumption)) (@Aj _ _ _ _ _ (@A7 _ _ (4) _ _ _ _ C4.nd rfl (Or.inl rfl) (@Ky _ _ _ _ _ _ _ _ _ _ _ _ _ _ _ ⟨rfl,rfl,rfl⟩ (ES T) (hr.mono (by decide)) rfl T.m_sheet_of T.F_sheet_of.kp T.b_sheet_of .nil (@Af _ _ _ _ _ (pv 2) Ah (by rfl)) (by decide) (by rfl) (by rfl)) (by rfl) (by first | exact .inl rfl | exact .inr rfl | assumption)) (@Aj _ _ _ _ _ (@Bj _ _ _ _ _ _ _ _ (@AQ _ _ _ _ _ _ _ _ GM (@Aq _ _ _ _ _ _ _ _ _ _ _ _ _ _ _ _ (C8 T) (hr.mono (by decide)) rfl T.m_ballots_in T.F_ballots_in.kp T.b_ballots_in .nil AF (@Af _ _ _ _ _ (pv 4) Ah (by rfl)) (by decide) (by rfl) (by rfl)) (@Aq _ _ _ _ _ _ _ _ _ _ _ _ _ _ _ _ (C8 T) (hr.mono (by decide)) rfl T.m_ballots_in T.F_ballots_in.kp T.b_ballots_in .nil AF (@Af _ _ _ _ _ (pv 3) Ah (by rfl)) (by decide) (by rfl) (by rfl)) (AR _)) (@Al _ _ _ (Nw ⟨rfl,rfl,rfl⟩ rfl (hr.mono (by decide)) rfl T.m_WrongNumber T.i_WrongNumber T.h_WrongNumber T.kp_WrongNumber (Fi T) T.b_WrongNumber_init (@Af _ _ _ _ _ (@Aq _ _ _ _ _ _ _ _ _ _ _ _ _ _ _ _ (C8 T) (hr.mono (by decide)) rfl T.m_ballots_in T.F_ballots_in.kp T.b_ballots_in .nil AF (@Af _ _ _ _ _ (pv 3) Ah (by rfl)) (by decide) (by rfl) (by rfl)) (@Af _ _ _ _ _ (@Aq _ _ _ _ _ _ _ _ _ _ _ _ _ _ _ _ (C8 T) (hr.mono (by decide)) rfl T.m_ballots_in T.F_ballots_in.kp T.b_ballots_in .nil AF (@Af _ _ _ _ _ (pv 4) Ah (by rfl)) (by decide) (by rfl) (by rfl)) Ah (by rfl)) (by rfl)))) AO) (@Aj _ _ _ _ _ (CV (@Ce _ _ _ _ _ _ _ _ _ BK (by rfl) T.z_list PyProof.Rows.boot_list (@Af _ _ _ _ _ (pv 2) Ah (by rfl)) (by decide) (by decide) (by rfl) (by rfl)) (D9 (FR (pv 0) rfl) (pv 1) Cm)) (@Al _ _ _ (@A9 _ _ _ _ (@Aq _ _ _ _ _ _ _ _ _ _ _ _ _ _ _ _ (PJ T) (hr.mono (by decide)) rfl T.m_apart T.F_apart.kp T.b_apart .nil AF (@Af _ _ _ _ _ (pv 3) (@Af _ _ _ _ _ (pv 4) Ah (by rfl)) (by rfl)) (by decide) (by rfl) (by rfl)))))))),?_⟩
 obtain ⟨dx,hb⟩:=ib.at_
 and_intros
 refine ⟨b,dx,_,rfl,hb,rfl,?_⟩
 and_intros
 rcases q with ⟨no,q⟩ | ⟨k,yy,p,rfl,ex,ok,p64,q⟩
 ·exact ⟨b,L,n,bs,_,rfl,ib,.inr ⟨no,q⟩⟩
 have kl:k < bs.length:=(List.getElem?_eq_some_iff.mp ex).1
 refine ⟨b,L,n,bs,_,rfl,ib,.inl ⟨k,yy,p,rfl,ex,ok,p64,fun o os H1 ho s1 e1 g1 sh1 l1=>?_⟩⟩
 and_intros
 rcases q with ⟨ws,hl,gw,bad,q⟩ | ⟨ls,hl,gl,okl,q⟩
 ·exact .inr ⟨l,ws,rfl,s1 _ _ hl,(fun q m=>⟨s1 _ _ (gw q m).1,s1 _ _ (gw q m).2.1,(gw q m).2.2.imp (fun z=>⟨z.1.same s1,z.2⟩) id⟩),bad,fun H' s'=>q H' (s1.trans s')⟩
 refine .inl ⟨l,ls,p,rfl,s1 _ _ hl,gl.same s1,(fun q m=>(okl q m).1),p64,(fun q m=>(okl q m).2),fun m ms H2 hm s2 e2 g2 sh2 l2=>?_⟩
 have px:Pos (Ao yy.2):=fun q m=>(ok q m).2.1
 have pl:Pos (Ao ls):=fun q m=>(okl q m).2.1
 have sm1:((Ao os).map (·.2)).sum=Bp (Ao yy.2):=Pu (sh1.tot px)
 have sm2:((Ao ms).map (·.2)).sum=Bp (Ao ls):=Pu (sh2.tot pl)
 and_intros
 refine ⟨m,ms,rfl,e2,g2,by omega,fun H3 s3=>?_⟩
 have s23:=s2.trans s3
 have s13:=s1.trans s23
 and_intros
 refine ⟨o,os,rfl,s23 _ _ e1,g1.same s23,by omega,fun H4 s4=>?_⟩
 have s24:=s23.trans s4
 have s14:=s13.trans s4
 rw [sm1,sm2]
 and_intros
 rcases q with ⟨es',q⟩ | ⟨ne,q⟩
 ·have es:Bp (Ao ls)=Bp (Ao yy.2):=es'.symm
  refine ifF (Ob es) ?_
  and_intros
  refine ⟨l,_,rfl,.inl (SqL.of (s14 _ _ hl)),fun y hy=>?_⟩
  have sJ:=Ai hy (.lst (vls ls))
  have ey:(upd H4 y (.lst (vls ls))) y=some (.lst (vls ls)):=Ag
  generalize upd H4 y (.lst (vls ls))=J at sJ ey ⊢
  have s1J:=s14.trans sJ
  have s2J:=s24.trans sJ
  have yL:y≠L:=fun z=>by rw [z,s14 _ _ ib.lst] at hy;cases hy
  have oL:o≠L:=fun z=>by rw [z,ib.lst] at ho;cases ho
  have mL:m≠L:=fun z=>by rw [z,s1 _ _ ib.lst] at hm;cases hm
  have hbJ:=s1J _ _ hb
  have LJ:=s1J _ _ ib.lst
  and_intros
  refine ⟨b,_,dx,_,_,rfl,hbJ,T.cl_Box,T.na_Box_bundles,rfl,?_⟩
  and_intros
  refine ⟨L,_,_,k,rfl,rfl,LJ,DU (by rw [length_map];exact kl),?_⟩
  have z1:AJ (off H L) (upd J L (.lst ((bs.map fun x=>V.ref x.1).set k (.ref y)))):=GD ((Lk H L).trans s1J)
  have z2:(upd J L (.lst ((bs.map fun x=>V.ref x.1).set k (.ref y)))) L=some (.lst ((bs.set k (y,ls)).map fun x=>V.ref x.1)):=by rw [Ag,map_set]
  have z3:(upd J L (.lst ((bs.map fun x=>V.ref x.1).set k (.ref y)))) y=some (.lst (vls ls)):=by rw [A8 yL];exact ey
  have z4:(upd J L (.lst ((bs.map fun x=>V.ref x.1).set k (.ref y)))) o=some (.lst (vls os)):=by rw [A8 oL];exact s2J _ _ e1
  have z5:(upd J L (.lst ((bs.map fun x=>V.ref x.1).set k (.ref y)))) m=some (.lst (vls ms)):=by rw [A8 mL];exact ((s3.trans s4).trans sJ) _ _ e2
  have z6:AM (upd J L (.lst ((bs.map fun x=>V.ref x.1).set k (.ref y)))) os:=(g1.same s2J).upd LJ
  have z7:AM (upd J L (.lst ((bs.map fun x=>V.ref x.1).set k (.ref y)))) ms:=(g2.same ((s3.trans s4).trans sJ)).upd LJ
  generalize upd J L (.lst ((bs.map fun x=>V.ref x.1).set k (.ref y)))=J2 at z1 z2 z3 z4 z5 z6 z7 ⊢
  and_intros
  refine ⟨o,m,os,ms,p,rfl,z4,z6,l1,z5,z7,sh2.keys (fun q m=>(okl q m).1),p64,fun J3 s5=>?_⟩
  refine q y _ J3 (fun s sh=>?_) (none_of s14 hy) (z1.trans s5) (s5 _ _ z2) (s5 _ _ z3)
  rw [sh.uniq sh1 (fun _=>rfl)]
  exact NN (fun ts=>(sh2.tot pl ts).symm)
 ·refine ifT (RK (fun z=>ne z.symm)) ?_
  and_intros
  refine ⟨o,os,rfl,s24 _ _ e1,g1.same s24,by omega,fun H5 s5=>?_⟩
  and_intros
  refine ⟨m,ms,rfl,((s3.trans s4).trans s5) _ _ e2,g2.same ((s3.trans s4).trans s5),by omega,fun H6 s6=>?_⟩
  rw [sm1,sm2]
  refine ⟨rfl,(by show 2<=sizeLine;decide),fun d hd=>?_⟩
  exact q d _ (((s14.trans s5).trans s6).trans (Ai hd _)) Ag
theorem BD (T:Tx K mg ad):Bd P w K mg base CX0 6 ad.f_law_refused ad.d_law_refused ["_law_box","_law_k","_law_lines_here"] (R1 K ad.c_Box ad.c_NoBundle ad.c_NoSheet ad.c_WrongNumber):=by
 refine T.F_law_refused.ok Cv (fun vs H Q E h=>?_) (fun cdv A outer s H vs Q E hr h=>?_)
 ·obtain ⟨b,L,n,bs,x,l,zs,kd,ws,rfl,_⟩:=h
  rfl
 obtain ⟨b,L,n,bs,x,l,zs,kd,ws,rfl,ib,hl,dat,run,q⟩:=h
 refine ⟨_,(@Aj _ _ _ _ _ (@A7 _ _ (3) _ _ _ _ Cv.nd rfl (Or.inl rfl) (@Ce _ _ _ _ _ _ _ _ _ BK (by rfl) T.z_list PyProof.Rows.boot_list (@Af _ _ _ _ _ (pv 2) Ah (by rfl)) (by decide) (by decide) (by rfl) (by rfl)) (by rfl) (by first | exact .inl rfl | exact .inr rfl | assumption)) (@Aj _ _ _ _ _ (Rw ⟨rfl,rfl,rfl⟩ (fun _ _=>(@Al _ _ _ (@BU _ _ _ _ (Hs ⟨rfl,rfl,rfl⟩ (pv 0) T.cl_Box T.me_Box_put_right (DS T) (hr.mono (by decide)) T.b_Box_put_right .nil (@Af _ _ _ _ _ (pv 1) (@Af _ _ _ _ _ (pv 3) Ah (by rfl)) (by rfl))) (by rfl)))) (S2 (i:=4) ⟨rfl,rfl,rfl⟩ T.h_PollError rfl T.m_PollError Cv.nd rfl rfl (fun ev=>(@Aj _ _ _ _ _ (@A7 _ _ (5) _ _ _ _ Cv.nd rfl (Or.inl rfl) (@AV _ _ _ _ (@Af _ _ _ _ _ (@A6 _ _ _ _ _ _ _ _ _ (F7 (K:=K)) (by rfl) T.z_isinstance PyProof.Rows.boot_isinstance (@Af _ _ _ _ _ (pv 4) (@Af _ _ _ _ _ (B4 (v:=.ref ad.c_NoBundle) rfl T.m_NoBundle rfl) Ah (by rfl)) (by rfl)) (by decide) (by decide) (by rfl) (by rfl)) (@Af _ _ _ _ _ (@A6 _ _ _ _ _ _ _ _ _ (F7 (K:=K)) (by rfl) T.z_isinstance PyProof.Rows.boot_isinstance (@Af _ _ _ _ _ (pv 4) (@Af _ _ _ _ _ (B4 (v:=.ref ad.c_NoSheet) rfl T.m_NoSheet rfl) Ah (by rfl)) (by rfl)) (by decide) (by decide) (by rfl) (by rfl)) (@Af _ _ _ _ _ (@A6 _ _ _ _ _ _ _ _ _ (F7 (K:=K)) (by rfl) T.z_isinstance PyProof.Rows.boot_isinstance (@Af _ _ _ _ _ (pv 4) (@Af _ _ _ _ _ (B4 (v:=.ref ad.c_WrongNumber) rfl T.m_WrongNumber rfl) Ah (by rfl)) (by rfl)) (by decide) (by decide) (by rfl) (by rfl)) Ah (by rfl)) (by rfl)) (by rfl))) (by rfl) (by first | exact .inl rfl | exact .inr rfl | assumption)) (@Aj _ _ _ _ _ (@Bj _ _ _ _ _ _ _ _ (PW.pt (@CF _ _ _ _ _ _ _ (@Br _ _ _ (@A6 _ _ _ _ _ _ _ _ _ (Iz (K:=K)) (by rfl) T.z_isinstance PyProof.Rows.boot_isinstance (@Af _ _ _ _ _ (pv 4) (@Af _ _ _ _ _ (@AZ _ _ _ _ _ (@Af _ _ _ _ _ (B4 (v:=.ref ad.c_Ended) rfl T.m_Ended rfl) (@Af _ _ _ _ _ (B4 (v:=.ref ad.c_NoBallot) rfl T.m_NoBallot rfl) (@Af _ _ _ _ _ (B4 (v:=.ref ad.c_NoChange) rfl T.m_NoChange rfl) (@Af _ _ _ _ _ (B4 (v:=.ref ad.c_NoNumber) rfl T.m_NoNumber rfl) Ah (by rfl)) (by rfl)) (by rfl)) (by rfl))) Ah (by rfl)) (by rfl)) (by decide) (by decide) (by rfl) (by rfl)) (by intro _;rfl)) (@Cp _ _ _ _ (@Br _ _ _ (@A6 _ _ _ _ _ _ _ _ _ (Iz (K:=K)) (by rfl) T.z_isinstance PyProof.Rows.boot_isinstance (@Af _ _ _ _ _ (pv 4) (@Af _ _ _ _ _ (@AZ _ _ _ _ _ (@Af _ _ _ _ _ (B4 (v:=.ref ad.c_NoRow) rfl T.m_NoRow rfl) (@Af _ _ _ _ _ (B4 (v:=.ref ad.c_NoWay) rfl T.m_NoWay rfl) (@Af _ _ _ _ _ (B4 (v:=.ref ad.c_TooHard) rfl T.m_TooHard rfl) (@Af _ _ _ _ _ (B4 (v:=.ref ad.c_Torn) rfl T.m_Torn rfl) Ah (by rfl)) (by rfl)) (by rfl)) (by rfl))) Ah (by rfl)) (by rfl)) (by decide) (by decide) (by rfl) (by rfl)) (by intro _;rfl))))) (@Al _ _ _ (@A9 _ _ _ _ HJ)) AO) (@Aj _ _ _ _ _ (@Bj _ _ _ _ _ _ _ _ (PW.pt (@CF _ _ _ _ _ _ _ (@Bv _ _ _ _ (@Br _ _ _ (@A6 _ _ _ _ _ _ _ _ _ (F7 (K:=K)) (by rfl) T.z_isinstance PyProof.Rows.boot_isinstance (@Af _ _ _ _ _ (pv 4) (@Af _ _ _ _ _ (Cn (v:=.ty "ValueError") rfl T.z_ValueError PyProof.Rows.Boot.«ValueError» rfl) Ah (by rfl)) (by rfl)) (by decide) (by decide) (by rfl) (by rfl)) (by intro _;rfl))) (@Cp _ _ _ _ (@AQ _ _ _ _ _ _ _ _ (HL (K:=K) hr.units) (pv 3) (pv 2) (AR _))))) (@Al _ _ _ (@A9 _ _ _ _ HJ)) AO) (@Aj _ _ _ _ _ (@Bj _ _ _ _ _ _ _ _ (@AQ _ _ _ _ _ _ _ _ (D6 (K:=K) hr.units) (pv 5) (@AV _ _ _ _ (@Af _ _ _ _ _ Bs (@Af _ _ _ _ _ Bs (@Af _ _ _ _ _ Bs Ah (by rfl)) (by rfl)) (by rfl))) (AR _)) (@Al _ _ _ (@A9 _ _ _ _ (@AZ _ _ _ _ _ (@Af _ _ _ _ _ (pv 5) (@Af _ _ _ _ _ (@AV _ _ _ _ (@Af _ _ _ _ _ (Np (K:=K) (pv 4) rfl) (@Af _ _ _ _ _ (Np (K:=K) (pv 4) rfl) Ah (by rfl)) (by rfl))) Ah (by rfl)) (by rfl))))) AO) (@Al _ _ _ (@A9 _ _ _ _ (@AZ _ _ _ _ _ (@Af _ _ _ _ _ (pv 5) (@Af _ _ _ _ _ (@AV _ _ _ _ Ah) Ah (by rfl)) (by rfl)))))))))) Pe)) (@Al _ _ _ (@A9 _ _ _ _ HJ)))),?_⟩
 obtain ⟨dx,hb⟩:=ib.at_
 and_intros
 intro h hh
 have s1:=Ai hh (.lst zs)
 have eh:(upd H h (.lst zs)) h=some (.lst zs):=Ag
 generalize upd H h (.lst zs)=H1 at s1 eh ⊢
 have hb1:=s1 _ _ hb
 and_intros
 refine ⟨b,dx,_,rfl,hb1,rfl,?_⟩
 and_intros
 unfold RP
 show Ox K ad.c_Box ad.c_NoBundle ad.c_NoSheet ad.c_WrongNumber [V.ref b,x,V.ref h] H1 _ _
 refine run H1 h _ _ s1 eh (fun C od H2 s2 hC=>?_)
 have c3:kd < 3:=by rcases hC with h | h | h <;> omega
 obtain ⟨xk,xd,sp,kv,k0,k1,k2,m1,m2⟩:Ii K C/\Hw H2 od/\PySem.W.subIn K (.ref C) (.ref ad.c_PollError)=some true/\PySem.W.kitOne K (.ref C) (.type "ValueError")=some true/\PySem.W.kitOne K (.ref C) (.ref ad.c_NoBundle)=some (decide (kd=0))/\PySem.W.kitOne K (.ref C) (.ref ad.c_NoSheet)=some (decide (kd=1))/\PySem.W.kitOne K (.ref C) (.ref ad.c_WrongNumber)=some (decide (kd=2))/\PySem.W.kitAny K (.ref C) [.ref ad.c_Ended,.ref ad.c_NoBallot,.ref ad.c_NoChange,.ref ad.c_NoNumber]=some false/\PySem.W.kitAny K (.ref C) [.ref ad.c_NoRow,.ref ad.c_NoWay,.ref ad.c_TooHard,.ref ad.c_Torn]=some false:=by
  rcases hC with ⟨rfl,rfl,rfl,_⟩ | ⟨rfl,rfl,rfl,_⟩ | ⟨rfl,rfl,dx,a,b,rfl,_,hd⟩
  ·have kit:∀{B:Addr} {b:Bool},CP K B->PySem.W.subIn K (.ref ad.c_NoBundle) (.ref B)=some b->PySem.W.kitOne K (.ref ad.c_NoBundle) (.ref B)=some b:=fun c h=>LR c h T.s_NoBundle_NoBundle
   exact ⟨T.k_NoBundle,.inl rfl,T.s_NoBundle_PollError,Mq Fq T.v_NoBundle,kit T.h_NoBundle T.s_NoBundle_NoBundle,kit T.h_NoSheet T.s_NoBundle_NoSheet,kit T.h_WrongNumber T.s_NoBundle_WrongNumber,(kan (kit T.h_Ended T.s_NoBundle_Ended) (kan (kit T.h_NoBallot T.s_NoBundle_NoBallot) (kan (kit T.h_NoChange T.s_NoBundle_NoChange) (kan (kit T.h_NoNumber T.s_NoBundle_NoNumber) Fd)))),(kan (kit T.h_NoRow T.s_NoBundle_NoRow) (kan (kit T.h_NoWay T.s_NoBundle_NoWay) (kan (kit T.h_TooHard T.s_NoBundle_TooHard) (kan (kit T.h_Torn T.s_NoBundle_Torn) Fd))))⟩
  ·have kit:∀{B:Addr} {b:Bool},CP K B->PySem.W.subIn K (.ref ad.c_NoSheet) (.ref B)=some b->PySem.W.kitOne K (.ref ad.c_NoSheet) (.ref B)=some b:=fun c h=>LR c h T.s_NoSheet_NoSheet
   exact ⟨T.k_NoSheet,.inl rfl,T.s_NoSheet_PollError,Mq Fq T.v_NoSheet,kit T.h_NoBundle T.s_NoSheet_NoBundle,kit T.h_NoSheet T.s_NoSheet_NoSheet,kit T.h_WrongNumber T.s_NoSheet_WrongNumber,(kan (kit T.h_Ended T.s_NoSheet_Ended) (kan (kit T.h_NoBallot T.s_NoSheet_NoBallot) (kan (kit T.h_NoChange T.s_NoSheet_NoChange) (kan (kit T.h_NoNumber T.s_NoSheet_NoNumber) Fd)))),(kan (kit T.h_NoRow T.s_NoSheet_NoRow) (kan (kit T.h_NoWay T.s_NoSheet_NoWay) (kan (kit T.h_TooHard T.s_NoSheet_TooHard) (kan (kit T.h_Torn T.s_NoSheet_Torn) Fd))))⟩
  ·have kit:∀{B:Addr} {b:Bool},CP K B->PySem.W.subIn K (.ref ad.c_WrongNumber) (.ref B)=some b->PySem.W.kitOne K (.ref ad.c_WrongNumber) (.ref B)=some b:=fun c h=>LR c h T.s_WrongNumber_WrongNumber
   exact ⟨T.k_WrongNumber,.inr ⟨dx,_,rfl,hd⟩,T.s_WrongNumber_PollError,Mq Fq T.v_WrongNumber,kit T.h_NoBundle T.s_WrongNumber_NoBundle,kit T.h_NoSheet T.s_WrongNumber_NoSheet,kit T.h_WrongNumber T.s_WrongNumber_WrongNumber,(kan (kit T.h_Ended T.s_WrongNumber_Ended) (kan (kit T.h_NoBallot T.s_WrongNumber_NoBallot) (kan (kit T.h_NoChange T.s_WrongNumber_NoChange) (kan (kit T.h_NoNumber T.s_WrongNumber_NoNumber) Fd)))),(kan (kit T.h_NoRow T.s_WrongNumber_NoRow) (kan (kit T.h_NoWay T.s_WrongNumber_NoWay) (kan (kit T.h_TooHard T.s_WrongNumber_TooHard) (kan (kit T.h_Torn T.s_WrongNumber_Torn) Fd))))⟩
 refine ⟨true,sp,?_⟩
 rw [if_pos rfl]
 intro e he
 have se:AJ H2 (upd H2 e (hoX e (.ref C) od)):=Ai he _
 have ee:(upd H2 e (hoX e (.ref C) od)) e=some (hoX e (.ref C) od):=Ag
 generalize upd H2 e (hoX e (.ref C) od)=H3 at se ee ⊢
 have xd3:Hw H3 od:=xd.imp id (fun ⟨a,b,c,d⟩=>⟨a,b,c,se _ _ d⟩)
 and_intros
 refine ⟨e,C,od,_,_,_,rfl,ee,xd3,xk,rfl,k0,?_⟩
 and_intros
 refine ⟨e,C,od,_,_,_,rfl,ee,xd3,xk,rfl,k1,?_⟩
 and_intros
 refine ⟨e,C,od,_,_,_,rfl,ee,xd3,xk,rfl,k2,?_⟩
 refine ⟨(by show 3<=sizeLine;decide),fun ka hka=>?_⟩
 have s4:=Ai hka (.lst [V.bl (decide (kd=0)),V.bl (decide (kd=1)),V.bl (decide (kd=2))])
 have eka:(upd H3 ka (.lst [V.bl (decide (kd=0)),V.bl (decide (kd=1)),V.bl (decide (kd=2))])) ka=some (.lst [V.bl (decide (kd=0)),V.bl (decide (kd=1)),V.bl (decide (kd=2))]):=Ag
 generalize upd H3 ka (.lst [V.bl (decide (kd=0)),V.bl (decide (kd=1)),V.bl (decide (kd=2))])=H4 at s4 eka ⊢
 and_intros
 refine ⟨(by show 4<=sizeLine;decide),fun t1 ht1=>?_⟩
 have s5:=Ai ht1 (.tup [V.ref ad.c_Ended,V.ref ad.c_NoBallot,V.ref ad.c_NoChange,V.ref ad.c_NoNumber])
 have et1:(upd H4 t1 (.tup [V.ref ad.c_Ended,V.ref ad.c_NoBallot,V.ref ad.c_NoChange,V.ref ad.c_NoNumber])) t1=some (.tup [V.ref ad.c_Ended,V.ref ad.c_NoBallot,V.ref ad.c_NoChange,V.ref ad.c_NoNumber]):=Ag
 generalize upd H4 t1 (.tup [V.ref ad.c_Ended,V.ref ad.c_NoBallot,V.ref ad.c_NoChange,V.ref ad.c_NoNumber])=H5 at s5 et1 ⊢
 have xd5:Hw H5 od:=xd3.imp id (fun ⟨a,b,c,d⟩=>⟨a,b,c,(s4.trans s5) _ _ d⟩)
 refine ⟨e,C,od,t1,_,_,false,rfl,(s4.trans s5) _ _ ee,xd5,xk,SqT.of et1,rfl,m1,?_⟩
 and_intros
 refine ⟨(by show 4<=sizeLine;decide),fun t2 ht2=>?_⟩
 have s6:=Ai ht2 (.tup [V.ref ad.c_NoRow,V.ref ad.c_NoWay,V.ref ad.c_TooHard,V.ref ad.c_Torn])
 have et2:(upd H5 t2 (.tup [V.ref ad.c_NoRow,V.ref ad.c_NoWay,V.ref ad.c_TooHard,V.ref ad.c_Torn])) t2=some (.tup [V.ref ad.c_NoRow,V.ref ad.c_NoWay,V.ref ad.c_TooHard,V.ref ad.c_Torn]):=Ag
 generalize upd H5 t2 (.tup [V.ref ad.c_NoRow,V.ref ad.c_NoWay,V.ref ad.c_TooHard,V.ref ad.c_Torn])=H6 at s6 et2 ⊢
 have s36:=(s4.trans s5).trans s6
 have xd6:Hw H6 od:=xd3.imp id (fun ⟨a,b,c,d⟩=>⟨a,b,c,s36 _ _ d⟩)
 have ee6:=s36 _ _ ee
 have eka6:=(s5.trans s6) _ _ eka
 refine ⟨e,C,od,t2,_,_,false,rfl,ee6,xd6,xk,SqT.of et2,rfl,m2,?_⟩
 and_intros
 refine ⟨e,C,od,_,_,_,rfl,ee6,xd6,xk,rfl,kv,?_⟩
 and_intros
 have s16:=(s2.trans se).trans s36
 obtain ⟨ds,rp,shp,eqs⟩:=QB (Rep.same' (s1.trans s16) dat)
 refine ⟨.list ds,.list ds,.lst (SqL.of (s16 _ _ eh)) rp,.lst (SqL.of ((s1.trans s16) _ _ hl)) rp,shp,shp,?_⟩
 rw [eqs]
 and_intros
 refine ⟨(by show 3<=sizeLine;decide),fun kb hkb=>?_⟩
 have s7:=Ai hkb (.lst [V.bl false,V.bl false,V.bl true])
 have ekb:(upd H6 kb (.lst [V.bl false,V.bl false,V.bl true])) kb=some (.lst [V.bl false,V.bl false,V.bl true]):=Ag
 generalize upd H6 kb (.lst [V.bl false,V.bl false,V.bl true])=H7 at s7 ekb ⊢
 have eka7:=s7 _ _ eka6
 have s17:=s16.trans s7
 refine ⟨.list [.bool (decide (kd=0)),.bool (decide (kd=1)),.bool (decide (kd=2))],.list [.bool false,.bool false,.bool true],.lst (SqL.of eka7) (.cons (.bl _) (.cons (.bl _) (.cons (.bl _) .nil))),.lst (SqL.of ekb) (.cons (.bl _) (.cons (.bl _) (.cons (.bl _) .nil))),rfl,rfl,?_⟩
 rw [show PyData.eqv (.list [.bool (decide (kd=0)),.bool (decide (kd=1)),.bool (decide (kd=2))]) (.list [.bool false,.bool false,.bool true])=decide (kd=2) from by rcases (by omega:kd=0\/kd=1\/kd=2) with h | h | h <;> subst h <;> rfl]
 rcases hC with ⟨h0,_,_,hw⟩ | ⟨h1,_,_,hw⟩ | ⟨h2,hCw,dx',a,b',hod,hw,hd⟩
 ·refine ⟨_,rfl,ifF (decide_eq_false (by omega)) ?_⟩
  and_intros
  refine ⟨(by show 0<=sizeLine;decide),fun c hc=>?_⟩
  refine ⟨(by show 2<=sizeLine;decide),fun t ht=>?_⟩
  have s8:=Ai hc (.lst [])
  have s9:=Ai ht (.tup [V.ref ka,V.ref c])
  exact q t ka c _ (((s1.trans s17).trans s8).trans s9) Ag ((s8.trans s9) _ _ eka7) (by rw [hw];exact s9 _ _ Ag)
 ·refine ⟨_,rfl,ifF (decide_eq_false (by omega)) ?_⟩
  and_intros
  refine ⟨(by show 0<=sizeLine;decide),fun c hc=>?_⟩
  refine ⟨(by show 2<=sizeLine;decide),fun t ht=>?_⟩
  have s8:=Ai hc (.lst [])
  have s9:=Ai ht (.tup [V.ref ka,V.ref c])
  exact q t ka c _ (((s1.trans s17).trans s8).trans s9) Ag ((s8.trans s9) _ _ eka7) (by rw [hw];exact s9 _ _ Ag)
 ·refine ⟨_,rfl,ifT (decide_eq_true h2) ?_⟩
  subst hCw hod
  have ee7:=s7 _ _ ee6
  have d7:=((se.trans s36).trans s7) _ _ hd
  and_intros
  refine ⟨e,_,dx',_,_,rfl,ee7,d7,T.k_WrongNumber.toXGet,T.hd_WrongNumber,T.na_WrongNumber_wanted,rfl,?_⟩
  and_intros
  refine ⟨e,_,dx',_,_,rfl,ee7,d7,T.k_WrongNumber.toXGet,T.hd_WrongNumber,T.na_WrongNumber_got,rfl,?_⟩
  refine ⟨(by show 2<=sizeLine;decide),fun c hc=>?_⟩
  refine ⟨(by show 2<=sizeLine;decide),fun t ht=>?_⟩
  have s8:=Ai hc (.lst [V.int a,V.int b'])
  have s9:=Ai ht (.tup [V.ref ka,V.ref c])
  exact q t ka c _ (((s1.trans s17).trans s8).trans s9) Ag ((s8.trans s9) _ _ eka7) (by rw [hw];exact s9 _ _ Ag)
theorem Fu (T:Tx K mg ad):Bd P w K mg base CX0 6 ad.f_law_put ad.d_law_put ["_law_box","_law_k","_law_lines_here","_law_due"] (RL ad.c_Box):=by
 refine T.F_law_put.ok DZ (fun vs H Q E h=>?_) (fun cdv A outer s H vs Q E hr h=>?_)
 ·obtain ⟨b,L,n,bs,k,y,p,l,ls,v,rfl,_⟩:=h
  rfl
 obtain ⟨b,L,n,bs,k,y,p,l,ls,v,rfl,ib,ex,ok,p64,hl,g,okl,l95,lL,sm,due,q⟩:=h
 refine ⟨_,(@Aj _ _ _ _ _ (@A7 _ _ (4) _ _ _ _ DZ.nd rfl (Or.inl rfl) (@Ce _ _ _ _ _ _ _ _ _ BK (by rfl) T.z_list PyProof.Rows.boot_list (@Af _ _ _ _ _ (pv 2) Ah (by rfl)) (by decide) (by decide) (by rfl) (by rfl)) (by rfl) (by first | exact .inl rfl | exact .inr rfl | assumption)) (@Aj _ _ _ _ _ (@A7 _ _ (5) _ _ _ _ DZ.nd rfl (Or.inl rfl) (DW (pv 0) T.cl_Box T.me_Box_put_right (DS T) (hr.mono (by decide)) T.b_Box_put_right .nil KY (@Af _ _ _ _ _ (pv 1) (@Af _ _ _ _ _ (pv 4) Ah (by rfl)) (by rfl))) (by rfl) (by first | exact .inl rfl | exact .inr rfl | assumption)) (@Aj _ _ _ _ _ (@A7 _ _ (6) _ _ _ _ DZ.nd rfl (Or.inl rfl) (@Cu _ _ _ _ _ _ _ _ (D6 (K:=K) hr.units) (pv 4) (pv 2) (AR _)) (by rfl) (by first | exact .inl rfl | exact .inr rfl | assumption)) (@Aj _ _ _ _ _ (@BU _ _ _ _ (DR PySem.F.plainAttrs_list PySem.F.slot_list_append PySem.F.type_list_append BR (pv 4) (@Af _ _ _ _ _ (@AZ _ _ _ _ _ (@Af _ _ _ _ _ (@AZ _ _ _ _ _ Ah) (@Af _ _ _ _ _ Ak Ah (by rfl)) (by rfl))) Ah (by rfl))) (by rfl)) (@Aj _ _ _ _ _ (CV (@AZ _ _ _ _ _ (@Af _ _ _ _ _ (@AZ _ _ _ _ _ Ah) (@Af _ _ _ _ _ Ak Ah (by rfl)) (by rfl))) (D9 (pv 4) Ak Cm)) (@Al _ _ _ (@A9 _ _ _ _ (@CZ _ _ _ _ _ _ _ (pv 6) (@CZ _ _ _ _ _ _ _ (@Aq _ _ _ _ _ _ _ _ _ _ _ _ _ _ _ _ (Cf T) (hr.mono (by decide)) rfl T.m_law_whole T.F_law_whole.kp T.b_law_whole .nil AF (@Af _ _ _ _ _ (pv 5) Ah (by rfl)) (by decide) (by rfl) (by rfl)) (@DJ _ _ _ _ _ (@Cu _ _ _ _ _ _ _ _ C0 (pv 5) (pv 3) (AR _)))))))))))),?_⟩
 obtain ⟨dx,hb⟩:=ib.at_
 and_intros
 intro h hh
 have s1:=Ai hh (.lst (vls ls))
 have eh:(upd H h (.lst (vls ls))) h=some (.lst (vls ls)):=Ag
 generalize upd H h (.lst (vls ls))=H1 at s1 eh ⊢
 have hb1:=s1 _ _ hb
 and_intros
 refine ⟨b,dx,_,rfl,hb1,rfl,?_⟩
 and_intros
 refine ⟨b,L,n,bs,_,h,rfl,ib.same s1,.inr ⟨k,y,p,rfl,ex,ok,p64,.inr ⟨ls,eh,g.same s1,fun q m=>⟨(okl q m).1,(okl q m).2.1,(okl q m).2.2.1⟩,.inl ⟨sm,fun z v' H2 ap hz o2 eL ez=>?_⟩⟩⟩⟩
 obtain rfl:=due v' ap
 have hL:h≠L:=fun e=>by rw [e,ib.lst] at hh;cases hh
 have zh:z≠h:=fun e=>by rw [e,eh] at hz;cases hz
 have zL:z≠L:=fun e=>by rw [e,s1 _ _ ib.lst] at hz;cases hz
 have eh2:=o2 _ _ (Bu eh hL)
 have el2:=o2 _ _ (Bu (s1 _ _ hl) lL)
 have g2:=(g.same s1).off o2 (s1 _ _ ib.lst)
 have o02:AJ (off H L) H2:=fun a o e=>o2 a o (RA s1 e)
 and_intros
 refine ⟨.list ((Ao ls).map ld),.list ((Ao ls).map ld),.lst (SqL.of eh2) (Dr g2),.lst (SqL.of el2) (Dr g2),CG _,CG _,?_⟩
 rw [show PyData.eqv (.list ((Ao ls).map ld)) (.list ((Ao ls).map ld))=true from M6 _]
 and_intros
 refine ⟨.inl ⟨rfl,_,SqL.of eh2⟩,?_⟩
 refine ⟨(by show 0<=sizeLine;decide),fun u1 hu1=>?_⟩
 have w1:=Ai hu1 (.tup [])
 have y1:(upd H2 u1 (.tup [])) u1=some (.tup []):=Ag
 generalize upd H2 u1 (.tup [])=U1 at w1 y1 ⊢
 refine ⟨(by show 2<=sizeLine;decide),fun u2 hu2=>?_⟩
 have w2:=Ai hu2 (.tup [V.ref u1,V.int 7])
 have y2:(upd U1 u2 (.tup [V.ref u1,V.int 7])) u2=some (.tup [V.ref u1,V.int 7]):=Ag
 generalize upd U1 u2 (.tup [V.ref u1,V.int 7])=U2 at w2 y2 ⊢
 have w12:=w1.trans w2
 refine ⟨h,_,_,rfl,rfl,w12 _ _ eh2,(by rw [AT];exact Bq (by omega)),?_⟩
 have chg:∀{J:Hp} (o:HO),(∀a ob,a≠h->H2 a=some ob->J a=some ob)->∀a ob,a≠h->H2 a=some ob->(upd J h o) a=some ob:=fun o k a ob n e=>by rw [A8 n];exact k a ob n e
 have k3:=chg (.lst (vls ls++[V.ref u2])) (fun a ob _ e=>w12 a ob e)
 have eh3:(upd U2 h (.lst (vls ls++[V.ref u2]))) h=some (.lst (vls ls++[V.ref u2])):=Ag
 generalize upd U2 h (.lst (vls ls++[V.ref u2]))=H3 at k3 eh3 ⊢
 and_intros
 refine ⟨(by show 0<=sizeLine;decide),fun u3 hu3=>?_⟩
 have w3:=Ai hu3 (.tup [])
 have y3:(upd H3 u3 (.tup [])) u3=some (.tup []):=Ag
 generalize upd H3 u3 (.tup [])=U3 at w3 y3 ⊢
 refine ⟨(by show 2<=sizeLine;decide),fun u4 hu4=>?_⟩
 have w4:=Ai hu4 (.tup [V.ref u3,V.int 7])
 have y4:(upd U3 u4 (.tup [V.ref u3,V.int 7])) u4=some (.tup [V.ref u3,V.int 7]):=Ag
 generalize upd U3 u4 (.tup [V.ref u3,V.int 7])=U4 at w4 y4 ⊢
 have w34:=w3.trans w4
 and_intros
 refine ⟨h,_,_,0,rfl,rfl,w34 _ _ eh3,DU (by rw [length_append];show 0 < _+1;omega),?_⟩
 have k4:=chg (.lst ((vls ls++[V.ref u2]).set 0 (.ref u4))) (fun a ob n e=>w34 a ob (k3 a ob n e))
 generalize upd U4 h (.lst ((vls ls++[V.ref u2]).set 0 (.ref u4)))=H5 at k4 ⊢
 have hH:∀a ob,off H L a=some ob->a≠h:=fun a ob e z=>by rw [z,Py hh] at e;cases e
 have fin:Q (.bl true) H5:=q z H5 (none_of s1 hz) (fun a ob e=>k4 a ob (hH a ob e) (o02 a ob e)) (k4 _ _ (Ne.symm hL) eL) (k4 _ _ zh ez)
 and_intros
 show Q (V.bl (decide (V.int v'=V.int v'))) H5
 rw [decide_eq_true rfl]
 exact fin
theorem Gq (T:Tx K mg ad):Bd P w K mg base CX0 6 ad.f_Box_take ad.d_Box_take ["self","codes","seal"] (Rg ad.c_Box):=by
 refine T.F_Box_take.ok ET (fun vs H Q E h=>?_) (fun cdv A outer s H vs Q E hr h=>?_)
 ·obtain ⟨b,L,n,bs,c,r,p,ds,rfl,_⟩:=h
  rfl
 obtain ⟨b,L,n,bs,c,r,p,ds,rfl,ib,b900,n12,hc,cL,hr',ok,d100,q⟩:=h
 refine ⟨_,(@Aj _ _ _ _ _ (@A7 _ _ (3) _ _ _ _ ET.nd rfl (Or.inl rfl) (@Aq _ _ _ _ _ _ _ _ _ _ _ _ _ _ _ _ (NE T) (hr.mono (by decide)) rfl T.m_mended T.F_mended.kp T.b_mended .nil AF (@Af _ _ _ _ _ (pv 1) (@Af _ _ _ _ _ (pv 2) Ah (by rfl)) (by rfl)) (by decide) (by rfl) (by rfl)) (by rfl) (by first | exact .inl rfl | exact .inr rfl | assumption)) (@Aj _ _ _ _ _ (FO (j:=4) (fsc:=Am Fz) (N:=["self","codes","seal","told","lines"]) (Nc:=["self","codes","seal","told","lines","code"]) rfl rfl ⟨rfl,by decide +kernel,by decide +kernel,rfl,by decide +kernel,rfl,by decide +kernel,rfl,by decide +kernel⟩ rfl ET.nd rfl rfl (Bm (@AN _ _ _ _ _ _ _ B8 (pv 3) Ak (fun _ _=>rfl))) (fun _ _ _ _=>B7) (fun _ _ _ _=>(@Aq _ _ _ _ _ _ _ _ _ _ _ _ _ _ _ _ (Mp T) (hr.mono (by decide)) rfl T.m_line_of T.F_line_of.kp T.b_line_of .nil AF (@Af _ _ _ _ _ (pv 5) (@Af _ _ _ _ _ (MI K (pv 0) rfl) Ah (by rfl)) (by rfl)) (by decide) (by rfl) (by rfl))) rfl) (@Aj _ _ _ _ _ (@BU _ _ _ _ (DR PySem.F.plainAttrs_list PySem.F.slot_list_append PySem.F.type_list_append BR (FR (pv 0) rfl) (@Af _ _ _ _ _ (pv 4) Ah (by rfl))) (by rfl)) (@Al _ _ _ (@A9 _ _ _ _ (@AZ _ _ _ _ _ (@Af _ _ _ _ _ (@Ar _ _ _ _ _ _ _ _ Di (EG (pv 0) T.cl_Box T.me_Box_many (EH T) (hr.mono (by decide)) T.b_Box_many .nil AF) Ak) (@Af _ _ _ _ _ (@AN _ _ _ _ _ _ _ B8 (pv 3) Ak (fun _ _=>rfl)) Ah (by rfl)) (by rfl)))))))),?_⟩
 have ib':=ib
 obtain ⟨⟨dx,hb⟩,hL,hx,hn⟩:=ib'
 have sz:=Fa n12 ok
 and_intros
 refine ⟨c,r,_,_,0,rfl,hc,hr',sz,sz,(by rw [Cg];exact d100),.inl ⟨rfl,rfl⟩,fun a t H1 ha s1 ea et=>?_⟩
 and_intros
 refine ⟨⟨_,SqL.of ea⟩,?_⟩
 refine BQ (xs:=(CJ n ds).map V.int) (by rw [length_map,Cg];exact Be (by omega)) (fun D i ys H'=>∃ls:Ls,ys=vls ls/\ls.length=i/\H' D=some (.lst ys)/\AJ H1 H'/\AM H' ls/\Ao ls=ds.take i) (fun D hD=>⟨[],rfl,rfl,Ag,Ai hD _,(fun _ m=>nomatch m),rfl⟩) (fun D i ys H' ⟨ls,f1,f2,f3,_⟩=>⟨f3,by rw [f1,AT,f2];exact Nat.le_refl _⟩) (fun D i ys H' hD ⟨_,_,_,_,f4,_⟩=>SqL.of (f4 _ _ ea)) ?_ ?_
 ·rintro D i y ys H' K1 K2 hD hy ⟨ls,rfl,f2,f3,f4,f5,f6⟩ k1 k2
  obtain ⟨z,hz,rfl⟩:=int_at hy
  unfold CJ at hz
  rw [List.getElem?_map] at hz
  obtain ⟨d,ed,rfl⟩:=Option.map_eq_some_iff.mp hz
  obtain ⟨_,d1,d9,okd⟩:=ok d (mem_of_getElem? ed)
  obtain ⟨rs,m,er,ets,ln,gp,r12,_⟩:=okd.ranks
  have sH:=s1.trans f4
  refine yes (ifT rfl ?_)
  and_intros
  refine ⟨b,_,dx,_,_,rfl,sH _ _ hb,T.cl_Box,T.na_Box_hands,rfl,?_⟩
  refine ⟨rs,d.2,m,(by show [V.int (Ch d.2 (By d.1 n)),V.int (n:Int)]=_;rw [er,ln]),by omega,r12,d1,d9,gp,fun p' t' H5 s5 e5 e6=>?_⟩
  have D5:=s5 _ _ f3
  refine k1 _ _ D5 ⟨ls++[(p',t',d.1,d.2)],by rw [B9];rfl,by rw [length_append,f2];rfl,Ag,AS (f4.trans s5) hD,AM.upd D5 ((f5.same s5).append fun q m=>?_),?_⟩
  ·rw [mem_singleton.mp m]
   exact ⟨e5,by rw [show d.1=Av rs from ets];exact e6⟩
  ·rw [AK,f6,take_succ,ed]
   rfl
 ·rintro D ys H' hD ⟨ls,rfl,f2,f3,f4,f5,f6⟩
  rw [length_map,Cg,take_length] at f6
  have sH:=s1.trans f4
  have DL:D≠L:=fun z=>by rw [z,s1 _ _ hL] at hD;cases hD
  have hDH:=none_of s1 hD
  and_intros
  refine ⟨b,_,dx,_,_,rfl,sH _ _ hb,T.cl_Box,T.na_Box_bundles,rfl,?_⟩
  refine ⟨.inl ⟨rfl,_,SqL.of (sH _ _ hL)⟩,?_⟩
  and_intros
  refine ⟨L,_,_,rfl,rfl,sH _ _ hL,(by rw [length_map];exact Bq (by omega)),?_⟩
  have gL:=GD (o:=.lst ((bs.map fun x=>V.ref x.1)++[V.ref D])) ((Lk H L).trans sH)
  have eL:(upd H' L (.lst ((bs.map fun x=>V.ref x.1)++[V.ref D]))) L=some (.lst ((bs++[(D,ls)]).map fun x=>V.ref x.1)):=by rw [Ag,map_append];rfl
  have eD:(upd H' L (.lst ((bs.map fun x=>V.ref x.1)++[V.ref D]))) D=some (.lst (vls ls)):=by rw [A8 DL];exact f3
  have eG:AM (upd H' L (.lst ((bs.map fun x=>V.ref x.1)++[V.ref D]))) ls:=f5.upd (sH _ _ hL)
  have et':(upd H' L (.lst ((bs.map fun x=>V.ref x.1)++[V.ref D]))) t=some (.tup [.ref a,.int 0]):=by rw [A8 (CO (f4 _ _ et) (sH _ _ hL) (fun z=>nomatch z))];exact f4 _ _ et
  generalize upd H' L (.lst ((bs.map fun x=>V.ref x.1)++[V.ref D]))=H6 at gL eL eD eG et' ⊢
  have bL:b≠L:=fun z=>by rw [z,hL] at hb;cases hb
  have hb6:=gL _ _ (Bu hb bL)
  have ib6:IsB ad.c_Box H6 b L n (bs++[(D,ls)]):=⟨⟨dx,hb6⟩,eL,fun x m=>by
   rcases mem_append.mp m with m | m
   ·refine ⟨gL _ _ (Bu (hx x m).1 (hn x m)),fun q qm=>?_⟩
    have g:=(hx x m).2 q qm
    exact ⟨gL _ _ (Bu g.1 (CO g.1 hL (fun z=>nomatch z))),gL _ _ (Bu g.2 (CO g.2 hL (fun z=>nomatch z)))⟩
   ·rw [mem_singleton.mp m]
    exact ⟨eD,eG⟩,fun x m=>by
   rcases mem_append.mp m with m | m
   ·exact hn x m
   ·rw [mem_singleton.mp m]
    exact DL⟩
  and_intros
  refine ⟨b,dx,_,rfl,hb6,rfl,?_⟩
  refine ⟨b,L,n,_,rfl,ib6,?_⟩
  and_intros
  have e1:(((bs++[(D,ls)]).length:Nat):Int) - 1=(bs.length:Nat):=by rw [length_append];show ((bs.length+1:Nat):Int) - 1=_;omega
  dsimp only
  rw [e1]
  refine ⟨(by show 2<=sizeLine;decide),fun t2 ht2=>?_⟩
  have st:=Ai ht2 (.tup [V.int (bs.length:Nat),V.int 0])
  exact q D t2 ls _ hDH (gL.trans st) (st _ _ eL) (st _ _ eD) (eG.same st) f6 Ag
theorem G5 (T:Tx K mg ad):Bd P w K mg base CX0 7 ad.f_law_refusals ad.d_law_refusals ["_law_box","_law_bundles_here","_law_k","_law_new","_law_way","_law_number"] (Rq ad.c_Box):=by
 refine T.F_law_refusals.ok Bb (fun vs H Q E h=>?_) (fun cdv A outer s H vs Q E hr h=>?_)
 ·obtain ⟨b,L,n,bs,cs,B,k,x,p,w',ls,wy,z,rfl,_⟩:=h
  rfl
 obtain ⟨b,L,n,bs,cs,B,k,x,p,w',ls,wy,z,rfl,ib,lk,ex,n12,hw,g,ok,p63,l95,sm,szz,szy,q⟩:=h
 refine ⟨_,(@Aj _ _ _ _ _ (@A7 _ _ (6) _ _ _ _ Bb.nd rfl (Or.inl rfl) (@AN _ _ _ _ _ _ _ AI (@AV _ _ _ _ (@Af _ _ _ _ _ (@QK _ _ _ _ _ _ Ps Ak) (@Af _ _ _ _ _ (@A6 _ _ _ _ _ _ _ _ _ AG (by rfl) T.z_len PySem.boot_len (@Af _ _ _ _ _ (pv 1) Ah (by rfl)) (by decide) (by decide) (by rfl) (by rfl)) (@Af _ _ _ _ _ HJ (@Af _ _ _ _ _ Bs (@Af _ _ _ _ _ Hr (@Af _ _ _ _ _ (@AZ _ _ _ _ _ (@Af _ _ _ _ _ Ak Ah (by rfl))) (@Af _ _ _ _ _ (@AV _ _ _ _ Ah) (@Af _ _ _ _ _ (@Ar _ _ _ _ _ _ _ _ AW (@A6 _ _ _ _ _ _ _ _ _ AG (by rfl) T.z_len PySem.boot_len (@Af _ _ _ _ _ (pv 1) Ah (by rfl)) (by decide) (by decide) (by rfl) (by rfl)) (@Ar _ _ _ _ _ _ _ _ Fs Ak Ak)) Ah (by rfl)) (by rfl)) (by rfl)) (by rfl)) (by rfl)) (by rfl)) (by rfl)) (by rfl))) (@Ar _ _ _ _ _ _ _ _ Ba (pv 5) Ak) (fun _ _=>rfl)) (by rfl) (by first | exact .inl rfl | exact .inr rfl | assumption)) (@Aj _ _ _ _ _ (@A7 _ _ (7) _ _ _ _ Bb.nd rfl (Or.inl rfl) (@AZ _ _ _ _ _ (@Af _ _ _ _ _ (@AZ _ _ _ _ _ Ah) (@Af _ _ _ _ _ (@AN _ _ _ _ _ _ _ AI (@AV _ _ _ _ (@Af _ _ _ _ _ Ak (@Af _ _ _ _ _ Bs (@Af _ _ _ _ _ HJ (@Af _ _ _ _ _ Hr (@Af _ _ _ _ _ (@Ar _ _ _ _ _ _ _ _ AW (@Ar _ _ _ _ _ _ _ _ Fs Ak Ak) Ak) (@Af _ _ _ _ _ (@QK _ _ _ _ _ _ Ps Ak) (@Af _ _ _ _ _ (@AV _ _ _ _ Ah) Ah (by rfl)) (by rfl)) (by rfl)) (by rfl)) (by rfl)) (by rfl)) (by rfl))) (@Ar _ _ _ _ _ _ _ _ Ba (@Ar _ _ _ _ _ _ _ _ Bf (pv 5) Ak) Ak) (fun _ _=>rfl)) Ah (by rfl)) (by rfl))) (by rfl) (by first | exact .inl rfl | exact .inr rfl | assumption)) (@Aj _ _ _ _ _ (@A7 _ _ (8) _ _ _ _ Bb.nd rfl (Or.inl rfl) (@A6 _ _ _ _ _ _ _ _ _ (FC rfl) (by rfl) T.z_sum PyProof.Rows.boot_sum (@Af _ _ _ _ _ (B3 (fsc:=Am CY) (N:=["_law_box","_law_bundles_here","_law_k","_law_new","_law_way","_law_number","_law_bad","_law_odd","_law_many_here","_law_more","_law_got","_law_at","_law_found"]) (Nc:=["_law_box","_law_bundles_here","_law_k","_law_new","_law_way","_law_number","_law_bad","_law_odd","_law_many_here","_law_more","_law_got","_law_at","_law_found","_law_line_here"]) rfl rfl ⟨rfl,by decide +kernel,by decide +kernel,rfl,by decide +kernel,rfl,by decide +kernel,rfl,by decide +kernel⟩ rfl (Bm (@AN _ _ _ _ _ _ _ AI (pv 1) (pv 2) (fun _ _=>rfl))) (fun _ _ _ _=>B7) (fun _ _ _ _=>(@AN _ _ _ _ _ _ _ (GE K) (pv 13) Ak (fun _ _=>rfl)))) Ah (by rfl)) (by decide) (by decide) (by rfl) (by rfl)) (by rfl) (by first | exact .inl rfl | exact .inr rfl | assumption)) (@Aj _ _ _ _ _ (@A7 _ _ (9) _ _ _ _ Bb.nd rfl (Or.inl rfl) (@Ar _ _ _ _ _ _ _ _ Cj (pv 3) (@AV _ _ _ _ (@Af _ _ _ _ _ (@AZ _ _ _ _ _ (@Af _ _ _ _ _ (@AZ _ _ _ _ _ Ah) (@Af _ _ _ _ _ Ak Ah (by rfl)) (by rfl))) Ah (by rfl)))) (by rfl) (by first | exact .inl rfl | exact .inr rfl | assumption)) (@Aj _ _ _ _ _ (@A7 _ _ (10) _ _ _ _ Bb.nd rfl (Or.inl rfl) (@Ar _ _ _ _ _ _ _ _ AW (pv 8) Ak) (by rfl) (by first | exact .inl rfl | exact .inr rfl | assumption)) (@Aj _ _ _ _ _ (@Lf _ _ _ _ _ _ _ _ (PW.pt (@LM _ _ _ _ _ _ _ (@AQ _ _ _ _ _ _ _ _ C0 (@Ar _ _ _ _ _ _ _ _ Ba (@Ar _ _ _ _ _ _ _ _ Bf (pv 5) Ak) Ak) Ak (AR _)) (@LM _ _ _ _ _ _ _ (@AQ _ _ _ _ _ _ _ _ (HL (K:=K) hr.units) (pv 3) (@AV _ _ _ _ Ah) (AR _)) (@Ng _ _ _ _ (@AQ _ _ _ _ _ _ _ _ HZ (@AN _ _ _ _ _ _ _ B8 (@AN _ _ _ _ _ _ _ AI (pv 3) Ak (fun _ _=>rfl)) Ak (fun _ _=>rfl)) Ak (AR _)))))) (@Aj _ _ _ _ _ (@A7 _ _ (9) _ _ _ _ Bb.nd rfl (Or.inl rfl) (@Ar _ _ _ _ _ _ _ _ Cj (@AV _ _ _ _ (@Af _ _ _ _ _ (@AZ _ _ _ _ _ (@Af _ _ _ _ _ (@AN _ _ _ _ _ _ _ B8 (@AN _ _ _ _ _ _ _ AI (pv 3) Ak (fun _ _=>rfl)) Ak (fun _ _=>rfl)) (@Af _ _ _ _ _ (@Ar _ _ _ _ _ _ _ _ Di (@AN _ _ _ _ _ _ _ B8 (@AN _ _ _ _ _ _ _ AI (pv 3) Ak (fun _ _=>rfl)) Ak (fun _ _=>rfl)) Ak) Ah (by rfl)) (by rfl))) Ah (by rfl))) (Ca Cw (pv 3) (Cy Ak) C3)) (by rfl) (by first | exact .inl rfl | exact .inr rfl | assumption)) (@Al _ _ _ (@A7 _ _ (10) _ _ _ _ Bb.nd rfl (Or.inl rfl) (@Ar _ _ _ _ _ _ _ _ Di (pv 8) Ak) (by rfl) (by first | exact .inl rfl | exact .inr rfl | assumption)))) AO) (@Aj _ _ _ _ _ (@A7 _ _ (11) _ _ _ _ Bb.nd rfl (Or.inl rfl) (@Ar _ _ _ _ _ _ _ _ Ba (@Ar _ _ _ _ _ _ _ _ Bf (pv 5) Ak) (@Ar _ _ _ _ _ _ _ _ AW (@A6 _ _ _ _ _ _ _ _ _ AG (by rfl) T.z_len PySem.boot_len (@Af _ _ _ _ _ (pv 3) Ah (by rfl)) (by decide) (by decide) (by rfl) (by rfl)) Ak)) (by rfl) (by first | exact .inl rfl | exact .inr rfl | assumption)) (@Aj _ _ _ _ _ (@Bj _ _ _ _ _ _ _ _ (@AQ _ _ _ _ _ _ _ _ C0 (pv 4) Ak (AR _)) (@Al _ _ _ (@A9 _ _ _ _ (@Cu _ _ _ _ _ _ _ _ (D6 (K:=K) hr.units) (@Aq _ _ _ _ _ _ _ _ _ _ _ _ _ _ _ _ (BD T) (hr.mono (by decide)) rfl T.m_law_refused T.F_law_refused.kp T.b_law_refused .nil AF (@Af _ _ _ _ _ (pv 0) (@Af _ _ _ _ _ (pv 6) (@Af _ _ _ _ _ (pv 3) Ah (by rfl)) (by rfl)) (by rfl)) (by decide) (by rfl) (by rfl)) (@AZ _ _ _ _ _ (@Af _ _ _ _ _ (@AV _ _ _ _ (@Af _ _ _ _ _ Bs (@Af _ _ _ _ _ Bs (@Af _ _ _ _ _ Bs Ah (by rfl)) (by rfl)) (by rfl))) (@Af _ _ _ _ _ (@AV _ _ _ _ Ah) Ah (by rfl)) (by rfl))) (AR _)))) AO) (@Aj _ _ _ _ _ (@Bj _ _ _ _ _ _ _ _ (@AQ _ _ _ _ _ _ _ _ C0 (pv 4) Ak (AR _)) (@Al _ _ _ (@A9 _ _ _ _ (@Cu _ _ _ _ _ _ _ _ (D6 (K:=K) hr.units) (@Aq _ _ _ _ _ _ _ _ _ _ _ _ _ _ _ _ (BD T) (hr.mono (by decide)) rfl T.m_law_refused T.F_law_refused.kp T.b_law_refused .nil AF (@Af _ _ _ _ _ (pv 0) (@Af _ _ _ _ _ (pv 2) (@Af _ _ _ _ _ (@Ar _ _ _ _ _ _ _ _ Cj (@Ar _ _ _ _ _ _ _ _ Cj (Ca Cw (pv 3) C3 (Cy (pv 11))) (@AV _ _ _ _ (@Af _ _ _ _ _ (pv 7) Ah (by rfl)))) (Ca Cw (pv 3) (Cy (pv 11)) C3)) Ah (by rfl)) (by rfl)) (by rfl)) (by decide) (by rfl) (by rfl)) (@AZ _ _ _ _ _ (@Af _ _ _ _ _ (@AV _ _ _ _ (@Af _ _ _ _ _ Bs (@Af _ _ _ _ _ Bs (@Af _ _ _ _ _ Bs Ah (by rfl)) (by rfl)) (by rfl))) (@Af _ _ _ _ _ (@AV _ _ _ _ Ah) Ah (by rfl)) (by rfl))) (AR _)))) AO) (@Aj _ _ _ _ _ (@Bj _ _ _ _ _ _ _ _ (@AQ _ _ _ _ _ _ _ _ C0 (pv 4) Ak (AR _)) (@Aj _ _ _ _ _ (@A7 _ _ (12) _ _ _ _ Bb.nd rfl (Or.inl rfl) (@Aq _ _ _ _ _ _ _ _ _ _ _ _ _ _ _ _ (BD T) (hr.mono (by decide)) rfl T.m_law_refused T.F_law_refused.kp T.b_law_refused .nil AF (@Af _ _ _ _ _ (pv 0) (@Af _ _ _ _ _ (pv 2) (@Af _ _ _ _ _ (pv 9) Ah (by rfl)) (by rfl)) (by rfl)) (by decide) (by rfl) (by rfl)) (by rfl) (by first | exact .inl rfl | exact .inr rfl | assumption)) (@Aj _ _ _ _ _ (@Bj _ _ _ _ _ _ _ _ (@AQ _ _ _ _ _ _ _ _ (HL (K:=K) hr.units) (pv 12) (@AZ _ _ _ _ _ (@Af _ _ _ _ _ (@AV _ _ _ _ (@Af _ _ _ _ _ Bs (@Af _ _ _ _ _ Bs (@Af _ _ _ _ _ Bs Ah (by rfl)) (by rfl)) (by rfl))) (@Af _ _ _ _ _ (@AV _ _ _ _ (@Af _ _ _ _ _ (pv 8) (@Af _ _ _ _ _ (pv 10) Ah (by rfl)) (by rfl))) Ah (by rfl)) (by rfl))) (AR _)) (@Al _ _ _ (@A9 _ _ _ _ Bs)) AO) (@Al _ _ _ (@A9 _ _ _ _ (@CZ _ _ _ _ _ _ _ (@Aq _ _ _ _ _ _ _ _ _ _ _ _ _ _ _ _ (Cf T) (hr.mono (by decide)) rfl T.m_law_whole T.F_law_whole.kp T.b_law_whole .nil AF (@Af _ _ _ _ _ (@AN _ _ _ _ _ _ _ AI (@AN _ _ _ _ _ _ _ B8 (pv 12) Ak (fun _ _=>rfl)) Ak (fun _ _=>rfl)) Ah (by rfl)) (by decide) (by rfl) (by rfl)) (@DJ _ _ _ _ _ (@Aq _ _ _ _ _ _ _ _ _ _ _ _ _ _ _ _ (Cf T) (hr.mono (by decide)) rfl T.m_law_whole T.F_law_whole.kp T.b_law_whole .nil AF (@Af _ _ _ _ _ (@AN _ _ _ _ _ _ _ AI (@AN _ _ _ _ _ _ _ B8 (pv 12) Ak (fun _ _=>rfl)) Ak (fun _ _=>rfl)) Ah (by rfl)) (by decide) (by rfl) (by rfl)))))))) AO) (@Aj _ _ _ _ _ (@Bj _ _ _ _ _ _ _ _ (@AQ _ _ _ _ _ _ _ _ C0 (pv 4) Ak (AR _)) (@Al _ _ _ (@A9 _ _ _ _ (@Cu _ _ _ _ _ _ _ _ (D6 (K:=K) hr.units) (@Aq _ _ _ _ _ _ _ _ _ _ _ _ _ _ _ _ (BD T) (hr.mono (by decide)) rfl T.m_law_refused T.F_law_refused.kp T.b_law_refused .nil AF (@Af _ _ _ _ _ (pv 0) (@Af _ _ _ _ _ (pv 6) (@Af _ _ _ _ _ (@Ar _ _ _ _ _ _ _ _ Cj (@Ar _ _ _ _ _ _ _ _ Cj (Ca Cw (pv 3) C3 (Cy (pv 11))) (@AV _ _ _ _ (@Af _ _ _ _ _ (pv 7) Ah (by rfl)))) (Ca Cw (pv 3) (Cy (pv 11)) C3)) Ah (by rfl)) (by rfl)) (by rfl)) (by decide) (by rfl) (by rfl)) (@AZ _ _ _ _ _ (@Af _ _ _ _ _ (@AV _ _ _ _ (@Af _ _ _ _ _ Bs (@Af _ _ _ _ _ Bs (@Af _ _ _ _ _ Bs Ah (by rfl)) (by rfl)) (by rfl))) (@Af _ _ _ _ _ (@AV _ _ _ _ Ah) Ah (by rfl)) (by rfl))) (AR _)))) AO) (@Aj _ _ _ _ _ (@Bj _ _ _ _ _ _ _ _ (@AQ _ _ _ _ _ _ _ _ C0 (pv 4) Ak (AR _)) (@Al _ _ _ (@A9 _ _ _ _ (@Cu _ _ _ _ _ _ _ _ (D6 (K:=K) hr.units) (@Aq _ _ _ _ _ _ _ _ _ _ _ _ _ _ _ _ (BD T) (hr.mono (by decide)) rfl T.m_law_refused T.F_law_refused.kp T.b_law_refused .nil AF (@Af _ _ _ _ _ (pv 0) (@Af _ _ _ _ _ (pv 6) (@Af _ _ _ _ _ (pv 9) Ah (by rfl)) (by rfl)) (by rfl)) (by decide) (by rfl) (by rfl)) (@AZ _ _ _ _ _ (@Af _ _ _ _ _ (@AV _ _ _ _ (@Af _ _ _ _ _ Bs (@Af _ _ _ _ _ Bs (@Af _ _ _ _ _ Bs Ah (by rfl)) (by rfl)) (by rfl))) (@Af _ _ _ _ _ (@AV _ _ _ _ Ah) Ah (by rfl)) (by rfl))) (AR _)))) AO) (@Al _ _ _ (@A9 _ _ _ _ (@Cu _ _ _ _ _ _ _ _ (D6 (K:=K) hr.units) (@Aq _ _ _ _ _ _ _ _ _ _ _ _ _ _ _ _ (BD T) (hr.mono (by decide)) rfl T.m_law_refused T.F_law_refused.kp T.b_law_refused .nil AF (@Af _ _ _ _ _ (pv 0) (@Af _ _ _ _ _ (pv 2) (@Af _ _ _ _ _ (@Ar _ _ _ _ _ _ _ _ Cj (pv 9) (@AV _ _ _ _ (@Af _ _ _ _ _ (pv 7) Ah (by rfl)))) Ah (by rfl)) (by rfl)) (by rfl)) (by decide) (by rfl) (by rfl)) (@AZ _ _ _ _ _ (@Af _ _ _ _ _ (@AV _ _ _ _ (@Af _ _ _ _ _ Bs (@Af _ _ _ _ _ Bs (@Af _ _ _ _ _ Bs Ah (by rfl)) (by rfl)) (by rfl))) (@Af _ _ _ _ _ (@AV _ _ _ _ Ah) Ah (by rfl)) (by rfl))) (AR _)))))))))))))))),?_⟩
 have xm:=mem_of_getElem? ex
 obtain ⟨y,ey,e⟩:=F8 lk.same ex
 have okx:=lk.ok x xm
 have oky:Ci n p (Ao y.2):=by rw [e];exact okx
 have lbc:bs.length=cs.length:=by
  have:=congrArg List.length lk.same
  rw [length_map,length_map] at this
  exact this
 have lB:(cs.map fun x=>V.ref x.1).length=cs.length:=length_map _
 have hB:=lk.lst
 have t9:(10:Int) ^ (9:Int).toNat=1000000000:=by decide +kernel
 and_intros
 refine ⟨(by show 1<=sizeLine;decide),fun t1 ht1=>?_⟩
 have s1:=Ai ht1 (.tup [V.int 0])
 have g1:(upd H t1 (.tup [V.int 0])) t1=some (.tup [V.int 0]):=Ag
 generalize upd H t1 (.tup [V.int 0])=H1 at s1 g1 ⊢
 and_intros
 refine ⟨(by show 0<=sizeLine;decide),fun t2 ht2=>?_⟩
 have s2:=Ai ht2 (.lst [])
 have g2:(upd H1 t2 (.lst [])) t2=some (.lst []):=Ag
 generalize upd H1 t2 (.lst [])=H2 at s2 g2 ⊢
 have hB2:=(s1.trans s2) _ _ hB
 and_intros
 refine ⟨(by show 8<=sizeLine;decide),fun t5 ht5=>?_⟩
 have bads:∀v∈([V.int (-1),V.int ((cs.map fun x=>V.ref x.1).length:Int),V.non,V.bl true,V.str "0",V.ref t1,V.ref t2,V.int (((cs.map fun x=>V.ref x.1).length:Int)+10 ^ (9:Int).toNat)]:List V),GH K H2 v bs.length:=fun x m=>by
  simp only [mem_cons,List.not_mem_nil,or_false] at m
  rcases m with rfl | rfl | rfl | rfl | rfl | rfl | rfl | rfl
  ·exact .inr ⟨_,rfl,.inl (by decide)⟩
  ·exact .inr ⟨_,rfl,.inr (by omega)⟩
  ·exact .inl Wh.non
  ·exact .inl (Wh.bl _)
  ·exact .inl (Wh.str _)
  ·exact .inl (Wh.tup (s2 _ _ g1))
  ·exact .inl (Wh.lst g2)
  ·exact .inr ⟨_,rfl,.inr (by omega)⟩
 have s3:=Ai ht5 (.lst [V.int (-1),V.int ((cs.map fun x=>V.ref x.1).length:Int),V.non,V.bl true,V.str "0",V.ref t1,V.ref t2,V.int (((cs.map fun x=>V.ref x.1).length:Int)+10 ^ (9:Int).toNat)])
 have g5:(upd H2 t5 (.lst [V.int (-1),V.int ((cs.map fun x=>V.ref x.1).length:Int),V.non,V.bl true,V.str "0",V.ref t1,V.ref t2,V.int (((cs.map fun x=>V.ref x.1).length:Int)+10 ^ (9:Int).toNat)])) t5=some (.lst [V.int (-1),V.int ((cs.map fun x=>V.ref x.1).length:Int),V.non,V.bl true,V.str "0",V.ref t1,V.ref t2,V.int (((cs.map fun x=>V.ref x.1).length:Int)+10 ^ (9:Int).toNat)]):=Ag
 generalize upd H2 t5 (.lst [V.int (-1),V.int ((cs.map fun x=>V.ref x.1).length:Int),V.non,V.bl true,V.str "0",V.ref t1,V.ref t2,V.int (((cs.map fun x=>V.ref x.1).length:Int)+10 ^ (9:Int).toNat)])=H3 at s3 g5 ⊢
 have m8:=Bh z (show (0:Int) < 8 by decide)
 obtain ⟨v,hv,wv⟩:=QH bads (m:=z.fmod 8) m8.1 m8.2
 and_intros
 refine ⟨t5,_,_,_,rfl,rfl,SqL.of g5,hv,?_⟩
 replace wv:=wv.same s3
 have s03:=(s1.trans s2).trans s3
 clear bads hv m8 g1 g2 g5 s1 s2 s3 ht1 ht2 ht5 hB2
 and_intros
 refine ⟨(by show 0<=sizeLine;decide),fun u0 hu0=>?_⟩
 have s4:=Ai hu0 (.tup [])
 have eu0:(upd H3 u0 (.tup [])) u0=some (.tup []):=Ag
 generalize upd H3 u0 (.tup [])=H4 at s4 eu0 ⊢
 and_intros
 refine ⟨(by show 0<=sizeLine;decide),fun t6 ht6=>?_⟩
 have s5:=Ai ht6 (.lst [])
 have g6:(upd H4 t6 (.lst [])) t6=some (.lst []):=Ag
 generalize upd H4 t6 (.lst [])=H5 at s5 g6 ⊢
 refine ⟨(by show 7<=sizeLine;decide),fun t7 ht7=>?_⟩
 dsimp only
 have odds:∀v∈([V.int 0,V.bl true,V.non,V.str "1",V.int (10 ^ (9:Int).toNat+1),V.int (-1),V.ref t6]:List V),N8 K H5 v:=fun x m=>by
  simp only [mem_cons,List.not_mem_nil,or_false] at m
  rcases m with rfl | rfl | rfl | rfl | rfl | rfl | rfl
  ·exact .of (.inr ⟨_,rfl⟩) rfl (.int _) rfl (Nat.zero_le _) (beq_self_eq_true _)
  ·exact .of (.inl ⟨Wh.bl _,rfl⟩) rfl (.bl _) rfl (Nat.zero_le _) rfl
  ·exact .of (.inl ⟨Wh.non,rfl⟩) rfl .non rfl (Nat.zero_le _) rfl
  ·exact .of (.inl ⟨Wh.str _,rfl⟩) rfl (.str _) (by decide +kernel) (by decide +kernel) (by decide +kernel)
  ·exact .of (.inr ⟨_,rfl⟩) (by rw [t9];rfl) (.int _) rfl (Nat.zero_le _) (beq_self_eq_true _)
  ·exact .of (.inr ⟨_,rfl⟩) rfl (.int _) rfl (Nat.zero_le _) (beq_self_eq_true _)
  ·exact .of (.inl ⟨Wh.lst g6,rfl⟩) rfl (.lst (SqL.of g6) .nil) rfl (by decide) rfl
 have s6:=Ai ht7 (.lst [V.int 0,V.bl true,V.non,V.str "1",V.int (10 ^ (9:Int).toNat+1),V.int (-1),V.ref t6])
 have g7:(upd H5 t7 (.lst [V.int 0,V.bl true,V.non,V.str "1",V.int (10 ^ (9:Int).toNat+1),V.int (-1),V.ref t6])) t7=some (.lst [V.int 0,V.bl true,V.non,V.str "1",V.int (10 ^ (9:Int).toNat+1),V.int (-1),V.ref t6]):=Ag
 generalize upd H5 t7 (.lst [V.int 0,V.bl true,V.non,V.str "1",V.int (10 ^ (9:Int).toNat+1),V.int (-1),V.ref t6])=H6 at s6 g7 ⊢
 have m7:=Bh (z.fdiv 8) (show (0:Int) < 7 by decide)
 obtain ⟨ov,hov,wov⟩:=QH odds (m:=(z.fdiv 8).fmod 7) m7.1 m7.2
 and_intros
 refine ⟨t7,_,_,_,rfl,rfl,SqL.of g7,hov,?_⟩
 replace wov:=wov.same s6
 refine ⟨(by show 2<=sizeLine;decide),fun od hod=>?_⟩
 have s7:=Ai hod (.tup [V.ref u0,ov])
 have eod:(upd H6 od (.tup [V.ref u0,ov])) od=some (.tup [V.ref u0,ov]):=Ag
 generalize upd H6 od (.tup [V.ref u0,ov])=H7 at s7 eod ⊢
 replace wov:=wov.same s7
 replace eu0:=((s5.trans s6).trans s7) _ _ eu0
 have s37:=(s4.trans (s5.trans s6)).trans s7
 replace wv:=wv.same s37
 have s07:=s03.trans s37
 clear odds hov m7 g6 g7 s4 s5 s6 s7 ht6 ht7 s37 s03
 have hB7:=s07 _ _ hB
 have hx7:=s07 _ _ (lk.lies x xm).1
 have gx7:=(lk.lies x xm).2.same s07
 have atx:atI (cs.map fun x=>V.ref x.1) (k:Int)=some (.ref x.1):=BE (by rw [List.getElem?_map,ex];rfl)
 and_intros
 refine ⟨B,_,_,_,rfl,rfl,SqL.of hB7,atx,?_⟩
 refine ⟨x.1,rfl,⟨_,SqL.of hx7⟩,?_⟩
 have lx:=lk.len x xm
 refine BQ (xs:=vls x.2) (by rw [AT];exact Be (by omega)) (fun D i ys H'=>ys=((Ao (x.2.take i)).map (·.2)).map V.int/\H'=upd H7 D (.lst ys)) (fun D hD=>⟨rfl,rfl⟩) (fun D i ys H' ⟨f1,f2⟩=>⟨by rw [f2];exact Ag,by rw [f1,length_map,length_map];unfold Ao;rw [length_map];exact length_take_le _ _⟩) (fun D i ys H' hD ⟨_,f2⟩=>by rw [f2];exact SqL.of (Ai hD _ _ _ hx7)) ?_ ?_
 ·rintro D i y' ys H' K1 K2 hD hy ⟨f1,rfl⟩ k1 k2
  obtain ⟨f,hf,rfl,fm,et⟩:=C6 hy
  have gf:=Ai hD (.lst ys) _ _ (gx7 f fm).1
  refine yes (ifT rfl ?_)
  refine ⟨_,rfl,f.1,_,_,_,rfl,rfl,SqT.of gf,rfl,?_⟩
  refine k1 _ _ Ag ⟨?_,by rw [Cz]⟩
  rw [f1,et,AK,map_append,map_append]
  rfl
 rintro D ys H' hD ⟨f1,rfl⟩
 rw [AT,take_length] at f1
 subst f1
 have s8:=Ai hD (.lst (((Ao x.2).map (·.2)).map V.int))
 have eD:(upd H7 D (.lst (((Ao x.2).map (·.2)).map V.int))) D=some (.lst (((Ao x.2).map (·.2)).map V.int)):=Ag
 generalize upd H7 D (.lst (((Ao x.2).map (·.2)).map V.int))=H8 at s8 eD ⊢
 refine ⟨D,_,rfl,SqL.of eD,?_⟩
 and_intros
 refine ⟨(by show 0<=sizeLine;decide),fun v0 hv0=>?_⟩
 have s9:=Ai hv0 (.tup [])
 have ev0:(upd H8 v0 (.tup [])) v0=some (.tup []):=Ag
 generalize upd H8 v0 (.tup [])=H9 at s9 ev0 ⊢
 refine ⟨(by show 2<=sizeLine;decide),fun v1 hv1=>?_⟩
 have sA:=Ai hv1 (.tup [V.ref v0,V.int 1])
 have ev1:(upd H9 v1 (.tup [V.ref v0,V.int 1])) v1=some (.tup [V.ref v0,V.int 1]):=Ag
 generalize upd H9 v1 (.tup [V.ref v0,V.int 1])=HA at sA ev1 ⊢
 refine ⟨(by show 1<=sizeLine;decide),fun v2 hv2=>?_⟩
 have sB:=Ai hv2 (.lst [V.ref v1])
 have ev2:(upd HA v2 (.lst [V.ref v1])) v2=some (.lst [V.ref v1]):=Ag
 generalize upd HA v2 (.lst [V.ref v1])=HB at sB ev2 ⊢
 have s8B:=(s8.trans s9).trans (sA.trans sB)
 have s0B:=s07.trans s8B
 have hwB:=s0B _ _ hw
 refine ⟨w',v2,_,_,rfl,rfl,hwB,ev2,(by rw [AT];exact Be (by show _+1<=900;omega)),fun mr hmr=>?_⟩
 have sC:=Ai hmr (.lst (vls ls++[V.ref v1]))
 have emr:(upd HB mr (.lst (vls ls++[V.ref v1]))) mr=some (.lst (vls (ls++[(v1,v0,[],1)]))):=by rw [Ag,B9];rfl
 generalize upd HB mr (.lst (vls ls++[V.ref v1]))=HC at sC emr ⊢
 have s0C:=s0B.trans sC
 have gmr:AM HC (ls++[(v1,v0,[],1)]):=(g.same s0C).append (fun q m=>by rw [mem_singleton.mp m];exact ⟨(sB.trans sC) _ _ ev1,((sA.trans sB).trans sC) _ _ ev0⟩)
 have s7C:=s8B.trans sC
 have wvC:=wv.same s7C
 have wovC:=wov.same s7C
 have eu0C:=s7C _ _ eu0
 have eodC:=s7C _ _ eod
 clear wv wov eu0 eod s8 s9 sA sB sC s8B s0B ev0 ev1 ev2 hB7 hx7 gx7 s07 s7C hwB
 have hwC:=s0C _ _ hw
 have gC:=g.same s0C
 have okp:∀q∈Ao ls,q.1∈p++[[]]/\1<=q.2/\q.2<=1000000000:=fun q m=>⟨mem_append_left _ (ok q m).1,(ok q m).2.1,(ok q m).2.2.1⟩
 and_intros
 dsimp only
 refine ⟨fun σ' J=>∃(mr:Addr) (ms:Ls) (gt:Int),σ'=[some (.ref b),some (.ref B),some (.int (k:Int)),some (.ref w'),some (.int wy),some (.int z),some v,some (.ref od),some (.int ((Ao x.2).map (·.2)).sum),some (.ref mr),some (.int gt),none,none]/\AJ HC J/\J mr=some (.lst (vls ms))/\AM J ms/\(∀q∈Ao ms,q.1∈p++[[]]/\1<=q.2/\q.2<=1000000000)/\Bp (Ao ms)=gt/\gt≠Bp (Ao x.2)/\ms.length<=96,?_,?_⟩
 ·have plain:∀J,AJ HC J->∃(mr':Addr) (ms:Ls) (gt:Int),[some (V.ref b),some (.ref B),some (.int (k:Int)),some (.ref w'),some (.int wy),some (.int z),some v,some (.ref od),some (.int ((Ao x.2).map (·.2)).sum),some (.ref mr),some (.int (((Ao x.2).map (·.2)).sum+1)),none,none]=[some (.ref b),some (.ref B),some (.int (k:Int)),some (.ref w'),some (.int wy),some (.int z),some v,some (.ref od),some (.int ((Ao x.2).map (·.2)).sum),some (.ref mr'),some (.int gt),none,none]/\AJ HC J/\J mr'=some (.lst (vls ms))/\AM J ms/\(∀q∈Ao ms,q.1∈p++[[]]/\1<=q.2/\q.2<=1000000000)/\Bp (Ao ms)=gt/\gt≠Bp (Ao x.2)/\ms.length<=96:=fun J sJ=>by
   refine ⟨mr,_,_,rfl,sJ,sJ _ _ emr,gmr.same sJ,fun q m=>?_,?_,?_,by rw [length_append];show _+1<=96;omega⟩
   ·rw [AK] at m
    rcases mem_append.mp m with m | m
    ·exact okp q m
    ·rw [mem_singleton.mp m]
     exact ⟨mem_append_right _ (mem_singleton.mpr rfl),by show (1:Int)<=1;decide,by show (1:Int)<=1000000000;decide⟩
   ·rw [J9,append_nil,sm]
    rfl
   ·show ((Ao x.2).map (·.2)).sum+1≠((Ao x.2).map (·.2)).sum
    omega
  and_intros
  refine G6 (fun _=>?_) (fun _=>?_)
  rotate_left
  ·exact plain _ (fun _ _ e=>e)
  and_intros
  refine ⟨(by show 0<=sizeLine;decide),fun n0 hn0=>?_⟩
  have sD:=Ai hn0 (.lst [])
  have en0:(upd HC n0 (.lst [])) n0=some (.lst []):=Ag
  generalize upd HC n0 (.lst [])=HD at sD en0 ⊢
  refine ⟨.list ((Ao ls).map ld),.list [],.lst (SqL.of (sD _ _ hwC)) (Dr (gC.same sD)),.lst (SqL.of en0) .nil,CG _,CG [],?_⟩
  rw [show PyData.eqv (.list ((Ao ls).map ld)) (.list [])=decide (ls=[]) from by cases ls <;> rfl]
  by_cases c0:ls=[]
  ·refine ⟨_,rfl,ifF (by rw [decide_eq_true c0];rfl) ?_⟩
   exact plain _ sD
  refine ⟨_,rfl,ifT (by rw [decide_eq_false c0];rfl) ?_⟩
  obtain ⟨r,rs,hrs⟩:∃r rs,ls=r :: rs:=by
   cases ls with
   | nil=>exact absurd rfl c0
   | cons r rs=>exact ⟨r,rs,rfl⟩
  have rin:r∈ls:=by rw [hrs];exact mem_cons_self ..
  have at0:atI (vls ls) 0=some (.ref r.1):=by show atI (vls ls) ((0:Nat):Int)=_;exact BE (by rw [hrs];rfl)
  have gr:=(gC.same sD) r rin
  have hwD:=sD _ _ hwC
  and_intros
  refine ⟨w',_,_,_,rfl,rfl,SqL.of hwD,at0,?_⟩
  and_intros
  refine ⟨r.1,_,_,_,rfl,rfl,SqT.of gr.1,rfl,?_⟩
  and_intros
  by_cases c2:r.2.2.2 > 1
  rotate_left
  ·refine ifF (decide_eq_false c2) ?_
   exact plain _ sD
  refine ifT (decide_eq_true c2) ?_
  clear plain
  and_intros
  refine ⟨w',_,_,_,rfl,rfl,SqL.of hwD,at0,?_⟩
  and_intros
  refine ⟨r.1,_,_,_,rfl,rfl,SqT.of gr.1,rfl,?_⟩
  and_intros
  refine ⟨w',_,_,_,rfl,rfl,SqL.of hwD,at0,?_⟩
  and_intros
  refine ⟨r.1,_,_,_,rfl,rfl,SqT.of gr.1,rfl,?_⟩
  and_intros
  refine ⟨(by show 2<=sizeLine;decide),fun x1 hx1=>?_⟩
  dsimp only
  have sE:=Ai hx1 (.tup [V.ref r.2.1,V.int (r.2.2.2 - 1)])
  have ex1:(upd HD x1 (.tup [V.ref r.2.1,V.int (r.2.2.2 - 1)])) x1=some (.tup [V.ref r.2.1,V.int (r.2.2.2 - 1)]):=Ag
  generalize upd HD x1 (.tup [V.ref r.2.1,V.int (r.2.2.2 - 1)])=HE at sE ex1 ⊢
  refine ⟨(by show 1<=sizeLine;decide),fun x2 hx2=>?_⟩
  have sF:=Ai hx2 (.lst [V.ref x1])
  have ex2:(upd HE x2 (.lst [V.ref x1])) x2=some (.lst [V.ref x1]):=Ag
  generalize upd HE x2 (.lst [V.ref x1])=HF at sF ex2 ⊢
  have hwF:=(sE.trans sF) _ _ hwD
  and_intros
  refine ⟨w',_,rfl,SqL.of hwF,fun x3 hx3=>?_⟩
  rw [show Ik (vls ls) (some 1) none=vls rs from by rw [hrs];exact Qn (k:=1)]
  have sG:=Ai hx3 (.lst (vls rs))
  have ex3:(upd HF x3 (.lst (vls rs))) x3=some (.lst (vls rs)):=Ag
  generalize upd HF x3 (.lst (vls rs))=HG at sG ex3 ⊢
  refine ⟨x2,x3,_,_,rfl,rfl,sG _ _ ex2,ex3,(by rw [hrs] at l95;rw [AT];exact Be (by rw [length_cons] at l95;show 1+_<=900;omega)),fun m2 hm2=>?_⟩
  have sH:=Ai hm2 (.lst ([V.ref x1]++vls rs))
  have em2:(upd HG m2 (.lst ([V.ref x1]++vls rs))) m2=some (.lst (vls ((x1,r.2.1,r.2.2.1,r.2.2.2 - 1) :: rs))):=Ag
  generalize upd HG m2 (.lst ([V.ref x1]++vls rs))=HH at sH em2 ⊢
  have sDH:=(sE.trans sF).trans (sG.trans sH)
  have rok:=okp (r.2.2.1,r.2.2.2) (mem_map.mpr ⟨r,rin,rfl⟩)
  have sms:Bp (Ao ls)=r.2.2.2+Bp (Ao rs):=by rw [hrs];exact Ct _ _
  have smn:Bp (Ao ((x1,r.2.1,r.2.2.1,r.2.2.2 - 1) :: rs))=r.2.2.2 - 1+Bp (Ao rs):=Ct _ _
  and_intros
  dsimp only
  refine ⟨m2,_,_,rfl,sD.trans sDH,em2,fun q m=>?_,fun q m=>?_,?_,?_,?_⟩
  ·rcases mem_cons.mp m with rfl | m
   ·exact ⟨((sF.trans sG).trans sH) _ _ ex1,sDH _ _ gr.2⟩
   ·exact ((gC.same sD).same sDH) q (by rw [hrs];exact mem_cons_of_mem _ m)
  ·rcases mem_cons.mp (show q∈(r.2.2.1,r.2.2.2 - 1) :: Ao rs from m) with rfl | m
   ·exact ⟨rok.1,by show 1<=r.2.2.2 - 1;omega,by show r.2.2.2 - 1<=_;have:=rok.2.2;omega⟩
   ·exact okp q (by rw [hrs];exact mem_cons_of_mem _ m)
  ·rw [smn]
   show _=((Ao x.2).map (·.2)).sum - 1
   have:Bp (Ao x.2)=((Ao x.2).map (·.2)).sum:=rfl
   omega
  ·show ((Ao x.2).map (·.2)).sum - 1≠((Ao x.2).map (·.2)).sum
   omega
  ·rw [hrs] at l95
   rw [length_cons] at l95 ⊢
   omega
 rintro σ' J ⟨mr',ms,gt,rfl,sJ,eM,gM,okM,smM,neM,lM⟩
 have s0J:=s0C.trans sJ
 have ibJ:=ib.same s0J
 have hwJ:=sJ _ _ hwC
 have gJ:=gC.same sJ
 have wvJ:=wvC.same sJ
 have wovJ:=wovC.same sJ
 have eu0J:=sJ _ _ eu0C
 have eodJ:=sJ _ _ eodC
 have lw:(vls ls).length=ls.length:=AT ls
 clear emr gmr hwC gC wvC wovC eu0C eodC
 and_intros
 refine ⟨by show ((vls ls).length:Int)+1≠0;omega,?_⟩
 have mj:=Bh (z.fdiv 112) (show (0:Int) < ((vls ls).length:Int)+1 by omega)
 dsimp only
 generalize (z.fdiv 112).fmod (((vls ls).length:Int)+1)=w2 at mj ⊢
 obtain ⟨j,rfl⟩:∃j:Nat,w2=(j:Int):=⟨w2.toNat,by omega⟩
 have r0:∀{J':Hp} {zs:List V},AJ J J'->Rfs K ad.c_Box ad.c_NoBundle ad.c_NoSheet ad.c_WrongNumber J' b v zs 0 []:=fun {J' zs} sj H1 h Qq E s1 eh go=>⟨b,L,n,bs,v,h,rfl,ibJ.same (sj.trans s1),.inl ⟨wvJ.same (sj.trans s1),go _ none H1 (fun _ _ e=>e) (.inl ⟨rfl,rfl,rfl,rfl⟩)⟩⟩
 have r1:∀{J':Hp} {ws:Ws},AJ J J'->IN K J' ws->(∃q∈ws,CB q.2.2.2=false)->Rfs K ad.c_Box ad.c_NoBundle ad.c_NoSheet ad.c_WrongNumber J' b (.int (k:Int)) (vws ws) 1 []:=fun {J' ws} sj gw bd H1 h Qq E s1 eh go=>⟨b,L,n,bs,_,h,rfl,ibJ.same (sj.trans s1),.inr ⟨k,y,p,rfl,ey,oky,by omega,.inl ⟨ws,eh,(fun q m=>⟨s1 _ _ (gw q m).1,s1 _ _ (gw q m).2.1,(gw q m).2.2.imp (fun z=>⟨z.1.same s1,z.2⟩) id⟩),bd,fun H' s'=>go _ none H' s' (.inr (.inl ⟨rfl,rfl,rfl,rfl⟩))⟩⟩⟩
 have godd:∀{J':Hp},AJ J J'->∀q∈[((od,u0,[],ov):Addr × Addr × List Int × V)],J' q.1=some (.tup [.ref q.2.1,q.2.2.2])/\J' q.2.1=some (.tup (q.2.2.1.map V.int))/\((Wh K J' q.2.2.2 false/\CB q.2.2.2=false)\/∃n:Int,q.2.2.2=.int n):=fun sj q m=>by
  rw [mem_singleton.mp m]
  exact ⟨sj _ _ eodJ,sj _ _ eu0J,(wovJ.same sj).1⟩
 have dodd:∀{J':Hp},AJ J J'->Jt K J' (.ref od):=fun sj=>by
  obtain ⟨d,d1,d2,d3,d4⟩:=(wovJ.same sj).2.2
  refine ⟨.tuple [.tuple [],d],.tup (SqT.of (sj _ _ eodJ)) (.cons (.tup (SqT.of (sj _ _ eu0J)) .nil) (.cons d1 .nil)),?_,?_,?_⟩
  ·show (true && (d.canLay0 && true))=true
   rw [d2];rfl
  ·show max (0+1) (max d.depth 0)+1<=12
   omega
  ·show (true && (PyData.eqv d d && true))=true
   rw [d4];rfl
 and_intros
 refine G6 (fun _=>?_) (fun _=>?_)
 ·and_intros
  refine ⟨b,L,n,bs,v,w',_,0,[],rfl,ibJ,hwJ,gJ.dat,r0 (fun _ _ e=>e),fun t a c HR sR et ea ec=>?_⟩
  and_intros
  refine ⟨(by show 3<=sizeLine;decide),fun q1 hq1=>?_⟩
  have sS:=Ai hq1 (.lst [V.bl true,V.bl false,V.bl false])
  have eq1:(upd HR q1 (.lst [V.bl true,V.bl false,V.bl false])) q1=some (.lst [V.bl true,V.bl false,V.bl false]):=Ag
  generalize upd HR q1 (.lst [V.bl true,V.bl false,V.bl false])=HS at sS eq1 ⊢
  refine ⟨(by show 0<=sizeLine;decide),fun q2 hq2=>?_⟩
  have sT:=Ai hq2 (.lst [])
  have eq2:(upd HS q2 (.lst [])) q2=some (.lst []):=Ag
  generalize upd HS q2 (.lst [])=HT at sT eq2 ⊢
  refine ⟨(by show 2<=sizeLine;decide),fun q3 hq3=>?_⟩
  have sU:=Ai hq3 (.tup [V.ref q1,V.ref q2])
  have eq3:(upd HT q3 (.tup [V.ref q1,V.ref q2])) q3=some (.tup [V.ref q1,V.ref q2]):=Ag
  generalize upd HT q3 (.tup [V.ref q1,V.ref q2])=HU at sU eq3 ⊢
  have sSU:=(sS.trans sT).trans sU
  have kd:=DP true false false []
  refine ⟨.tuple [.list [.bool true,.bool false,.bool false],.list (([]:List Int).map .int)],.tuple [.list [.bool true,.bool false,.bool false],.list (([]:List Int).map .int)],.tup (SqT.of (sSU _ _ et)) (.cons (.lst (SqL.of (sSU _ _ ea)) (.cons (.bl _) (.cons (.bl _) (.cons (.bl _) .nil)))) (.cons (.lst (SqL.of (sSU _ _ ec)) (.ints [])) .nil)),.tup (SqT.of eq3) (.cons (.lst (SqL.of ((sT.trans sU) _ _ eq1)) (.cons (.bl _) (.cons (.bl _) (.cons (.bl _) .nil)))) (.cons (.lst (SqL.of (sU _ _ eq2)) (.ints [])) .nil)),kd.1,kd.1,?_⟩
  rw [kd.2]
  exact q _ ((s0J.trans sR).trans sSU)
 and_intros
 refine G6 (fun _=>?_) (fun _=>?_)
 ·and_intros
  refine ⟨w',_,rfl,SqL.of hwJ,fun a1 ha1=>?_⟩
  rw [EM]
  have p1:=Ai ha1 (.lst ((vls ls).take j))
  have h1:(upd J a1 (.lst ((vls ls).take j))) a1=some (.lst ((vls ls).take j)):=Ag
  generalize upd J a1 (.lst ((vls ls).take j))=A1 at p1 h1 ⊢
  and_intros
  refine ⟨(by show 1<=sizeLine;decide),fun a2 ha2=>?_⟩
  have p2:=Ai ha2 (.lst [V.ref od])
  have h2:(upd A1 a2 (.lst [V.ref od])) a2=some (.lst [V.ref od]):=Ag
  generalize upd A1 a2 (.lst [V.ref od])=A2 at p2 h2 ⊢
  refine ⟨a1,a2,_,_,rfl,rfl,p2 _ _ h1,h2,(by have:=length_take_le j (vls ls);exact Be (by show ((vls ls).take j).length+1<=900;omega)),fun a3 ha3=>?_⟩
  have p3:=Ai ha3 (.lst ((vls ls).take j++[V.ref od]))
  have h3:(upd A2 a3 (.lst ((vls ls).take j++[V.ref od]))) a3=some (.lst ((vls ls).take j++[V.ref od])):=Ag
  generalize upd A2 a3 (.lst ((vls ls).take j++[V.ref od]))=A3 at p3 h3 ⊢
  have p13:=(p1.trans p2).trans p3
  and_intros
  refine ⟨w',_,rfl,SqL.of (p13 _ _ hwJ),fun a4 ha4=>?_⟩
  rw [DM (j:=j)]
  have p4:=Ai ha4 (.lst ((vls ls).drop j))
  have h4:(upd A3 a4 (.lst ((vls ls).drop j))) a4=some (.lst ((vls ls).drop j)):=Ag
  generalize upd A3 a4 (.lst ((vls ls).drop j))=A4 at p4 h4 ⊢
  refine ⟨a3,a4,_,_,rfl,rfl,p4 _ _ h3,h4,(by have:=length_take_le j (vls ls);have h:((vls ls).drop j).length=(vls ls).length - j:=length_drop;rw [length_append];exact Be (by show ((vls ls).take j).length+1+((vls ls).drop j).length<=900;omega)),fun zl hzl=>?_⟩
  have p5:=Ai hzl (.lst ((vls ls).take j++[V.ref od]++(vls ls).drop j))
  have h5:(upd A4 zl (.lst ((vls ls).take j++[V.ref od]++(vls ls).drop j))) zl=some (.lst ((vls ls).take j++[V.ref od]++(vls ls).drop j)):=Ag
  generalize upd A4 zl (.lst ((vls ls).take j++[V.ref od]++(vls ls).drop j))=A5 at p5 h5 ⊢
  have pA:=(p13.trans p4).trans p5
  have ew:vws ((toW ls).take j++[(od,u0,[],ov)]++(toW ls).drop j)=(vls ls).take j++[V.ref od]++(vls ls).drop j:=by
   rw [<- Jf ls]
   unfold vws
   rw [map_append,map_append,map_take,map_drop]
   rfl
  have dA:∀v∈(vls ls).take j++[V.ref od]++(vls ls).drop j,Jt K A5 v:=fun v m=>by
   rcases mem_append.mp m with m | m
   ·rcases mem_append.mp m with m | m
    ·exact (gJ.same pA).dat v (mem_of_mem_take m)
    ·rw [mem_singleton.mp m]
     exact dodd pA
   ·exact (gJ.same pA).dat v (mem_of_mem_drop m)
  have gw:IN K A5 ((toW ls).take j++[(od,u0,[],ov)]++(toW ls).drop j):=fun q m=>by
   rcases mem_append.mp m with m | m
   ·rcases mem_append.mp m with m | m
    ·exact (gJ.same pA).toW q (mem_of_mem_take m)
    ·exact godd pA q m
   ·exact (gJ.same pA).toW q (mem_of_mem_drop m)
  rw [<- ew] at h5 dA
  refine ⟨b,L,n,bs,_,zl,_,1,[],rfl,ibJ.same pA,h5,dA,r1 pA gw ⟨_,mem_append_left _ (mem_append_right _ (mem_singleton.mpr rfl)),wovJ.2.1⟩,fun t a c HR sR et ea ec=>?_⟩
  and_intros
  refine ⟨(by show 3<=sizeLine;decide),fun q1 hq1=>?_⟩
  have sS:=Ai hq1 (.lst [V.bl false,V.bl true,V.bl false])
  have eq1:(upd HR q1 (.lst [V.bl false,V.bl true,V.bl false])) q1=some (.lst [V.bl false,V.bl true,V.bl false]):=Ag
  generalize upd HR q1 (.lst [V.bl false,V.bl true,V.bl false])=HS at sS eq1 ⊢
  refine ⟨(by show 0<=sizeLine;decide),fun q2 hq2=>?_⟩
  have sT:=Ai hq2 (.lst [])
  have eq2:(upd HS q2 (.lst [])) q2=some (.lst []):=Ag
  generalize upd HS q2 (.lst [])=HT at sT eq2 ⊢
  refine ⟨(by show 2<=sizeLine;decide),fun q3 hq3=>?_⟩
  have sU:=Ai hq3 (.tup [V.ref q1,V.ref q2])
  have eq3:(upd HT q3 (.tup [V.ref q1,V.ref q2])) q3=some (.tup [V.ref q1,V.ref q2]):=Ag
  generalize upd HT q3 (.tup [V.ref q1,V.ref q2])=HU at sU eq3 ⊢
  have sSU:=(sS.trans sT).trans sU
  have kd:=DP false true false []
  refine ⟨.tuple [.list [.bool false,.bool true,.bool false],.list (([]:List Int).map .int)],.tuple [.list [.bool false,.bool true,.bool false],.list (([]:List Int).map .int)],.tup (SqT.of (sSU _ _ et)) (.cons (.lst (SqL.of (sSU _ _ ea)) (.cons (.bl _) (.cons (.bl _) (.cons (.bl _) .nil)))) (.cons (.lst (SqL.of (sSU _ _ ec)) (.ints [])) .nil)),.tup (SqT.of eq3) (.cons (.lst (SqL.of ((sT.trans sU) _ _ eq1)) (.cons (.bl _) (.cons (.bl _) (.cons (.bl _) .nil)))) (.cons (.lst (SqL.of (sU _ _ eq2)) (.ints [])) .nil)),kd.1,kd.1,?_⟩
  rw [kd.2]
  exact q _ (((s0J.trans pA).trans sR).trans sSU)
 and_intros
 refine G6 (fun _=>?_) (fun _=>?_)
 ·and_intros
  have kne:Bp (Ao y.2)≠Bp (Ao ms):=by rw [e,smM];exact Ne.symm neM
  refine ⟨b,L,n,bs,_,mr',_,2,[((Ao x.2).map (·.2)).sum,gt],rfl,ibJ,eM,gM.dat,(fun H1 h Qq E s1 eh go=>⟨b,L,n,bs,_,h,rfl,ibJ.same s1,.inr ⟨k,y,p++[[]],rfl,ey,fun q m=>⟨mem_append_left _ (oky q m).1,(oky q m).2⟩,by rw [length_append];show _+1 < 64;omega,.inr ⟨ms,eh,gM.same s1,okM,.inr ⟨kne,fun dx H' s' hd=>go _ (some dx) H' s' (.inr (.inr ⟨rfl,rfl,dx,_,_,rfl,rfl,by rw [e,smM] at hd;exact hd⟩))⟩⟩⟩⟩),fun t a c HR sR et ea ec=>?_⟩
  and_intros
  refine ⟨(by show 3<=sizeLine;decide),fun q1 hq1=>?_⟩
  have sS:=Ai hq1 (.lst [V.bl false,V.bl false,V.bl true])
  have eq1:(upd HR q1 (.lst [V.bl false,V.bl false,V.bl true])) q1=some (.lst [V.bl false,V.bl false,V.bl true]):=Ag
  generalize upd HR q1 (.lst [V.bl false,V.bl false,V.bl true])=HS at sS eq1 ⊢
  and_intros
  refine ⟨(by show 2<=sizeLine;decide),fun q2 hq2=>?_⟩
  have sT:=Ai hq2 (.lst [V.int (((Ao x.2).map (·.2)).sum),V.int (gt)])
  have eq2:(upd HS q2 (.lst [V.int (((Ao x.2).map (·.2)).sum),V.int (gt)])) q2=some (.lst [V.int (((Ao x.2).map (·.2)).sum),V.int (gt)]):=Ag
  generalize upd HS q2 (.lst [V.int (((Ao x.2).map (·.2)).sum),V.int (gt)])=HT at sT eq2 ⊢
  refine ⟨(by show 2<=sizeLine;decide),fun q3 hq3=>?_⟩
  have sU:=Ai hq3 (.tup [V.ref q1,V.ref q2])
  have eq3:(upd HT q3 (.tup [V.ref q1,V.ref q2])) q3=some (.tup [V.ref q1,V.ref q2]):=Ag
  generalize upd HT q3 (.tup [V.ref q1,V.ref q2])=HU at sU eq3 ⊢
  have sSU:=(sS.trans sT).trans sU
  have kd:=DP false false true [((Ao x.2).map (·.2)).sum,gt]
  refine ⟨.tuple [.list [.bool false,.bool false,.bool true],.list (([((Ao x.2).map (·.2)).sum,gt]:List Int).map .int)],.tuple [.list [.bool false,.bool false,.bool true],.list (([((Ao x.2).map (·.2)).sum,gt]:List Int).map .int)],.tup (SqT.of (sSU _ _ et)) (.cons (.lst (SqL.of (sSU _ _ ea)) (.cons (.bl _) (.cons (.bl _) (.cons (.bl _) .nil)))) (.cons (.lst (SqL.of (sSU _ _ ec)) (.ints [((Ao x.2).map (·.2)).sum,gt])) .nil)),.tup (SqT.of eq3) (.cons (.lst (SqL.of ((sT.trans sU) _ _ eq1)) (.cons (.bl _) (.cons (.bl _) (.cons (.bl _) .nil)))) (.cons (.lst (SqL.of (sU _ _ eq2)) (.ints [((Ao x.2).map (·.2)).sum,gt])) .nil)),kd.1,kd.1,?_⟩
  rw [kd.2]
  have etU:=sSU _ _ et
  have ecU:=sSU _ _ ec
  and_intros
  exact q _ ((s0J.trans sR).trans sSU)
 and_intros
 refine G6 (fun _=>?_) (fun _=>?_)
 ·and_intros
  refine ⟨w',_,rfl,SqL.of hwJ,fun a1 ha1=>?_⟩
  rw [EM]
  have p1:=Ai ha1 (.lst ((vls ls).take j))
  have h1:(upd J a1 (.lst ((vls ls).take j))) a1=some (.lst ((vls ls).take j)):=Ag
  generalize upd J a1 (.lst ((vls ls).take j))=A1 at p1 h1 ⊢
  and_intros
  refine ⟨(by show 1<=sizeLine;decide),fun a2 ha2=>?_⟩
  have p2:=Ai ha2 (.lst [V.ref od])
  have h2:(upd A1 a2 (.lst [V.ref od])) a2=some (.lst [V.ref od]):=Ag
  generalize upd A1 a2 (.lst [V.ref od])=A2 at p2 h2 ⊢
  refine ⟨a1,a2,_,_,rfl,rfl,p2 _ _ h1,h2,(by have:=length_take_le j (vls ls);exact Be (by show ((vls ls).take j).length+1<=900;omega)),fun a3 ha3=>?_⟩
  have p3:=Ai ha3 (.lst ((vls ls).take j++[V.ref od]))
  have h3:(upd A2 a3 (.lst ((vls ls).take j++[V.ref od]))) a3=some (.lst ((vls ls).take j++[V.ref od])):=Ag
  generalize upd A2 a3 (.lst ((vls ls).take j++[V.ref od]))=A3 at p3 h3 ⊢
  have p13:=(p1.trans p2).trans p3
  and_intros
  refine ⟨w',_,rfl,SqL.of (p13 _ _ hwJ),fun a4 ha4=>?_⟩
  rw [DM (j:=j)]
  have p4:=Ai ha4 (.lst ((vls ls).drop j))
  have h4:(upd A3 a4 (.lst ((vls ls).drop j))) a4=some (.lst ((vls ls).drop j)):=Ag
  generalize upd A3 a4 (.lst ((vls ls).drop j))=A4 at p4 h4 ⊢
  refine ⟨a3,a4,_,_,rfl,rfl,p4 _ _ h3,h4,(by have:=length_take_le j (vls ls);have h:((vls ls).drop j).length=(vls ls).length - j:=length_drop;rw [length_append];exact Be (by show ((vls ls).take j).length+1+((vls ls).drop j).length<=900;omega)),fun zl hzl=>?_⟩
  have p5:=Ai hzl (.lst ((vls ls).take j++[V.ref od]++(vls ls).drop j))
  have h5:(upd A4 zl (.lst ((vls ls).take j++[V.ref od]++(vls ls).drop j))) zl=some (.lst ((vls ls).take j++[V.ref od]++(vls ls).drop j)):=Ag
  generalize upd A4 zl (.lst ((vls ls).take j++[V.ref od]++(vls ls).drop j))=A5 at p5 h5 ⊢
  have pA:=(p13.trans p4).trans p5
  have ew:vws ((toW ls).take j++[(od,u0,[],ov)]++(toW ls).drop j)=(vls ls).take j++[V.ref od]++(vls ls).drop j:=by
   rw [<- Jf ls]
   unfold vws
   rw [map_append,map_append,map_take,map_drop]
   rfl
  have dA:∀v∈(vls ls).take j++[V.ref od]++(vls ls).drop j,Jt K A5 v:=fun v m=>by
   rcases mem_append.mp m with m | m
   ·rcases mem_append.mp m with m | m
    ·exact (gJ.same pA).dat v (mem_of_mem_take m)
    ·rw [mem_singleton.mp m]
     exact dodd pA
   ·exact (gJ.same pA).dat v (mem_of_mem_drop m)
  refine ⟨b,L,n,bs,v,zl,_,0,[],rfl,ibJ.same pA,h5,dA,r0 pA,fun t a c HR sR et ea ec=>?_⟩
  and_intros
  refine ⟨(by show 3<=sizeLine;decide),fun q1 hq1=>?_⟩
  have sS:=Ai hq1 (.lst [V.bl true,V.bl false,V.bl false])
  have eq1:(upd HR q1 (.lst [V.bl true,V.bl false,V.bl false])) q1=some (.lst [V.bl true,V.bl false,V.bl false]):=Ag
  generalize upd HR q1 (.lst [V.bl true,V.bl false,V.bl false])=HS at sS eq1 ⊢
  refine ⟨(by show 0<=sizeLine;decide),fun q2 hq2=>?_⟩
  have sT:=Ai hq2 (.lst [])
  have eq2:(upd HS q2 (.lst [])) q2=some (.lst []):=Ag
  generalize upd HS q2 (.lst [])=HT at sT eq2 ⊢
  refine ⟨(by show 2<=sizeLine;decide),fun q3 hq3=>?_⟩
  have sU:=Ai hq3 (.tup [V.ref q1,V.ref q2])
  have eq3:(upd HT q3 (.tup [V.ref q1,V.ref q2])) q3=some (.tup [V.ref q1,V.ref q2]):=Ag
  generalize upd HT q3 (.tup [V.ref q1,V.ref q2])=HU at sU eq3 ⊢
  have sSU:=(sS.trans sT).trans sU
  have kd:=DP true false false []
  refine ⟨.tuple [.list [.bool true,.bool false,.bool false],.list (([]:List Int).map .int)],.tuple [.list [.bool true,.bool false,.bool false],.list (([]:List Int).map .int)],.tup (SqT.of (sSU _ _ et)) (.cons (.lst (SqL.of (sSU _ _ ea)) (.cons (.bl _) (.cons (.bl _) (.cons (.bl _) .nil)))) (.cons (.lst (SqL.of (sSU _ _ ec)) (.ints [])) .nil)),.tup (SqT.of eq3) (.cons (.lst (SqL.of ((sT.trans sU) _ _ eq1)) (.cons (.bl _) (.cons (.bl _) (.cons (.bl _) .nil)))) (.cons (.lst (SqL.of (sU _ _ eq2)) (.ints [])) .nil)),kd.1,kd.1,?_⟩
  rw [kd.2]
  exact q _ (((s0J.trans pA).trans sR).trans sSU)
 and_intros
 refine G6 (fun _=>?_) (fun _=>?_)
 ·and_intros
  refine ⟨b,L,n,bs,v,mr',_,0,[],rfl,ibJ,eM,gM.dat,r0 (fun _ _ e=>e),fun t a c HR sR et ea ec=>?_⟩
  and_intros
  refine ⟨(by show 3<=sizeLine;decide),fun q1 hq1=>?_⟩
  have sS:=Ai hq1 (.lst [V.bl true,V.bl false,V.bl false])
  have eq1:(upd HR q1 (.lst [V.bl true,V.bl false,V.bl false])) q1=some (.lst [V.bl true,V.bl false,V.bl false]):=Ag
  generalize upd HR q1 (.lst [V.bl true,V.bl false,V.bl false])=HS at sS eq1 ⊢
  refine ⟨(by show 0<=sizeLine;decide),fun q2 hq2=>?_⟩
  have sT:=Ai hq2 (.lst [])
  have eq2:(upd HS q2 (.lst [])) q2=some (.lst []):=Ag
  generalize upd HS q2 (.lst [])=HT at sT eq2 ⊢
  refine ⟨(by show 2<=sizeLine;decide),fun q3 hq3=>?_⟩
  have sU:=Ai hq3 (.tup [V.ref q1,V.ref q2])
  have eq3:(upd HT q3 (.tup [V.ref q1,V.ref q2])) q3=some (.tup [V.ref q1,V.ref q2]):=Ag
  generalize upd HT q3 (.tup [V.ref q1,V.ref q2])=HU at sU eq3 ⊢
  have sSU:=(sS.trans sT).trans sU
  have kd:=DP true false false []
  refine ⟨.tuple [.list [.bool true,.bool false,.bool false],.list (([]:List Int).map .int)],.tuple [.list [.bool true,.bool false,.bool false],.list (([]:List Int).map .int)],.tup (SqT.of (sSU _ _ et)) (.cons (.lst (SqL.of (sSU _ _ ea)) (.cons (.bl _) (.cons (.bl _) (.cons (.bl _) .nil)))) (.cons (.lst (SqL.of (sSU _ _ ec)) (.ints [])) .nil)),.tup (SqT.of eq3) (.cons (.lst (SqL.of ((sT.trans sU) _ _ eq1)) (.cons (.bl _) (.cons (.bl _) (.cons (.bl _) .nil)))) (.cons (.lst (SqL.of (sU _ _ eq2)) (.ints [])) .nil)),kd.1,kd.1,?_⟩
  rw [kd.2]
  exact q _ ((s0J.trans sR).trans sSU)
 and_intros
 refine ⟨(by show 1<=sizeLine;decide),fun a2 ha2=>?_⟩
 have p2:=Ai ha2 (.lst [V.ref od])
 have h2:(upd J a2 (.lst [V.ref od])) a2=some (.lst [V.ref od]):=Ag
 generalize upd J a2 (.lst [V.ref od])=A2 at p2 h2 ⊢
 refine ⟨mr',a2,_,_,rfl,rfl,p2 _ _ eM,h2,(by rw [AT];exact Be (by show _+1<=900;omega)),fun zl hzl=>?_⟩
 have p5:=Ai hzl (.lst (vls ms++[V.ref od]))
 have h5:(upd A2 zl (.lst (vls ms++[V.ref od]))) zl=some (.lst (vls ms++[V.ref od])):=Ag
 generalize upd A2 zl (.lst (vls ms++[V.ref od]))=A5 at p5 h5 ⊢
 have pA:=p2.trans p5
 have ew:vws (toW ms++[(od,u0,[],ov)])=vls ms++[V.ref od]:=by
  rw [<- Jf ms]
  unfold vws
  rw [map_append]
  rfl
 have dA:∀v∈vls ms++[V.ref od],Jt K A5 v:=fun v m=>by
  rcases mem_append.mp m with m | m
  ·exact (gM.same pA).dat v m
  ·rw [mem_singleton.mp m]
   exact dodd pA
 have gw:IN K A5 (toW ms++[(od,u0,[],ov)]):=fun q m=>by
  rcases mem_append.mp m with m | m
  ·exact (gM.same pA).toW q m
  ·exact godd pA q m
 rw [<- ew] at h5 dA
 refine ⟨b,L,n,bs,_,zl,_,1,[],rfl,ibJ.same pA,h5,dA,r1 pA gw ⟨_,mem_append_right _ (mem_singleton.mpr rfl),wovJ.2.1⟩,fun t a c HR sR et ea ec=>?_⟩
 and_intros
 refine ⟨(by show 3<=sizeLine;decide),fun q1 hq1=>?_⟩
 have sS:=Ai hq1 (.lst [V.bl false,V.bl true,V.bl false])
 have eq1:(upd HR q1 (.lst [V.bl false,V.bl true,V.bl false])) q1=some (.lst [V.bl false,V.bl true,V.bl false]):=Ag
 generalize upd HR q1 (.lst [V.bl false,V.bl true,V.bl false])=HS at sS eq1 ⊢
 refine ⟨(by show 0<=sizeLine;decide),fun q2 hq2=>?_⟩
 have sT:=Ai hq2 (.lst [])
 have eq2:(upd HS q2 (.lst [])) q2=some (.lst []):=Ag
 generalize upd HS q2 (.lst [])=HT at sT eq2 ⊢
 refine ⟨(by show 2<=sizeLine;decide),fun q3 hq3=>?_⟩
 have sU:=Ai hq3 (.tup [V.ref q1,V.ref q2])
 have eq3:(upd HT q3 (.tup [V.ref q1,V.ref q2])) q3=some (.tup [V.ref q1,V.ref q2]):=Ag
 generalize upd HT q3 (.tup [V.ref q1,V.ref q2])=HU at sU eq3 ⊢
 have sSU:=(sS.trans sT).trans sU
 have kd:=DP false true false []
 refine ⟨.tuple [.list [.bool false,.bool true,.bool false],.list (([]:List Int).map .int)],.tuple [.list [.bool false,.bool true,.bool false],.list (([]:List Int).map .int)],.tup (SqT.of (sSU _ _ et)) (.cons (.lst (SqL.of (sSU _ _ ea)) (.cons (.bl _) (.cons (.bl _) (.cons (.bl _) .nil)))) (.cons (.lst (SqL.of (sSU _ _ ec)) (.ints [])) .nil)),.tup (SqT.of eq3) (.cons (.lst (SqL.of ((sT.trans sU) _ _ eq1)) (.cons (.bl _) (.cons (.bl _) (.cons (.bl _) .nil)))) (.cons (.lst (SqL.of (sU _ _ eq2)) (.ints [])) .nil)),kd.1,kd.1,?_⟩
 rw [kd.2]
 exact q _ (((s0J.trans pA).trans sR).trans sSU)
theorem R0 (T:Tx K mg ad):Bd P w K mg base CX0 8 ad.f_law ad.d_law ["_law_script"] (MK K):=by
 refine T.F_law.ok BG (fun vs H Q E h=>?_) (fun cdv A outer s H vs Q E hr h=>?_)
 ·obtain ⟨p,ns,rfl,_⟩:=h
  rfl
 obtain ⟨p,ns,rfl,hS,h63,q⟩:=h
 refine ⟨_,(@Aj _ _ _ _ _ (@A7 _ _ (1) _ _ _ _ BG.nd rfl (Or.inl rfl) (@Ar _ _ _ _ _ _ _ _ AW Ak (@Ar _ _ _ _ _ _ _ _ Ba (@Aq _ _ _ _ _ _ _ _ _ _ _ _ _ _ _ _ (Cs T) (hr.mono (by decide)) rfl T.m_law_cell T.F_law_cell.kp T.b_law_cell .nil AF (@Af _ _ _ _ _ (pv 0) (@Af _ _ _ _ _ Ak Ah (by rfl)) (by rfl)) (by decide) (by rfl) (by rfl)) Ak)) (by rfl) (by first | exact .inl rfl | exact .inr rfl | assumption)) (@Aj _ _ _ _ _ (@A7 _ _ (2) _ _ _ _ BG.nd rfl (Or.inl rfl) (@Aq _ _ _ _ _ _ _ _ _ _ _ _ _ _ _ _ (BI T) (hr.mono (by decide)) rfl T.m_law_mixed T.F_law_mixed.kp T.b_law_mixed .nil AF (@Af _ _ _ _ _ (@Aq _ _ _ _ _ _ _ _ _ _ _ _ _ _ _ _ (Cs T) (hr.mono (by decide)) rfl T.m_law_cell T.F_law_cell.kp T.b_law_cell .nil AF (@Af _ _ _ _ _ (pv 0) (@Af _ _ _ _ _ Ak Ah (by rfl)) (by rfl)) (by decide) (by rfl) (by rfl)) (@Af _ _ _ _ _ Ak Ah (by rfl)) (by rfl)) (by decide) (by rfl) (by rfl)) (by rfl) (by first | exact .inl rfl | exact .inr rfl | assumption)) (@Aj _ _ _ _ _ (@A7 _ _ (3) _ _ _ _ BG.nd rfl (Or.inl rfl) (@Aq _ _ _ _ _ _ _ _ _ _ _ _ _ _ _ _ (Ht T) (hr.mono (by decide)) rfl T.m_law_bundles T.F_law_bundles.kp T.b_law_bundles .nil AF (@Af _ _ _ _ _ (pv 0) (@Af _ _ _ _ _ (pv 1) Ah (by rfl)) (by rfl)) (by decide) (by rfl) (by rfl)) (by rfl) (by first | exact .inl rfl | exact .inr rfl | assumption)) (@Aj _ _ _ _ _ (@A7 _ _ (4) _ _ _ _ BG.nd rfl (Or.inl rfl) (Q5 T.mk_Box (Kb T) (hr.mono (by decide)) rfl T.m_Box T.b_Box_init .nil AF (@Af _ _ _ _ _ (pv 1) Ah (by rfl))) (by rfl) (by first | exact .inl rfl | exact .inr rfl | assumption)) (@Aj _ _ _ _ _ (B1 PassesOwn.never rfl (Bm (pv 3)) (AY (i:=5) BG.nd rfl (Or.inl rfl)) (@Aj _ _ _ _ _ (@A7 _ _ (6) _ _ _ _ BG.nd rfl (Or.inl rfl) (@Aq _ _ _ _ _ _ _ _ _ _ _ _ _ _ _ _ (CN T) (hr.mono (by decide)) rfl T.m_law_codes_of T.F_law_codes_of.kp T.b_law_codes_of .nil AF (@Af _ _ _ _ _ (pv 5) (@Af _ _ _ _ _ (pv 1) Ah (by rfl)) (by rfl)) (by decide) (by rfl) (by rfl)) (by rfl) (by first | exact .inl rfl | exact .inr rfl | assumption)) (@Al _ _ _ (@BU _ _ _ _ (DW (pv 4) T.cl_Box T.me_Box_take (Gq T) (hr.mono (by decide)) T.b_Box_take .nil AF (@Af _ _ _ _ _ (pv 6) (@Af _ _ _ _ _ (@Aq _ _ _ _ _ _ _ _ _ _ _ _ _ _ _ _ (EF T) (hr.mono (by decide)) rfl T.m_law_seal T.F_law_seal.kp T.b_law_seal .nil AF (@Af _ _ _ _ _ (pv 6) Ah (by rfl)) (by decide) (by rfl) (by rfl)) Ah (by rfl)) (by rfl))) (by rfl))))) (@Aj _ _ _ _ _ (@A7 _ _ (7) _ _ _ _ BG.nd rfl (Or.inl rfl) (@Ar _ _ _ _ _ _ _ _ Ba (pv 2) (@A6 _ _ _ _ _ _ _ _ _ AG (by rfl) T.z_len PySem.boot_len (@Af _ _ _ _ _ (pv 3) Ah (by rfl)) (by decide) (by decide) (by rfl) (by rfl))) (by rfl) (by first | exact .inl rfl | exact .inr rfl | assumption)) (@Aj _ _ _ _ _ (@A7 _ _ (8) _ _ _ _ BG.nd rfl (Or.inl rfl) (@AN _ _ _ _ _ _ _ AI (pv 3) (pv 7) (fun _ _=>rfl)) (by rfl) (by first | exact .inl rfl | exact .inr rfl | assumption)) (@Aj _ _ _ _ _ (@A7 _ _ (9) _ _ _ _ BG.nd rfl (Or.inl rfl) (@Aq _ _ _ _ _ _ _ _ _ _ _ _ _ _ _ _ (DQ T) (hr.mono (by decide)) rfl T.m_law_new_lines T.F_law_new_lines.kp T.b_law_new_lines .nil AF (@Af _ _ _ _ _ (pv 8) (@Af _ _ _ _ _ (@Aq _ _ _ _ _ _ _ _ _ _ _ _ _ _ _ _ (Cs T) (hr.mono (by decide)) rfl T.m_law_cell T.F_law_cell.kp T.b_law_cell .nil AF (@Af _ _ _ _ _ (pv 0) (@Af _ _ _ _ _ Ak Ah (by rfl)) (by rfl)) (by decide) (by rfl) (by rfl)) (@Af _ _ _ _ _ (pv 1) Ah (by rfl)) (by rfl)) (by rfl)) (by decide) (by rfl) (by rfl)) (by rfl) (by first | exact .inl rfl | exact .inr rfl | assumption)) (@Aj _ _ _ _ _ (@Bj _ _ _ _ _ _ _ _ (PW.pt (@CF _ _ _ _ _ _ _ (@Bv _ _ _ _ (@Br _ _ _ (@Aq _ _ _ _ _ _ _ _ _ _ _ _ _ _ _ _ (G5 T) (hr.mono (by decide)) rfl T.m_law_refusals T.F_law_refusals.kp T.b_law_refusals .nil AF (@Af _ _ _ _ _ (pv 4) (@Af _ _ _ _ _ (pv 3) (@Af _ _ _ _ _ (pv 7) (@Af _ _ _ _ _ (pv 9) (@Af _ _ _ _ _ (@Ar _ _ _ _ _ _ _ _ Ba (@Ar _ _ _ _ _ _ _ _ Bf (pv 2) Ak) Ak) (@Af _ _ _ _ _ (@Ar _ _ _ _ _ _ _ _ Bf (pv 2) Ak) Ah (by rfl)) (by rfl)) (by rfl)) (by rfl)) (by rfl)) (by rfl)) (by decide) (by rfl) (by rfl)) (by intro _;rfl))) (@Cp _ _ _ _ (@Bv _ _ _ _ (@Br _ _ _ (@Aq _ _ _ _ _ _ _ _ _ _ _ _ _ _ _ _ (Dv T) (hr.mono (by decide)) rfl T.m_law_told T.F_law_told.kp T.b_law_told .nil AF (@Af _ _ _ _ _ (pv 4) (@Af _ _ _ _ _ (pv 3) (@Af _ _ _ _ _ (pv 1) Ah (by rfl)) (by rfl)) (by rfl)) (by decide) (by rfl) (by rfl)) (by intro _;rfl)))))) (@Al _ _ _ (@A9 _ _ _ _ Bs)) AO) (@Aj _ _ _ _ _ (@A7 _ _ (10) _ _ _ _ BG.nd rfl (Or.inl rfl) (@Aq _ _ _ _ _ _ _ _ _ _ _ _ _ _ _ _ (Eg T) (hr.mono (by decide)) rfl T.m_law_apart T.F_law_apart.kp T.b_law_apart .nil AF (@Af _ _ _ _ _ (pv 8) (@Af _ _ _ _ _ (pv 9) Ah (by rfl)) (by rfl)) (by decide) (by rfl) (by rfl)) (by rfl) (by first | exact .inl rfl | exact .inr rfl | assumption)) (@Aj _ _ _ _ _ (@A7 _ _ (11) _ _ _ _ BG.nd rfl (Or.inl rfl) (EG (pv 4) T.cl_Box T.me_Box_sheet (FJ T) (hr.mono (by decide)) T.b_Box_sheet .nil AF) (by rfl) (by first | exact .inl rfl | exact .inr rfl | assumption)) (@Aj _ _ _ _ _ (@A7 _ _ (12) _ _ _ _ BG.nd rfl (Or.inl rfl) (@Ce _ _ _ _ _ _ _ _ _ BK (by rfl) T.z_list PyProof.Rows.boot_list (@Af _ _ _ _ _ (pv 11) Ah (by rfl)) (by decide) (by decide) (by rfl) (by rfl)) (by rfl) (by first | exact .inl rfl | exact .inr rfl | assumption)) (@Aj _ _ _ _ _ (@A7 _ _ (13) _ _ _ _ BG.nd rfl (Or.inl rfl) (@Ar _ _ _ _ _ _ _ _ Cj (@Ar _ _ _ _ _ _ _ _ Cj (Ca Cw (pv 3) C3 (Cy (pv 7))) (@AV _ _ _ _ (@Af _ _ _ _ _ (pv 9) Ah (by rfl)))) (Ca Cw (pv 3) (Cy (@Ar _ _ _ _ _ _ _ _ AW (pv 7) Ak)) C3)) (by rfl) (by first | exact .inl rfl | exact .inr rfl | assumption)) (@Aj _ _ _ _ _ (@Bj _ _ _ _ _ _ _ _ (PW.pt (@CF _ _ _ _ _ _ _ (@Bv _ _ _ _ (@Br _ _ _ (@Aq _ _ _ _ _ _ _ _ _ _ _ _ _ _ _ _ (Fu T) (hr.mono (by decide)) rfl T.m_law_put T.F_law_put.kp T.b_law_put .nil AF (@Af _ _ _ _ _ (pv 4) (@Af _ _ _ _ _ (pv 7) (@Af _ _ _ _ _ (pv 9) (@Af _ _ _ _ _ (pv 10) Ah (by rfl)) (by rfl)) (by rfl)) (by rfl)) (by decide) (by rfl) (by rfl)) (by intro _;rfl))) (@Cp _ _ _ _ (@Bv _ _ _ _ (@Br _ _ _ (@Aq _ _ _ _ _ _ _ _ _ _ _ _ _ _ _ _ (Dv T) (hr.mono (by decide)) rfl T.m_law_told T.F_law_told.kp T.b_law_told .nil AF (@Af _ _ _ _ _ (pv 4) (@Af _ _ _ _ _ (pv 13) (@Af _ _ _ _ _ (pv 1) Ah (by rfl)) (by rfl)) (by rfl)) (by decide) (by rfl) (by rfl)) (by intro _;rfl)))))) (@Al _ _ _ (@A9 _ _ _ _ Bs)) AO) (@Aj _ _ _ _ _ (@A7 _ _ (14) _ _ _ _ BG.nd rfl (Or.inl rfl) (@Ar _ _ _ _ _ _ _ _ Ba (@Ar _ _ _ _ _ _ _ _ AW (@Ar _ _ _ _ _ _ _ _ AW (pv 7) Ak) (@Ar _ _ _ _ _ _ _ _ Ba (@Ar _ _ _ _ _ _ _ _ Bf (pv 2) Ak) (@A6 _ _ _ _ _ _ _ _ _ AG (by rfl) T.z_len PySem.boot_len (@Af _ _ _ _ _ (pv 3) Ah (by rfl)) (by decide) (by decide) (by rfl) (by rfl)))) (@A6 _ _ _ _ _ _ _ _ _ AG (by rfl) T.z_len PySem.boot_len (@Af _ _ _ _ _ (pv 3) Ah (by rfl)) (by decide) (by decide) (by rfl) (by rfl))) (by rfl) (by first | exact .inl rfl | exact .inr rfl | assumption)) (@Aj _ _ _ _ _ (@A7 _ _ (15) _ _ _ _ BG.nd rfl (Or.inl rfl) (@Aq _ _ _ _ _ _ _ _ _ _ _ _ _ _ _ _ (DQ T) (hr.mono (by decide)) rfl T.m_law_new_lines T.F_law_new_lines.kp T.b_law_new_lines .nil AF (@Af _ _ _ _ _ (@AN _ _ _ _ _ _ _ AI (pv 13) (pv 14) (fun _ _=>rfl)) (@Af _ _ _ _ _ (@Aq _ _ _ _ _ _ _ _ _ _ _ _ _ _ _ _ (Cs T) (hr.mono (by decide)) rfl T.m_law_cell T.F_law_cell.kp T.b_law_cell .nil AF (@Af _ _ _ _ _ (pv 0) (@Af _ _ _ _ _ Ak Ah (by rfl)) (by rfl)) (by decide) (by rfl) (by rfl)) (@Af _ _ _ _ _ (pv 1) Ah (by rfl)) (by rfl)) (by rfl)) (by decide) (by rfl) (by rfl)) (by rfl) (by first | exact .inl rfl | exact .inr rfl | assumption)) (@Aj _ _ _ _ _ (@Bj _ _ _ _ _ _ _ _ (@Bv _ _ _ _ (@Br _ _ _ (@Aq _ _ _ _ _ _ _ _ _ _ _ _ _ _ _ _ (Fu T) (hr.mono (by decide)) rfl T.m_law_put T.F_law_put.kp T.b_law_put .nil AF (@Af _ _ _ _ _ (pv 4) (@Af _ _ _ _ _ (pv 14) (@Af _ _ _ _ _ (pv 15) (@Af _ _ _ _ _ (@Aq _ _ _ _ _ _ _ _ _ _ _ _ _ _ _ _ (Eg T) (hr.mono (by decide)) rfl T.m_law_apart T.F_law_apart.kp T.b_law_apart .nil AF (@Af _ _ _ _ _ (@AN _ _ _ _ _ _ _ AI (pv 13) (pv 14) (fun _ _=>rfl)) (@Af _ _ _ _ _ (pv 15) Ah (by rfl)) (by rfl)) (by decide) (by rfl) (by rfl)) Ah (by rfl)) (by rfl)) (by rfl)) (by rfl)) (by decide) (by rfl) (by rfl)) (by intro _;rfl))) (@Al _ _ _ (@A9 _ _ _ _ Bs)) AO) (@Aj _ _ _ _ _ (@A7 _ _ (6) _ _ _ _ BG.nd rfl (Or.inl rfl) (@Aq _ _ _ _ _ _ _ _ _ _ _ _ _ _ _ _ (CN T) (hr.mono (by decide)) rfl T.m_law_codes_of T.F_law_codes_of.kp T.b_law_codes_of .nil AF (@Af _ _ _ _ _ (pv 8) (@Af _ _ _ _ _ (pv 1) Ah (by rfl)) (by rfl)) (by decide) (by rfl) (by rfl)) (by rfl) (by first | exact .inl rfl | exact .inr rfl | assumption)) (@Aj _ _ _ _ _ (@A7 _ _ (13) _ _ _ _ BG.nd rfl (Or.inl rfl) (@Ar _ _ _ _ _ _ _ _ Cj (@Ar _ _ _ _ _ _ _ _ Cj (@Ar _ _ _ _ _ _ _ _ Cj (Ca Cw (pv 13) C3 (Cy (pv 14))) (@AV _ _ _ _ (@Af _ _ _ _ _ (pv 15) Ah (by rfl)))) (Ca Cw (pv 13) (Cy (@Ar _ _ _ _ _ _ _ _ AW (pv 14) Ak)) C3)) (@AV _ _ _ _ (@Af _ _ _ _ _ (pv 8) Ah (by rfl)))) (by rfl) (by first | exact .inl rfl | exact .inr rfl | assumption)) (@Aj _ _ _ _ _ (@Bj _ _ _ _ _ _ _ _ (PW.pt (@CF _ _ _ _ _ _ _ (@AQ _ _ _ _ _ _ _ _ (HL (K:=K) hr.units) (DW (pv 4) T.cl_Box T.me_Box_take (Gq T) (hr.mono (by decide)) T.b_Box_take .nil AF (@Af _ _ _ _ _ (pv 6) (@Af _ _ _ _ _ (@Aq _ _ _ _ _ _ _ _ _ _ _ _ _ _ _ _ (EF T) (hr.mono (by decide)) rfl T.m_law_seal T.F_law_seal.kp T.b_law_seal .nil AF (@Af _ _ _ _ _ (pv 6) Ah (by rfl)) (by decide) (by rfl) (by rfl)) Ah (by rfl)) (by rfl))) (@AZ _ _ _ _ _ (@Af _ _ _ _ _ (@A6 _ _ _ _ _ _ _ _ _ AG (by rfl) T.z_len PySem.boot_len (@Af _ _ _ _ _ (pv 3) Ah (by rfl)) (by decide) (by decide) (by rfl) (by rfl)) (@Af _ _ _ _ _ Ak Ah (by rfl)) (by rfl))) (AR _)) (@Cp _ _ _ _ (@Bv _ _ _ _ (@Br _ _ _ (@Aq _ _ _ _ _ _ _ _ _ _ _ _ _ _ _ _ (Dv T) (hr.mono (by decide)) rfl T.m_law_told T.F_law_told.kp T.b_law_told .nil AF (@Af _ _ _ _ _ (pv 4) (@Af _ _ _ _ _ (pv 13) (@Af _ _ _ _ _ (pv 1) Ah (by rfl)) (by rfl)) (by rfl)) (by decide) (by rfl) (by rfl)) (by intro _;rfl)))))) (@Al _ _ _ (@A9 _ _ _ _ Bs)) AO) (@Aj _ _ _ _ _ (@A7 _ _ (10) _ _ _ _ BG.nd rfl (Or.inl rfl) (@Aq _ _ _ _ _ _ _ _ _ _ _ _ _ _ _ _ (Eg T) (hr.mono (by decide)) rfl T.m_law_apart T.F_law_apart.kp T.b_law_apart .nil AF (@Af _ _ _ _ _ (@AN _ _ _ _ _ _ _ AI (pv 13) (pv 7) (fun _ _=>rfl)) (@Af _ _ _ _ _ (pv 8) Ah (by rfl)) (by rfl)) (by decide) (by rfl) (by rfl)) (by rfl) (by first | exact .inl rfl | exact .inr rfl | assumption)) (@Aj _ _ _ _ _ (@Bj _ _ _ _ _ _ _ _ (PW.pt (@CF _ _ _ _ _ _ _ (@Bv _ _ _ _ (@Br _ _ _ (@Aq _ _ _ _ _ _ _ _ _ _ _ _ _ _ _ _ (Fu T) (hr.mono (by decide)) rfl T.m_law_put T.F_law_put.kp T.b_law_put .nil AF (@Af _ _ _ _ _ (pv 4) (@Af _ _ _ _ _ (pv 7) (@Af _ _ _ _ _ (pv 8) (@Af _ _ _ _ _ (pv 10) Ah (by rfl)) (by rfl)) (by rfl)) (by rfl)) (by decide) (by rfl) (by rfl)) (by intro _;rfl))) (@Cp _ _ _ _ (@AQ _ _ _ _ _ _ _ _ (HL (K:=K) hr.units) (pv 11) (pv 12) (AR _))))) (@Al _ _ _ (@A9 _ _ _ _ Bs)) AO) (@Al _ _ _ (@A9 _ _ _ _ (@Aq _ _ _ _ _ _ _ _ _ _ _ _ _ _ _ _ (Dv T) (hr.mono (by decide)) rfl T.m_law_told T.F_law_told.kp T.b_law_told .nil AF (@Af _ _ _ _ _ (pv 4) (@Af _ _ _ _ _ (@Ar _ _ _ _ _ _ _ _ Cj (@Ar _ _ _ _ _ _ _ _ Cj (Ca Cw (pv 13) C3 (Cy (pv 7))) (@AV _ _ _ _ (@Af _ _ _ _ _ (pv 8) Ah (by rfl)))) (Ca Cw (pv 13) (Cy (@Ar _ _ _ _ _ _ _ _ AW (pv 7) Ak)) C3)) (@Af _ _ _ _ _ (pv 1) Ah (by rfl)) (by rfl)) (by rfl)) (by decide) (by rfl) (by rfl)))))))))))))))))))))))))),?_⟩
 refine ⟨_,rfl,p,ns,0,rfl,hS,h63,by decide,by decide,fun c c0 c1=>?_⟩
 have m12:=Bh c (show (0:Int) < 12 by decide)
 and_intros
 dsimp only
 have hh:1<=1+c.fmod 12/\1+c.fmod 12<=12:=by omega
 generalize 1+c.fmod 12=h at hh ⊢
 obtain ⟨n,rfl⟩:∃n:Nat,h=(n:Int):=⟨h.toNat,by omega⟩
 have n12:n<=12:=by omega
 have n1:1<=n:=by omega
 clear m12
 refine ⟨p,ns,0,rfl,hS,h63,by decide,by decide,fun c' c0' c1'=>?_⟩
 and_intros
 refine ⟨c',17,rfl,L6 c0' c1',szd 64,fun y y0 y1=>?_⟩
 have szy:=RN y0 y1
 and_intros
 refine ⟨p,ns,n,rfl,hS,h63,n1,n12,fun B cs pp Hb sb eB bu p40 b05 b80=>?_⟩
 and_intros
 intro b dx hb hdx ne
 have sn:AJ Hb (upd (upd Hb dx (.own b)) b (.ins ad.c_Box dx [])):=(Ai hdx _).trans (Ai (by rw [A8 (Ne.symm ne)];exact hb) _)
 refine ⟨b,ad.c_Box,dx,(n:Int),rfl,Ag,T.cl_Box,T.na_Box_hands,T.na_Box_bundles,by omega,by omega,fun L J0 lb hL g1 b1 l1=>⟨rfl,?_⟩⟩
 replace g1:=(Pw sn hb).trans g1
 replace hL:=none_of sn hL
 have BL:B≠L:=fun z=>by rw [z,hL] at eB;cases eB
 have bn0:Bn J0 L n pp B cs:=(Bn.same g1 ⟨eB,bu.lies,bu.ok,fun x m=>Nat.le_trans (b80 x m) (by decide),BL,fun x m z=>by have:=(bu.lies x m).1;rw [z,hL] at this;cases this⟩)
 have ib0:IsB ad.c_Box J0 b L n []:=⟨⟨dx,b1⟩,l1,(fun _ m=>nomatch m),(fun _ m=>nomatch m)⟩
 have lB:(cs.map fun x=>V.ref x.1).length=cs.length:=length_map _
 clear sn
 and_intros
 refine ⟨⟨_,SqL.of bn0.lst⟩,BO (xs:=cs.map fun x=>V.ref x.1) (fun i σ' J=>∃(v5 v6:Option V) (as:List (Addr × Ls)),σ'=[some (.ref p),some (.int (n:Int)),some (.int y),some (.ref B),some (.ref b),v5,v6,none,none,none,none,none,none,none,none,none]/\AJ Hb J/\Bn J L n pp B cs/\IsB ad.c_Box J b L n as/\as.map (fun x=>Ao x.2)=(cs.take i).map (fun x=>Ao x.2)) ⟨none,none,[],rfl,g1,bn0,ib0,rfl⟩ (fun i σ' J _ ⟨_,_,_,_,_,k,_⟩=>SqL.of k.lst) ?_ ?_⟩
 ·rintro i x' σ' J hx ⟨v5,v6,as,rfl,sJ,bn,ib,d1⟩
  rw [List.getElem?_map] at hx
  obtain ⟨x,ex,rfl⟩:=Option.map_eq_some_iff.mp hx
  have xm:=mem_of_getElem? ex
  have il:=(List.getElem?_eq_some_iff.mp ex).1
  have la:as.length=i:=by
   have:=congrArg List.length d1
   rw [length_map,length_map,length_take] at this
   omega
  have okx:=bn.ok x xm
  have lx:=bn.len x xm
  have ldx:(Ao x.2).length=x.2.length:=length_map _
  obtain ⟨dx',hb'⟩:=ib.at_
  and_intros
  refine ⟨x.1,x.2,n,pp,rfl,(bn.lies x xm).1,(bn.lies x xm).2,okx,n12,by omega,fun c2 K2 hc2 u2 ec=>?_⟩
  have hb2:=u2 _ _ hb'
  and_intros
  refine ⟨b,dx',_,rfl,hb2,rfl,?_⟩
  and_intros
  refine ⟨c2,_,rfl,ec,Fa n12 okx,(by rw [Cg];omega),fun t3 K3 ht3 u3 et3=>?_⟩
  have u23:=u2.trans u3
  have cL:c2≠L:=fun z=>by rw [z,ib.lst] at hc2;cases hc2
  refine ⟨b,L,n,as,c2,t3,pp,Ao x.2,rfl,ib.same u23,by omega,n12,u3 _ _ ec,cL,et3,okx,by omega,fun x4 t4 ls' K4 hx4 o4 eL ex4 gx ed et4=>?_⟩
  refine ⟨_,_,as++[(x4,ls')],rfl,EX (sJ.trans u23) hL o4,(bn.same u23).keep o4 (u23 _ _ ib.lst),(ib.same u23).more o4 hx4 eL ex4 gx,?_⟩
  rw [map_append,d1,take_succ,ex,map_append]
  show _++[Ao ls']=_++[Ao x.2]
  rw [ed]
 clear bn0 ib0 g1 b1 l1 bu eB hb hdx
 rintro σ' J ⟨v5,v6,as,rfl,sJ,bn,ib,d1⟩
 rw [lB,take_length] at d1
 have la:as.length=cs.length:=by
  have:=congrArg List.length d1
  rw [length_map,length_map] at this
  exact this
 have sH:=sb.trans sJ
 and_intros
 refine ⟨B,_,rfl,.inl (SqL.of bn.lst),?_⟩
 and_intros
 refine ⟨by show ((cs.map fun x=>V.ref x.1).length:Int)≠0;omega,?_⟩
 have mk:=Bh y (show (0:Int) < ((cs.map fun x=>V.ref x.1).length:Int) by omega)
 dsimp only
 generalize hk:y.fmod ((cs.map fun x=>V.ref x.1).length:Int)=w1 at mk ⊢
 obtain ⟨k,rfl⟩:∃k:Nat,w1=(k:Int):=⟨w1.toNat,by omega⟩
 have kl:k < cs.length:=by omega
 clear hk mk
 obtain ⟨x,ex⟩:∃x,cs[k]?=some x:=⟨_,List.getElem?_eq_getElem kl⟩
 have xm:=mem_of_getElem? ex
 have x80:=b80 x xm
 have atx:atI (cs.map fun x=>V.ref x.1) (k:Int)=some (.ref x.1):=BE (by rw [List.getElem?_map,ex];rfl)
 and_intros
 refine ⟨B,_,_,_,rfl,rfl,SqL.of bn.lst,atx,?_⟩
 and_intros
 refine ⟨p,ns,1,rfl,sH.seq hS,h63,by decide,by decide,fun c3 c30 c31=>?_⟩
 and_intros
 refine ⟨x.1,c3,n,x.2,pp,rfl,(bn.lies x xm).1,(bn.lies x xm).2,bn.ok x xm,by omega,n1,n12,c30,c31,fun f fs p1 K1 hf u1 ef gf nl=>?_⟩
 have fL:f≠L:=fun z=>by rw [z,ib.lst] at hf;cases hf
 replace bn:=(bn.same u1).sub nl.sub
 replace ib:=ib.same u1
 replace sH:=sH.trans u1
 have p41:p1.length<=41:=by have:=nl.plen;omega
 have f82:fs.length<=82:=by have:=nl.len;omega
 have m6:=Bh (y.fdiv 5) (show (0:Int) < 6 by decide)
 and_intros
 refine ⟨b,L,n,as,cs,B,k,x,p1,f,fs,_,_,rfl,ib,bn.like d1,ex,n12,ef,gf,nl.ok,by omega,by omega,nl.sum,szy.fdiv,Dq (by omega) (by omega),fun K2 u2=>?_⟩
 replace bn:=bn.same u2
 replace ib:=ib.same u2
 replace sH:=sH.trans u2
 replace ef:=u2 _ _ ef
 replace gf:=gf.same u2
 and_intros
 refine ⟨b,L,n,as,cs,B,p1,rfl,ib,bn.like d1,n12,by omega,by omega,fun K3 u3=>?_⟩
 replace bn:=bn.same u3
 replace ib:=ib.same u3
 replace sH:=sH.trans u3
 replace ef:=u3 _ _ ef
 replace gf:=gf.same u3
 have okx:=bn.ok x xm
 and_intros
 refine ⟨x.1,f,x.2,fs,p1,rfl,(bn.lies x xm).1,(bn.lies x xm).2,(fun q m=>(okx q m).1),(fun q m=>(okx q m).2.1),ef,gf,(fun q m=>(nl.ok q m).1),by omega,fun v K4 u4 due=>?_⟩
 replace bn:=bn.same u4
 replace ib:=ib.same u4
 replace sH:=sH.trans u4
 replace ef:=u4 _ _ ef
 replace gf:=gf.same u4
 obtain ⟨dx',hb'⟩:=ib.at_
 have oka:∀z∈as,Ci n p1 (Ao z.2):=fun z m=>by
  have:Ao z.2∈cs.map (fun x=>Ao x.2):=by rw [<- d1];exact mem_map.mpr ⟨z,m,rfl⟩
  obtain ⟨z',zm,ez⟩:=mem_map.mp this
  rw [<- ez]
  exact bn.ok z' zm
 and_intros
 refine ⟨b,dx',_,rfl,hb',rfl,?_⟩
 refine ⟨b,L,n,as,p1,rfl,ib,oka,by omega,by omega,fun hd ms K5 hhd u5 ehd ghd shd l64=>?_⟩
 replace bn:=bn.same u5
 have hdL:hd≠L:=fun z=>by rw [z,ib.lst] at hhd;cases hhd
 replace ib:=ib.same u5
 replace sH:=sH.trans u5
 replace ef:=u5 _ _ ef
 replace gf:=gf.same u5
 and_intros
 intro kp hkp
 have u6:=Ai hkp (.lst (vls ms))
 have ekp:(upd K5 kp (.lst (vls ms))) kp=some (.lst (vls ms)):=Ag
 generalize upd K5 kp (.lst (vls ms))=K6 at u6 ekp ⊢
 have kpL:kp≠L:=fun z=>by rw [z,ib.lst] at hkp;cases hkp
 replace bn:=bn.same u6
 replace ib:=ib.same u6
 replace sH:=sH.trans u6
 replace ef:=u6 _ _ ef
 replace gf:=gf.same u6
 replace ehd:=u6 _ _ ehd
 replace ghd:=ghd.same u6
 clear u1 u2 u3 u4 u5 u6 hhd hkp hb' m6
 and_intros
 refine ⟨B,_,rfl,SqL.of bn.lst,fun A1 hA1=>?_⟩
 rw [EM]
 have Aa:=Ai hA1 (.lst ((cs.map fun x=>V.ref x.1).take k))
 have Ax:(upd K6 A1 (.lst ((cs.map fun x=>V.ref x.1).take k))) A1=some (.lst ((cs.map fun x=>V.ref x.1).take k)):=Ag
 generalize upd K6 A1 (.lst ((cs.map fun x=>V.ref x.1).take k))=AA at Aa Ax ⊢
 and_intros
 refine ⟨(by show 1<=sizeLine;decide),fun A2 hA2=>?_⟩
 have Ab:=Ai hA2 (.lst [V.ref f])
 have Ay:(upd AA A2 (.lst [V.ref f])) A2=some (.lst [V.ref f]):=Ag
 generalize upd AA A2 (.lst [V.ref f])=AB at Ab Ay ⊢
 have At:((cs.map fun x=>V.ref x.1).take k).length<=cs.length:=by rw [length_take,length_map];omega
 refine ⟨A1,A2,_,_,rfl,rfl,Ab _ _ Ax,Ay,(Be (by show _+1<=900;omega)),fun A3 hA3=>?_⟩
 have Ac:=Ai hA3 (.lst ((cs.map fun x=>V.ref x.1).take k++[V.ref f]))
 have Az:(upd AB A3 (.lst ((cs.map fun x=>V.ref x.1).take k++[V.ref f]))) A3=some (.lst ((cs.map fun x=>V.ref x.1).take k++[V.ref f])):=Ag
 generalize upd AB A3 (.lst ((cs.map fun x=>V.ref x.1).take k++[V.ref f]))=AC at Ac Az ⊢
 have Aac:=(Aa.trans Ab).trans Ac
 and_intros
 refine ⟨B,_,rfl,SqL.of (Aac _ _ bn.lst),fun A4 hA4=>?_⟩
 rw [show ((k:Int)+1)=((k+1:Nat):Int) from rfl,DM (j:=k+1)]
 have Ad:=Ai hA4 (.lst ((cs.map fun x=>V.ref x.1).drop (k+1)))
 have Aw:(upd AC A4 (.lst ((cs.map fun x=>V.ref x.1).drop (k+1)))) A4=some (.lst ((cs.map fun x=>V.ref x.1).drop (k+1))):=Ag
 generalize upd AC A4 (.lst ((cs.map fun x=>V.ref x.1).drop (k+1)))=AD at Ad Aw ⊢
 have Au:((cs.map fun x=>V.ref x.1).drop (k+1)).length<=cs.length:=by rw [length_drop,length_map];omega
 refine ⟨A3,A4,_,_,rfl,rfl,Ad _ _ Az,Aw,(by rw [length_append];exact Be (by show _+1+_<=900;omega)),fun A0 hA0=>?_⟩
 rw [show (cs.map fun x=>V.ref x.1).take k++[V.ref f]++(cs.map fun x=>V.ref x.1).drop (k+1)=(cs.set k (f,fs)).map (fun x=>V.ref x.1) from Jo (f:=fun x:Addr × Ls=>V.ref x.1) (a:=(f,fs)) kl]
 have Ae:=Ai hA0 (.lst ((cs.set k (f,fs)).map fun x=>V.ref x.1))
 have An:(upd AD A0 (.lst ((cs.set k (f,fs)).map fun x=>V.ref x.1))) A0=some (.lst ((cs.set k (f,fs)).map fun x=>V.ref x.1)):=Ag
 generalize upd AD A0 (.lst ((cs.set k (f,fs)).map fun x=>V.ref x.1))=AE at Ae An ⊢
 have As:=(Aac.trans Ad).trans Ae
 have AL:A0≠L:=fun z=>by rw [z,(Aac.trans Ad) _ _ ib.lst] at hA0;cases hA0
 clear Aa Ab Ac Ad Ae Ax Ay Az Aw Aac hA1 hA2 hA3 hA4 At Au hA0
 have bn1:Bn AE L n p1 A0 (cs.set k (f,fs)):=(bn.same As).put An AL (As _ _ ef) (gf.same As) nl.ok (by omega) fL
 replace bn:=bn.same As
 replace ib:=ib.same As
 replace sH:=sH.trans As
 replace ef:=As _ _ ef
 replace gf:=gf.same As
 replace ehd:=As _ _ ehd
 replace ghd:=ghd.same As
 replace ekp:=As _ _ ekp
 clear An As
 have hLH:H L=none:=none_of sb hL
 obtain ⟨y2,ey2,e2⟩:=F8 d1 ex
 and_intros
 refine ⟨b,L,n,as,k,y2,p1,f,fs,v,rfl,ib,ey2,(by rw [e2];exact okx),by omega,ef,gf,nl.ok,by omega,fL,(by rw [e2];exact nl.sum.symm),(by rw [e2];exact due),fun z1 K7 hz1 o7 eL7 ez7=>?_⟩
 have iL:=ib.lst
 replace sH:=EX sH hLH o7
 replace ib:=ib.put o7 hz1 eL7 ez7 (gf.off o7 iL)
 replace d1:=LZ (k:=k) (a:=(z1,fs)) (b:=(f,fs)) d1 rfl
 replace bn:=bn.keep o7 iL
 replace bn1:=bn1.keep o7 iL
 replace ehd:=o7 _ _ (Bu ehd hdL)
 replace ghd:=ghd.off o7 iL
 replace ekp:=o7 _ _ (Bu ekp kpL)
 replace la:(as.set k (z1,fs)).length=cs.length:=by rw [length_set];exact la
 generalize as.set k (z1,fs)=as1 at ib d1 la
 have lc1:(cs.set k (f,fs)).length=cs.length:=length_set ..
 have at1:∀w∈cs.set k (f,fs),w.2.length<=82/\∃w',w'∈cs/\Bp (Ao w.2)=Bp (Ao w'.2):=fun w m=>by
  rcases mem_or_eq_of_mem_set m with m | rfl
  ·exact ⟨Nat.le_trans (b80 w m) (by decide),w,m,rfl⟩
  ·exact ⟨f82,x,xm,nl.sum⟩
 have key1:(cs.set k (f,fs))[k]?=some (f,fs):=List.getElem?_set_self kl
 have sm1:=nl.sum
 generalize cs.set k (f,fs)=cs1 at bn1 d1 lc1 at1 key1
 clear eL7 ez7 hz1 o7 iL ey2 e2 ef gf due oka
 and_intros
 refine ⟨b,L,n,as1,cs1,A0,p1,rfl,ib,bn1.like d1,n12,by omega,by omega,fun K8 u8=>?_⟩
 replace bn:=bn.same u8
 replace bn1:=bn1.same u8
 replace ib:=ib.same u8
 replace sH:=sH.trans u8
 replace ehd:=u8 _ _ ehd
 replace ghd:=ghd.same u8
 replace ekp:=u8 _ _ ekp
 have hB8:=bn.lst
 and_intros
 have cz:((cs.map fun x=>V.ref x.1).length:Int)≠0:=by omega
 refine ⟨cz,?_⟩
 and_intros
 refine ⟨cz,?_⟩
 have mo:=Bh ((k:Int)+1+(y.fdiv 7).fmod ((cs.map fun x=>V.ref x.1).length:Int)) (show (0:Int) < ((cs.map fun x=>V.ref x.1).length:Int) by omega)
 dsimp only
 generalize ((k:Int)+1+(y.fdiv 7).fmod ((cs.map fun x=>V.ref x.1).length:Int)).fmod ((cs.map fun x=>V.ref x.1).length:Int)=w2 at mo ⊢
 obtain ⟨o,rfl⟩:∃o:Nat,w2=(o:Int):=⟨w2.toNat,by omega⟩
 have ol:o < cs1.length:=by omega
 clear mo
 obtain ⟨x1,ex1⟩:∃x,cs1[o]?=some x:=⟨_,List.getElem?_eq_getElem ol⟩
 have x1m:=mem_of_getElem? ex1
 obtain ⟨x82,_⟩:=at1 x1 x1m
 have atx1:atI (cs1.map fun x=>V.ref x.1) (o:Int)=some (.ref x1.1):=BE (by rw [List.getElem?_map,ex1];rfl)
 and_intros
 refine ⟨A0,_,_,_,rfl,rfl,SqL.of bn1.lst,atx1,?_⟩
 and_intros
 refine ⟨p,ns,2,rfl,sH.seq hS,h63,by decide,by decide,fun c4 c40 c41=>?_⟩
 and_intros
 refine ⟨x1.1,c4,n,x1.2,p1,rfl,(bn1.lies x1 x1m).1,(bn1.lies x1 x1m).2,bn1.ok x1 x1m,by omega,n1,n12,c40,c41,fun f2 fs2 p2 K9 hf2 u9 ef2 gf2 nl2=>?_⟩
 have f2L:f2≠L:=fun z=>by rw [z,ib.lst] at hf2;cases hf2
 replace bn:=bn.same u9
 replace bn1:=bn1.same u9
 replace ib:=ib.same u9
 replace sH:=sH.trans u9
 replace ehd:=u9 _ _ ehd
 replace ghd:=ghd.same u9
 replace ekp:=u9 _ _ ekp
 replace bn:=bn.sub nl2.sub
 replace bn1:=bn1.sub nl2.sub
 have p42:p2.length<=42:=by have:=nl2.plen;omega
 have f84:fs2.length<=84:=by have:=nl2.len;omega
 have okx1:=bn1.ok x1 x1m
 and_intros
 refine ⟨A0,_,_,_,rfl,rfl,SqL.of bn1.lst,atx1,?_⟩
 and_intros
 refine ⟨x1.1,f2,x1.2,fs2,p2,rfl,(bn1.lies x1 x1m).1,(bn1.lies x1 x1m).2,(fun q m=>(okx1 q m).1),(fun q m=>(okx1 q m).2.1),ef2,gf2,(fun q m=>(nl2.ok q m).1),by omega,fun v2 KA uA due2=>?_⟩
 replace bn:=bn.same uA
 replace bn1:=bn1.same uA
 replace ib:=ib.same uA
 replace sH:=sH.trans uA
 replace ehd:=uA _ _ ehd
 replace ghd:=ghd.same uA
 replace ekp:=uA _ _ ekp
 replace ef2:=uA _ _ ef2
 replace gf2:=gf2.same uA
 obtain ⟨y3,ey3,e3⟩:=F8 d1 ex1
 refine ⟨b,L,n,as1,o,y3,p2,f2,fs2,v2,rfl,ib,ey3,(by rw [e3];exact okx1),by omega,ef2,gf2,nl2.ok,by omega,f2L,(by rw [e3];exact nl2.sum.symm),(by rw [e3];exact due2),fun z2 KB hz2 oB eLB ezB=>?_⟩
 have iL:=ib.lst
 replace ib:=ib.put oB hz2 eLB ezB (gf2.off oB iL)
 replace d1:=LZ (k:=o) (a:=(z2,fs2)) (b:=(f2,fs2)) d1 rfl
 replace sH:=EX sH hLH oB
 replace bn:=bn.keep oB iL
 replace bn1:=bn1.keep oB iL
 replace ehd:=oB _ _ (Bu ehd hdL)
 replace ghd:=ghd.off oB iL
 replace ekp:=oB _ _ (Bu ekp kpL)
 replace ef2:=oB _ _ (Bu ef2 f2L)
 replace gf2:=gf2.off oB iL
 replace la:(as1.set o (z2,fs2)).length=cs.length:=by rw [length_set];exact la
 generalize as1.set o (z2,fs2)=as2 at ib d1 la
 clear eLB ezB hz2 oB iL ey3 e3 due2 u9 uA u8
 have okx2:=bn.ok x xm
 have ldx:(Ao x.2).length=x.2.length:=length_map _
 and_intros
 refine ⟨x.1,x.2,n,p2,rfl,(bn.lies x xm).1,(bn.lies x xm).2,okx2,n12,by omega,fun c5 KC hc5 uC ec5=>?_⟩
 have c5L:c5≠L:=fun z=>by rw [z,ib.lst] at hc5;cases hc5
 replace bn:=bn.same uC
 replace bn1:=bn1.same uC
 replace ib:=ib.same uC
 replace sH:=sH.trans uC
 replace ehd:=uC _ _ ehd
 replace ghd:=ghd.same uC
 replace ekp:=uC _ _ ekp
 replace ef2:=uC _ _ ef2
 replace gf2:=gf2.same uC
 and_intros
 refine ⟨A0,_,rfl,SqL.of bn1.lst,fun D1 hD1=>?_⟩
 rw [EM]
 have Da:=Ai hD1 (.lst ((cs1.map fun x=>V.ref x.1).take o))
 have Dx:(upd KC D1 (.lst ((cs1.map fun x=>V.ref x.1).take o))) D1=some (.lst ((cs1.map fun x=>V.ref x.1).take o)):=Ag
 generalize upd KC D1 (.lst ((cs1.map fun x=>V.ref x.1).take o))=DA at Da Dx ⊢
 and_intros
 refine ⟨(by show 1<=sizeLine;decide),fun D2 hD2=>?_⟩
 have Db:=Ai hD2 (.lst [V.ref f2])
 have Dy:(upd DA D2 (.lst [V.ref f2])) D2=some (.lst [V.ref f2]):=Ag
 generalize upd DA D2 (.lst [V.ref f2])=DB at Db Dy ⊢
 have Dt:((cs1.map fun x=>V.ref x.1).take o).length<=cs1.length:=by rw [length_take,length_map];omega
 refine ⟨D1,D2,_,_,rfl,rfl,Db _ _ Dx,Dy,(Be (by show _+1<=900;omega)),fun D3 hD3=>?_⟩
 have Dc:=Ai hD3 (.lst ((cs1.map fun x=>V.ref x.1).take o++[V.ref f2]))
 have Dz:(upd DB D3 (.lst ((cs1.map fun x=>V.ref x.1).take o++[V.ref f2]))) D3=some (.lst ((cs1.map fun x=>V.ref x.1).take o++[V.ref f2])):=Ag
 generalize upd DB D3 (.lst ((cs1.map fun x=>V.ref x.1).take o++[V.ref f2]))=DC at Dc Dz ⊢
 have Dac:=(Da.trans Db).trans Dc
 and_intros
 refine ⟨A0,_,rfl,SqL.of (Dac _ _ bn1.lst),fun D4 hD4=>?_⟩
 rw [show ((o:Int)+1)=((o+1:Nat):Int) from rfl,DM (j:=o+1)]
 have Dd:=Ai hD4 (.lst ((cs1.map fun x=>V.ref x.1).drop (o+1)))
 have Dw:(upd DC D4 (.lst ((cs1.map fun x=>V.ref x.1).drop (o+1)))) D4=some (.lst ((cs1.map fun x=>V.ref x.1).drop (o+1))):=Ag
 generalize upd DC D4 (.lst ((cs1.map fun x=>V.ref x.1).drop (o+1)))=DD at Dd Dw ⊢
 have Du:((cs1.map fun x=>V.ref x.1).drop (o+1)).length<=cs1.length:=by rw [length_drop,length_map];omega
 refine ⟨D3,D4,_,_,rfl,rfl,Dd _ _ Dz,Dw,(by rw [length_append];exact Be (by show _+1+_<=900;omega)),fun D0 hD0=>?_⟩
 rw [show (cs1.map fun x=>V.ref x.1).take o++[V.ref f2]++(cs1.map fun x=>V.ref x.1).drop (o+1)=(cs1.set o (f2,fs2)).map (fun x=>V.ref x.1) from Jo (f:=fun x:Addr × Ls=>V.ref x.1) (a:=(f2,fs2)) ol]
 have De:=Ai hD0 (.lst ((cs1.set o (f2,fs2)).map fun x=>V.ref x.1))
 have Dn:(upd DD D0 (.lst ((cs1.set o (f2,fs2)).map fun x=>V.ref x.1))) D0=some (.lst ((cs1.set o (f2,fs2)).map fun x=>V.ref x.1)):=Ag
 generalize upd DD D0 (.lst ((cs1.set o (f2,fs2)).map fun x=>V.ref x.1))=DE at De Dn ⊢
 have Ds:=(Dac.trans Dd).trans De
 have DL:D0≠L:=fun z=>by rw [z,(Dac.trans Dd) _ _ ib.lst] at hD0;cases hD0
 clear Da Db Dc Dd De Dx Dy Dz Dw Dac hD1 hD2 hD3 hD4 Dt Du hD0
 have bn2:Bn DE L n p2 D0 (cs1.set o (f2,fs2)):=(bn1.same Ds).put Dn DL (Ds _ _ ef2) (gf2.same Ds) nl2.ok (by omega) f2L
 replace bn:=bn.same Ds
 replace ib:=ib.same Ds
 replace sH:=sH.trans Ds
 replace ehd:=Ds _ _ ehd
 replace ghd:=ghd.same Ds
 replace ekp:=Ds _ _ ekp
 replace ec5:=Ds _ _ ec5
 have lc2:(cs1.set o (f2,fs2)).length=cs.length:=by rw [length_set];exact lc1
 have key2:∃w,(cs1.set o (f2,fs2))[k]?=some w/\Bp (Ao w.2)=Bp (Ao x.2):=by
  by_cases c:o=k
  ·refine ⟨(f2,fs2),by rw [<- c];exact List.getElem?_set_self ol,?_⟩
   rw [c,key1] at ex1
   cases ex1
   show Bp (Ao fs2)=_
   rw [nl2.sum]
   exact sm1
  ·exact ⟨(f,fs),by rw [List.getElem?_set_ne c];exact key1,sm1⟩
 generalize cs1.set o (f2,fs2)=cs2 at bn2 d1 lc2 key2
 clear Dn Ds bn1 at1 key1 ex1 x1m atx1
 and_intros
 refine ⟨(by show 1<=sizeLine;decide),fun e1 he1=>?_⟩
 have w1:=Ai he1 (.lst [V.ref x.1])
 have ee1:(upd DE e1 (.lst [V.ref x.1])) e1=some (.lst [V.ref x.1]):=Ag
 generalize upd DE e1 (.lst [V.ref x.1])=E1 at w1 ee1 ⊢
 refine ⟨D0,e1,_,_,rfl,rfl,w1 _ _ bn2.lst,ee1,(by rw [length_map];exact Be (by show _+1<=900;omega)),fun G0 hG0=>?_⟩
 rw [show (cs2.map fun x=>V.ref x.1)++[V.ref x.1]=(cs2++[x]).map (fun x=>V.ref x.1) from by rw [map_append];rfl]
 have w3:=Ai hG0 (.lst ((cs2++[x]).map fun x=>V.ref x.1))
 have eG:(upd E1 G0 (.lst ((cs2++[x]).map fun x=>V.ref x.1))) G0=some (.lst ((cs2++[x]).map fun x=>V.ref x.1)):=Ag
 generalize upd E1 G0 (.lst ((cs2++[x]).map fun x=>V.ref x.1))=E2 at w3 eG ⊢
 have GL:G0≠L:=fun z=>by rw [z,w1 _ _ ib.lst] at hG0;cases hG0
 have w12:=w1.trans w3
 replace bn:=bn.same w12
 replace bn2:=bn2.same w12
 replace ib:=ib.same w12
 replace sH:=sH.trans w12
 replace ehd:=w12 _ _ ehd
 replace ghd:=ghd.same w12
 replace ekp:=w12 _ _ ekp
 replace ec5:=w12 _ _ ec5
 have bn3:Bn E2 L n p2 G0 (cs2++[x]):=bn2.snoc eG GL (bn.lies x xm) okx2 (by omega) (bn.nes x xm)
 clear w1 w3 w12 ee1 eG hG0 he1 bn2
 obtain ⟨dx2,hb2⟩:=ib.at_
 have lc3:(cs2++[x]).length=cs.length+1:=by rw [length_append,lc2];rfl
 and_intros
 refine ⟨b,dx2,_,rfl,hb2,rfl,?_⟩
 and_intros
 refine ⟨c5,_,rfl,ec5,Fa n12 okx2,(by rw [Cg];omega),fun t5 E3 ht5 u5 et5=>?_⟩
 replace bn:=bn.same u5
 replace bn3:=bn3.same u5
 replace ib:=ib.same u5
 replace sH:=sH.trans u5
 replace ehd:=u5 _ _ ehd
 replace ghd:=ghd.same u5
 replace ekp:=u5 _ _ ekp
 replace ec5:=u5 _ _ ec5
 refine ⟨b,L,n,as2,c5,t5,p2,Ao x.2,rfl,ib,by omega,n12,ec5,c5L,et5,okx2,by omega,fun x6 t6 ls6 E4 hx6 o4 eL4 ex4 gx4 ed4 et4=>?_⟩
 have iL:=ib.lst
 replace ib:=ib.more o4 hx6 eL4 ex4 gx4
 have d2:(as2++[(x6,ls6)]).map (fun x=>Ao x.2)=(cs2++[x]).map (fun x=>Ao x.2):=by
  rw [map_append,map_append,d1]
  show _++[Ao ls6]=_++[Ao x.2]
  rw [ed4]
 replace sH:=EX sH hLH o4
 replace bn:=bn.keep o4 iL
 replace bn3:=bn3.keep o4 iL
 replace ehd:=o4 _ _ (Bu ehd hdL)
 replace ghd:=ghd.off o4 iL
 replace ekp:=o4 _ _ (Bu ekp kpL)
 have la3:(as2++[(x6,ls6)]).length=cs.length+1:=by rw [length_append,la];rfl
 generalize as2++[(x6,ls6)]=as3 at ib d2 la3
 clear iL o4 eL4 ex4 gx4 ed4 hx6 u5 et5 ht5 d1 hb2
 have hB4:=bn.lst
 and_intros
 refine ⟨(by show 2<=sizeLine;decide),fun t7 ht7=>?_⟩
 have w5:=Ai ht7 (.tup [V.int ((cs.map fun x=>V.ref x.1).length:Int),V.int 0])
 have e7:(upd E4 t7 (.tup [V.int ((cs.map fun x=>V.ref x.1).length:Int),V.int 0])) t7=some (.tup [V.int ((cs.map fun x=>V.ref x.1).length:Int),V.int 0]):=Ag
 generalize upd E4 t7 (.tup [V.int ((cs.map fun x=>V.ref x.1).length:Int),V.int 0])=E5 at w5 e7 ⊢
 rw [la] at et4
 rw [lB] at e7
 replace bn:=bn.same w5
 replace bn3:=bn3.same w5
 replace ib:=ib.same w5
 replace sH:=sH.trans w5
 replace ehd:=w5 _ _ ehd
 replace ghd:=ghd.same w5
 replace ekp:=w5 _ _ ekp
 replace et4:=w5 _ _ et4
 refine ⟨.tuple ([(cs.length:Int),0].map .int),.tuple ([(cs.length:Int),0].map .int),.tup (SqT.of et4) (.ints [(cs.length:Int),0]),.tup (SqT.of e7) (.ints [(cs.length:Int),0]),(El _).1,(El _).1,?_⟩
 rw [show PyData.eqv (.tuple ([(cs.length:Int),0].map .int)) (.tuple ([(cs.length:Int),0].map .int))=true from by show PyData.eqvAll _ _=true;rw [Dj];exact decide_eq_true rfl]
 and_intros
 refine ⟨b,L,n,as3,cs2++[x],G0,p2,rfl,ib,bn3.like d2,n12,by omega,by omega,fun E6 u6=>?_⟩
 replace bn:=bn.same u6
 replace bn3:=bn3.same u6
 replace ib:=ib.same u6
 replace sH:=sH.trans u6
 replace ehd:=u6 _ _ ehd
 replace ghd:=ghd.same u6
 replace ekp:=u6 _ _ ekp
 obtain ⟨w,ew,sw⟩:=key2
 have ew3:(cs2++[x])[k]?=some w:=by rw [List.getElem?_append_left (by omega)];exact ew
 have wm:=mem_of_getElem? ew3
 have atw:atI ((cs2++[x]).map fun x=>V.ref x.1) (k:Int)=some (.ref w.1):=BE (by rw [List.getElem?_map,ew3];rfl)
 have okw:=bn3.ok w wm
 and_intros
 refine ⟨G0,_,_,_,rfl,rfl,SqL.of bn3.lst,atw,?_⟩
 and_intros
 refine ⟨w.1,x.1,w.2,x.2,p2,rfl,(bn3.lies w wm).1,(bn3.lies w wm).2,(fun q m=>(okw q m).1),(fun q m=>(okw q m).2.1),(bn.lies x xm).1,(bn.lies x xm).2,(fun q m=>(okx2 q m).1),by omega,fun v3 E7 u7 due3=>?_⟩
 replace bn:=bn.same u7
 replace bn3:=bn3.same u7
 replace ib:=ib.same u7
 replace sH:=sH.trans u7
 replace ehd:=u7 _ _ ehd
 replace ghd:=ghd.same u7
 replace ekp:=u7 _ _ ekp
 obtain ⟨y4,ey4,e4⟩:=F8 d2 ew3
 and_intros
 refine ⟨b,L,n,as3,k,y4,p2,x.1,x.2,v3,rfl,ib,ey4,(by rw [e4];exact okw),by omega,(bn.lies x xm).1,(bn.lies x xm).2,okx2,by omega,bn.nes x xm,(by rw [e4];exact sw),(by rw [e4];exact due3),fun z3 E8 hz3 o8 eL8 ez8=>?_⟩
 have iL:=ib.lst
 replace ib:=ib.put o8 hz3 eL8 ez8 ((bn.lies x xm).2.off o8 iL)
 replace d2:=LZ (k:=k) (a:=(z3,x.2)) (b:=x) d2 rfl
 replace sH:=EX sH hLH o8
 replace bn:=bn.keep o8 iL
 replace bn3:=bn3.keep o8 iL
 replace ehd:=o8 _ _ (Bu ehd hdL)
 replace ghd:=ghd.off o8 iL
 replace ekp:=o8 _ _ (Bu ekp kpL)
 clear iL o8 eL8 ez8 hz3 ey4 e4 due3
 and_intros
 refine ⟨.list ((Ao ms).map ld),.list ((Ao ms).map ld),.lst (SqL.of ehd) (Dr ghd),.lst (SqL.of ekp) (Dr ghd),CG _,CG _,?_⟩
 rw [show PyData.eqv (.list ((Ao ms).map ld)) (.list ((Ao ms).map ld))=true from M6 _]
 have kl3:k < (cs2++[x]).length:=by omega
 and_intros
 refine ⟨G0,_,rfl,SqL.of bn3.lst,fun M1 hM1=>?_⟩
 rw [EM]
 have Ma:=Ai hM1 (.lst (((cs2++[x]).map fun x=>V.ref x.1).take k))
 have Mx:(upd E8 M1 (.lst (((cs2++[x]).map fun x=>V.ref x.1).take k))) M1=some (.lst (((cs2++[x]).map fun x=>V.ref x.1).take k)):=Ag
 generalize upd E8 M1 (.lst (((cs2++[x]).map fun x=>V.ref x.1).take k))=MA at Ma Mx ⊢
 and_intros
 refine ⟨(by show 1<=sizeLine;decide),fun M2 hM2=>?_⟩
 have Mb:=Ai hM2 (.lst [V.ref x.1])
 have My:(upd MA M2 (.lst [V.ref x.1])) M2=some (.lst [V.ref x.1]):=Ag
 generalize upd MA M2 (.lst [V.ref x.1])=MB at Mb My ⊢
 have Mt:(((cs2++[x]).map fun x=>V.ref x.1).take k).length<=(cs2++[x]).length:=by rw [length_take,length_map];omega
 refine ⟨M1,M2,_,_,rfl,rfl,Mb _ _ Mx,My,(Be (by show _+1<=900;omega)),fun M3 hM3=>?_⟩
 have Mc:=Ai hM3 (.lst (((cs2++[x]).map fun x=>V.ref x.1).take k++[V.ref x.1]))
 have Mz:(upd MB M3 (.lst (((cs2++[x]).map fun x=>V.ref x.1).take k++[V.ref x.1]))) M3=some (.lst (((cs2++[x]).map fun x=>V.ref x.1).take k++[V.ref x.1])):=Ag
 generalize upd MB M3 (.lst (((cs2++[x]).map fun x=>V.ref x.1).take k++[V.ref x.1]))=MC at Mc Mz ⊢
 have Mac:=(Ma.trans Mb).trans Mc
 and_intros
 refine ⟨G0,_,rfl,SqL.of (Mac _ _ bn3.lst),fun M4 hM4=>?_⟩
 rw [show ((k:Int)+1)=((k+1:Nat):Int) from rfl,DM (j:=k+1)]
 have Md:=Ai hM4 (.lst (((cs2++[x]).map fun x=>V.ref x.1).drop (k+1)))
 have Mw:(upd MC M4 (.lst (((cs2++[x]).map fun x=>V.ref x.1).drop (k+1)))) M4=some (.lst (((cs2++[x]).map fun x=>V.ref x.1).drop (k+1))):=Ag
 generalize upd MC M4 (.lst (((cs2++[x]).map fun x=>V.ref x.1).drop (k+1)))=MD at Md Mw ⊢
 have Mu:(((cs2++[x]).map fun x=>V.ref x.1).drop (k+1)).length<=(cs2++[x]).length:=by rw [length_drop,length_map];omega
 refine ⟨M3,M4,_,_,rfl,rfl,Md _ _ Mz,Mw,(by rw [length_append];exact Be (by show _+1+_<=900;omega)),fun M0 hM0=>?_⟩
 rw [show ((cs2++[x]).map fun x=>V.ref x.1).take k++[V.ref x.1]++((cs2++[x]).map fun x=>V.ref x.1).drop (k+1)=((cs2++[x]).set k x).map (fun x=>V.ref x.1) from Jo (f:=fun x:Addr × Ls=>V.ref x.1) (a:=x) kl3]
 have Me:=Ai hM0 (.lst (((cs2++[x]).set k x).map fun x=>V.ref x.1))
 have Mn:(upd MD M0 (.lst (((cs2++[x]).set k x).map fun x=>V.ref x.1))) M0=some (.lst (((cs2++[x]).set k x).map fun x=>V.ref x.1)):=Ag
 generalize upd MD M0 (.lst (((cs2++[x]).set k x).map fun x=>V.ref x.1))=ME at Me Mn ⊢
 have Ms:=(Mac.trans Md).trans Me
 have ML:M0≠L:=fun z=>by rw [z,(Mac.trans Md) _ _ ib.lst] at hM0;cases hM0
 clear Ma Mb Mc Md Me Mx My Mz Mw Mac hM1 hM2 hM3 hM4 Mt Mu hM0
 have bn4:=(bn3.same Ms).put (f:=x.1) (fs:=x.2) Mn ML (Ms _ _ (bn.lies x xm).1) ((bn.lies x xm).2.same Ms) okx2 (by omega) (bn.nes x xm)
 have ln4:((cs2++[x]).set k x).length<=8:=by rw [length_set];omega
 and_intros
 refine ⟨b,L,n,_,(cs2++[x]).set k x,M0,p2,rfl,ib.same Ms,bn4.like d2,n12,by omega,ln4,fun E9 u9=>q _⟩
end
theorem by_len1 {α:Type} {P:List α->Prop} (h:∀x0,P [x0]):∀us:List α,us.length=1->P us
 | [_],_=>h _
theorem by_len2 {α:Type} {P:List α->Prop} (h:∀x0 x1,P [x0,x1]):∀us:List α,us.length=2->P us
 | [_,_],_=>h _ _
theorem by_len3 {α:Type} {P:List α->Prop} (h:∀x0 x1 x2,P [x0,x1,x2]):∀us:List α,us.length=3->P us
 | [_,_,_],_=>h _ _ _
theorem by_len4 {α:Type} {P:List α->Prop} (h:∀x0 x1 x2 x3,P [x0,x1,x2,x3]):∀us:List α,us.length=4->P us
 | [_,_,_,_],_=>h _ _ _ _
theorem by_len6 {α:Type} {P:List α->Prop} (h:∀x0 x1 x2 x3 x4 x5,P [x0,x1,x2,x3,x4,x5]):∀us:List α,us.length=6->P us
 | [_,_,_,_,_,_],_=>h _ _ _ _ _ _
theorem icls_mk {K:PySem.W.Frag} {C P f:Addr} {nm qn N bs sn sub ab col dd k0 k1 k2 k3 k5} (io:K.lookup C=some (excClassObj nm qn C N bs (.ref P :: Fp) true sn sub ab col dd k0 k1 k2 k3 k5 "ValueError.__new__")) (nk:PySem.W.nsOkIn K N=true) (ni:PySem.W.nsIn K N "__init__"=some (some (.ref f))) (xq:LC K P) (ft:PySem.W.typeIn K (.ref f)=some (.type "function")) (sa:PySem.W.findIn K (.ref C) "__setattr__"=some (some (.builtin "object.__setattr__"))):Je K C P f:=⟨⟨nm,qn,N,bs,sn,sub,ab,col,dd,k0,k1,k2,k3,k5,io,nk,ni⟩,xq,ft,sa⟩
theorem all_mk {l:PySem.W.OpenLaw} {w:World} {K:PySem.W.Frag} {h:Heap} {mg:Str->Option Value} {fa:Addr} {ad:Ads} (X:K.In h) (hfa:mg "law"=some (.ref fa)) (T:Tx K mg ad) (hb:∀(s:Shared) (v:Value),BindsTo s ad.d_law ⟨[v],[]⟩ [("_law_script",v)]) :
 ∃fd:FuncData,(∀(s:Shared) (v:Value),BindsTo s fd ⟨[v],[]⟩ [("_law_script",v)])/\∀base:Heap,K.In base->base.Ns mainGlobals mg->Bd l.prog w K mg base CX0 8 fa fd ["_law_script"] (MK K):=by
 have e:=hfa.symm.trans T.m_law
 cases e
 exact ⟨_,hb,fun base _ _=>R0 T⟩
theorem walk {l:PySem.W.OpenLaw} {q:Program} {loose:List Str} {XP:(Str->Option Value)->Heap->Prop} {YP:World->Heap->Prop} {d:DefRec} {K:Params->PySem.W.Frag} (hn:l.most=some 63) (hdf:d.params.defaults=[])
 (hY:∀(w:World) (h:Heap),YP w h->(K w.params).In h)
 (F:∀(w:World) (mg:Str->Option Value) (fa:Addr) (h:Heap),(K w.params).In h->h.Ns mainGlobals mg->mg d.name=some (.ref fa) ->
  ∃fd:FuncData,(∀(s:Shared) (u:Value),BindsTo s fd ⟨[u],[]⟩ [("_law_script",u)])/\∀base:Heap,(K w.params).In base->base.Ns mainGlobals mg->Bd l.prog w (K w.params) mg base CX0 8 fa fd ["_law_script"] (MK (K w.params))) :
 PySem.W.WalkO q loose XP YP l.row.toRowW d [] (fun f vs=>PySem.call f vs) :=
 L2.walk_of (n:=63) (k:=8) (x:="_law_script") (CX:=fun _=>CX0) (sp:=fun w=>MK (K w.params)) hn (by decide) hdf ⟨rfl,by decide,by decide⟩ hY F (fun _ _ a ns hl _ hS=>⟨a,ns,rfl,hS,hl,fun _=>rfl⟩) fun _ _ _ _ _ z=>z
end Law
open PySem PySem.W PyProof.Rows
set_option maxRecDepth 100000 in
set_option maxHeartbeats 0 in
theorem PySem.Challenge.cw_pollproof_k36_recounts_holds : PySem.Challenge.rw_pollproof_k36_recounts.Holds := by
 refine Head.top ?_
 k_fill
 refine Law.walk (l:=PySem.Challenge.rw_pollproof_k36_recounts) rfl rfl (fun w h Y=>PySem.W.kIn_of Y) ?F
 case F =>
  intro w mg fa h KX G hmg
  refine' Law.all_mk (ad:=Law.Ads.mk ..) KX hmg ?T ?hb
  case T =>
   apply Law.Tx.mk
   all_goals try dsimp only
   all_goals first
    | (refine mg_of KX G ?_;k_is)
    | (refine mg_none_of KX G ?_;k_is)
    | k_is
    | (show _=_;first | k_is | k_exc)
    | (apply L2.fun_mk <;> k_is)
    | exact .all (Law.by_len1 fun _=>rfl)
    | exact .all (Law.by_len2 fun _ _=>rfl)
    | exact .all (Law.by_len3 fun _ _ _=>rfl)
    | exact .all (Law.by_len4 fun _ _ _ _=>rfl)
    | exact .all (Law.by_len6 fun _ _ _ _ _ _=>rfl)
    | (constructor <;> k_is)
    | (refine ⟨⟨?_,?_,?_⟩,?_,?_,?_,?_⟩ <;> k_is)
    | (apply Law.icls_mk <;> first | k_is | (show _=_;k_exc) | kernel_rfl)
  case hb=>exact fun s v=>.of_eq rfl
#print axioms PySem.Challenge.cw_pollproof_k36_recounts_holds
