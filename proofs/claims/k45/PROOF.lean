import PyProof.Rows.All
import Wide.All
import OpenK.AllK
import Wide.FinOn
import Lean
import PyProof.EqAt
import PyProof.EqKinds
import PyProof.TupleCall
import PySem.Challenge.RW_pollproof_k45_rounds_follow
open List
set_option Elab.async false
set_option linter.all false
set_option compiler.extract_closed false
set_option maxRecDepth 100000
namespace Head
open PySem PySem.W PyProof.Rows
def QN (p:Program) (w:World) (n0:Nat) (ann:Option Value):Nat->SharedT->Thread->Option SharedT
 | 0,_,_=>none
 | n+1,s,t=>match through t with
   | true=>some s
   | false=>match stepOk n0 ann t with
     | false=>none
     | true=>match stepT (denote treeTable) p w s t with
       | some (s',t')=>QN p w n0 ann n s' t'
       | none=>none
theorem M9 {p:Program} {w:World} {n0:Nat} {ann:Option Value}:∀{n:Nat} {s s':SharedT} {t:Thread},QN p w n0 ann n s t=some s'->topRun treeTable p w n0 ann n s.abs t=some s'.abs
 | 0,_,_,_,h=>by cases h
 | n+1,s,s',t,h=>by
   unfold QN at h
   unfold topRun
   cases he:through t with
   | true=>rw [he] at h;cases h;rfl
   | false =>
     rw [he] at h
     cases hk:stepOk n0 ann t with
     | false=>rw [hk] at h;cases h
     | true =>
       rw [hk] at h
       cases hs:stepT (denote treeTable) p w s t with
       | none=>rw [hs] at h;cases h
       | some r=>obtain ⟨s2,t2⟩:=r;rw [hs] at h;rw [stepT_spec hs];exact M9 h
def NQ:List Obj->Nat->BT->Option BT
 | [],_,t=>some t
 | o :: os,n,t=>match ((t.ins n o).get n).isSome with
   | true=>NQ os (n+1) (t.ins n o)
   | false=>none
theorem Mq {life:Life}:∀{os:List Obj} {n:Nat} {t t':BT} {xs:List Obj},(absHeap t n life)=⟨xs.toArray,life⟩->NQ os n t=some t'->absHeap t' (n+os.length) life=⟨(xs++os).toArray,life⟩
 | [],n,t,t',xs,a,h=>by
   cases h
   rw [append_nil]
   exact a
 | o :: os,n,t,t',xs,a,h=>by
   unfold NQ at h
   cases g:((t.ins n o).get n).isSome with
   | false=>rw [g] at h;cases h
   | true =>
     rw [g] at h
     have b:absHeap (t.ins n o) (n+1) life=⟨(xs++[o]).toArray,life⟩:=by
      rw [absHeap_ins g,a]
      show (⟨xs.toArray.push o,life⟩:Heap)=_
      rw [push_toArray]
     have c:=Mq b h
     rw [append_assoc] at c
     rw [length_cons,show n+(os.length+1)=n+1+os.length by omega]
     exact c
theorem P2 {H:Heap} {T:BT} (h:NQ H.objs.toList 0 .nil=some T):absHeap T H.objs.size H.life=H:=by
 have c:=Mq (life:=H.life) (n:=0) (t:=.nil) (xs:=[]) rfl h
 rw [Nat.zero_add,Array.length_toList] at c
 rw [c]
 obtain ⟨a,l⟩:=H
 show (⟨([]++a.toList).toArray,l⟩:Heap)=⟨a,l⟩
 rw [nil_append,Array.toArray_toList]
theorem left {p q:Program} {loose:List PySem.Str} {Xt:Shared->Bool} {α:Type} {Yf:Shared->α} {Ya:World->α} {N:Nat} {g0:Bool}
 (e:opening p=plainProg p.main.scope.names) (hN:Nat.ble 600 N=true) (f:∀s,fenceModules? p s=some s)
 (h:∀(w:World) (os:OsState),((NQ (boot_heap w.params).objs.toList 0 .nil).bind fun T=>(QN p w (boot_heap w.params).objs.size ((boot_heap w.params).nsMap mainGlobals "__annotations__") N ⟨T,(boot_heap w.params).objs.size,(boot_heap w.params).life,Array.mk [],boot_drawn,boot_toks,os⟩ (topStub p)).map fun s =>
  (((boot_heap w.params).isNs mainGlobals,staticsOk (importedModules p.main.body) (boot_heap w.params) s.abs.heap && namesBound p s.abs.heap && gensDone s.abs && laidKept (boot_heap w.params) s.abs.heap),openSeen q loose (importedModules p.main.body) Xt g0 s.abs,Yf s.abs)) =
  some ((true,true),openGood q loose,Ya w)):LeftO p q loose Xt Yf Ya N g0:=fun w=>by
 obtain ⟨⟨hp,gs,d,k,os⟩,e1,e2⟩:=Option.map_eq_some_iff.mp (boot_open e hN f w)
 obtain ⟨rfl,rfl,rfl,rfl⟩:hp=boot_heap w.params/\gs=Array.mk []/\d=boot_drawn/\k=boot_toks:=by simpa using e2
 have z:=h w os
 cases gT:NQ (boot_heap w.params).objs.toList 0 .nil with
 | none=>rw [gT] at z;cases z
 | some T =>
   rw [gT] at z
   obtain ⟨s,r,y⟩:=Option.map_eq_some_iff.mp z
   have r':=M9 r
   injection y with y1 y2
   injection y1 with y3 y4
   injection y2 with y5 y6
   have a:(⟨T,(boot_heap w.params).objs.size,(boot_heap w.params).life,Array.mk [],boot_drawn,boot_toks,os⟩:SharedT).abs=⟨boot_heap w.params,Array.mk [],boot_drawn,boot_toks,os⟩:=by
    unfold SharedT.abs
    rw [P2 gT]
   rw [a] at r'
   unfold openEnds
   rw [e1]
   show (topFrom treeTable p w N _).map _=_
   have t:topFrom treeTable p w N ⟨boot_heap w.params,Array.mk [],boot_drawn,boot_toks,os⟩=some s.abs:=by
    unfold topFrom
    dsimp only
    rw [y3,r']
    show (match staticsOk (importedModules p.main.body) (boot_heap w.params) s.abs.heap && namesBound p s.abs.heap && gensDone s.abs && laidKept (boot_heap w.params) s.abs.heap with | true=>_ | false=>_)=_
    rw [y4]
   rw [t]
   exact congrArg some (Prod.ext y5 y6)
end Head
namespace Head
open PySem PySem.W PyProof.Rows
abbrev q0:Program:=view PySem.Challenge.pw_pollproof_k45_rounds_follow [69]
abbrev r0:OpenRow:=OpenLaw.row PySem.Challenge.rw_pollproof_k45_rounds_follow
local macro_rules | `(tactic| o_head $H)=>do
 let (hl,hw,hc):=(Lean.mkIdent `hl,Lean.mkIdent `hw,Lean.mkIdent `hc)
 `(tactic| (
   refine holds_open (r:=r0) (q:=q0) (loose:=[PySem.Str.ofString "_wall",PySem.Str.ofString "PollError",PySem.Str.ofString "NoNumber",PySem.Str.ofString "NoWay",PySem.Str.ofString "all_of",PySem.Str.ofString "holds",PySem.Str.ofString "without",PySem.Str.ofString "size",PySem.Str.ofString "members",PySem.Str.ofString "is_whole",PySem.Str.ofString "divisor",PySem.Str.ofString "lies",PySem.Str.ofString "fraction",PySem.Str.ofString "minus",PySem.Str.ofString "times",PySem.Str.ofString "parted",PySem.Str.ofString "under",PySem.Str.ofString "begin",PySem.Str.ofString "even_part",PySem.Str.ofString "table_row",PySem.Str.ofString "table",PySem.Str.ofString "common_bottom",PySem.Str.ofString "weighed",PySem.Str.ofString "tallies",PySem.Str.ofString "share_at",PySem.Str.ofString "part_kept",PySem.Str.ofString "with_kept",PySem.Str.ofString "kept_by",PySem.Str.ofString "state_behind",PySem.Str.ofString "ballots_in",PySem.Str.ofString "MOST_HANDS",PySem.Str.ofString "MOST_SEATS",PySem.Str.ofString "are_hands",PySem.Str.ofString "are_seats",PySem.Str.ofString "are_lots",PySem.Str.ofString "Way",PySem.Str.ofString "MOST_PLACES",PySem.Str.ofString "Seats",PySem.Str.ofString "_law_cell",PySem.Str.ofString "_law_mixed",PySem.Str.ofString "_law_lots",PySem.Str.ofString "_law_mask",PySem.Str.ofString "_law_slip",PySem.Str.ofString "_law_number",PySem.Str.ofString "_law_sheet",PySem.Str.ofString "_law_whole",PySem.Str.ofString "_law_divisor",PySem.Str.ofString "_law_is_fraction",PySem.Str.ofString "_law_added",PySem.Str.ofString "_law_worth",PySem.Str.ofString "_law_where",PySem.Str.ofString "_law_many",PySem.Str.ofString "_law_row_due",PySem.Str.ofString "_law_behind",PySem.Str.ofString "_law_rows_right",PySem.Str.ofString "_law_sums_right",PySem.Str.ofString "_law_due",PySem.Str.ofString "_law_kinds",PySem.Str.ofString "_law_walked"]) (N:=100000)
    (Xt:=fun s=>xlAt q0 [] s && recOk (RowW.records (OpenRow.toRowW r0)) s)
    (XP:=XL q0 []) (Yf:=Hook.obs $H) (Ya:=Hook.val $H) (YP:=Hook.says $H)
    ?$hl (Hook.of $H) (Hook.keeps $H) (fun s e=>xl_of s (Bool.and_eq_true_iff.mp e).1) XL.keeps
    (by rfl) (by rfl) (by rfl) (fun s e=>recFacts_of (Bool.and_eq_true_iff.mp e).2) (by rfl) (by assumption)
    (by decide +kernel) ⟨rfl,rfl,rfl,rfl,rfl,by decide +kernel⟩ ?$hw ?$hc;
   (next=>(exact left (by kernel_rfl) (by decide) (fun s=>by kernel_rfl) (fun w os=>by kernel_rfl)))))
set_option maxRecDepth 100000 in
set_option maxHeartbeats 0 in
open_top top for PySem.Challenge.rw_pollproof_k45_rounds_follow
end Head
namespace L2
open PySem PySem.Spec PyProof.Rows
abbrev Key:=Sum Int Str
def Gm:Key->Value->Bool
 | .inl k,v=>Value.isInt k v
 | .inr x,v=>Value.isStrOf x v
def TD (w:World):Key->Int
 | .inl k=>hashInt k
 | .inr x=>hashStr w x
theorem AX:∀{k:Key} {v:Value},Gm k v=true->(∃i t,k=Sum.inl i/\v=Value.int i t)\/(∃x t,k=Sum.inr x/\v=Value.str x t)
 | .inl i,v,h=>by
   obtain ⟨t,e⟩:=Value.isInt_shape (k:=i) (v:=v) h
   exact .inl ⟨i,t,rfl,e⟩
 | .inr x,v,h=>by
   obtain ⟨t,e⟩:=Value.isStrOf_shape (x:=x) (v:=v) h
   exact .inr ⟨x,t,rfl,e⟩
theorem No (i:Int) (t:Tok):Gm (.inl i) (.int i t)=true:=by simp [Gm,Value.isInt]
theorem N2 (x:Str) (t:Tok):Gm (.inr x) (.str x t)=true:=by simp [Gm,Value.isStrOf]
theorem S9 (a b:Int):decide ((Sum.inl a:Key)=Sum.inl b)=(a == b):=by
 by_cases e:a=b
 ·subst e;simp
 ·have h:¬ (Sum.inl a:Key)=Sum.inl b:=fun q=>e (Sum.inl.inj q)
  rw [decide_eq_false h]
  exact (beq_eq_false_iff_ne.mpr e).symm
theorem RH (a b:Str):decide ((Sum.inr a:Key)=Sum.inr b)=decide (a=b):=by
 by_cases e:a=b
 ·subst e;simp
 ·have h:¬ (Sum.inr a:Key)=Sum.inr b:=fun q=>e (Sum.inr.inj q)
  rw [decide_eq_false h,decide_eq_false e]
theorem Sg (a:Int) (b:Str):decide ((Sum.inl a:Key)=Sum.inr b)=false:=decide_eq_false (fun q=>nomatch q)
theorem RA (a:Str) (b:Int):decide ((Sum.inr a:Key)=Sum.inl b)=false:=decide_eq_false (fun q=>nomatch q)
def AF (prog:Program) (w:World):PySem.KeyKind prog w Key where
 is:=Gm
 hash:=TD w
 inj:=fun v a b ha hb=>by
  rcases AX ha with ⟨i,t,rfl,rfl⟩ | ⟨x,t,rfl,rfl⟩
  ·rcases AX hb with ⟨j,u,rfl,e⟩ | ⟨y,u,rfl,e⟩
   ·injection e with e1 _;rw [e1]
   ·exact nomatch e
  ·rcases AX hb with ⟨j,u,rfl,e⟩ | ⟨y,u,rfl,e⟩
   ·exact nomatch e
   ·injection e with e1 _;rw [e1]
 byValue:=fun k v h=>by
  rcases AX h with ⟨i,t,rfl,rfl⟩ | ⟨x,t,rfl,rfl⟩ <;> rfl
 pyHash:=fun hv h=>by
  rcases AX hv with ⟨i,t,rfl,rfl⟩ | ⟨x,t,rfl,rfl⟩
  ·exact wpAny_pyHash_int h
  ·exact wpAny_pyHash_str h
 eqBool:=fun hu hv h=>by
  rcases AX hu with ⟨i,t,rfl,rfl⟩ | ⟨x,t,rfl,rfl⟩
  ·rcases AX hv with ⟨j,u,rfl,rfl⟩ | ⟨y,u,rfl,rfl⟩
   ·rw [S9] at h;exact wpAny_eqBool_int h
   ·rw [Sg] at h;exact SeqAt.EqAt.int_str i t y u _ _ _ _ h
  ·rcases AX hv with ⟨j,u,rfl,rfl⟩ | ⟨y,u,rfl,rfl⟩
   ·rw [RA] at h;exact SeqAt.EqAt.str_int x t j u _ _ _ _ h
   ·rw [RH] at h;exact wpAny_eqBool_str h
 «strs»:=fun k x t v h=>by
  rcases AX h with ⟨i,u,rfl,e⟩ | ⟨y,u,rfl,e⟩
  ·exact nomatch e
  ·injection e with e1 _
   subst e1
   cases v <;> rfl
theorem Lc (prog:Program) (w:World) (i:Int) (t:Tok):(AF prog w).is (.inl i) (.int i t)=true:=No i t
theorem Kg (prog:Program) (w:World) (x:Str) (t:Tok):(AF prog w).is (.inr x) (.str x t)=true:=N2 x t
end L2
namespace L2
open PySem PySem.Spec PyProof.Rows
inductive V where
 | non | bl (b:Bool) | int (i:Int) | str (x:Str) | byt (b:Array UInt8) | flt (b:UInt64) | ref (a:Addr) | ty (n:String)
 deriving DecidableEq
def A9:V->Value->Prop
 | .non,u=>u=Value.none
 | .bl b,u=>u=Value.bool b
 | .int i,u=>∃t,u=Value.int i t
 | .str x,u=>∃t,u=Value.str x t
 | .byt b,u=>∃t,u=Value.bytes b t
 | .flt b,u=>∃t,u=Value.float b t
 | .ref a,u=>u=Value.ref a
 | .ty n,u=>u=Value.type n
abbrev A5:List V->List Value->Prop:=Paired A9
theorem A5.length {xs:List V} {us:List Value} (r:A5 xs us):xs.length=us.length:=Paired.length r
theorem A5.get:∀{xs:List V} {us:List Value} {i:Nat} {x:V},A5 xs us->xs[i]?=some x->∃u,us[i]?=some u/\A9 x u
 | _,_,_,_,.nil,e=>by simp at e
 | _,_,0,_,.cons r _,e=>by simp at e;subst e;exact ⟨_,rfl,r⟩
 | _,_,i+1,x,.cons _ t,e=>by
   obtain ⟨u,h1,h2⟩:=A5.get (i:=i) (x:=x) t (by simpa using e)
   exact ⟨u,by simpa using h1,h2⟩
theorem A5.set {x:V} {u:Value} (r:A9 x u):∀{xs:List V} {us:List Value} (i:Nat),A5 xs us->A5 (xs.set i x) (us.set i u)
 | _,_,_,.nil=>.nil
 | _,_,0,.cons _ t=>.cons r t
 | _,_,i+1,.cons q t=>.cons q (A5.set r i t)
theorem A5.append:∀{xs ys:List V} {us ws:List Value},A5 xs us->A5 ys ws->A5 (xs++ys) (us++ws)
 | _,_,_,_,.nil,s=>s
 | _,_,_,_,.cons r t,s=>.cons r (A5.append t s)
theorem A5.take:∀{xs:List V} {us:List Value} (n:Nat),A5 xs us->A5 (xs.take n) (us.take n)
 | _,_,0,_=>.nil
 | _,_,_+1,.nil=>.nil
 | _,_,n+1,.cons r t=>.cons r (A5.take n t)
theorem A5.drop:∀{xs:List V} {us:List Value} (n:Nat),A5 xs us->A5 (xs.drop n) (us.drop n)
 | _,_,0,r=>r
 | _,_,_+1,.nil=>.nil
 | _,_,n+1,.cons _ t=>A5.drop n t
def Dt:Option V->Option Value->Prop
 | some v,some u=>A9 v u
 | none,none=>True
 | _,_=>False
noncomputable def KV {κ:Type}:List (κ × V)->List (κ × Value)->Prop:=Paired fun (p:κ × V) (q:κ × Value)=>p.1=q.1/\A9 p.2 q.2
def kV:Key->V
 | .inl i=>.int i
 | .inr x=>.str x
inductive HO where
 | lst (xs:List V)
 | tup (xs:List V)
 | dK (kvs:List (Key × V)) | dT (kvs:List (List Key × V))
 | set (S:Int->Bool) (n:Nat)
 | ins (C dx:Addr) (fs:List (Str × V))
 | own (x:Addr)
 | xd (fs:List (Str × V))
 | met (f x:Addr)
 | rng (lo hi:Int)
 | frz (o:Obj) (u:HO)
 | tbl (ps:Array Value)
 | ext (φ:Heap->Prop)
abbrev Hp:=Addr->Option HO
noncomputable def upd (H:Hp) (a:Addr) (o:HO):Hp:=fun b=>if b=a then some o else H b
theorem Ab {H:Hp} {a:Addr} {o:HO}:upd H a o a=some o:=by unfold upd;rw [if_pos rfl]
theorem Ap {H:Hp} {a b:Addr} {o:HO} (h:b≠a):upd H a o b=H b:=by unfold upd;rw [if_neg h]
theorem CZ {H:Hp} {a:Addr} {o u:HO}:upd (upd H a o) a u=upd H a u:=by
 funext b;unfold upd;split <;> rfl
theorem BV {H:Hp} {a b:Addr} {o u:HO} (h:H a=some o) (h':H b=some u) (d:o≠u):a≠b:=by
 intro e;subst e;rw [h] at h';exact d (Option.some.inj h')
theorem AV {H:Hp} {a b:Addr} {o:HO} (h:H a=some o) (h':H b=none):a≠b:=by
 intro e;subst e;rw [h] at h';cases h'
section
variable (P:Program) (w:World)
def AJ (H:Hp) (h:Heap) (a:Addr):HO->Prop
 | .lst xs=>xs.length<=sizeLine/\∃(its:List Value) (n:Nat),A5 xs its/\h.get? a=some { cls:=.type "list",data:=.seq its.toArray n }
 | .tup xs=>xs.length<=sizeLine/\∃its:List Value,A5 xs its/\IsTup h a its.toArray
 | .dK kvs=>kvs.length<=sizeLine/\(a == sysModules)=false/\∃vs,KV kvs vs/\h.DictOf (AF P w) a vs
 | .dT kvs=>kvs.length<=sizeLine/\(a == sysModules)=false/\∃xs:List (List Key × Addr × Value),
  Paired (fun (p:List Key × V) (q:List Key × Addr × Value)=>p.1=q.1/\H q.2.1=some (.tup (p.1.map kV))/\A9 p.2 q.2.2) kvs xs /\
  ∃o es ep,h.get? a=some o/\o.ExactDict/\o.data=.dict es ep/\es.toList=xs.map (entryOfKey (tupleKind (AF P w)))/\(xs.map (·.1)).Nodup
 | .set S n=>h.SetOf (intKind P w) a S n
 | .ins C dx fs=>H dx=some (.own a)/\fs.length<=1000/\dx≠a/\h.get? a=some (PySem.W.instObj C dx) /\
  ∃mA,h.Ns1 dx mA/\(∀f,Dt (fs.lookup f) (mA f))/\PySem.Within mA (fs.map (·.1))
 | .own _=>∃o,h.get? a=some o
 | .xd fs=>∃mA,h.Ns1 a mA/\∀f,Dt (fs.lookup f) (mA f)
 | .rng lo hi=>∃t u v,h.get? a=some { cls:=.type "range",data:=.fields #[.int lo t,.int hi u,.int 1 v] }
 | .frz o u=>h.get? a=some o/\AJ H h a u
 | .tbl ps=>h.get? a=some { cls:=.none,data:=.fields ps }
 | .met f x=>h.get? a=some (PySem.W.methodObj (.ref f) (.ref x))
 | .ext φ=>φ h/\(∃o,h.get? a=some o)/\∀h1 h2:Heap,φ h1->(∀o,h1.get? a=some o->h2.get? a=some o)->φ h2
def HOk (H:Hp) (h:Heap):Prop:=∀a o,H a=some o->AJ P w H h a o
end
section
variable {P:Program} {w:World} {H H':Hp} {h h':Heap} {a:Addr} {o:HO}
theorem AJ.lt (x:AJ P w H h a o):a < h.objs.size:=by
 cases o with
 | lst xs=>obtain ⟨_,_,_,_,e⟩:=x;exact Heap.lt_size e
 | tup xs=>obtain ⟨_,_,_,p⟩:=x;exact p.lt
 | dK kvs=>obtain ⟨_,_,_,_,o,_,_,e,_⟩:=x;exact Heap.lt_size e
 | dT kvs=>obtain ⟨_,_,_,_,o,_,_,e,_⟩:=x;exact Heap.lt_size e
 | set S n=>obtain ⟨o,_,_,_,e,_⟩:=x;exact Heap.lt_size e
 | ins C dx fs=>obtain ⟨_,_,_,e,_⟩:=x;exact Heap.lt_size e
 | own y=>obtain ⟨_,e⟩:=x;exact Heap.lt_size e
 | xd fs=>obtain ⟨_,⟨_,_,_,e,_⟩,_⟩:=x;exact Heap.lt_size e
 | rng lo hi=>obtain ⟨_,_,_,e⟩:=x;exact Heap.lt_size e
 | frz ob u=>obtain ⟨e,_⟩:=x;exact Heap.lt_size e
 | tbl ps=>exact Heap.lt_size (show h.get? a=some _ from x)
 | met f y=>exact Heap.lt_size (show h.get? a=some _ from x)
 | ext φ=>obtain ⟨_,⟨_,e⟩,_⟩:=x;exact Heap.lt_size e
theorem Paired.mapP {α β:Type} {F G:α->β->Prop}:∀{l₁:List α} {l₂:List β},Paired F l₁ l₂->(∀a b,F a b->G a b)->Paired G l₁ l₂
 | _,_,.nil,_=>.nil
 | _,_,.cons r t,f=>.cons (f _ _ r) (Paired.mapP t f)
theorem AJ.stay (x:AJ P w H h a o) (k:∀b u,(b=a\/H b=some (.own a))->h.get? b=some u->h'.get? b=some u)
 (ho:∀b,H b=some (.own a)->H' b=some (.own a)) (ht:∀b xs,H b=some (.tup xs)->H' b=some (.tup xs)):AJ P w H' h' a o:=by
 induction o with
 | lst xs=>obtain ⟨z,its,n,r,e⟩:=x;exact ⟨z,its,n,r,k _ _ (.inl rfl) e⟩
 | tup xs=>obtain ⟨z,its,r,ob,e,c⟩:=x;exact ⟨z,its,r,ob,k _ _ (.inl rfl) e,c⟩
 | dK kvs=>obtain ⟨z,y,vs,r,ob,es,ep,e,c⟩:=x;exact ⟨z,y,vs,r,ob,es,ep,k _ _ (.inl rfl) e,c⟩
 | dT kvs =>
   obtain ⟨z,y,xs,r,ob,es,ep,e,c⟩:=x
   exact ⟨z,y,xs,Paired.mapP r fun p q z=>⟨z.1,ht _ _ z.2.1,z.2.2⟩,ob,es,ep,k _ _ (.inl rfl) e,c⟩
 | set S n=>obtain ⟨ob,es,ep,t,e,c⟩:=x;exact ⟨ob,es,ep,t,k _ _ (.inl rfl) e,c⟩
 | ins C dx fs =>
   obtain ⟨d,z,ne,e,mA,⟨od,es,ep,e2,c⟩,r⟩:=x
   exact ⟨ho _ d,z,ne,k _ _ (.inl rfl) e,mA,⟨od,es,ep,k _ _ (.inr d) e2,c⟩,r⟩
 | own y=>obtain ⟨ob,e⟩:=x;exact ⟨ob,k _ _ (.inl rfl) e⟩
 | xd fs=>obtain ⟨mA,⟨od,es,ep,e,c⟩,r⟩:=x;exact ⟨mA,⟨od,es,ep,k _ _ (.inl rfl) e,c⟩,r⟩
 | rng lo hi=>obtain ⟨t,u,v,e⟩:=x;exact ⟨t,u,v,k _ _ (.inl rfl) e⟩
 | frz ob u ih=>obtain ⟨e,q⟩:=x;exact ⟨k _ _ (.inl rfl) e,ih q⟩
 | tbl ps =>
   have e:h.get? a=some { cls:=.none,data:=.fields ps }:=x
   show h'.get? a=some { cls:=.none,data:=.fields ps }
   exact k a _ (.inl rfl) e
 | met f y =>
   have e:h.get? a=some (PySem.W.methodObj (.ref f) (.ref y)):=x
   show h'.get? a=some (PySem.W.methodObj (.ref f) (.ref y))
   exact k a _ (.inl rfl) e
 | ext φ=>obtain ⟨p,⟨o,e⟩,st⟩:=x;exact ⟨st _ _ p fun o q=>k _ _ (.inl rfl) q,⟨o,k _ _ (.inl rfl) e⟩,st⟩
theorem HOk.lt (x:HOk P w H h) (e:H a=some o):a < h.objs.size:=(x a o e).lt
theorem HOk.fresh (x:HOk P w H h) (e:h.objs.size<=a):H a=none:=by
 cases q:H a with
 | none=>rfl
 | some u=>exact absurd (Nat.lt_of_lt_of_le (x.lt q) e) (Nat.lt_irrefl _)
theorem HOk.kept (x:HOk P w H h) (k:∀b u,h.get? b=some u->h'.get? b=some u):HOk P w H h':=fun a o e =>
 (x a o e).stay (fun b u _ q=>k b u q) (fun _ q=>q) fun _ _ q=>q
theorem HOk.laid (x:HOk P w H h) (k:∀b u,h.get? b=some u->h'.get? b=some u) (hp:h.objs.size<=a) (new:AJ P w (upd H a o) h' a o):HOk P w (upd H a o) h':=fun b u e=>by
 have hn:=x.fresh hp
 by_cases hb:b=a
 ·subst hb;rw [Ab] at e;cases e;exact new
 ·rw [Ap hb] at e
  exact (x b u e).stay (fun c v _ q=>k c v q) (fun c q=>by rw [Ap (AV q hn)];exact q) fun c xs q=>by rw [Ap (AV q hn)];exact q
end
def Rd (H:Hp) (a:Addr) (u:HO):Prop:=H a=some u\/∃o,H a=some (.frz o u)
theorem Rd.ok {P:Program} {w:World} {H:Hp} {h:Heap} {a:Addr} {u:HO} (r:Rd H a u) (x:HOk P w H h):AJ P w H h a u:=by
 rcases r with r | ⟨o,r⟩
 ·exact x a u r
 ·obtain ⟨_,q⟩:=x a _ r
  exact q
def Mut:Option HO->Prop
 | some (.lst _)=>True
 | some (.dK _)=>True
 | some (.dT _)=>True
 | some (.set _ _)=>True
 | some (.ins _ _ _)=>True
 | some (.ext _)=>True
 | _=>False
section
variable {P:Program} {w:World} {H:Hp} {h h':Heap} {x e:Addr} {o':HO}
theorem HOk.write (ok:HOk P w H h) (mu:Mut (H x)) (he:e=x\/H e=some (.own x)) (k:∀b u,b≠e->h.get? b=some u->h'.get? b=some u) (heo:∃u,h'.get? e=some u)
 (new:AJ P w (upd H x o') h' x o'):HOk P w (upd H x o') h':=fun b u q=>by
 have nown:∀c y,H c=some (.own y)->c≠x:=fun c y r z=>by subst z;rw [r] at mu;exact mu
 have ntup:∀c xs,H c=some (.tup xs)->c≠x:=fun c xs r z=>by subst z;rw [r] at mu;exact mu
 by_cases hb:b=x
 ·subst hb;rw [Ab] at q;cases q;exact new
 ·rw [Ap hb] at q
  by_cases hbe:b=e
  ·have q':H b=some (.own x):=by
    rcases he with z | z
    ·exact absurd (hbe.trans z) hb
    ·rw [hbe];exact z
   rw [q] at q';cases q'
   obtain ⟨v,hv⟩:=heo
   exact ⟨v,by rw [hbe];exact hv⟩
  ·refine (ok b u q).stay (fun c v hc r=>k c v ?_ r) (fun c r=>by rw [Ap (nown c b r)];exact r) fun c xs r=>by rw [Ap (ntup c xs r)];exact r
   rcases hc with rfl | hc
   ·exact hbe
   ·rintro rfl
    rcases he with z | z
    ·exact nown c b hc z
    ·rw [hc] at z;cases z;exact hb rfl
end
structure Un (fs ex:List Addr) (H H':Hp) (h h':Heap):Prop where
 keep:∀b o,h.get? b=some o->H b=none->b ∉ fs->b ∉ ex->h'.get? b=some o
 slot:∀b o,h.get? b=some o->H b=none->b∈fs->b ∉ ex->∃sl,h'.get? b=some { o with slots:=sl }
 free:∀b o,h.get? b=some o->H b=none->b ∉ ex->H' b=none
 there:∀b o,h.get? b=some o->b ∉ ex->∃o',h'.get? b=some o'
 tups:∀b xs,H b=some (.tup xs)->H' b=some (.tup xs)
 frzs:∀b o u,H b=some (.frz o u)->H' b=some (.frz o u)
 tbls:∀b ps,H b=some (.tbl ps)->∃more,H' b=some (.tbl (ps++more))
section
variable {fs fs' ex ex':List Addr} {H H1 H2:Hp} {h h1 h2 h':Heap} {a x e:Addr} {o:HO}
theorem Un.any (u:Un fs ex H H1 h h1) {b:Addr} {ob:Obj} (q:h.get? b=some ob) (n:H b=none) (hx:b ∉ ex):∃sl,h1.get? b=some { ob with slots:=sl }:=by
 by_cases hb:b∈fs
 ·exact u.slot b ob q n hb hx
 ·exact ⟨ob.slots,u.keep b ob q n hb hx⟩
theorem Un.kept (k:∀b u,h.get? b=some u->h'.get? b=some u):Un fs ex H H h h' :=
 ⟨fun b ob q _ _ _=>k b ob q,fun b ob q _ _ _=>⟨ob.slots,k b ob q⟩,fun _ _ _ n _=>n,fun b ob q _=>⟨ob,k b ob q⟩,fun _ _ q=>q,fun _ _ _ q=>q,fun _ ps q=>⟨#[],by rw [q];simp⟩⟩
theorem Un.refl:Un fs ex H H h h:=Un.kept fun _ _ q=>q
theorem Un.laid (k:∀b u,h.get? b=some u->h'.get? b=some u) (hp:h.objs.size<=a) (hn:H a=none):Un fs ex H (upd H a o) h h' where
 keep:=fun b u q _ _ _=>k b u q
 slot:=fun b u q _ _ _=>⟨u.slots,k b u q⟩
 free:=fun b u q n _=>by rw [Ap (Nat.ne_of_lt (Nat.lt_of_lt_of_le (Heap.lt_size q) hp))];exact n
 there:=fun b u q _=>⟨u,k b u q⟩
 tups:=fun b xs q=>by rw [Ap (AV q hn)];exact q
 frzs:=fun b u xs q=>by rw [Ap (AV q hn)];exact q
 tbls:=fun b ps q=>⟨#[],by rw [Ap (AV q hn),q];simp⟩
theorem Un.write (mu:Mut (H x)) (he:e=x\/H e=some (.own x)) (k:∀b u,b≠e->h.get? b=some u->h'.get? b=some u) (heo:∃u,h'.get? e=some u):Un fs ex H (upd H x o) h h':=by
 have hx:∀b,H b=none->b≠x:=fun b n z=>by subst z;rw [n] at mu;exact mu
 have hb:∀b,H b=none->b≠e:=fun b n z=>by
  subst z
  rcases he with r | r
  ·exact hx b n r
  ·rw [n] at r;cases r
 have hm:∀b u,H b=some u->¬ Mut (some u)->b≠x:=fun b u q nm z=>by subst z;rw [q] at mu;exact nm mu
 refine ⟨fun b u q n _ _=>k b u (hb b n) q,fun b u q n _ _=>⟨u.slots,k b u (hb b n) q⟩,fun b u q n _=>by rw [Ap (hx b n)];exact n,fun b u q _=>?_,
  fun b xs q=>by rw [Ap (hm b _ q fun z=>z)];exact q,fun b u xs q=>by rw [Ap (hm b _ q fun z=>z)];exact q,fun b ps q=>⟨#[],by rw [Ap (hm b _ q fun z=>z),q];simp⟩⟩
 by_cases hbe:b=e
 ·subst hbe;exact heo
 ·exact ⟨u,k b u hbe q⟩
end
noncomputable def trk (h:Heap) (H:Hp):List Addr:=(List.range h.objs.size).filter fun a=>(H a).isSome
noncomputable def Jh (h:Heap) (H:Hp):Heap:=PySem.W.hideAll h (trk h H)
theorem N9 (h:Heap) (H:Hp):(Jh h H).objs.size=h.objs.size:=PySem.W.hideAll_size _ _
theorem NZ {h:Heap} {H:Hp} {b:Addr} {o:Obj} (e:h.get? b=some o) (n:H b=none):(Jh h H).get? b=some o :=
 PySem.W.hideAll_get _ e fun hm=>by
  have q:(H b).isSome=true:=(mem_filter.mp hm).2
  rw [n] at q;simp at q
theorem Qd {h:Heap} {H:Hp} {b:Addr} {o:Obj} (e:(Jh h H).get? b=some o):h.get? b=some o/\H b=none:=by
 have e':h.get? b=some o:=PySem.W.of_hideAll (trk h H) e
 refine ⟨e',?_⟩
 cases q:H b with
 | none=>rfl
 | some x =>
   have hm:b∈trk h H:=mem_filter.mpr ⟨mem_range.mpr (Heap.lt_size e'),by simp [q]⟩
   have z:(Jh h H).get? b=none:=PySem.W.hideAll_none (trk h H) hm
   rw [z] at e;cases e
end L2
namespace L2
open PySem PySem.Spec PyProof.Rows
structure Mod (K:PySem.W.Frag) (mg:Str->Option Value) (base:Heap):Prop where
 kin:K.In base
 glob:base.Ns mainGlobals mg
 blt:∃mb,base.Ns builtinsNs mb/\∀x:Str,x≠"__name__"->mb x=bootBuiltins x
 nolimit:base.NoLimit
structure Cx where
 prog:Program
 w:World
 K:PySem.W.Frag
 mg:Str->Option Value
 base:Heap
 A:Around
 N:List Str
 s₀:Shared
 H₀:Hp
 env:Env
 outer:List Env
 stack:List Env
 ex:List Addr
 fn:Str->Bool
 calm:Bool
 pn:List (Addr × Obj)
 xe:Value->Shared->Prop
def frs (l:List Env):List Addr:=l.filterMap (·.frame)
abbrev Cx.fs (X:Cx):List Addr:=frs X.outer
noncomputable def Vis (sc:Scope) (x:Str):Prop:=sc.names.lookup x=some .local\/sc.names.lookup x=some .cell\/sc.names.lookup x=some .free
noncomputable def Loc (sc:Scope) (x:Str):Prop:=sc.names.lookup x=some .local\/sc.names.lookup x=some .cell
def Ti (env:Env) (h:Heap) (m:Str->Option Value) (x:Str) (u:Value):Prop :=
 (env.kindOf x=some .local/\m x=some u)\/((env.kindOf x=some .cell\/env.kindOf x=some .free)/\∃c,env.cells.lookup x=some c/\h.IsCell c (some u))
structure Cx.Ok (X:Cx):Prop where
 mod:Mod X.K X.mg X.base
 kind:X.env.scope.kind=.function
 glob:X.env.globals=mainGlobals
 blt:X.env.builtins=builtinsNs
 above:X.s₀.heap.objs.size<=X.env.locals
 inj:∀x y c,X.env.cells.lookup x=some c->X.env.cells.lookup y=some c->x=y
 has:∀x,(X.env.kindOf x=some .cell\/X.env.kindOf x=some .free)->∃c,X.env.cells.lookup x=some c
 cab:∀x c,X.fn x=true->X.env.cells.lookup x=some c->X.s₀.heap.objs.size<=c
 hd:X.calm=true->X.A.handled=none
 frames:X.A.frames=some X.stack
 stk:X.stack=X.outer\/(X.stack=X.env :: X.outer/\X.env.frame=some X.env.locals)
 exf:∀b∈X.ex,b≠X.env.locals/\∀x c,X.env.cells.lookup x=some c->c≠b
 bs:∀b o,X.base.get? b=some o->X.s₀.heap.get? b=some o/\X.H₀ b=none
 bsz:X.base.objs.size<=X.s₀.heap.objs.size
 noex:∀b o,X.base.get? b=some o->b ∉ X.ex
 exfs:∀b∈X.ex,b ∉ X.fs
 funs:X.s₀.heap.FunFrames X.base X.outer
 frf:∀b∈X.fs,X.H₀ b=none
structure Inv (X:Cx) (pins:List (Addr × Obj)) (σ:List (Option V)) (H:Hp) (s:Shared):Prop where
 ok:X.Ok
 os:s.os=X.s₀.os
 bare:AllBare s.gens
 base:Un X.fs X.ex X.H₀ H X.s₀.heap s.heap
 loc:∃m,s.heap.Ns X.env.locals m/\∀(i:Nat) (x:Str) (v:V),X.N[i]?=some x->σ[i]?=some (some v)->Vis X.env.scope x->∃u,A9 v u/\Ti X.env s.heap m x u
 cell:∀x c,X.env.cells.lookup x=some c->∃v,s.heap.IsCell c v
 free:H X.env.locals=none
 freeC:∀x c,X.env.cells.lookup x=some c->H c=none
 pin:∀p∈X.pn++pins,s.heap.get? p.1=some p.2/\H p.1=none/\p.1≠X.env.locals/\p.1 ∉ X.fs/\∀v,p.2.data≠.cell v
 hok:HOk X.prog X.w H s.heap
 len:σ.length=X.N.length
section
variable {X:Cx} {pins:List (Addr × Obj)} {σ:List (Option V)} {H H':Hp} {s:Shared} {h':Heap}
theorem Cx.Ok.nofr (ok:X.Ok) {b:Addr} {o:Obj} (e:X.base.get? b=some o):b ∉ X.fs:=fun hb=>by
 have:=(ok.funs.mem hb).1
 rw [e] at this;cases this
theorem Inv.bs (I:Inv X pins σ H s):∀b o,X.base.get? b=some o->s.heap.get? b=some o/\H b=none:=fun b o e =>
 ⟨I.base.keep b o (I.ok.bs b o e).1 (I.ok.bs b o e).2 (I.ok.nofr e) (I.ok.noex b o e),I.base.free b o (I.ok.bs b o e).1 (I.ok.bs b o e).2 (I.ok.noex b o e)⟩
theorem Inv.bk (I:Inv X pins σ H s):∀b o,X.base.get? b=some o->s.heap.get? b=some o:=fun b o e=>(I.bs b o e).1
theorem Inv.mod (I:Inv X pins σ H s):Mod X.K X.mg X.base:=I.ok.mod
theorem Inv.kIn (I:Inv X pins σ H s):X.K.In s.heap:=I.ok.mod.kin.keeps I.bk
theorem Inv.lt (I:Inv X pins σ H s):X.env.locals < s.heap.objs.size:=let ⟨_,hn,_⟩:=I.loc;hn.lt
theorem Inv.sz (I:Inv X pins σ H s):X.s₀.heap.objs.size<=s.heap.objs.size:=Nat.le_trans I.ok.above (Nat.le_of_lt I.lt)
theorem Inv.nofs (I:Inv X pins σ H s) {a:Addr} (h:s.heap.objs.size<=a):a ∉ X.fs:=fun hb=>by
 obtain ⟨_,o,ho,_⟩:=I.ok.funs.mem hb
 exact absurd (Nat.lt_of_lt_of_le (Heap.lt_size ho) (Nat.le_trans I.sz h)) (Nat.lt_irrefl _)
theorem Inv.cne (I:Inv X pins σ H s):∀x c,X.env.cells.lookup x=some c->c≠X.env.locals:=fun x c e z=>by
 obtain ⟨v,o,ho,hd⟩:=I.cell x c e
 obtain ⟨m,⟨o',es,ep,ho',hd',_⟩,_⟩:=I.loc
 rw [z,ho'] at ho;cases ho;rw [hd'] at hd;cases hd
theorem Inv.funs (I:Inv X pins σ H s):s.heap.FunFrames X.base X.outer:=by
 have all:∀(l:List Env),(∀b∈frs l,b∈X.fs)->X.s₀.heap.FunFrames X.base l->s.heap.FunFrames X.base l:=by
  intro l
  induction l with
  | nil=>intro _ _;trivial
  | cons env r ih =>
    intro hs hl
    obtain ⟨hk,⟨L,o,hf,hn,ho,hd⟩,hr⟩:=hl
    have hL:L∈X.fs:=hs L (by unfold frs;rw [filterMap_cons,hf];exact mem_cons_self)
    obtain ⟨sl,e⟩:=I.base.slot L o ho (I.ok.frf L hL) hL fun z=>I.ok.exfs L z hL
    exact ⟨hk,⟨L,_,hf,hn,e,hd⟩,ih (fun b hb=>hs b (by unfold frs;rw [filterMap_cons,hf];exact mem_cons_of_mem _ hb)) hr⟩
 exact all X.outer (fun _ hb=>hb) I.ok.funs
theorem Inv.stack (I:Inv X pins σ H s):s.heap.FunFrames X.base X.stack:=by
 rcases I.ok.stk with e | ⟨e,hf⟩
 ·rw [e];exact I.funs
 ·rw [e]
  obtain ⟨m,hn,_⟩:=I.loc
  refine .cons (by rw [I.ok.kind];decide) hf hn ?_ I.funs
  exact Heap.get?_none_of_le (Nat.le_trans I.ok.bsz I.ok.above)
theorem Inv.stkSub (I:Inv X pins σ H s):∀b∈frs X.stack,b∈X.env.locals :: X.fs:=fun b hb=>by
 rcases I.ok.stk with e | ⟨e,hf⟩
 ·rw [e] at hb;exact mem_cons_of_mem _ hb
 ·rw [e] at hb
  unfold frs at hb
  rw [filterMap_cons,hf] at hb
  exact hb
theorem Inv.stkFree (I:Inv X pins σ H s):∀b∈frs X.stack,H b=none:=fun b hb=>by
 rcases mem_cons.mp (I.stkSub b hb) with e | hb
 ·rw [e];exact I.free
 ·obtain ⟨_,o,ho,_⟩:=I.ok.funs.mem hb
  exact I.base.free b o ho (I.ok.frf b hb) fun z=>I.ok.exfs b z hb
theorem Inv.step {g':Array GenState} {t':Nat} {d':Drawn} {ch:List Addr} (I:Inv X pins σ H s)
 (hch:∀b∈ch,(b∈X.ex\/X.s₀.heap.objs.size<=b)/\b≠X.env.locals/\(∀x c,X.env.cells.lookup x=some c->c≠b)/\∀p∈X.pn++pins,p.1≠b)
 (keep:∀b o,b≠X.env.locals->b ∉ X.fs->b ∉ ch->s.heap.get? b=some o->H b=none->h'.get? b=some o)
 (slot:∀b o,b≠X.env.locals->b∈X.fs->b ∉ ch->s.heap.get? b=some o->H b=none->∃sl,h'.get? b=some { o with slots:=sl }) (free:∀b o,b ∉ ch->s.heap.get? b=some o->H b=none->H' b=none)
 (there:∀b o,b ∉ ch->s.heap.get? b=some o->∃o',h'.get? b=some o')
 (tups:∀b xs,H b=some (.tup xs)->H' b=some (.tup xs)) (frzs:∀b o u,H b=some (.frz o u)->H' b=some (.frz o u)) (tbls:∀b ps,H b=some (.tbl ps)->∃more,H' b=some (.tbl (ps++more)))
 (ns:∀m,s.heap.Ns X.env.locals m->h'.Ns X.env.locals m) (hok:HOk X.prog X.w H' h') (hg:AllBare g') :
 Inv X pins σ H' { s with heap:=h',gens:=g',drawn:=d',toks:=t' }:=by
 have neL:∀b o,X.s₀.heap.get? b=some o->b≠X.env.locals:=fun b o e=>Nat.ne_of_lt (Nat.lt_of_lt_of_le (Heap.lt_size e) I.ok.above)
 have neC:∀b o,X.s₀.heap.get? b=some o->b ∉ X.ex->b ∉ ch:=fun b o e hx hb=>by
  rcases (hch b hb).1 with z | z
  ·exact hx z
  ·exact absurd (Nat.lt_of_lt_of_le (Heap.lt_size e) z) (Nat.lt_irrefl _)
 have cellK:∀x c,X.env.cells.lookup x=some c->∀v,s.heap.IsCell c v->h'.IsCell c v:=fun x c e v ⟨o,ho,hd⟩=>by
  have nch:c ∉ ch:=fun z=>(hch c z).2.2.1 x c e rfl
  by_cases hc:c∈X.fs
  ·obtain ⟨sl,q⟩:=slot c o (I.cne x c e) hc nch ho (I.freeC x c e)
   exact ⟨_,q,hd⟩
  ·exact ⟨o,keep c o (I.cne x c e) hc nch ho (I.freeC x c e),hd⟩
 refine ⟨I.ok,I.os,hg,⟨fun b o e n hb hx=>?_,fun b o e n hb hx=>?_,fun b o e n hx=>?_,fun b o e hx=>?_,fun b xs e=>tups b xs (I.base.tups b xs e),fun b o xs e=>frzs b o xs (I.base.frzs b o xs e),fun b ps e=>?_⟩,?_,fun x c e=>?_,?_,fun x c e=>?_,fun p hp=>?_,hok,I.len⟩
 ·exact keep b o (neL b o e) hb (neC b o e hx) (I.base.keep b o e n hb hx) (I.base.free b o e n hx)
 ·obtain ⟨sl,e1⟩:=I.base.slot b o e n hb hx
  obtain ⟨sl',e2⟩:=slot b _ (neL b o e) hb (neC b o e hx) e1 (I.base.free b o e n hx)
  exact ⟨sl',e2⟩
 ·obtain ⟨o',e1⟩:=I.base.there b o e hx
  exact free b o' (neC b o e hx) e1 (I.base.free b o e n hx)
 ·obtain ⟨o',e1⟩:=I.base.there b o e hx
  exact there b o' (neC b o e hx) e1
 ·obtain ⟨m1,e1⟩:=I.base.tbls b ps e
  obtain ⟨m2,e2⟩:=tbls b _ e1
  exact ⟨m1++m2,by rw [e2,Array.append_assoc]⟩
 ·obtain ⟨m,hn,hl⟩:=I.loc
  refine ⟨m,ns m hn,fun i x v e1 e2 e3=>?_⟩
  obtain ⟨u,r,l⟩:=hl i x v e1 e2 e3
  refine ⟨u,r,?_⟩
  rcases l with l | ⟨k,c,e,z⟩
  ·exact .inl l
  ·exact .inr ⟨k,c,e,cellK x c e _ z⟩
 ·obtain ⟨v,z⟩:=I.cell x c e
  exact ⟨v,cellK x c e v z⟩
 ·obtain ⟨m,⟨o,_,_,ho,_⟩,_⟩:=I.loc
  exact free _ o (fun z=>(hch _ z).2.1 rfl) ho I.free
 ·obtain ⟨v,o,ho,hd⟩:=I.cell x c e
  exact free c o (fun z=>(hch c z).2.2.1 x c e rfl) ho (I.freeC x c e)
 ·obtain ⟨e,n,ne,nf,d⟩:=I.pin p hp
  have nch:p.1 ∉ ch:=fun z=>(hch p.1 z).2.2.2 p hp rfl
  exact ⟨keep p.1 p.2 ne nf nch e n,free p.1 p.2 nch e n,ne,nf,d⟩
theorem Inv.un {t':Nat} (I:Inv X pins σ H s) (u:Un X.fs [] H H' s.heap h') (hok:HOk X.prog X.w H' h'):Inv X pins σ H' { s with heap:=h',toks:=t' }:=by
 obtain ⟨m,⟨o,es,ep,ho,r⟩,_⟩:=id I.loc
 obtain ⟨sl,hL⟩:=u.any ho I.free (by simp)
 exact I.step (g':=s.gens) (d':=s.drawn) (ch:=[]) (fun _ z=>by cases z) (fun b o _ hb _ e n=>u.keep b o e n hb (by simp)) (fun b o _ hb _ e n=>u.slot b o e n hb (by simp)) (fun b o _ e n=>u.free b o e n (by simp)) (fun b o _ e=>u.there b o e (by simp)) u.tups u.frzs u.tbls (fun m' hm=>by
  obtain ⟨o',es',ep',ho',r'⟩:=hm
  rw [ho] at ho';cases ho'
  exact ⟨_,es',ep',hL,r'⟩) hok I.bare
theorem Inv.call {g':Array GenState} {t':Nat} {d':Drawn} {ch:List Addr} (I:Inv X pins σ H s) (u:Un (frs X.stack) ch H H' s.heap h') (hok:HOk X.prog X.w H' h') (hg:AllBare g')
 (hch:∀b∈ch,(b∈X.ex\/X.s₀.heap.objs.size<=b)/\b≠X.env.locals/\(∀x c,X.env.cells.lookup x=some c->c≠b)/\∀p∈X.pn++pins,p.1≠b) :
 Inv X pins σ H' { s with heap:=h',gens:=g',drawn:=d',toks:=t' }:=by
 obtain ⟨m,⟨o,es,ep,ho,r⟩,_⟩:=id I.loc
 obtain ⟨sl,hL⟩:=u.any ho I.free fun z=>(hch _ z).2.1 rfl
 exact I.step (ch:=ch) hch (fun b o hL hb hc e n=>u.keep b o e n (fun z=>(mem_cons.mp (I.stkSub b z)).elim hL hb) hc) (fun b o _ _ hc e n=>u.any e n hc) (fun b o hc e n=>u.free b o e n hc) (fun b o hc e=>u.there b o e hc) u.tups u.frzs u.tbls (fun m' hm=>by
  obtain ⟨o',es',ep',ho',r'⟩:=hm
  rw [ho] at ho';cases ho'
  exact ⟨_,es',ep',hL,r'⟩) hok hg
theorem Inv.turned {t':Nat} {it:Addr} (I:Inv X pins σ H s) (k:∀b o,b≠it->s.heap.get? b=some o->h'.get? b=some o) (hn:H it=none) (hL:it≠X.env.locals)
 (h1:it∈X.ex\/X.s₀.heap.objs.size<=it) (h2:∀x c,X.env.cells.lookup x=some c->c≠it) (h3:∀p∈X.pn++pins,p.1≠it):Inv X pins σ H { s with heap:=h',toks:=t' }:=by
 have nit:∀b u,H b=some u->b≠it:=fun b u e z=>by rw [z,hn] at e;cases e
 refine I.step (g':=s.gens) (d':=s.drawn) (ch:=[it]) (fun b hb=>?_) (fun b o _ _ hc e _=>k b o (fun z=>hc (by simp [z])) e) (fun b o _ _ hc e _=>⟨o.slots,k b o (fun z=>hc (by simp [z])) e⟩) (fun _ _ _ _ n=>n)
  (fun b o hc e=>⟨o,k b o (fun z=>hc (by simp [z])) e⟩) (fun _ _ e=>e) (fun _ _ _ e=>e) (fun b ps e=>⟨#[],by rw [e];simp⟩) (fun m hm=>?_) (fun b u e=>?_) I.bare
 ·have e:b=it:=by simpa using hb
  subst e
  exact ⟨h1,hL,h2,h3⟩
 ·obtain ⟨o,es,ep,ho,r⟩:=hm
  exact ⟨o,es,ep,k _ o (Ne.symm hL) ho,r⟩
 ·refine (I.hok b u e).stay (fun c v hc q=>k c v ?_ q) (fun _ q=>q) fun _ _ q=>q
  rcases hc with z | z
  ·rw [z];exact nit b u e
  ·exact nit c _ z
theorem Inv.tok (I:Inv X pins σ H s) (t:Nat):Inv X pins σ H { s with toks:=t }:=I.un (h':=s.heap) (t':=t) Un.refl I.hok
theorem Inv.kept {t':Nat} (I:Inv X pins σ H s) (k:∀b u,s.heap.get? b=some u->h'.get? b=some u):Inv X pins σ H { s with heap:=h',toks:=t' }:=I.un (Un.kept k) (I.hok.kept k)
theorem Inv.laid {a:Addr} {o:HO} {t':Nat} (I:Inv X pins σ H s) (k:∀b u,s.heap.get? b=some u->h'.get? b=some u) (hp:s.heap.objs.size<=a) (new:AJ X.prog X.w (upd H a o) h' a o) :
 Inv X pins σ (upd H a o) { s with heap:=h',toks:=t' }:=I.un (Un.laid k hp (I.hok.fresh hp)) (I.hok.laid k hp new)
theorem Inv.write {x e:Addr} {o:HO} {t':Nat} (I:Inv X pins σ H s) (mu:Mut (H x)) (he:e=x\/H e=some (.own x)) (k:∀b u,b≠e->s.heap.get? b=some u->h'.get? b=some u) (heo:∃u,h'.get? e=some u)
 (new:AJ X.prog X.w (upd H x o) h' x o):Inv X pins σ (upd H x o) { s with heap:=h',toks:=t' }:=I.un (Un.write mu he k heo) (I.hok.write mu he k heo new)
theorem Inv.pins_of {pins':List (Addr × Obj)} (I:Inv X pins σ H s) (h:∀p∈pins',s.heap.get? p.1=some p.2/\H p.1=none/\p.1≠X.env.locals/\p.1 ∉ X.fs/\∀v,p.2.data≠.cell v):Inv X pins' σ H s :=
 ⟨I.ok,I.os,I.bare,I.base,I.loc,I.cell,I.free,I.freeC,fun p hp=>(mem_append.mp hp).elim (fun z=>I.pin p (mem_append_left _ z)) (h p),I.hok,I.len⟩
theorem Ku {N:List Str} (hN:N.Nodup) {i j:Nat} {x:Str} (a:N[i]?=some x) (b:N[j]?=some x):i=j:=by
 obtain ⟨h1,e1⟩:=List.getElem?_eq_some_iff.mp a
 obtain ⟨h2,e2⟩:=List.getElem?_eq_some_iff.mp b
 exact (getElem_inj hN).mp (e1.trans e2.symm)
theorem FJ {M:Model} {A:Around} {E:Value->Shared->Prop} {i:Nat} {x:Str} {v:V} {u:Value} {Q:Unit->Shared->Prop} (I:Inv X pins σ H s) (hN:X.N.Nodup) (hi:X.N[i]?=some x) (hx:Loc X.env.scope x) (r:A9 v u)
 (h:∀s',Inv X pins (σ.set i (some v)) H s'->(∃a,Heap.SameBut a s.heap s'.heap/\(a=X.env.locals\/X.env.cells.lookup x=some a))->Q () s') (hf:X.fn x=true\/X.env.scope.names.lookup x=some .local:=by first | exact .inl rfl | exact .inr rfl | assumption):wpAny M A (storeName X.env x u) Q E s:=by
 obtain ⟨m,hn,hl⟩:=id I.loc
 have hcls:(X.env.scope.kind == .class || (X.env.scope.kind == .module && X.env.locals != X.env.globals))=false:=by rw [I.ok.kind];rfl
 have hiσ:i < σ.length:=by rw [I.len];exact (List.getElem?_eq_some_iff.mp hi).1
 have cne:=I.cne
 have tracked:∀{a:Addr} {h':Heap},(∃o,s.heap.get? a=some o/\H a=none)->Heap.SameBut a s.heap h'->HOk X.prog X.w H h':=fun {a h'} ha hs b ob e=>by
  obtain ⟨_,_,hfree⟩:=ha
  refine (I.hok b ob e).stay (fun c w' hc q=>(hs.2 c ?_).trans q) (fun _ q=>q) fun _ _ q=>q
  rintro rfl
  rcases hc with rfl | hc
  ·rw [hfree] at e;cases e
  ·rw [hfree] at hc;cases hc
 rcases hx with hk | hk
 ·refine wpAny_storeName_local hk hn (fun h' hn' hs=>?_) hcls
  obtain ⟨oL,_,_,hoL,_⟩:=id hn
  refine h _ ⟨I.ok,I.os,I.bare,⟨fun b o e n hb hx=>?_,fun b o e n hb hx=>?_,I.base.free,fun b o e hx=>?_,I.base.tups,I.base.frzs,I.base.tbls⟩,⟨_,hn',fun j y v' e1 e2 e3=>?_⟩,fun y c e=>?_,I.free,I.freeC,fun p hp=>?_,tracked ⟨oL,hoL,I.free⟩ hs,by simpa using I.len⟩ ⟨_,hs,.inl rfl⟩
  ·exact (hs.2 b (Nat.ne_of_lt (Nat.lt_of_lt_of_le (Heap.lt_size e) I.ok.above))).trans (I.base.keep b o e n hb hx)
  ·obtain ⟨sl,e1⟩:=I.base.slot b o e n hb hx
   exact ⟨sl,(hs.2 b (Nat.ne_of_lt (Nat.lt_of_lt_of_le (Heap.lt_size e) I.ok.above))).trans e1⟩
  ·obtain ⟨o',e1⟩:=I.base.there b o e hx
   exact ⟨o',(hs.2 b (Nat.ne_of_lt (Nat.lt_of_lt_of_le (Heap.lt_size e) I.ok.above))).trans e1⟩
  ·by_cases hj:j=i
   ·subst hj
    rw [hi] at e1;cases e1
    rw [List.getElem?_set_self hiσ] at e2
    cases e2
    exact ⟨u,r,.inl ⟨hk,by simp⟩⟩
   ·rw [List.getElem?_set_ne (Ne.symm hj)] at e2
    obtain ⟨u',r',q⟩:=hl j y v' e1 e2 e3
    refine ⟨u',r',?_⟩
    rcases q with ⟨k,e⟩ | ⟨k,c,e,z⟩
    ·refine .inl ⟨k,?_⟩
     have:y≠x:=fun e=>hj (Ku hN e1 (e ▸ hi))
     simp [this,e]
    ·exact .inr ⟨k,c,e,z.sameBut hs (cne y c e)⟩
  ·obtain ⟨w',z⟩:=I.cell y c e
   exact ⟨w',z.sameBut hs (cne y c e)⟩
  ·obtain ⟨e,n,ne,nf,d⟩:=I.pin p hp
   exact ⟨(hs.2 p.1 ne).trans e,n,ne,nf,d⟩
 ·have hfn:X.fn x=true:=by
   rcases hf with z | z
   ·exact z
   ·rw [z] at hk;cases hk
  obtain ⟨c,hc⟩:=I.ok.has x (.inl hk)
  obtain ⟨w',z⟩:=I.cell x c hc
  refine wpAny_storeName_cell I.ok.kind hk hc z (fun h' hc' hs=>?_)
  obtain ⟨oc,hoc,hocd⟩:=id z
  refine h { s with heap:=h' } ⟨I.ok,I.os,I.bare,⟨fun b o e n hb hx=>?_,fun b o e n hb hx=>?_,I.base.free,fun b o e hx=>?_,I.base.tups,I.base.frzs,I.base.tbls⟩,⟨m,hn.sameBut hs (Ne.symm (cne x c hc)),fun j y v' e1 e2 e3=>?_⟩,fun y c' e=>?_,I.free,I.freeC,fun p hp=>?_,tracked ⟨oc,hoc,I.freeC x c hc⟩ hs,by simpa using I.len⟩ ⟨c,hs,.inr hc⟩
  ·exact (hs.2 b (Nat.ne_of_lt (Nat.lt_of_lt_of_le (Heap.lt_size e) (I.ok.cab x c hfn hc)))).trans (I.base.keep b o e n hb hx)
  ·obtain ⟨sl,e1⟩:=I.base.slot b o e n hb hx
   exact ⟨sl,(hs.2 b (Nat.ne_of_lt (Nat.lt_of_lt_of_le (Heap.lt_size e) (I.ok.cab x c hfn hc)))).trans e1⟩
  ·obtain ⟨o',e1⟩:=I.base.there b o e hx
   exact ⟨o',(hs.2 b (Nat.ne_of_lt (Nat.lt_of_lt_of_le (Heap.lt_size e) (I.ok.cab x c hfn hc)))).trans e1⟩
  ·by_cases hj:j=i
   ·subst hj
    rw [hi] at e1;cases e1
    rw [List.getElem?_set_self hiσ] at e2
    cases e2
    exact ⟨u,r,.inr ⟨.inl hk,c,hc,hc'⟩⟩
   ·rw [List.getElem?_set_ne (Ne.symm hj)] at e2
    obtain ⟨u',r',q⟩:=hl j y v' e1 e2 e3
    refine ⟨u',r',?_⟩
    rcases q with q | ⟨k,c',e,z'⟩
    ·exact .inl q
    ·refine .inr ⟨k,c',e,z'.sameBut hs ?_⟩
     rintro rfl
     exact hj (Ku hN e1 (I.ok.inj _ _ _ e hc ▸ hi))
  ·by_cases hcc:c'=c
   ·subst hcc;exact ⟨_,hc'⟩
   ·obtain ⟨w2,z2⟩:=I.cell y c' e
    exact ⟨w2,z2.sameBut hs hcc⟩
  ·obtain ⟨e,n,ne,nf,d⟩:=I.pin p hp
   refine ⟨(hs.2 p.1 ?_).trans e,n,ne,nf,d⟩
   intro q
   rw [q,hoc] at e
   have q':oc=p.2:=Option.some.inj e
   exact d w' (by rw [<- q'];exact hocd)
theorem EI {M:Model} {A:Around} {E:Value->Shared->Prop} {i:Nat} {x:Str} {v:V} {u:Value} {Q:Unit->Shared->Prop} (I:Inv X pins σ H s) (hN:X.N.Nodup) (hi:X.N[i]?=some x) (hx:Loc X.env.scope x) (r:A9 v u)
 (h:∀s',Inv X pins (σ.set i (some v)) H s'->Q () s') (hf:X.fn x=true\/X.env.scope.names.lookup x=some .local:=by first | exact .inl rfl | exact .inr rfl | assumption):wpAny M A (storeName X.env x u) Q E s :=
 FJ I hN hi hx r (fun s' I' _=>h s' I') hf
theorem Inv.call' {s':Shared} {ch:List Addr} (I:Inv X pins σ H s) (ho:s'.os=s.os) (u:Un (frs X.stack) ch H H' s.heap s'.heap) (hok:HOk X.prog X.w H' s'.heap) (hg:AllBare s'.gens)
 (hch:∀b∈ch,(b∈X.ex\/X.s₀.heap.objs.size<=b)/\b≠X.env.locals/\(∀x c,X.env.cells.lookup x=some c->c≠b)/\∀p∈X.pn++pins,p.1≠b):Inv X pins σ H' s':=by
 obtain ⟨h',g',d',t',o'⟩:=s'
 have e:o'=s.os:=ho
 subst e
 exact I.call (g':=g') (t':=t') (d':=d') u hok hg hch
end
abbrev XK:=Value->Option Addr->Hp->Prop
abbrev St:=List (Option V)
abbrev VK:=V->Hp->Prop
abbrev TE:=St->Hp->VK->Prop
abbrev TT:=St->Hp->(Bool->Hp->Prop)->Prop
abbrev TA:=St->Hp->(List V->Hp->Prop)->Prop
structure EB where
 nx:St->Hp->Prop
 rt:VK
 bk:St->Hp->Prop:=fun _ _=>False
 ct:St->Hp->Prop:=fun _ _=>False
abbrev TS:=EB->St->Hp->Prop
noncomputable def EP (X:Cx) (pins:List (Addr × Obj)) (σ:St) (Q:VK) (u:Value) (s':Shared):Prop:=∃v H',Inv X pins σ H' s'/\A9 v u/\Q v H'
noncomputable def TP (X:Cx) (pins:List (Addr × Obj)) (σ:St) (Q:Bool->Hp->Prop) (b:Bool) (s':Shared):Prop:=∃H',Inv X pins σ H' s'/\Q b H'
noncomputable def AP (X:Cx) (pins:List (Addr × Obj)) (σ:St) (Q:List V->Hp->Prop) (us:List Value) (s':Shared):Prop:=∃vs H',Inv X pins σ H' s'/\A5 vs us/\Q vs H'
def SP (X:Cx) (pins:List (Addr × Obj)) (D:EB) (f:Flow) (s':Shared):Prop :=
 match f with
 | .next=>∃σ' H',Inv X pins σ' H' s'/\D.nx σ' H'
 | .brk=>∃σ' H',Inv X pins σ' H' s'/\D.bk σ' H'
 | .cont=>∃σ' H',Inv X pins σ' H' s'/\D.ct σ' H'
 | .ret u=>∃v σ' H',Inv X pins σ' H' s'/\A9 v u/\D.rt v H'
def PE (X:Cx) (e:Expr) (t:TE):Prop :=
 ∀(pins:List (Addr × Obj)) (s:Shared) (σ:St) (H:Hp) (Q:VK),Inv X pins σ H s->t σ H Q->wpAny (model X.prog X.w) X.A (eval e X.env) (EP X pins σ Q) X.xe s
def PT (X:Cx) (e:Expr) (t:TT):Prop :=
 ∀(pins:List (Addr × Obj)) (s:Shared) (σ:St) (H:Hp) (Q:Bool->Hp->Prop),Inv X pins σ H s->t σ H Q->wpAny (model X.prog X.w) X.A (isTrue e X.env (eval e X.env)) (TP X pins σ Q) X.xe s
def PW (X:Cx) (e:Expr) (t:TT):Prop :=
 ∀(whole:Sem Value) (pins:List (Addr × Obj)) (s:Shared) (σ:St) (H:Hp) (Q:Bool->Hp->Prop),Inv X pins σ H s->t σ H Q->wpAny (model X.prog X.w) X.A (isTrue e X.env whole) (TP X pins σ Q) X.xe s
theorem PW.pt {X:Cx} {e:Expr} {t:TT} (h:PW X e t):PT X e t:=h _
def PA (X:Cx) (es:List Expr) (t:TA):Prop :=
 ∀(pos:Pos) (pins:List (Addr × Obj)) (s:Shared) (σ:St) (H:Hp) (Q:List V->Hp->Prop),Inv X pins σ H s->t σ H Q->wpAny (model X.prog X.w) X.A (spliced (backTo pos (starEach es X.env))) (AP X pins σ Q) X.xe s
def PS (X:Cx) (st:Stmt) (t:TS):Prop :=
 ∀(pins:List (Addr × Obj)) (s:Shared) (σ:St) (H:Hp) (D:EB),Inv X pins σ H s->t D σ H->wpAny (model X.prog X.w) X.A (exec st X.env) (SP X pins D) X.xe s
def PSs (X:Cx) (st:List Stmt) (t:TS):Prop :=
 ∀(pins:List (Addr × Obj)) (s:Shared) (σ:St) (H:Hp) (D:EB),Inv X pins σ H s->t D σ H->wpAny (model X.prog X.w) X.A (execs st X.env) (SP X pins D) X.xe s
theorem thn {α:Type} {t:Sem α} {Q Q':α->Shared->Prop} {M:Model} {A:Around} {E:Value->Shared->Prop} {s:Shared} (h:wpAny M A t Q E s) (hQ:∀a s,Q a s->Q' a s):wpAny M A t Q' E s:=wpAny_mono h hQ fun _ _ x=>x
end L2
namespace L2
open PySem PySem.Spec PyProof.Rows
section
variable {X:Cx}
def Ng (i:Nat):TE:=fun σ H Q=>∃v,σ[i]?=some (some v)/\Q v H
def tC (v:V):TE:=fun _ H Q=>Q v H
theorem Sy {i:Nat} {x:Str} {pos:Pos} (hN:X.N[i]?=some x) (hv:Vis X.env.scope x) (hd:(x == ("__debug__":Str))=false:=by decide) (hcd:(x == ("__classdict__":Str))=false:=by decide):PE X (.Name x pos) (Ng i):=by
 intro pins s σ H Q I h
 obtain ⟨v,e,h⟩:=h
 obtain ⟨m,hn,hl⟩:=I.loc
 obtain ⟨u,r,l⟩:=hl i x v hN e hv
 have fin:EP X pins σ Q u s:=⟨v,H,I,r,h⟩
 rcases l with ⟨hk,hm⟩ | ⟨hk,c,hc,hcell⟩
 ·exact wpAny_Name (wpAny_loadName_local I.ok.kind hk hn hm fin) hd
 ·rcases hk with hk | hk
  ·exact wpAny_Name (wpAny_loadName_cell I.ok.kind hk hc hcell fin) hd
  ·exact wpAny_Name (wpAny_loadName_free I.ok.kind hk hc hcell fin hcd) hd
theorem Ac {i j pos}:PE X (.Constant (.int i) j pos) (tC (.int i)):=fun _ _ _ H _ I h=>wpAny_Constant_int ⟨.int i,H,I.tok _,⟨_,rfl⟩,h⟩
theorem Cm {b j pos}:PE X (.Constant (.bool b) j pos) (tC (.bl b)):=fun _ _ _ H _ I h=>Constant_bool ⟨.bl b,H,I,rfl,h⟩
theorem D4 {j pos}:PE X (.Constant .none j pos) (tC .non):=fun _ _ _ H _ I h=>Constant_none ⟨.non,H,I,rfl,h⟩
theorem C4 {x j pos}:PE X (.Constant (.str x) j pos) (tC (.str x)):=fun _ _ _ H _ I h=>Calls.Constant_str ⟨.str x,H,I.tok _,⟨_,rfl⟩,h⟩
def Gl (X:Cx) (x:Str):Prop:=X.env.kindOf x=some .globalImplicit
theorem Gy {E:Value->Shared->Prop} {pins:List (Addr × Obj)} {s:Shared} {σ:St} {H:Hp} {x:Str} {u:Value} {pos:Pos} {Q:Value->Shared->Prop} (I:Inv X pins σ H s) (hg:Gl X x) (hm:X.mg x=some u) (h:Q u s)
 (hd:(x == ("__debug__":Str))=false:=by decide):wpAny (model X.prog X.w) X.A (eval (.Name x pos) X.env) Q E s :=
 Calls.Name_function_global I.ok.kind hg (Calls.loadGlobal_global (by rw [I.ok.glob];exact I.mod.glob.keeps I.bk) hm h) hd
theorem Ea {E:Value->Shared->Prop} {pins:List (Addr × Obj)} {s:Shared} {σ:St} {H:Hp} {x:Str} {u:Value} {pos:Pos} {Q:Value->Shared->Prop} (I:Inv X pins σ H s) (hg:Gl X x) (hm:X.mg x=none) (hv:bootBuiltins x=some u) (h:Q u s)
 (hn:x≠"__name__":=by decide) (hd:(x == ("__debug__":Str))=false:=by decide):wpAny (model X.prog X.w) X.A (eval (.Name x pos) X.env) Q E s:=by
 obtain ⟨mb,h1,h2⟩:=I.mod.blt
 exact Calls.Name_function_global I.ok.kind hg (Calls.loadGlobal_builtin (by rw [I.ok.glob];exact I.mod.glob.keeps I.bk) hm (by rw [I.ok.blt];exact h1.keeps I.bk) ((h2 x hn).trans hv) h) hd
theorem Jw {x:Str} {v:V} {u:Value} {pos:Pos} (hg:Gl X x) (hm:X.mg x=some u) (r:A9 v u) (hd:(x == ("__debug__":Str))=false:=by decide):PE X (.Name x pos) (tC v) :=
 fun _ _ _ H _ I h=>Gy I hg hm ⟨v,H,I,r,h⟩ hd
theorem BH {x:Str} {v:V} {u:Value} {pos:Pos} (hg:Gl X x) (hm:X.mg x=none) (hv:bootBuiltins x=some u) (r:A9 v u) (hn:x≠"__name__":=by decide) (hd:(x == ("__debug__":Str))=false:=by decide):PE X (.Name x pos) (tC v) :=
 fun _ _ _ H _ I h=>Ea I hg hm hv ⟨v,H,I,r,h⟩ hn hd
variable {a b:Expr} {ta tb:TE} {pos:Pos}
def tB (t:TE):TT:=fun σ H Q=>t σ H fun x H1=>∃c,x=.bl c/\Q c H1
theorem AH {e:Expr} {t:TE} (h:PE X e t) (he:∀whole,isTrue e X.env whole=(do let v <- whole;standAt e.pos;holding [v] (truthy v)):=by intro _;rfl):PT X e (tB t):=by
 intro pins s σ H Q I hw
 refine isTrue_plain (thn (h pins s σ H _ I hw) fun v s1 ⟨x,H1,I1,r1,q1⟩=>?_) (he _)
 obtain ⟨d,rfl,q⟩:=q1
 cases r1
 exact wpAny_truthy_bool ⟨H1,I1,q⟩
variable {tA tB':TT} {rest:List Expr}
def Tm (t u:TT):TT:=fun σ H Q=>t σ H fun c H1=>if c=true then u σ H1 Q else Q false H1
def tOr (t u:TT):TT:=fun σ H Q=>t σ H fun c H1=>if c=true then Q true H1 else u σ H1 Q
def Ty (t:TT):TT:=fun σ H Q=>t σ H fun c H1=>Q (!c) H1
theorem Jb (ha:PT X a tA):PW X (.BoolOp .And [a] pos) tA:=by
 intro wh pins s σ H Q I h
 refine isTrue_and (thn (ha pins s σ H Q I h) fun c s1 e=>?_)
 cases c with
 | true=>exact isTrue_and_nil e
 | false=>exact e
theorem Cc (ha:PT X a tA):PW X (.BoolOp .Or [a] pos) tA:=by
 intro wh pins s σ H Q I h
 refine isTrue_or (thn (ha pins s σ H Q I h) fun c s1 e=>?_)
 cases c with
 | false=>exact isTrue_or_nil e
 | true=>exact e
theorem LM (ha:PT X a tA) (hb:PW X (.BoolOp .And (b :: rest) pos) tB'):PW X (.BoolOp .And (a :: b :: rest) pos) (Tm tA tB'):=by
 intro wh pins s σ H Q I h
 refine isTrue_and (thn (ha pins s σ H _ I h) fun c s1 ⟨H1,I1,q1⟩=>?_)
 cases c with
 | true=>exact hb wh pins s1 σ H1 Q I1 q1
 | false=>exact ⟨H1,I1,q1⟩
theorem Cn (ha:PT X a tA) (hb:PW X (.BoolOp .Or (b :: rest) pos) tB'):PW X (.BoolOp .Or (a :: b :: rest) pos) (tOr tA tB'):=by
 intro wh pins s σ H Q I h
 refine isTrue_or (thn (ha pins s σ H _ I h) fun c s1 ⟨H1,I1,q1⟩=>?_)
 cases c with
 | true=>exact ⟨H1,I1,q1⟩
 | false=>exact hb wh pins s1 σ H1 Q I1 q1
theorem AQ (ha:PT X a tA):PT X (.UnaryOp .Not a pos) (Ty tA):=by
 intro pins s σ H Q I h
 exact isTrue_not (ha pins s σ H (fun c H1=>Q (!c) H1) I h)
noncomputable def ST (ta tb:TE):TE:=fun σ H Q=>ta σ H fun x H1=>∃c,x=.bl c/\if c=true then tb σ H1 Q else Q (.bl false) H1
noncomputable def T5 (ta tb:TE):TE:=fun σ H Q=>ta σ H fun x H1=>∃c,x=.bl c/\if c=true then Q (.bl true) H1 else tb σ H1 Q
def SA (ta:TE):TE:=fun σ H Q=>ta σ H fun x H1=>∃c,x=.bl c/\Q (.bl (!c)) H1
theorem DM {op} {t:TE} (h:PE X a t):PE X (.BoolOp op [a] pos) t:=fun pins s σ H Q I hw=>BoolOp_one (h pins s σ H Q I hw)
theorem E1 (ha:PE X a ta) (hb:PE X (.BoolOp .And (b :: rest) pos) tb):PE X (.BoolOp .And (a :: b :: rest) pos) (ST ta tb):=by
 intro pins s σ H Q I h
 refine BoolOp_and (thn (ha pins s σ H _ I h) fun v s1 ⟨x,H1,I1,r1,q1⟩=>?_)
 obtain ⟨c,rfl,q1⟩:=q1
 cases r1
 refine wpAny_truthy_bool ?_
 cases c with
 | true=>exact hb pins s1 σ H1 Q I1 q1
 | false=>exact ⟨.bl false,H1,I1,rfl,q1⟩
theorem SI (ha:PE X a ta) (hb:PE X (.BoolOp .Or (b :: rest) pos) tb):PE X (.BoolOp .Or (a :: b :: rest) pos) (T5 ta tb):=by
 intro pins s σ H Q I h
 refine BoolOp_or (thn (ha pins s σ H _ I h) fun v s1 ⟨x,H1,I1,r1,q1⟩=>?_)
 obtain ⟨c,rfl,q1⟩:=q1
 cases r1
 refine wpAny_truthy_bool ?_
 cases c with
 | false=>exact hb pins s1 σ H1 Q I1 q1
 | true=>exact ⟨.bl true,H1,I1,rfl,q1⟩
theorem OC (ha:PE X a ta):PE X (.UnaryOp .Not a pos) (SA ta):=by
 intro pins s σ H Q I h
 refine UnaryOp_ (thn (ha pins s σ H _ I h) fun v s1 ⟨x,H1,I1,r1,q1⟩=>?_)
 obtain ⟨c,rfl,q1⟩:=q1
 cases r1
 exact not_of (wpAny_truthy_bool ⟨.bl (!c),H1,I1,rfl,q1⟩)
noncomputable def tIf (t:TT) (ta tb:TE):TE:=fun σ H Q=>t σ H fun c H1=>if c=true then ta σ H1 Q else tb σ H1 Q
theorem Oi {c:Expr} (hc:PT X c tA) (ha:PE X a ta) (hb:PE X b tb):PE X (.IfExp c a b pos) (tIf tA ta tb):=by
 intro pins s σ H Q I h
 refine wpAny_IfExp (thn (hc pins s σ H _ I h) fun d s1 ⟨H1,I1,q1⟩=>?_)
 cases d with
 | true=>exact ha pins s1 σ H1 Q I1 q1
 | false=>exact hb pins s1 σ H1 Q I1 q1
end
end L2
namespace L2
open PySem PySem.Spec PyProof.Rows
def SqL (K:PySem.W.Frag) (H:Hp) (a:Addr) (xs:List V):Prop :=
 Rd H a (.lst xs) \/
  ∃(o:Obj) (its:Array Value) (n:Nat),K.lookup a=some o/\o.cls=.type "list"/\o.dict=none/\o.data=.seq its n/\its.size<=sizeLine/\A5 xs its.toList
def SqT (K:PySem.W.Frag) (H:Hp) (a:Addr) (xs:List V):Prop :=
 Rd H a (.tup xs) \/
  ∃(o:Obj) (its:Array Value) (n:Nat),K.lookup a=some o/\o.cls=.type "tuple"/\o.data=.seq its n/\its.size<=sizeLine/\A5 xs its.toList
noncomputable def T7:Value->Option V
 | .none=>some .non
 | .bool b=>some (.bl b)
 | .int i _=>some (.int i)
 | .str x _=>some (.str x)
 | .bytes b _=>some (.byt b)
 | .float b _=>some (.flt b)
 | .ref a=>some (.ref a)
 | .type n=>some (.ty n)
 | _=>none
theorem A9.abs {x:V} {u:Value} (r:A9 x u):T7 u=some x:=by
 cases x with
 | non=>cases r;rfl
 | bl _=>cases r;rfl
 | int _=>obtain ⟨t,rfl⟩:=r;rfl
 | str _=>obtain ⟨t,rfl⟩:=r;rfl
 | byt _=>obtain ⟨t,rfl⟩:=r;rfl
 | flt _=>obtain ⟨t,rfl⟩:=r;rfl
 | ref _=>cases r;rfl
 | ty _=>cases r;rfl
theorem A9.inj {x y:V} {u:Value} (r:A9 x u) (q:A9 y u):x=y:=Option.some.inj (r.abs.symm.trans q.abs)
theorem A5.inj:∀{xs ys:List V} {us:List Value},A5 xs us->A5 ys us->xs=ys
 | _,_,_,.nil,.nil=>rfl
 | _,_,_,.cons r t,.cons r' t'=>by rw [r.inj r',A5.inj t t']
section
variable {X:Cx} {pins:List (Addr × Obj)} {σ:St} {H:Hp} {s:Shared} {a:Addr} {xs ys:List V}
theorem SqL.of {K:PySem.W.Frag} (h:H a=some (.lst xs)):SqL K H a xs:=.inl (.inl h)
theorem SqT.of {K:PySem.W.Frag} (h:H a=some (.tup xs)):SqT K H a xs:=.inl (.inl h)
theorem Inv.list (I:Inv X pins σ H s) (h:SqL X.K H a xs):∃its:List Value,A5 xs its/\PlainL s.heap a its.toArray/\xs.length<=sizeLine:=by
 rcases h with h | ⟨o,its,n,hk,hc,hd,hs,hz,r⟩
 ·obtain ⟨z,its,n,r,e⟩:=h.ok I.hok
  exact ⟨its,r,⟨_,n,e,rfl,rfl,rfl⟩,z⟩
 ·refine ⟨its.toList,r,⟨o,n,I.kIn a o hk,hc,hd,by simpa using hs⟩,?_⟩
  have e:=r.length
  simp only [Array.length_toList] at e
  omega
theorem Inv.tuple (I:Inv X pins σ H s) (h:SqT X.K H a xs):∃its:List Value,A5 xs its/\IsTup s.heap a its.toArray/\xs.length<=sizeLine:=by
 rcases h with h | ⟨o,its,n,hk,hc,hs,hz,r⟩
 ·obtain ⟨z,its,r,p⟩:=h.ok I.hok
  exact ⟨its,r,p,z⟩
 ·refine ⟨its.toList,r,⟨o,I.kIn a o hk,hc,n,by simpa using hs⟩,?_⟩
  have e:=r.length
  simp only [Array.length_toList] at e
  omega
theorem Inv.list_inj (I:Inv X pins σ H s) (h:SqL X.K H a xs) (h':SqL X.K H a ys):xs=ys:=by
 obtain ⟨its,r,⟨o,n,e,_,_,d⟩,_⟩:=I.list h
 obtain ⟨its',r',⟨o',n',e',_,_,d'⟩,_⟩:=I.list h'
 rw [e] at e';cases e'
 rw [d] at d'
 injection d' with d1 _
 have:its=its':=by simpa using congrArg Array.toList d1
 subst this
 exact r.inj r'
theorem Inv.tuple_inj (I:Inv X pins σ H s) (h:SqT X.K H a xs) (h':SqT X.K H a ys):xs=ys:=by
 obtain ⟨its,r,⟨o,e,_,n,d⟩,_⟩:=I.tuple h
 obtain ⟨its',r',⟨o',e',_,n',d'⟩,_⟩:=I.tuple h'
 rw [e] at e';cases e'
 rw [d] at d'
 injection d' with d1 _
 have:its=its':=by simpa using congrArg Array.toList d1
 subst this
 exact r.inj r'
end
abbrev Cx.wish (X:Cx) (E:Value->Shared->Prop):Cx:={ X with xe:=E }
abbrev Cx.nox (X:Cx):Cx:=X.wish fun _ _=>False
theorem Cx.Ok.wish {X:Cx} (ok:X.Ok) (E:Value->Shared->Prop):(X.wish E).Ok :=
 ⟨ok.mod,ok.kind,ok.glob,ok.blt,ok.above,ok.inj,ok.has,ok.cab,ok.hd,ok.frames,ok.stk,ok.exf,ok.bs,ok.bsz,ok.noex,ok.exfs,ok.funs,ok.frf⟩
theorem Cx.Ok.unwish {X:Cx} {E:Value->Shared->Prop} (ok:(X.wish E).Ok):X.Ok :=
 ⟨ok.mod,ok.kind,ok.glob,ok.blt,ok.above,ok.inj,ok.has,ok.cab,ok.hd,ok.frames,ok.stk,ok.exf,ok.bs,ok.bsz,ok.noex,ok.exfs,ok.funs,ok.frf⟩
section
variable {X:Cx} {pins:List (Addr × Obj)} {σ:St} {H:Hp} {s:Shared} {E:Value->Shared->Prop}
theorem Inv.wish (I:Inv X pins σ H s) (E:Value->Shared->Prop):Inv (X.wish E) pins σ H s:=⟨I.ok.wish E,I.os,I.bare,I.base,I.loc,I.cell,I.free,I.freeC,I.pin,I.hok,I.len⟩
theorem Inv.unwish (I:Inv (X.wish E) pins σ H s):Inv X pins σ H s:=⟨I.ok.unwish,I.os,I.bare,I.base,I.loc,I.cell,I.free,I.freeC,I.pin,I.hok,I.len⟩
theorem SP.unwish {D:EB} {f:Flow} {s':Shared} (h:SP (X.wish E) pins D f s'):SP X pins D f s':=by
 cases f with
 | next=>obtain ⟨σ',H',I,q⟩:=h;exact ⟨σ',H',I.unwish,q⟩
 | brk=>obtain ⟨σ',H',I,q⟩:=h;exact ⟨σ',H',I.unwish,q⟩
 | cont=>obtain ⟨σ',H',I,q⟩:=h;exact ⟨σ',H',I.unwish,q⟩
 | ret u=>obtain ⟨v,σ',H',I,r,q⟩:=h;exact ⟨v,σ',H',I.unwish,r,q⟩
theorem PSs.nox {st:List Stmt} {t:TS} (h:PSs X.nox st t):PSs X st t:=fun pins s σ H D I hw =>
 wpAny_mono (h pins s σ H D (I.wish _) hw) (fun _ _ q=>q.unwish) fun _ _ z=>False.elim z
end
section
variable {X:Cx} {st:Stmt} {rest:List Stmt} {t u:TS} {e:Expr} {te:TE} {pos:Pos}
def SS:TS:=fun D σ H=>D.nx σ H
def Tc (t u:TS):TS:=fun D σ H=>t { D with nx:=u D } σ H
theorem Av:PSs X [] SS:=fun _ _ σ H _ I h=>wpAny_execs_nil ⟨σ,H,I,h⟩
theorem Ae (h1:PS X st t) (h2:PSs X rest u):PSs X (st :: rest) (Tc t u):=by
 intro pins s σ H D I h
 refine wpAny_execs_cons (thn (h1 pins s σ H { D with nx:=u D } I h) fun f s1 q=>?_)
 cases f with
 | next =>
   obtain ⟨σ',H',I',q⟩:=q
   exact h2 pins s1 σ' H' D I' q
 | ret v=>exact q
 | brk=>exact q
 | cont=>exact q
theorem Ag (h1:PS X st t):PSs X [st] t:=by
 intro pins s σ H D I h
 refine wpAny_execs_cons (thn (h1 pins s σ H D I h) fun f s1 q=>?_)
 cases f with
 | next=>exact wpAny_execs_nil q
 | ret v=>exact q
 | brk=>exact q
 | cont=>exact q
theorem Inv.quiet {pins:List (Addr × Obj)} {σ:St} {H:Hp} {s:Shared} (I:Inv X pins σ H s):interactive X.env=false:=by simp [interactive,I.ok.kind]
def Tg (te:TE):TS:=fun D σ H=>te σ H fun _ H1=>D.nx σ H1
theorem BQ (he:PE X e te) (hs:swapsWith e none pos.line X.env=pure false:=by rfl):PS X (.Expr e pos) (Tg te):=by
 intro pins s σ H D I h
 exact wpAny_Expr_any (thn (he pins s σ H _ I h) fun v s1 ⟨x,H1,I1,r1,q1⟩=>⟨σ,H1,I1,q1⟩) I.quiet hs
def T9 (te:TE):TS:=fun D σ H=>te σ H D.rt
theorem An (he:PE X e te):PS X (.Return (some e) pos) (T9 te):=by
 intro pins s σ H D I h
 exact wpAny_Return_some (thn (he pins s σ H _ I h) fun v s1 ⟨x,H1,I1,r1,q1⟩=>⟨x,σ,H1,I1,r1,q1⟩)
noncomputable def Tq (c:TT) (t u:TS):TS:=fun D σ H=>c σ H fun b H1=>if b=true then t D σ H1 else u D σ H1
theorem AB {c:Expr} {a b:List Stmt} {tc:TT} (hc:PT X c tc) (ha:PSs X a t) (hb:PSs X b u):PS X (.If c a b pos) (Tq tc t u):=by
 intro pins s σ H D I h
 refine wpAny_If (thn (hc pins s σ H _ I h) fun d s1 ⟨H1,I1,q1⟩=>?_)
 cases d with
 | true=>exact ha pins s1 σ H1 D I1 q1
 | false=>exact hb pins s1 σ H1 D I1 q1
def RT:TS:=fun _ _ _=>False
theorem DW:PS X st RT:=fun _ _ _ _ _ _ h=>h.elim
end
abbrev TG:=V->St->Hp->(St->Hp->Prop)->Prop
abbrev TGs:=List V->St->Hp->(St->Hp->Prop)->Prop
def PG (X:Cx) (target:Expr) (t:TG):Prop :=
 ∀(pins:List (Addr × Obj)) (s:Shared) (σ:St) (H:Hp) (v:V) (u:Value) (Q:St->Hp->Prop),Inv X pins σ H s->A9 v u->t v σ H Q ->
  wpAny (model X.prog X.w) X.A (assign target X.env u) (fun _ s'=>∃σ' H',Inv X pins σ' H' s'/\Q σ' H') X.xe s
def PGs (X:Cx) (ts:List Expr) (t:TGs):Prop :=
 ∀(pins:List (Addr × Obj)) (s:Shared) (σ:St) (H:Hp) (vs:List V) (us:List Value) (Q:St->Hp->Prop),Inv X pins σ H s->A5 vs us->t vs σ H Q ->
  wpAny (model X.prog X.w) X.A (assignInOrder ((assignEach ts X.env).map (·.2)) us) (fun _ s'=>∃σ' H',Inv X pins σ' H' s'/\Q σ' H') X.xe s
abbrev Se:=V->V->V->Hp->(Hp->Prop)->Prop
def SW (X:Cx) (t:Se):Prop :=
 ∀(pins:List (Addr × Obj)) (s:Shared) (σ:St) (H:Hp) (o i v:V) (ov iv u:Value) (Q:Hp->Prop),Inv X pins σ H s->A9 o ov->A9 i iv->A9 v u->t o i v H Q ->
  wpAny (model X.prog X.w) X.A (setItem ov iv u) (fun _ s'=>∃H',Inv X pins σ H' s'/\Q H') X.xe s
section
variable {X:Cx} {pos:Pos}
def Bt (i:Nat):TG:=fun v σ H Q=>Q (σ.set i (some v)) H
theorem AD {i:Nat} {x:Str} (hN:X.N.Nodup) (hi:X.N[i]?=some x) (hx:Loc X.env.scope x) (hf:X.fn x=true\/X.env.scope.names.lookup x=some .local:=by first | exact .inl rfl | exact .inr rfl | assumption):PG X (.Name x pos) (Bt i):=by
 intro pins s σ H v u Q I r h
 exact wpAny_assign_Name (EI I hN hi hx r (fun s' I'=>⟨_,H,I',h⟩) hf)
def JV:TGs:=fun vs σ H Q=>vs=[]/\Q σ H
def Cy (t:TG) (u:TGs):TGs:=fun vs σ H Q=>∃v r,vs=v :: r/\t v σ H fun σ' H'=>u r σ' H' Q
theorem Eg:PGs X [] JV:=by
 intro pins s σ H vs us Q I r h
 obtain ⟨e,h⟩:=h
 subst e
 cases r
 exact assignInOrder_nil ⟨σ,H,I,h⟩
theorem Bo {e:Expr} {es:List Expr} {t:TG} {u:TGs} (h1:PG X e t) (h2:PGs X es u)
 (hs:(assignEach (e :: es) X.env).map (·.2)=assign e X.env :: (assignEach es X.env).map (·.2):=by rfl):PGs X (e :: es) (Cy t u):=by
 intro pins s σ H vs us Q I r h
 obtain ⟨v,vr,e1,h⟩:=h
 subst e1
 cases r with
 | cons r rr =>
   rw [hs]
   refine assignInOrder_cons (thn (h1 pins s σ H _ _ _ I r h) fun _ s1 ⟨σ1,H1,I1,q1⟩=>?_)
   exact h2 pins s1 σ1 H1 _ _ Q I1 rr q1
noncomputable def KW (K:PySem.W.Frag) (n:Nat) (t:TGs):TG:=fun v σ H Q=>∃a xs,v=.ref a/\SqT K H a xs/\xs.length=n/\t xs σ H Q
theorem FG {es:List Expr} {k:Nat} {t:TGs} {n:Nat} (hc:X.calm=true) (h:PGs X es t)
 (hn:(assignEach es X.env).length=n:=by rfl) (hst:(assignEach es X.env).findIdx? (·.1)=none:=by rfl):PG X (.Tuple es k pos) (KW X.K n t):=by
 intro pins s σ H v u Q I r hw
 obtain ⟨a,xs,e1,hq,hl,hw⟩:=hw
 subst e1
 cases r
 obtain ⟨its,rv,ht,hz⟩:=I.tuple hq
 refine assign_Tuple_tuple (I.ok.hd hc) ht (by simp [hn,<- hl,rv.length]) hst fun h' hx=>?_
 have I1:Inv X pins σ H { s with heap:=h' }:=I.kept (t':=s.toks) fun b o e=>hx b o (Nat.ne_of_lt (Heap.lt_size e)) e
 exact h pins _ σ H xs _ Q I1 (by simpa using rv) hw
noncomputable def Tv (to ti:TE) (t:Se):TG:=fun v σ H Q=>to σ H fun o H1=>ti σ H1 fun i H2=>t o i v H2 fun H3=>Q σ H3
theorem Jl {o i:Expr} {to ti:TE} {t:Se} (ho:PE X o to) (hi:PE X i ti) (hs:SW X t)
 (ha:∀v,assign (.Subscript o i pos) X.env v=(do
  let ov <- holding [v] (eval o X.env)
  let iv <- holding [v,ov] (eval i X.env)
  standAt pos
  holding [v,ov,iv] (setItem ov iv v)
  release [v,ov,iv] []):=by intro _;rfl):PG X (.Subscript o i pos) (Tv to ti t):=by
 intro pins s σ H v u Q I r h
 rw [ha]
 refine wpAny_bind (wpAny_holding (thn (ho pins s σ H _ I h) fun ov s1 ⟨x,H1,I1,r1,q1⟩=>?_))
 refine wpAny_bind (wpAny_holding (thn (hi pins s1 σ H1 _ I1 q1) fun iv s2 ⟨y,H2,I2,r2,q2⟩=>?_))
 refine wpAny_bind (wpAny_standAt (wpAny_bind (wpAny_holding (thn (hs pins s2 σ H2 x y v ov iv u _ I2 r1 r2 r q2) fun _ s3 ⟨H3,I3,q3⟩=>?_))))
 exact wpAny_release ⟨σ,H3,I3,q3⟩
def Nj (te:TE) (g:TG):TS:=fun D σ H=>te σ H fun x H1=>g x σ H1 D.nx
theorem Hv {tg e:Expr} {te:TE} {g:TG} (he:PE X e te) (hg:PG X tg g) (hs:swapsWithSole [tg] e pos.line X.env=pure false:=by rfl) (hw:swappedStores [tg] e X.env=pure none:=by rfl)
 (h1:(assignEach [tg] X.env).map (·.2)=[assign tg X.env]:=by rfl):PS X (.Assign [tg] e pos) (Nj te g):=by
 intro pins s σ H D I h
 refine wpAny_Assign_stores (thn (he pins s σ H _ I h) fun v s1 ⟨x,H1,I1,r1,q1⟩=>?_) hs hw
 rw [h1]
 exact thn (hg pins s1 σ H1 x v _ I1 r1 q1) fun _ s2 q=>q
theorem Am {i:Nat} {x:Str} {e:Expr} {te:TE} {pos':Pos} (hN:X.N.Nodup) (hi:X.N[i]?=some x) (hx:Loc X.env.scope x) (he:PE X e te) (hs:swapsWith e (some (.Name x pos')) pos.line X.env=pure false:=by rfl) (hf:X.fn x=true\/X.env.scope.names.lookup x=some .local:=by first | exact .inl rfl | exact .inr rfl | assumption) :
 PS X (.Assign [.Name x pos'] e pos) (Nj te (Bt i)):=by
 intro pins s σ H D I h
 refine wpAny_Assign_Name (thn (he pins s σ H _ I h) fun v s1 ⟨y,H1,I1,r1,q1⟩=>?_) hs
 exact EI I1 hN hi hx r1 (fun s2 I2=>⟨_,H1,I2,q1⟩) hf
noncomputable def T1 (i j:Nat) (ta:TA):TS:=fun D σ H=>ta σ H fun vs H1=>∃v w,vs=[v,w]/\D.nx ((σ.set i (some v)).set j (some w)) H1
theorem Sq {i j:Nat} {x y:Str} {a b:Expr} {ta:TA} {px py pt:Pos} {kt k2 pt2} (hc:X.calm=true) (hN:X.N.Nodup) (hi:X.N[i]?=some x) (hj:X.N[j]?=some y) (hij:i≠j)
 (hx:X.env.scope.names.lookup x=some .local) (hy:X.env.scope.names.lookup y=some .local) (ha:PA X [a,b] ta)
 (hw:swappedStores [.Tuple [.Name x px,.Name y py] kt pt] (.Tuple [a,b] k2 pt2) X.env=pure (some [x,y]))
 (hs:swapsWithSole [.Tuple [.Name x px,.Name y py] kt pt] (.Tuple [a,b] k2 pt2) pos.line X.env=pure false:=by rfl) :
 PS X (.Assign [.Tuple [.Name x px,.Name y py] kt pt] (.Tuple [a,b] k2 pt2) pos) (T1 i j ta):=by
 intro pins s σ H D I h
 rw [exec_Assign_arm]
 refine wpAny_bind (wpAny_standAt ?_)
 rw [hs]
 refine wpAny_bind (wpAny_pure ?_)
 rw [if_neg (by decide)]
 refine wpAny_bind (Tuple_ (thn (ha _ pins s σ H _ I h) fun us s1 ⟨vs,H1,I1,r1,q1⟩=>?_))
 obtain ⟨v,w,e1,q1⟩:=q1
 subst e1
 obtain ⟨u1,u2,rfl,rv,rw'⟩:∃u1 u2,us=[u1,u2]/\A9 v u1/\A9 w u2:=by
  cases r1 with
  | cons p q =>
    cases q with
    | cons p' q' =>
      cases q'
      exact ⟨_,_,rfl,p,p'⟩
 refine wpAny_newObj_type ?_ (by show 2<=sizeLine;decide)
 have I2:Inv X pins σ H1 { s1 with heap:=s1.heap.push { cls:=.type "tuple",data:=.seq [u1,u2].toArray } }:=I1.kept (t':=s1.toks) fun b o e=>Heap.get?_push_of_some _ e
 rw [hw]
 refine wpAny_bind (wpAny_pure ?_)
 show wpAny (model X.prog X.w) X.A (do rule "assign.swapped-stores";let items <- unpackItems (.ref s1.heap.objs.size) 2 none;assignInOrder [fun v=>bindName X.env y v,fun v=>bindName X.env x v] items.reverse;pure Flow.next) _ _ _
 refine wpAny_bind (wpAny_rule (wpAny_bind (unpackItems_tuple (items:=#[u1,u2]) (I.ok.hd hc) (IsTup.new s1.heap _) fun h' hx'=>?_)))
 have I3:=I2.kept (h':=h') (t':=s1.toks) fun b o e=>hx' b o (Nat.ne_of_lt (Heap.lt_size e)) e
 show wpAny _ _ (assignInOrder [fun v=>bindName X.env y v,fun v=>bindName X.env x v] [u2,u1] >>= fun _=>pure Flow.next) _ _ _
 refine wpAny_bind (assignInOrder_cons (wpAny_bindName (EI I3 hN hj (.inl hy) rw' (fun s2 I4=>?_) (.inr hy))))
 refine assignInOrder_cons (wpAny_bindName (EI I4 hN hi (.inl hx) rv (fun s3 I5=>assignInOrder_nil (wpAny_pure ?_)) (.inr hx)))
 rw [set_comm _ _ (Ne.symm hij)] at I5
 exact ⟨_,H1,I5,q1⟩
end
section
variable {X:Cx} {pos:Pos}
noncomputable def PJ (c:TT) (tb:TS):TS:=fun D σ H=>∃W:Nat->St->Hp->Prop,(∃m,W m σ H)/\∀m σ H,W m σ H ->
 c σ H fun b H1=>if b=true then ∃N:St->Hp->Prop,(∀σ' H',N σ' H'->∃m',m' < m/\W m' σ' H')/\tb { D with nx:=N,ct:=N,bk:=D.nx } σ H1 else D.nx σ H1
theorem E8 {c:Expr} {body:List Stmt} {tc:TT} {tb:TS} (hp:PassesOwn (model X.prog X.w) X.A X.env X.xe) (hc:PT X c tc) (hb:PSs X body tb):PS X (.While c body [] pos) (PJ tc tb):=by
 intro pins s σ H D I h
 obtain ⟨W,⟨m0,w0⟩,turn⟩:=h
 refine wpAny_While (codeAny_whileLoop (fun n s'=>∃σ' H',Inv X pins σ' H' s'/\W n σ' H') ?_ m0 ⟨σ,H,I,w0⟩)
 rintro n s1 ⟨σ1,H1,I1,w1⟩
 refine wpAny_passesOwn hp (thn (hc pins s1 σ1 H1 _ I1 (turn n σ1 H1 w1)) fun b s2 ⟨H2,I2,q2⟩=>?_)
 cases b with
 | true =>
   obtain ⟨N,hN,q2⟩:=q2
   rw [if_pos rfl]
   refine wpAny_passesOwn hp (thn (hb pins s2 σ1 H2 _ I2 q2) fun f s3 q3=>?_)
   cases f with
   | next =>
     obtain ⟨σ3,H3,I3,n3⟩:=q3
     obtain ⟨m',hm,w3⟩:=hN σ3 H3 n3
     exact ⟨m',hm,σ3,H3,I3,w3⟩
   | cont =>
     obtain ⟨σ3,H3,I3,n3⟩:=q3
     obtain ⟨m',hm,w3⟩:=hN σ3 H3 n3
     exact ⟨m',hm,σ3,H3,I3,w3⟩
   | brk=>exact q3
   | ret v=>exact q3
 | false =>
   rw [if_neg Bool.false_ne_true]
   exact wpAny_execs_nil ⟨σ1,H2,I2,q2⟩
end
structure It where
 go:Nat->Hp->Prop
 yld:Nat->Hp->V->Hp->Prop
 stop:Nat->Hp->Prop
def Go (X:Cx) (pins:List (Addr × Obj)) (H:Hp) (b:Addr):Prop :=
 H b=none/\b≠X.env.locals/\b ∉ X.fs/\(b∈X.ex\/X.s₀.heap.objs.size<=b)/\(∀x c,X.env.cells.lookup x=some c->c≠b)/\∀p∈X.pn++pins,p.1≠b
theorem Inv.fpOk {X:Cx} {pins:List (Addr × Obj)} {σ:St} {H H':Hp} {s:Shared} {b:Addr} (I:Inv X pins σ H s) (hb:s.heap.objs.size<=b) (hn:H' b=none):Go X pins H' b:=by
 refine ⟨hn,Nat.ne_of_gt (Nat.lt_of_lt_of_le I.lt hb),I.nofs hb,.inr (Nat.le_trans I.sz hb),fun x c e z=>?_,fun p hp z=>?_⟩
 ·obtain ⟨v,q⟩:=I.cell x c e
  exact absurd (Nat.lt_of_lt_of_le q.lt (by rw [z];exact hb)) (Nat.lt_irrefl _)
 ·exact absurd (Nat.lt_of_lt_of_le (Heap.lt_size (I.pin p hp).1) (by rw [z];exact hb)) (Nat.lt_irrefl _)
structure JJ (P:Program) (w:World) (K:PySem.W.Frag) (tg:Expr) (J:It) (fp:List Addr) (it:Addr) (tn:Nat->Heap->Prop):Prop where
 mem:it∈fp
 obj:∀i h,tn i h->∀b∈fp,∃o,h.get? b=some o/\∀v,o.data≠.cell v
 keep:∀i h h',tn i h->(∀b∈fp,∀o,h.get? b=some o->h'.get? b=some o)->tn i h'
 item:∀(X:Cx),X.prog=P->X.w=w->X.K=K->X.calm=true->∀(i:Nat) (pins:List (Addr × Obj)) (s:Shared) (σ:St) (H:Hp) (E:Value->Shared->Prop),Inv X pins σ H s->(∀b∈fp,Go X pins H b)->tn i s.heap->J.go i H ->
  wpAny (model P w) X.A (pyNext (.ref it)) (fun r s1=>∃u,r=some u /\
   wpAny (model P w) X.A (letOwnedTupleGo tg (.ref it) u) (fun _ s2=>∃x H',Inv X pins σ H' s2/\A9 x u/\J.yld i H x H'/\tn (i+1) s2.heap/\∀b∈fp,H' b=none) E s1) E s
 done:∀(X:Cx),X.prog=P->X.w=w->X.K=K->X.calm=true->∀(i:Nat) (pins:List (Addr × Obj)) (s:Shared) (σ:St) (H:Hp) (E:Value->Shared->Prop),Inv X pins σ H s->(∀b∈fp,Go X pins H b)->tn i s.heap->J.stop i H ->
  wpAny (model P w) X.A (pyNext (.ref it)) (fun r s1=>r=none/\Inv X pins σ H s1) E s
 self:∀(A:Around) (i:Nat) (s:Shared) (Q:Value->Shared->Prop) (E:Value->Shared->Prop),tn i s.heap->Q (.ref it) s->wpAny (model P w) A (pyIter (.ref it)) Q E s
abbrev TI:=St->Hp->(It->Hp->Prop)->Prop
noncomputable def PIE (X:Cx) (pins:List (Addr × Obj)) (σ:St) (tg:Expr) (R:It->Hp->Prop) (itv:Value) (s2:Shared):Prop :=
 ∃(it:Addr) (fp:List Addr) (tn:Nat->Heap->Prop) (J:It) (H':Hp),itv=.ref it/\Inv X pins σ H' s2/\JJ X.prog X.w X.K tg J fp it tn/\tn 0 s2.heap/\(∀b∈fp,Go X pins H' b)/\R J H'
def PI (X:Cx) (tg iter:Expr) (wi:TI):Prop :=
 ∀(pins:List (Addr × Obj)) (s:Shared) (σ:St) (H:Hp) (R:It->Hp->Prop),Inv X pins σ H s->wi σ H R ->
  wpAny (model X.prog X.w) X.A (eval iter X.env) (fun v s1=>wpAny (model X.prog X.w) X.A (pyIter v) (PIE X pins σ tg R) X.xe s1) X.xe s
theorem NY {M:Model} {A:Around} {E:Value->Shared->Prop} {s:Shared} {tg:Expr} {it:Addr} {u:Value} {o:Obj} {n:String} {vs:Array Value} {Q:Unit->Shared->Prop} (ho:s.heap.get? it=some o) (hc:o.cls=.type n) (hd:o.data=.fields vs)
 (hn:["enumerate","zip","dict_itemiterator","dict_reverseitemiterator","odict_iterator","itertools.zip_longest","itertools.pairwise"].contains n=false) (hQ:Q () s):wpAny M A (letOwnedTupleGo tg (.ref it) u) Q E s:=by
 unfold letOwnedTupleGo
 cases tg <;> first
  | exact wpAny_pure hQ
  | (cases u <;> first
   | exact wpAny_pure hQ
   | (refine wpAny_bind (wpAny_load ho ?_)
      rw [hc,hd]
      show wpAny M A (if (["enumerate","zip","dict_itemiterator","dict_reverseitemiterator","odict_iterator","itertools.zip_longest","itertools.pairwise"].contains n && vs[0]? == some (rawInt _))=true then _ else _) Q E s
      rw [if_neg (by intro h;rw [hn,Bool.false_and] at h;cases h)]
      exact wpAny_pure hQ))
noncomputable def Itl (K:PySem.W.Frag) (a:Addr):It :=
 ⟨fun i H=>∃xs x,SqL K H a xs/\xs[i]?=some x,fun i H x H'=>H'=H/\∀xs,SqL K H a xs->xs[i]?=some x,fun i H=>∃xs,SqL K H a xs/\xs.length<=i⟩
noncomputable def Itt (K:PySem.W.Frag) (a:Addr):It :=
 ⟨fun i H=>∃xs x,SqT K H a xs/\xs[i]?=some x,fun i H x H'=>H'=H/\∀xs,SqT K H a xs->xs[i]?=some x,fun i H=>∃xs,SqT K H a xs/\xs.length<=i⟩
noncomputable def Itr (lo:Int) (n:Nat):It:=⟨fun i _=>i < n,fun i H x H'=>H'=H/\x=.int (lo+i),fun i _=>n<=i⟩
theorem Ni {P:Program} {w:World} {K:PySem.W.Frag} {tg:Expr} (a it:Addr):JJ P w K tg (Itl K a) [it] it (fun i h=>h.IsListIter it a i) where
 mem:=by simp
 obj:=fun i h st b hb=>by
  have e:b=it:=by simpa using hb
  subst e
  obtain ⟨o,e,c,d⟩:=st
  exact ⟨o,e,fun v z=>by rw [d] at z;cases z⟩
 keep:=fun i h h' st k=>st.at fun o e=>k it (by simp) o e
 item:=by
  intro X hP hw hK hc i pins s σ H E I hf st hg
  subst hP hw hK
  obtain ⟨xs,x,hq,hx⟩:=hg
  obtain ⟨its,rv,p,hz⟩:=I.list hq
  obtain ⟨u,hu,ru⟩:=rv.get hx
  obtain ⟨f0,f1,f2,f3,f4,f5⟩:=hf it (by simp)
  refine wpAny_pyNext_list_item st p.isList (x:=u) (by simpa using hu) fun h' st' sb=>?_
  have I1:Inv X pins σ H { s with heap:=h' }:=I.turned (t':=s.toks) (fun b o hb e=>(sb.2 b hb).trans e) f0 f1 f3 f4 f5
  obtain ⟨o,e,c,d⟩:=id st'
  exact ⟨u,rfl,NY (s:={ s with heap:=h' }) e c d (by decide) ⟨x,H,I1,ru,⟨rfl,fun ys hy=>by rw [I.list_inj hy hq];exact hx⟩,st',fun b hb=>(hf b hb).1⟩⟩
 done:=by
  intro X hP hw hK hc i pins s σ H E I hf st hg
  subst hP hw hK
  obtain ⟨xs,hq,hx⟩:=hg
  obtain ⟨its,rv,p,hz⟩:=I.list hq
  obtain ⟨f0,f1,f2,f3,f4,f5⟩:=hf it (by simp)
  have hl:=rv.length
  exact wpAny_pyNext_list_end (I.ok.hd hc) st p.isList (by simp;omega) fun h' eb=>⟨rfl,I.turned (t':=s.toks) (fun b o hb e=>eb b o hb e) f0 f1 f3 f4 f5⟩
 self:=fun _ _ _ _ _ st h=>wpAny_pyIter_listiter st h
theorem LX {P:Program} {w:World} {K:PySem.W.Frag} {tg:Expr} (a it:Addr):JJ P w K tg (Itt K a) [it] it (fun i h=>h.IsTupleIter it a i) where
 mem:=by simp
 obj:=fun i h st b hb=>by
  have e:b=it:=by simpa using hb
  subst e
  obtain ⟨o,e,c,d⟩:=st
  exact ⟨o,e,fun v z=>by rw [d] at z;cases z⟩
 keep:=fun i h h' st k=>st.at fun o e=>k it (by simp) o e
 item:=by
  intro X hP hw hK hc i pins s σ H E I hf st hg
  subst hP hw hK
  obtain ⟨xs,x,hq,hx⟩:=hg
  obtain ⟨its,rv,p,hz⟩:=I.tuple hq
  obtain ⟨u,hu,ru⟩:=rv.get hx
  obtain ⟨f0,f1,f2,f3,f4,f5⟩:=hf it (by simp)
  refine wpAny_pyNext_tuple_item st (show s.heap.IsTuple a its.toArray from p) (x:=u) (by simpa using hu) fun h' st' sb=>?_
  have I1:Inv X pins σ H { s with heap:=h' }:=I.turned (t':=s.toks) (fun b o hb e=>(sb.2 b hb).trans e) f0 f1 f3 f4 f5
  obtain ⟨o,e,c,d⟩:=id st'
  exact ⟨u,rfl,NY (s:={ s with heap:=h' }) e c d (by decide) ⟨x,H,I1,ru,⟨rfl,fun ys hy=>by rw [I.tuple_inj hy hq];exact hx⟩,st',fun b hb=>(hf b hb).1⟩⟩
 done:=by
  intro X hP hw hK hc i pins s σ H E I hf st hg
  subst hP hw hK
  obtain ⟨xs,hq,hx⟩:=hg
  obtain ⟨its,rv,p,hz⟩:=I.tuple hq
  obtain ⟨f0,f1,f2,f3,f4,f5⟩:=hf it (by simp)
  have hl:=rv.length
  exact wpAny_pyNext_tuple_end (I.ok.hd hc) st (show s.heap.IsTuple a its.toArray from p) (by simp;omega) fun h' eb=>⟨rfl,I.turned (t':=s.toks) (fun b o hb e=>eb b o hb e) f0 f1 f3 f4 f5⟩
 self:=fun _ _ _ _ _ st h=>wpAny_pyIter_tupleiter st h
theorem LH {P:Program} {w:World} {K:PySem.W.Frag} {tg:Expr} (it:Addr) (lo:Int) (n:Nat):JJ P w K tg (Itr lo n) [it] it (fun i h=>IsRangeIter h it (lo+(i:Nat)*1) ((n:Int) - (i:Nat)) 1) where
 mem:=by simp
 obj:=fun i h st b hb=>by
  have e:b=it:=by simpa using hb
  subst e
  exact ⟨_,st,fun v z=>by
   have z':Data.fields _=Data.cell v:=z
   cases z'⟩
 keep:=fun i h h' st k=>k it (by simp) _ st
 item:=by
  intro X hP hw hK hc i pins s σ H E I hf st hg
  subst hP hw hK
  obtain ⟨f0,f1,f2,f3,f4,f5⟩:=hf it (by simp)
  have W:=Walks.range (prog:=X.prog) (w:=X.w) (I.ok.hd hc) it lo 1 n
  refine W.item i s _ _ hg st fun v h' tk hv st' kk=>?_
  obtain ⟨t,rfl⟩:=hv
  have I1:Inv X pins σ H { s with heap:=h',toks:=tk }:=I.turned (fun b o hb e=>kk b o (by simpa using hb) e) f0 f1 f3 f4 f5
  refine ⟨_,rfl,NY (s:={ s with heap:=h',toks:=tk }) (n:="range_iterator") st' rfl rfl (by decide) ⟨.int (lo+i),H,I1,⟨t,?_⟩,⟨rfl,rfl⟩,st',fun b hb=>(hf b hb).1⟩⟩
  rw [Int.mul_one]
 done:=by
  intro X hP hw hK hc i pins s σ H E I hf st hg
  subst hP hw hK
  obtain ⟨f0,f1,f2,f3,f4,f5⟩:=hf it (by simp)
  exact wpAny_pyNext_range_end (I.ok.hd hc) st (by have:n<=i:=hg;omega) fun h' eb=>⟨rfl,I.turned (t':=s.toks) (fun b o hb e=>eb b o hb e) f0 f1 f3 f4 f5⟩
 self:=fun _ _ _ _ _ st h=>wpAny_pyIter_rangeiter st h
end L2
namespace L2
open PySem PySem.Spec PyProof.Rows
section
variable {X:Cx} {tg:Expr}
noncomputable def Rz (K:PySem.W.Frag) (tl:TE):TI:=fun σ H R=>tl σ H fun x H1=>∃a,x=.ref a/\(∃xs,SqL K H1 a xs)/\R (Itl K a) H1
noncomputable def T3 (K:PySem.W.Frag) (tl:TE):TI:=fun σ H R=>tl σ H fun x H1=>∃a,x=.ref a/\(∃xs,SqT K H1 a xs)/\R (Itt K a) H1
theorem Bd {l:Expr} {tl:TE} (hl:PE X l tl):PI X tg l (Rz X.K tl):=by
 intro pins s σ H R I h
 refine thn (hl pins s σ H _ I h) fun v s1 ⟨x,H1,I1,r1,q1⟩=>?_
 obtain ⟨a,e,⟨xs,hq⟩,q⟩:=q1
 subst e
 cases r1
 obtain ⟨its,rv,p,hz⟩:=I1.list hq
 refine wpAny_pyIter_list p.isList ?_
 refine ⟨s1.heap.objs.size,[s1.heap.objs.size],_,_,H1,rfl,I1.kept (t':=s1.toks) fun b o e=>Heap.get?_push_of_some _ e,Ni a _,⟨_,Heap.get?_push_size _ rfl,rfl,rfl⟩,fun b hb=>?_,q⟩
 have e:b=s1.heap.objs.size:=by simpa using hb
 subst e
 exact I1.fpOk (Nat.le_refl _) (I1.hok.fresh (Nat.le_refl _))
theorem PD {l:Expr} {tl:TE} (hl:PE X l tl):PI X tg l (T3 X.K tl):=by
 intro pins s σ H R I h
 refine thn (hl pins s σ H _ I h) fun v s1 ⟨x,H1,I1,r1,q1⟩=>?_
 obtain ⟨a,e,⟨xs,hq⟩,q⟩:=q1
 subst e
 cases r1
 obtain ⟨its,rv,p,hz⟩:=I1.tuple hq
 refine wpAny_pyIter_tuple (show s1.heap.IsTuple a its.toArray from p) ?_
 refine ⟨s1.heap.objs.size,[s1.heap.objs.size],_,_,H1,rfl,I1.kept (t':=s1.toks) fun b o e=>Heap.get?_push_of_some _ e,LX a _,⟨_,Heap.get?_push_size _ rfl,rfl,rfl⟩,fun b hb=>?_,q⟩
 have e:b=s1.heap.objs.size:=by simpa using hb
 subst e
 exact I1.fpOk (Nat.le_refl _) (I1.hok.fresh (Nat.le_refl _))
theorem NX {pins:List (Addr × Obj)} {σ:St} {H:Hp} {s:Shared} {R:It->Hp->Prop} {E:Value->Shared->Prop} {lo hi:Int} {t u v:Tok} {tk:Nat} (I:Inv X pins σ H s) (h1:-(2 ^ 62)<=lo) (h2:lo < 2 ^ 62) (h3:-(2 ^ 62)<=hi) (h4:hi < 2 ^ 62)
 (q:R (Itr lo (hi - lo).toNat) H):wpAny (model X.prog X.w) X.A (pyIter (.ref s.heap.objs.size)) (PIE X pins σ tg R) E { s with heap:=s.heap.push { cls:=.type "range",data:=.fields #[.int lo t,.int hi u,.int 1 v] },toks:=tk }:=by
 refine wpAny_pyIter_range (IsRange.new ..) (small_one h1 h2 h3 h4) ?_
 have I1:Inv X pins σ H { s with heap:=s.heap.push { cls:=.type "range",data:=.fields #[.int lo t,.int hi u,.int 1 v] },toks:=tk }:=I.kept fun b o e=>Heap.get?_push_of_some _ e
 refine ⟨(s.heap.push { cls:=.type "range",data:=.fields #[.int lo t,.int hi u,.int 1 v] }).objs.size,[(s.heap.push { cls:=.type "range",data:=.fields #[.int lo t,.int hi u,.int 1 v] }).objs.size],_,_,H,rfl,
  I1.kept (t':=tk) fun b o e=>Heap.get?_push_of_some _ e,LH _ lo (hi - lo).toNat,?_,fun b hb=>?_,q⟩
 ·have e1:lo+((0:Nat):Int)*1=lo:=by simp
  have e2:(((hi - lo).toNat:Nat):Int) - ((0:Nat):Int)=Builtin.Range.rangeSize lo hi 1:=by rw [rangeSize_one];split <;> omega
  show IsRangeIter _ _ (lo+((0:Nat):Int)*1) ((((hi - lo).toNat:Nat):Int) - ((0:Nat):Int)) 1
  rw [e1,e2]
  exact Heap.get?_push_size _ rfl
 ·have e:b=(s.heap.push { cls:=.type "range",data:=.fields #[.int lo t,.int hi u,.int 1 v] }).objs.size:=by simpa using hb
  subst e
  exact I1.fpOk (Nat.le_refl _) (I1.hok.fresh (Nat.le_refl _))
noncomputable def SB (ta:TA):TI:=fun σ H R=>ta σ H fun vs H1=>∃j:Int,vs=[.int j]/\-(2 ^ 62)<=j/\j < 2 ^ 62/\R (Itr 0 j.toNat) H1
theorem Be {a:Expr} {ta:TA} {p pos:Pos} (hg:Gl X "range") (hm:X.mg "range"=none) (ha:PA X [a] ta) (hs:starEach [a] X.env=[(false,eval a X.env)]:=by rfl):PI X tg (.Call (.Name "range" p) [a] [] pos) (SB ta):=by
 intro pins s σ H R I h
 refine Call_ (Ea I hg hm boot_range (PyProof.Rows.callWith_type1 (thn (ha pos pins s σ H _ I h) fun us s1 ⟨vs,H1,I1,r1,q1⟩=>?_) hs rfl))
 obtain ⟨j,e,q1,q2,q⟩:=q1
 subst e
 cases r1 with
 | cons r rr =>
   cases rr
   obtain ⟨t,rfl⟩:=r
   exact call_range_1 (NX I1 (by omega) (by omega) q1 q2 (by simpa using q))
noncomputable def T2 (wi:TI) (g:TG) (tb:TS):TS:=fun D σ H=>wi σ H fun J H1=>∃W:Nat->Nat->St->Hp->Prop,(∃m,W 0 m σ H1)/\∀i m σ H,W i m σ H ->
 (J.stop i H/\D.nx σ H)\/(J.go i H/\∃N:St->Hp->Prop,(∀σ' H',N σ' H'->∃m',m' < m/\W (i+1) m' σ' H')/\∀x H',J.yld i H x H'->g x σ H' fun σ2 H2=>tb { D with nx:=N,ct:=N,bk:=D.nx } σ2 H2)
noncomputable def Fv (fp:List Addr) (h:Heap):List (Addr × Obj):=fp.filterMap fun b=>(h.get? b).map fun o=>(b,o)
theorem Co {fp:List Addr} {h:Heap} {b:Addr} {o:Obj} (hb:b∈fp) (e:h.get? b=some o):(b,o)∈Fv fp h:=mem_filterMap.mpr ⟨b,hb,by rw [e];rfl⟩
theorem NH {fp:List Addr} {h:Heap} {p:Addr × Obj} (hp:p∈Fv fp h):p.1∈fp/\h.get? p.1=some p.2:=by
 obtain ⟨b,hb,e⟩:=mem_filterMap.mp hp
 cases q:h.get? b with
 | none=>rw [q] at e;cases e
 | some o =>
   rw [q] at e
   have e':(b,o)=p:=Option.some.inj e
   subst e'
   exact ⟨hb,q⟩
theorem Inv.pinned {pins:List (Addr × Obj)} {σ:St} {H:Hp} {s:Shared} {fp:List Addr} (I:Inv X pins σ H s) (hf:∀b∈fp,Go X pins H b) (ho:∀b∈fp,∃o,s.heap.get? b=some o/\∀v,o.data≠.cell v):Inv X (pins++Fv fp s.heap) σ H s :=
 I.pins_of fun p hp=>(mem_append.mp hp).elim (fun z=>I.pin p (mem_append_right _ z)) fun z=>by
  obtain ⟨hb,e⟩:=NH z
  obtain ⟨f0,f1,f2,_⟩:=hf p.1 hb
  obtain ⟨o,e',d⟩:=ho p.1 hb
  rw [e] at e';cases e'
  exact ⟨e,f0,f1,f2,d⟩
theorem Inv.unpinned {pins pl:List (Addr × Obj)} {σ:St} {H:Hp} {s:Shared} (I:Inv X (pins++pl) σ H s):Inv X pins σ H s:=I.pins_of fun p hp=>I.pin p (mem_append_right _ (mem_append_left _ hp))
theorem By {iter:Expr} {body:List Stmt} {wi:TI} {g:TG} {tb:TS} {pos:Pos} (hp:PassesOwn (model X.prog X.w) X.A X.env X.xe) (hc:X.calm=true) (hi:PI X tg iter wi) (hg:PG X tg g) (hb:PSs X body tb)
 (hs:∀x,foldedSetIterable iter X.env x=pure x:=by intro _;rfl):PS X (.For tg iter body [] pos) (T2 wi g tb):=by
 intro pins s σ H D I h
 refine wpAny_For (thn (hi pins s σ H _ I h) fun v s1 h1=>thn h1 fun itv s2 h2=>?_) hs
 obtain ⟨it,fp,tn,J,H2,e,I2,T,st2,f2,W,⟨m0,w0⟩,turn⟩:=h2
 subst e
 have stat:∀{H':Hp},(∀b∈fp,H' b=none)->∀b∈fp,Go X pins H' b:=fun hn b hb=>⟨hn b hb,(f2 b hb).2⟩
 refine codeAny_forLoop_any (fun n s'=>∃i σ' H',Inv X pins σ' H' s'/\tn i s'.heap/\(∀b∈fp,H' b=none)/\W i n σ' H') ?_ m0 ⟨0,σ,H2,I2,st2,fun b hb=>(f2 b hb).1,w0⟩
 rintro n s3 ⟨i,σ3,H3,I3,st3,fr3,w3⟩
 rcases turn i n σ3 H3 w3 with ⟨stop,qn⟩ | ⟨go,N,hN,step⟩
 ·refine wpAny_passesOwn hp (thn (T.done X rfl rfl rfl hc i pins s3 σ3 H3 X.xe I3 (stat fr3) st3 stop) fun r s4 ⟨hr,I4⟩=>?_)
  subst hr
  exact wpAny_execs_nil ⟨σ3,H3,I4,qn⟩
 ·refine wpAny_passesOwn hp (thn (T.item X rfl rfl rfl hc i pins s3 σ3 H3 X.xe I3 (stat fr3) st3 go) fun r s4 ⟨u,hr,h4⟩=>?_)
  subst hr
  refine wpAny_passesOwn hp (thn h4 fun _ s5 ⟨x,H5,I5,r5,y5,st5,fr5⟩=>?_)
  have I5':=I5.pinned (stat fr5) (T.obj _ _ st5)
  refine wpAny_passesOwn hp (thn (hg _ s5 σ3 H5 x u _ I5' r5 (step x H5 y5)) fun _ s6 ⟨σ6,H6,I6,q6⟩=>?_)
  refine wpAny_passesOwn hp (thn (hb _ s6 σ6 H6 _ I6 q6) fun f s7 q7=>?_)
  have again:∀{σ7:St} {H7:Hp},Inv X (pins++Fv fp s5.heap) σ7 H7 s7->N σ7 H7->∃m,m < n/\∃i σ' H',Inv X pins σ' H' s7/\tn i s7.heap/\(∀b∈fp,H' b=none)/\W i m σ' H':=fun {σ7 H7} I7 n7=>by
   obtain ⟨m',hm,w7⟩:=hN σ7 H7 n7
   refine ⟨m',hm,i+1,σ7,H7,I7.unpinned,T.keep _ _ _ st5 fun b hb o e=>(I7.pin (b,o) (mem_append_right _ (mem_append_right _ (Co hb e)))).1,fun b hb=>?_,w7⟩
   obtain ⟨o,e,d⟩:=T.obj _ _ st5 b hb
   exact (I7.pin (b,o) (mem_append_right _ (mem_append_right _ (Co hb e)))).2.1
  cases f with
  | next=>obtain ⟨σ7,H7,I7,n7⟩:=q7;exact again I7 n7
  | cont=>obtain ⟨σ7,H7,I7,n7⟩:=q7;exact again I7 n7
  | brk=>obtain ⟨σ7,H7,I7,q7⟩:=q7;exact ⟨σ7,H7,I7.unpinned,q7⟩
  | ret v=>obtain ⟨x7,σ7,H7,I7,r7,q7⟩:=q7;exact ⟨x7,σ7,H7,I7.unpinned,r7,q7⟩
end
theorem Dl {K:PySem.W.Frag} {a:Addr} {xs:List V} {g:TG} {tb:TS} {D:EB} {σ:St} {H:Hp} (Pv:Nat->St->Hp->Prop) (h0:Pv 0 σ H) (hl:∀i σ H,i<=xs.length->Pv i σ H->SqL K H a xs)
 (hs:∀i x σ H,xs[i]?=some x->Pv i σ H->g x σ H fun σ2 H2=>tb { D with nx:=Pv (i+1),ct:=Pv (i+1),bk:=D.nx } σ2 H2) (hd:∀σ H,Pv xs.length σ H->D.nx σ H) :
 ∃W:Nat->Nat->St->Hp->Prop,(∃m,W 0 m σ H)/\∀i m σ H,W i m σ H ->
  ((Itl K a).stop i H/\D.nx σ H)\/((Itl K a).go i H/\∃N:St->Hp->Prop,(∀σ' H',N σ' H'->∃m',m' < m/\W (i+1) m' σ' H')/\∀x H',(Itl K a).yld i H x H'->g x σ H' fun σ2 H2=>tb { D with nx:=N,ct:=N,bk:=D.nx } σ2 H2):=by
 refine ⟨fun i m σ H=>m=xs.length - i/\i<=xs.length/\Pv i σ H,⟨xs.length,by simp,Nat.zero_le _,h0⟩,?_⟩
 rintro i m σ H ⟨rfl,hi,p⟩
 have q:=hl i σ H hi p
 by_cases hlt:i < xs.length
 ·refine .inr ⟨⟨xs,xs[i],q,by simp [hlt]⟩,Pv (i+1),fun σ' H' p'=>⟨xs.length - (i+1),by omega,rfl,hlt,p'⟩,fun x H' y=>?_⟩
  obtain ⟨e,y⟩:=y
  subst e
  exact hs i x σ _ (y xs q) p
 ·have e:i=xs.length:=by omega
  subst e
  exact .inl ⟨⟨xs,q,Nat.le_refl _⟩,hd σ H p⟩
theorem Mr {K:PySem.W.Frag} {a:Addr} {xs:List V} {g:TG} {tb:TS} {D:EB} {σ:St} {H:Hp} (Pv:Nat->St->Hp->Prop) (h0:Pv 0 σ H) (hl:∀i σ H,i<=xs.length->Pv i σ H->SqT K H a xs)
 (hs:∀i x σ H,xs[i]?=some x->Pv i σ H->g x σ H fun σ2 H2=>tb { D with nx:=Pv (i+1),ct:=Pv (i+1),bk:=D.nx } σ2 H2) (hd:∀σ H,Pv xs.length σ H->D.nx σ H) :
 ∃W:Nat->Nat->St->Hp->Prop,(∃m,W 0 m σ H)/\∀i m σ H,W i m σ H ->
  ((Itt K a).stop i H/\D.nx σ H)\/((Itt K a).go i H/\∃N:St->Hp->Prop,(∀σ' H',N σ' H'->∃m',m' < m/\W (i+1) m' σ' H')/\∀x H',(Itt K a).yld i H x H'->g x σ H' fun σ2 H2=>tb { D with nx:=N,ct:=N,bk:=D.nx } σ2 H2):=by
 refine ⟨fun i m σ H=>m=xs.length - i/\i<=xs.length/\Pv i σ H,⟨xs.length,by simp,Nat.zero_le _,h0⟩,?_⟩
 rintro i m σ H ⟨rfl,hi,p⟩
 have q:=hl i σ H hi p
 by_cases hlt:i < xs.length
 ·refine .inr ⟨⟨xs,xs[i],q,by simp [hlt]⟩,Pv (i+1),fun σ' H' p'=>⟨xs.length - (i+1),by omega,rfl,hlt,p'⟩,fun x H' y=>?_⟩
  obtain ⟨e,y⟩:=y
  subst e
  exact hs i x σ _ (y xs q) p
 ·have e:i=xs.length:=by omega
  subst e
  exact .inl ⟨⟨xs,q,Nat.le_refl _⟩,hd σ H p⟩
theorem B9 {lo:Int} {n:Nat} {g:TG} {tb:TS} {D:EB} {σ:St} {H:Hp} (Pv:Nat->St->Hp->Prop) (h0:Pv 0 σ H)
 (hs:∀i σ H,i < n->Pv i σ H->g (.int (lo+i)) σ H fun σ2 H2=>tb { D with nx:=Pv (i+1),ct:=Pv (i+1),bk:=D.nx } σ2 H2) (hd:∀σ H,Pv n σ H->D.nx σ H) :
 ∃W:Nat->Nat->St->Hp->Prop,(∃m,W 0 m σ H)/\∀i m σ H,W i m σ H ->
  ((Itr lo n).stop i H/\D.nx σ H)\/((Itr lo n).go i H/\∃N:St->Hp->Prop,(∀σ' H',N σ' H'->∃m',m' < m/\W (i+1) m' σ' H')/\∀x H',(Itr lo n).yld i H x H'->g x σ H' fun σ2 H2=>tb { D with nx:=N,ct:=N,bk:=D.nx } σ2 H2):=by
 refine ⟨fun i m σ H=>m=n - i/\i<=n/\Pv i σ H,⟨n,by simp,Nat.zero_le _,h0⟩,?_⟩
 rintro i m σ H ⟨rfl,hi,p⟩
 by_cases hlt:i < n
 ·refine .inr ⟨hlt,Pv (i+1),fun σ' H' p'=>⟨n - (i+1),by omega,rfl,hlt,p'⟩,fun x H' y=>?_⟩
  obtain ⟨e,y⟩:=y
  subst e y
  exact hs i σ _ hlt p
 ·have e:i=n:=by omega
  subst e
  exact .inl ⟨Nat.le_refl _,hd σ H p⟩
theorem ED {c:TT} {tb:TS} {D:EB} {σ:St} {H:Hp} (Pv:St->Hp->Prop) (μ:St->Hp->Nat) (h0:Pv σ H)
 (hs:∀σ H,Pv σ H->c σ H fun b H1=>if b=true then tb { D with nx:=fun σ' H'=>Pv σ' H'/\μ σ' H' < μ σ H,ct:=fun σ' H'=>Pv σ' H'/\μ σ' H' < μ σ H,bk:=D.nx } σ H1 else D.nx σ H1)
 (mono:∀σ H Q Q',(∀b H1,Q b H1->Q' b H1)->c σ H Q->c σ H Q'):PJ c tb D σ H:=by
 refine ⟨fun m σ H=>m=μ σ H/\Pv σ H,⟨_,rfl,h0⟩,?_⟩
 rintro m σ H ⟨rfl,p⟩
 refine mono σ H _ _ (fun b H1 q=>?_) (hs σ H p)
 cases b with
 | true=>exact ⟨_,fun σ' H' ⟨p',l⟩=>⟨_,l,rfl,p'⟩,q⟩
 | false=>exact q
end L2
namespace L2
open PySem PySem.Spec PyProof.Rows
abbrev R2:=V->V->Hp->VK->Prop
def OpR (X:Cx) (f:Value->Value->Sem Value) (r:R2):Prop :=
 ∀(pins:List (Addr × Obj)) (s:Shared) (σ:St) (H:Hp) (x y:V) (v u:Value) (Q:VK),Inv X pins σ H s->A9 x v->A9 y u->r x y H Q ->
  wpAny (model X.prog X.w) X.A (f v u) (EP X pins σ Q) X.xe s
def UnR (X:Cx) (f:Value->Sem Value) (r:V->Hp->VK->Prop):Prop :=
 ∀(pins:List (Addr × Obj)) (s:Shared) (σ:St) (H:Hp) (x:V) (v:Value) (Q:VK),Inv X pins σ H s->A9 x v->r x H Q ->
  wpAny (model X.prog X.w) X.A (f v) (EP X pins σ Q) X.xe s
def C6 (X:Cx) (f:Value) (r:List V->Hp->VK->Prop):Prop :=
 ∀(pins:List (Addr × Obj)) (s:Shared) (σ:St) (H:Hp) (xs:List V) (us:List Value) (Q:VK),Inv X pins σ H s->A5 xs us->r xs H Q ->
  wpAny (model X.prog X.w) X.A (call f us) (EP X pins σ Q) X.xe s
def tOp (r:R2) (ta tb:TE):TE:=fun σ H Q=>ta σ H fun x H1=>tb σ H1 fun y H2=>r x y H2 Q
def tUn (r:V->Hp->VK->Prop) (ta:TE):TE:=fun σ H Q=>ta σ H fun x H1=>r x H1 Q
noncomputable def rI (C:Int->Int->Prop) (g:Int->Int->V):R2:=fun x y H Q=>∃i j,x=.int i/\y=.int j/\C i j/\Q (g i j) H
def rI0 (g:Int->Int->V):R2:=fun x y H Q=>∃i j,x=.int i/\y=.int j/\Q (g i j) H
def rU (g:Int->V):V->Hp->VK->Prop:=fun x H Q=>∃i,x=.int i/\Q (g i) H
section
variable {X:Cx} {a b c:Expr} {ta tb tc:TE} {pos:Pos}
theorem Sw (ha:PE X a ta) (hb:PE X b tb) {pins:List (Addr × Obj)} {s:Shared} {σ:St} {H:Hp} {R:V->V->Hp->Prop} (I:Inv X pins σ H s)
 (h:ta σ H fun x H1=>tb σ H1 fun y H2=>R x y H2) {Q:Value->Shared->Prop} {f:Value->Value->Sem Value}
 (hf:∀v u s2 x y H2,Inv X pins σ H2 s2->A9 x v->A9 y u->R x y H2->wpAny (model X.prog X.w) X.A (f v u) Q X.xe s2) :
 wpAny (model X.prog X.w) X.A (eval a X.env) (fun v s₁=>wpAny (model X.prog X.w) X.A (eval b X.env) (fun u s₂=>wpAny (model X.prog X.w) X.A (f v u) Q X.xe s₂) X.xe s₁) X.xe s:=by
 refine thn (ha pins s σ H _ I h) fun v s1 ⟨x,H1,I1,r1,q1⟩=>?_
 refine thn (hb pins s1 σ H1 _ I1 q1) fun u s2 ⟨y,H2,I2,r2,q2⟩=>?_
 exact hf v u s2 x y H2 I2 r1 r2 q2
theorem Aj {op:Operator} {r:R2} (ho:OpR X (binaryOp op) r) (ha:PE X a ta) (hb:PE X b tb):PE X (.BinOp a op b pos) (tOp r ta tb):=by
 intro pins s σ H Q I h
 exact wpAny_BinOp (Sw ha hb I h fun v u s2 x y H2 I2 rx ry q=>ho pins s2 σ H2 x y v u Q I2 rx ry q)
theorem Rn {op:UnaryOp} {r:V->Hp->VK->Prop} (ho:UnR X (unaryOp op) r) (ha:PE X a ta):PE X (.UnaryOp op a pos) (tUn r ta):=by
 intro pins s σ H Q I h
 exact UnaryOp_ (thn (ha pins s σ H _ I h) fun v s1 ⟨x,H1,I1,r1,q1⟩=>ho pins s1 σ H1 x v Q I1 r1 q1)
theorem opI {f:Value->Value->Sem Value} {C:Int->Int->Prop} {g:Int->Int->Int}
 (rule:∀(i j:Int) (t u:Tok) (s:Shared) (Q:Value->Shared->Prop) (E:Value->Shared->Prop),C i j->Q (.int (g i j) s.toks) { s with toks:=s.toks+1 }->wpAny (model X.prog X.w) X.A (f (.int i t) (.int j u)) Q E s) :
 OpR X f (rI C fun i j=>.int (g i j)):=by
 intro pins s σ H x y v u Q I rx ry h
 obtain ⟨i,j,rfl,rfl,hc,q⟩:=h
 obtain ⟨t,rfl⟩:=rx
 obtain ⟨t',rfl⟩:=ry
 exact rule i j t t' s _ _ hc ⟨.int (g i j),H,I.tok _,⟨_,rfl⟩,q⟩
theorem S2 {f:Value->Value->Sem Value} {g:Int->Int->Int}
 (rule:∀(i j:Int) (t u:Tok) (s:Shared) (Q:Value->Shared->Prop) (E:Value->Shared->Prop),Q (.int (g i j) s.toks) { s with toks:=s.toks+1 }->wpAny (model X.prog X.w) X.A (f (.int i t) (.int j u)) Q E s) :
 OpR X f (rI0 fun i j=>.int (g i j)):=by
 intro pins s σ H x y v u Q I rx ry h
 obtain ⟨i,j,rfl,rfl,q⟩:=h
 obtain ⟨t,rfl⟩:=rx
 obtain ⟨t',rfl⟩:=ry
 exact rule i j t t' s _ _ ⟨.int (g i j),H,I.tok _,⟨_,rfl⟩,q⟩
theorem QK {f:Value->Value->Sem Value} {g:Int->Int->Bool}
 (rule:∀(i j:Int) (t u:Tok) (s:Shared) (Q:Value->Shared->Prop) (E:Value->Shared->Prop),Q (.bool (g i j)) s->wpAny (model X.prog X.w) X.A (f (.int i t) (.int j u)) Q E s) :
 OpR X f (rI0 fun i j=>.bl (g i j)):=by
 intro pins s σ H x y v u Q I rx ry h
 obtain ⟨i,j,rfl,rfl,q⟩:=h
 obtain ⟨t,rfl⟩:=rx
 obtain ⟨t',rfl⟩:=ry
 exact rule i j t t' s _ _ ⟨.bl (g i j),H,I,rfl,q⟩
def Nk (i j:Int):Prop:=0<=j/\j<=1000000/\i.natAbs < 2 ^ 64
theorem LJ (k:Nat):(0:Int)<=2 ^ k:=by
 rw [two_pow_cast]
 exact Int.natCast_nonneg _
theorem AS:OpR X (binaryOp .Add) (rI0 fun i j=>.int (i+j)):=S2 fun _ _ _ _ _ _ _ q=>add_int q
theorem C9:OpR X (binaryOp .Sub) (rI0 fun i j=>.int (i - j)):=S2 fun _ _ _ _ _ _ _ q=>sub_int q
theorem AN:OpR X (binaryOp .Mod) (rI (fun _ j=>j≠0) fun i j=>.int (i.fmod j)):=opI fun _ _ _ _ _ _ _ hc q=>mod_int' hc q
theorem IP:OpR X (binaryOp .Pow) (rI Nk fun i j=>.int (i ^ j.toNat)):=opI fun _ _ _ _ _ _ _ hc q=>pow_int_small hc.1 hc.2.1 hc.2.2 q
theorem Hd:OpR X (binaryOp .LShift) (rI Nk fun i j=>.int (i*2 ^ j.toNat)):=opI fun _ _ _ _ _ _ _ hc q=>lshift_int_small hc.1 hc.2.1 hc.2.2 q
theorem Hx:OpR X (binaryOp .RShift) (rI (fun _ j=>0<=j) fun i j=>.int (i / 2 ^ j.toNat)):=opI fun i j _ _ _ _ _ hc q =>
 rshift_int hc (by rw [Int.fdiv_eq_ediv_of_nonneg i (LJ _)];exact q)
theorem Da:OpR X (binaryOp .BitAnd) (rI0 fun i j=>.int (Builtin.bitAnd i j)):=S2 fun _ _ _ _ _ _ _ q=>and_int q
theorem unI {f:Value->Sem Value} {g:Int->Int}
 (rule:∀(i:Int) (t:Tok) (s:Shared) (Q:Value->Shared->Prop) (E:Value->Shared->Prop),Q (.int (g i) s.toks) { s with toks:=s.toks+1 }->wpAny (model X.prog X.w) X.A (f (.int i t)) Q E s) :
 UnR X f (rU fun i=>.int (g i)):=by
 intro pins s σ H x v Q I rx h
 obtain ⟨i,rfl,q⟩:=h
 obtain ⟨t,rfl⟩:=rx
 exact rule i t s _ _ ⟨.int (g i),H,I.tok _,⟨_,rfl⟩,q⟩
theorem Ss:UnR X (unaryOp .USub) (rU fun i=>.int (-i)):=unI fun _ _ _ _ _ q=>neg_int q
theorem So:UnR X (unaryOp .Invert) (rU fun i=>.int (Builtin.bitNot i)):=unI fun _ _ _ _ _ q=>invert_int q
end
noncomputable def Th:V->V->Bool
 | .non,.non=>true | .non,.int _=>true | .int _,.non=>true | .non,.bl _=>true | .bl _,.non=>true | .non,.str _=>true | .str _,.non=>true
 | .int _,.int _=>true | .bl _,.bl _=>true | .str _,.str _=>true | .byt _,.byt _=>true
 | .int _,.str _=>true | .str _,.int _=>true | .bl _,.str _=>true | .str _,.bl _=>true
 | _,_=>false
def rEq:R2:=fun x y H Q=>Th x y=true/\Q (.bl (decide (x=y))) H
def rNe:R2:=fun x y H Q=>Th x y=true/\Q (.bl (!decide (x=y))) H
theorem Mp {i j:Int}:decide (V.int i=V.int j)=(i == j):=by
 rw [Bool.eq_iff_iff]
 simp
theorem Pw {i j:Bool}:decide (V.bl i=V.bl j)=(i == j):=by
 rw [Bool.eq_iff_iff]
 simp
theorem MF {i j:Str}:decide (V.str i=V.str j)=(i == j):=by
 rw [Bool.eq_iff_iff]
 simp
theorem MJ {i j:Array UInt8}:decide (V.byt i=V.byt j)=(i.toList == j.toList):=by
 rw [Bool.eq_iff_iff]
 cases i
 cases j
 simp
section
variable {X:Cx} {a b c:Expr} {ta tb tc:TE} {pos:Pos}
theorem AI {pins:List (Addr × Obj)} {σ:St} {H:Hp} {s:Shared} {Q:VK} {k k':Bool} (I:Inv X pins σ H s) (q:Q (.bl k) H) (e:k=k'):EP X pins σ Q (.bool k') s:=by
 subst e
 exact ⟨.bl k,H,I,rfl,q⟩
theorem BX:OpR X (compareOp .Eq) rEq:=by
 intro pins s σ H x y v u Q I rx ry h
 obtain ⟨hs,q⟩:=h
 cases x with
 | non =>
   cases rx
   cases y with
   | non=>cases ry;exact PySem.EqNone.eq_none_none (AI I q (by simp))
   | bl j=>cases ry;exact PySem.EqNone.eq_none_bool (AI I q (by simp))
   | int j=>obtain ⟨t',rfl⟩:=ry;exact PySem.EqNone.eq_none_int (AI I q (by simp))
   | str j=>obtain ⟨t',rfl⟩:=ry;exact PySem.EqNone.eq_none_str (AI I q (by simp))
   | _=>exact absurd (show false=true from hs) Bool.false_ne_true
 | bl i =>
   cases rx
   cases y with
   | non=>cases ry;exact PySem.EqNone.eq_bool_none (AI I q (by simp))
   | bl j=>cases ry;exact eq_bool (AI I q Pw)
   | str j=>obtain ⟨t',rfl⟩:=ry;exact PySem.EqMixed.eq_bool_str (AI I q (by simp))
   | _=>exact absurd (show false=true from hs) Bool.false_ne_true
 | int i =>
   obtain ⟨t,rfl⟩:=rx
   cases y with
   | non=>cases ry;exact PySem.EqNone.eq_int_none (AI I q (by simp))
   | int j=>obtain ⟨t',rfl⟩:=ry;exact eq_int (AI I q Mp)
   | str j=>obtain ⟨t',rfl⟩:=ry;exact PySem.EqMixed.eq_int_str (AI I q (by simp))
   | _=>exact absurd (show false=true from hs) Bool.false_ne_true
 | str i =>
   obtain ⟨t,rfl⟩:=rx
   cases y with
   | non=>cases ry;exact PySem.EqNone.eq_str_none (AI I q (by simp))
   | bl j=>cases ry;exact PySem.EqMixed.eq_str_bool (AI I q (by simp))
   | int j=>obtain ⟨t',rfl⟩:=ry;exact PySem.EqMixed.eq_str_int (AI I q (by simp))
   | str j=>obtain ⟨t',rfl⟩:=ry;exact eq_str (AI I q MF)
   | _=>exact absurd (show false=true from hs) Bool.false_ne_true
 | byt i =>
   obtain ⟨t,rfl⟩:=rx
   cases y with
   | byt j=>obtain ⟨t',rfl⟩:=ry;exact PySem.W.eq_bytes (AI I q MJ)
   | _=>exact absurd (show false=true from hs) Bool.false_ne_true
 | _=>cases y <;> exact absurd (show false=true from hs) Bool.false_ne_true
theorem Er:OpR X (compareOp .NotEq) rNe:=by
 intro pins s σ H x y v u Q I rx ry h
 obtain ⟨hs,q⟩:=h
 cases x with
 | non =>
   cases rx
   cases y with
   | non=>cases ry;exact PySem.EqNone.ne_none_none (AI I q (by simp))
   | bl j=>cases ry;exact PySem.EqNone.ne_none_bool (AI I q (by simp))
   | int j=>obtain ⟨t',rfl⟩:=ry;exact PySem.EqNone.ne_none_int (AI I q (by simp))
   | str j=>obtain ⟨t',rfl⟩:=ry;exact PySem.EqNone.ne_none_str (AI I q (by simp))
   | _=>exact absurd (show false=true from hs) Bool.false_ne_true
 | bl i =>
   cases rx
   cases y with
   | non=>cases ry;exact PySem.EqNone.ne_bool_none (AI I q (by simp))
   | bl j=>cases ry;exact ne_bool (AI I q (congrArg not Pw))
   | str j=>obtain ⟨t',rfl⟩:=ry;exact PySem.EqMixed.ne_bool_str (AI I q (by simp))
   | _=>exact absurd (show false=true from hs) Bool.false_ne_true
 | int i =>
   obtain ⟨t,rfl⟩:=rx
   cases y with
   | non=>cases ry;exact PySem.EqNone.ne_int_none (AI I q (by simp))
   | int j=>obtain ⟨t',rfl⟩:=ry;exact ne_int (AI I q (congrArg not Mp))
   | str j=>obtain ⟨t',rfl⟩:=ry;exact PySem.EqMixed.ne_int_str (AI I q (by simp))
   | _=>exact absurd (show false=true from hs) Bool.false_ne_true
 | str i =>
   obtain ⟨t,rfl⟩:=rx
   cases y with
   | non=>cases ry;exact PySem.EqNone.ne_str_none (AI I q (by simp))
   | bl j=>cases ry;exact PySem.EqMixed.ne_str_bool (AI I q (by simp))
   | int j=>obtain ⟨t',rfl⟩:=ry;exact PySem.EqMixed.ne_str_int (AI I q (by simp))
   | str j=>obtain ⟨t',rfl⟩:=ry;exact ne_str (AI I q (congrArg not MF))
   | _=>exact absurd (show false=true from hs) Bool.false_ne_true
 | byt i =>
   obtain ⟨t,rfl⟩:=rx
   cases y with
   | byt j=>obtain ⟨t',rfl⟩:=ry;exact PySem.W.ne_bytes (AI I q (congrArg not MJ))
   | _=>exact absurd (show false=true from hs) Bool.false_ne_true
 | _=>cases y <;> exact absurd (show false=true from hs) Bool.false_ne_true
theorem MU:OpR X (compareOp .Lt) (rI0 fun i j=>.bl (decide (i < j))):=QK fun _ _ _ _ _ _ _ q=>lt_int q
theorem GL:OpR X (compareOp .LtE) (rI0 fun i j=>.bl (decide (i<=j))):=QK fun _ _ _ _ _ _ _ q=>le_int q
theorem FZ:OpR X (compareOp .Gt) (rI0 fun i j=>.bl (decide (j < i))):=QK fun _ _ _ _ _ _ _ q=>gt_int q
theorem SK:OpR X (compareOp .GtE) (rI0 fun i j=>.bl (decide (j<=i))):=QK fun _ _ _ _ _ _ _ q=>ge_int q
theorem IX:OpR X (compareOp .Is) (fun x y H Q=>y=.non/\Q (.bl (decide (x=.non))) H):=by
 intro pins s σ H x y v u Q I rx ry h
 obtain ⟨rfl,q⟩:=h
 cases ry
 refine is_none_gen (AI I q ?_)
 cases x <;> first
  | (cases rx;rfl)
  | (obtain ⟨t,rfl⟩:=rx;rfl)
theorem QI:OpR X (compareOp .IsNot) (fun x y H Q=>y=.non/\Q (.bl (!decide (x=.non))) H):=by
 intro pins s σ H x y v u Q I rx ry h
 obtain ⟨rfl,q⟩:=h
 cases ry
 refine isnot_none_gen (AI I q ?_)
 cases x <;> first
  | (cases rx;rfl)
  | (obtain ⟨t,rfl⟩:=rx;rfl)
theorem Ay (b:Expr) {op:CmpOp} (h:op≠.In:=by decide) (h2:op≠.NotIn:=by decide):behindInMarks op b=false:=by
 have e1:(op == CmpOp.In)=false:=by cases op <;> first | rfl | exact absurd rfl h
 have e2:(op == CmpOp.NotIn)=false:=by cases op <;> first | rfl | exact absurd rfl h2
 cases b <;> simp [behindInMarks,e1,e2]
theorem BP {op:CmpOp} {r:R2} (ho:OpR X (compareOp op) r) (ha:PE X a ta) (hb:PE X b tb) (hm:behindInMarks op b=false):PE X (.Compare a [op] [b] pos) (tOp r ta tb):=by
 intro pins s σ H Q I h
 exact wpAny_Compare1 (Sw ha hb I h fun v u s2 x y H2 I2 rx ry q=>ho pins s2 σ H2 x y v u Q I2 rx ry q) hm
def Kv (t:TE):TT:=fun σ H Q=>t σ H fun x H'=>∃k,x=.bl k/\Q k H'
theorem Ax {op:CmpOp} {r:R2} (ho:OpR X (compareOp op) r) (ha:PE X a ta) (hb:PE X b tb) (hm:behindInMarks op b=false):PT X (.Compare a [op] [b] pos) (Kv (tOp r ta tb)):=by
 intro pins s σ H Q I h
 refine wpAny_isTrue_Compare1 (thn (ha pins s σ H _ I h) fun v s1 ⟨x,H1,I1,r1,q1⟩=>thn (hb pins s1 σ H1 _ I1 q1) fun u s2 ⟨y,H2,I2,r2,q2⟩ =>
  thn (ho pins s2 σ H2 x y v u _ I2 r1 r2 q2) fun c s3 ⟨z,H3,I3,r3,k,e,q3⟩=>?_) hm
 subst e
 cases r3
 exact wpAny_truthy_bool ⟨H3,I3,q3⟩
noncomputable def RQ (r r':R2) (ta tb tc:TE):TE:=fun σ H Q=>ta σ H fun x H1=>tb σ H1 fun y H2=>r x y H2 fun z H3=>∃k,z=.bl k /\
 (if k=true then tc σ H3 fun w' H4=>r' y w' H4 Q else Q (.bl false) H3)
theorem Ki {op op':CmpOp} {r r':R2} (ho:OpR X (compareOp op) r) (ho':OpR X (compareOp op') r') (ha:PE X a ta) (hb:PE X b tb) (hc:PE X c tc)
 (hm:lastMarks [op,op'] [b,c]=false:=by with_unfolding_all rfl):PE X (.Compare a [op,op'] [b,c] pos) (RQ r r' ta tb tc):=by
 intro pins s σ H Q I h
 refine Compare_chain (thn (ha pins s σ H _ I h) fun v s1 ⟨x,H1,I1,r1,q1⟩=>chain_link (thn (hb pins s1 σ H1 _ I1 q1) fun u s2 ⟨y,H2,I2,r2,q2⟩ =>
  thn (ho pins s2 σ H2 x y v u _ I2 r1 r2 q2) fun d s3 ⟨z,H3,I3,r3,k,e,q3⟩=>?_)) hm
 subst e
 cases r3
 refine wpAny_truthy_bool ?_
 cases k with
 | false=>exact ite_ff ⟨.bl false,H3,I3,rfl,q3⟩
 | true=>exact ite_tt (chain_last (thn (hc pins s3 σ H3 _ I3 q3) fun w' s4 ⟨z',H4,I4,r4,q4⟩=>ho' pins s4 σ H4 y z' u w' Q I4 r2 r4 q4))
theorem Ji:(sizeLine:Nat) < 2 ^ 63:=by rw [sizeLine_eq];decide
theorem DR {x:V} {us:List Value} (r:A5 [x] us):∃u,us=[u]/\A9 x u:=by
 cases r with
 | cons r1 r2=>cases r2;exact ⟨_,rfl,r1⟩
theorem P7 {x y:V} {us:List Value} (r:A5 [x,y] us):∃u w',us=[u,w']/\A9 x u/\A9 y w':=by
 cases r with
 | cons r1 r2 =>
   cases r2 with
   | cons r3 r4=>cases r4;exact ⟨_,_,rfl,r1,r3⟩
theorem GX:C6 X (.builtin "abs") (fun xs H Q=>∃i,xs=[.int i]/\Q (.int (if i < 0 then -i else i)) H):=by
 intro pins s σ H xs us Q I r h
 obtain ⟨i,rfl,q⟩:=h
 obtain ⟨u,rfl,t,rfl⟩:=DR r
 exact call_abs_int fun u tk=>⟨.int (if i < 0 then -i else i),H,I.tok _,⟨_,rfl⟩,q⟩
theorem Nm (hc:X.calm=true):C6 X (.builtin "max") (fun xs H Q=>∃i j,xs=[.int i,.int j]/\Q (.int (if j > i then j else i)) H):=by
 intro pins s σ H xs us Q I r h
 obtain ⟨i,j,rfl,q⟩:=h
 obtain ⟨u,w',rfl,⟨t,rfl⟩,⟨t',rfl⟩⟩:=P7 r
 refine max_two_ints (I.ok.hd hc) fun h' tk k=>⟨_,H,I.kept k,?_,q⟩
 by_cases hj:j > i
 ·rw [if_pos hj,if_pos hj];exact ⟨_,rfl⟩
 ·rw [if_neg hj,if_neg hj];exact ⟨_,rfl⟩
theorem NG (hc:X.calm=true):C6 X (.builtin "min") (fun xs H Q=>∃i j,xs=[.int i,.int j]/\Q (.int (if j < i then j else i)) H):=by
 intro pins s σ H xs us Q I r h
 obtain ⟨i,j,rfl,q⟩:=h
 obtain ⟨u,w',rfl,⟨t,rfl⟩,⟨t',rfl⟩⟩:=P7 r
 refine min_two_ints (I.ok.hd hc) fun h' tk k=>⟨_,H,I.kept k,?_,q⟩
 by_cases hj:j < i
 ·rw [if_pos hj,if_pos hj];exact ⟨_,rfl⟩
 ·rw [if_neg hj,if_neg hj];exact ⟨_,rfl⟩
theorem Ij:C6 X (.type "int") (fun xs H Q=>(∃i,xs=[.int i]/\Q (.int i) H)\/∃k,xs=[.bl k]/\Q (.int (if k then 1 else 0)) H):=by
 intro pins s σ H xs us Q I r h
 rcases h with ⟨i,rfl,q⟩ | ⟨k,rfl,q⟩
 ·obtain ⟨u,rfl,t,rfl⟩:=DR r
  exact call_int_int ⟨.int i,H,I,⟨_,rfl⟩,q⟩
 ·obtain ⟨u,rfl,r1⟩:=DR r
  cases r1
  exact call_int_bool ⟨.int (if k then 1 else 0),H,I.tok _,⟨_,rfl⟩,q⟩
end
end L2
namespace L2
open PySem PySem.Spec PyProof.Rows
structure LB (h:Heap) (x dx C:Addr) (mA:Str->Option Value):Prop where
 obj:h.get? x=some (PySem.W.instObj C dx)
 ns:h.Ns1 dx mA
 ne:dx≠x
theorem NC {h:Heap} {dx:Addr} {mA:Str->Option Value} (n:h.Ns1 dx mA):∃od,h.get? dx=some od/\∀name,PySem.W.lookIn name od=some (mA name):=by
 obtain ⟨o,es,ep,ho,hd,hk,_,hm⟩:=n
 refine ⟨o,ho,fun name=>?_⟩
 have e:=hm name
 unfold nsFind findBy at e
 rw [<- Array.find?_toList] at e
 unfold PySem.W.lookIn
 rw [hd]
 dsimp only
 split
 ·rename_i y q
  rw [q] at e
  exact congrArg some e
 ·rename_i q
  rw [q] at e
  have a:es.toList.any (·.refKey)=false:=by
   rw [any_eq_false]
   intro y hy
   obtain ⟨z,t,hkey⟩:=hk y (Array.mem_toList_iff.mp hy)
   simp [DictEntry.refKey,hkey]
  have a':¬ es.toList.any (·.refKey)=true:=by rw [a];exact Bool.false_ne_true
  rw [if_neg a']
  exact congrArg some e
theorem LB.look {h:Heap} {x dx C:Addr} {mA:Str->Option Value} (I:LB h x dx C mA):∃od,PySem.W.InstAt h x (PySem.W.instObj C dx) C (some od)/\∀name,PySem.W.lookIn name od=some (mA name) :=
 let ⟨od,ho,hl⟩:=NC I.ns
 ⟨od,⟨I.obj,rfl,rfl,ho⟩,hl⟩
section
variable {prog:Program} {w:World} {A:Around} {E:Value->Shared->Prop} {s:Shared} {K:PySem.W.Frag} {x dx C f:Addr} {mA:Str->Option Value} {name:Str} {v:Value}
theorem Rk {expr:Bool} {Q:Value->Shared->Prop} (X:K.In s.heap) (I:LB s.heap x dx C mA) (hg:PySem.W.plainGet K C name=true) (hh:PySem.W.hasDictIn K C=true)
 (ha:PySem.W.findIn K (.ref C) name=some none) (hv:mA name=some v) (hv':PySem.W.handedIn v=true) (h:Q v { s with toks:=s.toks+1 }) :
 wpAny (model prog w) A (getAttr (.ref x) name expr) Q E s:=by
 obtain ⟨od,J,hl⟩:=I.look
 exact PySem.W.get_value X J (PySem.W.plainGet_of hg).1 (PySem.W.findObj_own hh ha rfl (by rw [hl,hv])) hv' h
theorem O8 {pl:Sem Bool} {Q:Value × List Value->Shared->Prop} (X:K.In s.heap) (I:LB s.heap x dx C mA) (hg:PySem.W.plainGet K C name=true)
 (hf:PySem.W.findIn K (.ref C) name=some (some (.ref f))) (ht:PySem.W.isFn K (.ref f)=true) (hv:mA name=none) (h:Q (.ref f,[.ref x]) s) :
 wpAny (model prog w) A (getMethod (.ref x) name pl) Q E s:=by
 obtain ⟨od,J,hl⟩:=I.look
 exact PySem.W.method_fn X J (PySem.W.plainGet_of hg).1 (PySem.W.plainGet_of hg).2 hf (beq_iff_eq.mp ht) (by show (PySem.W.lookIn name od).map (·.isSome)=some false;rw [hl,hv];rfl) h
theorem QM {ns:List Str} {Q:Unit->Shared->Prop} (X:K.In s.heap) (I:LB s.heap x dx C mA)
 (hs:PySem.W.findIn K (.ref C) "__setattr__"=some (some (.builtin "object.__setattr__"))) (hp:PySem.W.plainOver K C=true) (ht:PySem.W.takerIn K C name=some none) (hh:PySem.W.hasDictIn K C=true)
 (hw:PySem.Within mA ns) (hsz:ns.length<=sizeLine)
 (h:∀h',LB h' x dx C (fun y=>if y=name then some v else mA y)->Heap.SameBut dx s.heap h'->Q () { s with heap:=h',toks:=s.toks+2 }) :
 wpAny (model prog w) A (setAttr (.ref x) name v) Q E s:=by
 obtain ⟨od,J,hl⟩:=I.look
 refine PySem.W.set_plain X J hs (PySem.W.osa_open (s:={ s with toks:=s.toks+1 }) (r:=none) X J hp ht fun b=>?_)
 obtain ⟨cd,hc,hd'⟩:=PySem.W.any_some hh
 have hx:s.heap.get? x=some ⟨.ref C,some dx,.plain,#[]⟩:=I.obj
 refine wpAny_bind (wpAny_pure (wpAny_bind (wpAny_bind (wpAny_loadPart hx (wpAny_bind (PySem.W.Looks.here (s:={ s with toks:=s.toks+1 }) (PySem.W.looks_clsIn X hc) ?_))))))
 rw [hd']
 refine wpAny_pure (a:=some dx) (wpAny_bind (wpAny_pure (wpAny_bind ?_)))
 refine wpAny_nsSet1 (s:={ s with toks:=s.toks+1 }) I.ns fun h' hn2 hs2=>?_
 obtain ⟨oD,esD,epD,hoD,hdD,hcD⟩:=hn2.count (PySem.Within.cons name v hw)
 refine wpAny_bind (wpAny_lookBehind hoD (by rw [hdD];exact pastItsLine_dict (Nat.le_trans hcD (by rw [length_cons];omega))) ?_)
 exact wpAny_pure (h _ ⟨(hs2.2 _ (Ne.symm I.ne)).trans I.obj,hn2,I.ne⟩ hs2)
theorem Pn {R:Result->Shared->Prop} {vs:List Value} {kw:List (Str × Value)} (X:K.In s.heap) (hm:PySem.W.makesIn K C=true)
 (hi:PySem.W.findIn K (.ref C) "__init__"=some (some (.ref f))) (hf:PySem.W.typeIn K (.ref f)=some (.type "function"))
 (h:codeAny (model prog w) (A.under (.builtin "type.__call__" ⟨.ref C :: vs,kw⟩)) (.call (.ref f) ⟨.ref (s.heap.objs.size+1) :: vs,kw⟩) (PySem.W.InitBack (s.heap.objs.size+1) R)
  { s with heap:=(s.heap.push PySem.W.emptyDict).push (PySem.W.instObj C s.heap.objs.size) }) :
 codeAny (model prog w) A (.call (.ref C) ⟨vs,kw⟩) R s:=by
 obtain ⟨hh,g,d,t,os⟩:=s
 exact PySem.W.make_core (PySem.W.makes_of X hm) (PySem.W.looks_findIn X hi) (fun self=>PySem.W.bind_fn X self hf) (.inl rfl) h
end
noncomputable def CM (f:Str) (v:V):List (Str × V)->List (Str × V)
 | []=>[(f,v)]
 | (g,x) :: r=>if g=f then (g,v) :: r else (g,x) :: CM f v r
theorem Gb (f g:Str) (v:V):∀fs:List (Str × V),(CM f v fs).lookup g=if g=f then some v else fs.lookup g
 | []=>by
   show List.lookup g [(f,v)]=_
   by_cases h:g=f
   ·have hb:(g == f)=true:=beq_iff_eq.mpr h
    simp only [List.lookup,hb,if_pos h]
   ·have hb:(g == f)=false:=beq_eq_false_iff_ne.mpr h
    simp only [List.lookup,hb,if_neg h]
 | (k,x) :: r=>by
   have ih:=Gb f g v r
   rw [show CM f v ((k,x) :: r)=(if k=f then (k,v) :: r else (k,x) :: CM f v r) from rfl]
   by_cases hk:k=f
   ·rw [if_pos hk]
    by_cases h:g=k
    ·have hb:(g == k)=true:=beq_iff_eq.mpr h
     simp only [List.lookup,hb,if_pos (h.trans hk)]
    ·have hb:(g == k)=false:=beq_eq_false_iff_ne.mpr h
     simp only [List.lookup,hb,if_neg (fun e:g=f=>h (e.trans hk.symm))]
   ·rw [if_neg hk]
    by_cases h:g=k
    ·have hb:(g == k)=true:=beq_iff_eq.mpr h
     simp only [List.lookup,hb,if_neg (fun e:g=f=>hk (h.symm.trans e))]
    ·have hb:(g == k)=false:=beq_eq_false_iff_ne.mpr h
     simp only [List.lookup,hb]
     exact ih
theorem FC (f:Str) (v:V):∀fs:List (Str × V),f∈(CM f v fs).map (·.1)/\∀g,g∈fs.map (·.1)->g∈(CM f v fs).map (·.1)
 | []=>⟨by simp [CM],fun g h=>by simp at h⟩
 | (k,x) :: r=>by
   obtain ⟨i1,i2⟩:=FC f v r
   rw [show CM f v ((k,x) :: r)=(if k=f then (k,v) :: r else (k,x) :: CM f v r) from rfl]
   by_cases hk:k=f
   ·rw [if_pos hk]
    subst hk
    exact ⟨by simp,fun g h=>by simpa using h⟩
   ·rw [if_neg hk]
    refine ⟨?_,fun g h=>?_⟩
    ·rw [map_cons]
     exact mem_cons_of_mem _ i1
    ·rw [map_cons] at h ⊢
     rcases mem_cons.mp h with e | e
     ·exact mem_cons.mpr (.inl e)
     ·exact mem_cons_of_mem _ (i2 g e)
theorem Gi (f:Str) (v:V):∀fs:List (Str × V),(CM f v fs).length<=fs.length+1
 | []=>by simp [CM]
 | (k,x) :: r=>by
   have ih:=Gi f v r
   rw [show CM f v ((k,x) :: r)=(if k=f then (k,v) :: r else (k,x) :: CM f v r) from rfl]
   by_cases hk:k=f
   ·rw [if_pos hk,length_cons,length_cons];omega
   ·rw [if_neg hk,length_cons,length_cons];omega
theorem Dt.some_of {v:V} {o:Option Value} (r:Dt (some v) o):∃u,o=some u/\A9 v u:=by
 cases o with
 | none=>exact (show False from r).elim
 | some u=>exact ⟨u,rfl,r⟩
theorem Dt.none_of {o:Option Value} (r:Dt none o):o=none:=by
 cases o with
 | none=>rfl
 | some u=>exact (show False from r).elim
theorem Nb {v:V} {u:Value} (r:A9 v u):PySem.W.handedIn u=true:=by
 cases v with
 | non=>cases (show u=Value.none from r);rfl
 | bl b=>cases (show u=Value.bool b from r);rfl
 | int i=>obtain ⟨t,e⟩:=(show ∃t,u=Value.int i t from r);cases e;rfl
 | str x=>obtain ⟨t,e⟩:=(show ∃t,u=Value.str x t from r);cases e;rfl
 | byt b=>obtain ⟨t,e⟩:=(show ∃t,u=Value.bytes b t from r);cases e;rfl
 | flt b=>obtain ⟨t,e⟩:=(show ∃t,u=Value.float b t from r);cases e;rfl
 | ref a=>cases (show u=Value.ref a from r);rfl
 | ty n=>cases (show u=Value.type n from r);rfl
section
variable {P:Program} {w:World} {H H':Hp} {h h':Heap} {a C dx:Addr} {fs fs':List (Str × V)}
theorem GE (hok:HOk P w H h) (e:H a=some (.ins C dx fs)):∃mA,LB h a dx C mA/\(∀f,Dt (fs.lookup f) (mA f))/\PySem.Within mA (fs.map (·.1))/\fs.length<=1000/\H dx=some (.own a):=by
 obtain ⟨d,z,ne,ob,mA,n,r,q⟩:=(show AJ P w H h a (.ins C dx fs) from hok a _ e)
 exact ⟨mA,⟨ob,n,ne⟩,r,q,z,d⟩
end
structure Cls (K:PySem.W.Frag) (C:Addr):Prop where
 pg:PySem.W.plainGet K C Str.empty=true
 hd:PySem.W.hasDictIn K C=true
 po:PySem.W.plainOver K C=true
 sa:PySem.W.findIn K (.ref C) "__setattr__"=some (some (.builtin "object.__setattr__"))
theorem Cls.get {K:PySem.W.Frag} {C:Addr} (c:Cls K C) (f:Str):PySem.W.plainGet K C f=true:=c.pg
def BR (K:PySem.W.Frag) (C:Addr) (f:Str):Prop:=PySem.W.findIn K (.ref C) f=some none
theorem BR.taker {K:PySem.W.Frag} {C:Addr} {f:Str} (n:BR K C f):PySem.W.takerIn K C f=some none:=by
 unfold PySem.W.takerIn
 rw [show PySem.W.findIn K (.ref C) f=some none from n]
 rfl
structure JI (K:PySem.W.Frag) (C:Addr) (m:Str) (f:Addr):Prop where
 at_:PySem.W.findIn K (.ref C) m=some (some (.ref f))
 fn:PySem.W.isFn K (.ref f)=true
 kp:PySem.W.keepIn K (.ref f)=true
section
variable {X:Cx} {pins:List (Addr × Obj)} {σ:St} {H:Hp} {s:Shared} {a C dx:Addr} {fs:List (Str × V)} {f:Str} {v:V} {A:Around} {E:Value->Shared->Prop}
theorem LS {b:Bool} {Q:Value->Shared->Prop} (I:Inv X pins σ H s) (e:H a=some (.ins C dx fs)) (c:Cls X.K C) (n:BR X.K C f) (l:fs.lookup f=some v)
 (h:∀u s',Inv X pins σ H s'->A9 v u->Q u s'):wpAny (model X.prog X.w) A (getAttr (.ref a) f b) Q E s:=by
 obtain ⟨mA,O,r,_,_,_⟩:=GE I.hok e
 obtain ⟨u,hu,ru⟩:=Dt.some_of (v:=v) (o:=mA f) (by rw [<- l];exact r f)
 exact Rk I.kIn O (c.get f) c.hd n hu (Nb ru) (h u _ (I.tok _) ru)
theorem LE {m:Str} {g:Addr} {pl:Sem Bool} {Q:Value × List Value->Shared->Prop} (I:Inv X pins σ H s) (e:H a=some (.ins C dx fs)) (c:Cls X.K C) (k:JI X.K C m g) (l:fs.lookup m=none)
 (h:Q (.ref g,[.ref a]) s):wpAny (model X.prog X.w) A (getMethod (.ref a) m pl) Q E s:=by
 obtain ⟨mA,O,r,_,_,_⟩:=GE I.hok e
 have hn:mA m=none:=Dt.none_of (by rw [<- l];exact r m)
 exact O8 I.kIn O (c.get m) k.at_ k.fn hn h
theorem LP {y:V} {u:Value} {Q:Unit->Shared->Prop} (I:Inv X pins σ H s) (e:H a=some (.ins C dx fs)) (c:Cls X.K C) (n:BR X.K C f) (hl:fs.length < 1000) (ry:A9 y u)
 (h:∀s',Inv X pins σ (upd H a (.ins C dx (CM f y fs))) s'->Q () s'):wpAny (model X.prog X.w) A (setAttr (.ref a) f u) Q E s:=by
 obtain ⟨mA,O,r,wi,_,ho⟩:=GE I.hok e
 have hz:(fs.map (·.1)).length<=sizeLine:=by rw [length_map,sizeLine_eq];omega
 refine QM I.kIn O c.sa c.po n.taker c.hd wi hz fun h' O' sb=>h _ ?_
 have hd:∃o,h'.get? dx=some o:=let ⟨o,_,_,e',_⟩:=O'.ns;⟨o,e'⟩
 refine I.write (x:=a) (e:=dx) (by rw [e];exact True.intro) (.inr ho) (fun b q hb z=>(sb.2 b hb).trans z) hd ?_
 refine ⟨by rw [Ap O.ne];exact ho,?_,O.ne,O'.obj,_,O'.ns,fun g=>?_,fun g hg=>?_⟩
 ·have:=Gi f y fs;omega
 ·show Dt ((CM f y fs).lookup g) (if g=f then some u else mA g)
  rw [Gb]
  by_cases q:g=f
  ·rw [if_pos q,if_pos q];exact ry
  ·rw [if_neg q,if_neg q];exact r g
 ·by_cases q:g=f
  ·rw [q];exact (FC f y fs).1
  ·refine (FC f y fs).2 g (wi g fun z=>hg ?_)
   show (if g=f then some u else mA g)=none
   rw [if_neg q];exact z
theorem Inv.made (I:Inv X pins σ H s):Inv X pins σ (upd (upd H s.heap.objs.size (.own (s.heap.objs.size+1))) (s.heap.objs.size+1) (.ins C s.heap.objs.size []))
 { s with heap:=(s.heap.push PySem.W.emptyDict).push (PySem.W.instObj C s.heap.objs.size) }:=by
 have e1:(s.heap.push PySem.W.emptyDict).get? s.heap.objs.size=some PySem.W.emptyDict:=Heap.get?_push_size s.heap rfl
 have e2:((s.heap.push PySem.W.emptyDict).push (PySem.W.instObj C s.heap.objs.size)).get? (s.heap.objs.size+1)=some (PySem.W.instObj C s.heap.objs.size):=by
  have:=Heap.get?_push_size (s.heap.push PySem.W.emptyDict) (o:=PySem.W.instObj C s.heap.objs.size) rfl
  rwa [Heap.size_push] at this
 have e3:(s.heap.push PySem.W.emptyDict).Ns s.heap.objs.size (fun _=>none):=⟨PySem.W.emptyDict,#[],_,e1,rfl,(fun e he=>absurd he (by simp)),fun _=>rfl⟩
 have I1:=I.laid (a:=s.heap.objs.size) (o:=.own (s.heap.objs.size+1)) (h':=s.heap.push PySem.W.emptyDict) (t':=s.toks) (fun b u q=>Heap.get?_push_of_some _ q) (Nat.le_refl _) ⟨_,e1⟩
 refine I1.laid (a:=s.heap.objs.size+1) (o:=.ins C s.heap.objs.size []) (t':=s.toks) (fun b u q=>Heap.get?_push_of_some _ q) (Nat.le_of_eq (Heap.size_push _ _)) ?_
 have ne:s.heap.objs.size≠s.heap.objs.size+1:=Nat.ne_of_lt (Nat.lt_succ_self _)
 refine ⟨by rw [Ap ne,Ab],Nat.zero_le _,ne,e2,fun _=>none,(Heap.Ns1.of_empty e3).at fun o q=>Heap.get?_push_of_some _ q,fun _=>True.intro,fun y hy=>absurd rfl hy⟩
theorem QP {prog:Program} {w:World} {env:Env} {e:Expr} {f:Str} {pos:Pos} {s:Shared} {Q:Value->Shared->Prop} (hb:attributeBase e f env (eval e env)=eval e env)
 (h:wpAny (model prog w) A (eval e env) (fun o s₁=>wpAny (model prog w) A (getAttr o f true) Q E s₁) E s):wpAny (model prog w) A (eval (.Attribute e f pos) env) Q E s :=
 Attribute_any_ h (by rw [arm_eval_Attribute,hb])
end
noncomputable def Tl (K:PySem.W.Frag) (ta:TE) (f:Str):TE:=fun σ H Q=>ta σ H fun x H1=>∃a C dx fs v,x=.ref a/\H1 a=some (.ins C dx fs)/\Cls K C/\BR K C f/\fs.lookup f=some v/\Q v H1
noncomputable def Tz (K:PySem.W.Frag) (ta tv:TE) (f:Str):TS:=fun D σ H=>tv σ H fun y H1=>ta σ H1 fun x H2=>∃a C dx fs,x=.ref a/\H2 a=some (.ins C dx fs)/\Cls K C/\BR K C f/\fs.length < 1000 /\
 D.nx σ (upd H2 a (.ins C dx (CM f y fs)))
section
variable {X:Cx} {o e value:Expr} {f:Str} {pos pos' tpos:Pos} {ta tv:TE}
theorem F1 (he:PE X e ta) (hb:attributeBase e f X.env (eval e X.env)=eval e X.env):PE X (.Attribute e f pos) (Tl X.K ta f):=by
 intro pins s σ H Q I h
 refine QP hb (thn (he pins s σ H _ I h) fun u s1 ⟨x,H1,I1,rx,a,C,dx,fs,v,ex,ea,c,n,l,q⟩=>?_)
 subst ex
 obtain rfl:u=Value.ref a:=rx
 exact LS I1 ea c n l fun u' s2 I2 ru=>⟨v,H1,I2,ru,q⟩
theorem LY (ha:PE X o ta) (hv:PE X value tv) (hs:swapsWith value (some (.Attribute o f pos')) pos.line X.env=pure false):PS X (.Assign [.Attribute o f pos'] value pos) (Tz X.K ta tv f):=by
 intro pins s σ H D I h
 refine plainObj_wpAny_Assign_Attribute (thn (hv pins s σ H _ I h) fun u s1 ⟨y,H1,I1,ry,q⟩=>thn (ha pins s1 σ H1 _ I1 q) fun ov s2 ⟨x,H2,I2,rx,a,C,dx,fs,ex,ea,c,n,l,q2⟩=>?_) hs
 subst ex
 obtain rfl:ov=Value.ref a:=rx
 exact LP I2 ea c n l ry fun s3 I3=>⟨σ,_,I3,q2⟩
end
section
variable {X:Cx} {pins:List (Addr × Obj)} {σ:St} {H:Hp} {s:Shared} {A:Around} {E:Value->Shared->Prop} {Q:Value->Shared->Prop} {c:Value} {b:Bool}
inductive BO (K:PySem.W.Frag) (H:Hp):V->Value->Prop where
 | non:BO K H .non (.type "NoneType")
 | bl (x:Bool):BO K H (.bl x) (.type "bool")
 | int (i:Int):BO K H (.int i) (.type "int")
 | str (x:Str):BO K H (.str x) (.type "str")
 | flt (x:UInt64):BO K H (.flt x) (.type "float")
 | lst {a:Addr} {xs:List V} (e:H a=some (.lst xs)):BO K H (.ref a) (.type "list")
 | frz {a:Addr} {o:Obj} {xs:List V} (e:H a=some (.frz o (.lst xs))):BO K H (.ref a) (.type "list")
 | tup {a:Addr} {xs:List V} (e:H a=some (.tup xs)):BO K H (.ref a) (.type "tuple")
 | dK {a:Addr} {kvs:List (Key × V)} (e:H a=some (.dK kvs)):BO K H (.ref a) (.type "dict")
 | dT {a:Addr} {kvs:List (List Key × V)} (e:H a=some (.dT kvs)):BO K H (.ref a) (.type "dict")
 | ins {a C dx:Addr} {fs:List (Str × V)} (e:H a=some (.ins C dx fs)) (cl:Cls K C) (ha:PySem.W.findIn K (.ref C) "__class__"=some (some (.builtin "object.__class__")))
  (hn:PySem.W.specialIn K (.builtin "object.__class__") "__get__"=some (some (.builtin "getset_descriptor.__get__"))) (htk:PySem.W.takesIn K (.builtin "object.__class__")=some true)
  (hm:PySem.W.mroIn K C (.type "object")=some true):BO K H (.ref a) (.ref C)
theorem N1 {x:V} {u t:Value} (I:Inv X pins σ H s) (rx:A9 x u) (ty:BO X.K H x t) (e:PySem.W.kitOne X.K t c=some b) (h:∀tk,Q (.bool b) { s with toks:=tk }) :
 wpAny (model X.prog X.w) A (call (.builtin "isinstance") [u,c]) Q E s:=by
 cases ty with
 | non=>cases (show u=Value.none from rx);exact PySem.W.kia_one PySem.W.kitx_none I.kIn True.intro e (fun z=>by cases z) h
 | bl y=>cases (show u=Value.bool y from rx);exact PySem.W.kia_one PySem.W.kitx_bool I.kIn True.intro e (fun z=>by cases z) h
 | int i=>obtain ⟨t,q⟩:=(show ∃t,u=Value.int i t from rx);cases q;exact PySem.W.kia_one PySem.W.kitx_int I.kIn True.intro e (fun z=>by cases z) h
 | str y=>obtain ⟨t,q⟩:=(show ∃t,u=Value.str y t from rx);cases q;exact PySem.W.kia_one PySem.W.kitx_str I.kIn True.intro e (fun z=>by cases z) h
 | flt y=>obtain ⟨t,q⟩:=(show ∃t,u=Value.float y t from rx);cases q;exact PySem.W.kia_one PySem.W.kitx_float I.kIn True.intro e (fun z=>by cases z) h
 | @lst a xs ea =>
   cases (show u=Value.ref a from rx)
   obtain ⟨_,_,n,_,h1⟩:=(show AJ X.prog X.w H s.heap a (.lst xs) from I.hok a _ ea)
   exact PySem.W.kia_one PySem.W.kitx_list I.kIn ⟨_,h1,rfl⟩ e (fun z=>by cases z) h
 | @frz a ob xs ea =>
   cases (show u=Value.ref a from rx)
   obtain ⟨_,_,_,n,_,h1⟩:=(show AJ X.prog X.w H s.heap a (.frz ob (.lst xs)) from I.hok a _ ea)
   exact PySem.W.kia_one PySem.W.kitx_list I.kIn ⟨_,h1,rfl⟩ e (fun z=>by cases z) h
 | @tup a xs ea =>
   cases (show u=Value.ref a from rx)
   obtain ⟨_,_,_,p⟩:=(show AJ X.prog X.w H s.heap a (.tup xs) from I.hok a _ ea)
   obtain ⟨o,h1,h2,_⟩:=p
   exact PySem.W.kia_one PySem.W.kitx_tuple I.kIn ⟨o,h1,h2⟩ e (fun z=>by cases z) h
 | @dK a kvs ea =>
   cases (show u=Value.ref a from rx)
   obtain ⟨_,_,vs,_,p⟩:=(show AJ X.prog X.w H s.heap a (.dK kvs) from I.hok a _ ea)
   obtain ⟨o,es,ep,h1,h2,_⟩:=p
   exact PySem.W.kia_one PySem.W.kitx_dict I.kIn ⟨o,h1,h2.1⟩ e (fun z=>by cases z) h
 | @dT a kvs ea =>
   cases (show u=Value.ref a from rx)
   obtain ⟨_,_,xs,_,o,es,ep,h1,h2,_⟩:=(show AJ X.prog X.w H s.heap a (.dT kvs) from I.hok a _ ea)
   exact PySem.W.kia_one PySem.W.kitx_dict I.kIn ⟨o,h1,h2.1⟩ e (fun z=>by cases z) h
 | @ins a C dx fs ea cl ha hn htk hm =>
   cases (show u=Value.ref a from rx)
   obtain ⟨mA,O,_⟩:=GE I.hok ea
   obtain ⟨od,J,_⟩:=O.look
   exact PySem.W.kia_one (PySem.W.kitx_own (cl.get _) cl.hd ha hn htk hm) I.kIn J e (fun z=>by cases z) h
end
end L2
namespace L2
open PySem PySem.Spec PyProof.Rows
structure C3 (k:Nat) (A:Around):Prop where
 hd:A.handled=none
 dp:A.depth+3*k+5 < recursionLimit
 un:A.units+16*k+200 < cLine
theorem C3.mono {j k:Nat} {A:Around} (r:C3 k A) (h:j<=k):C3 j A:=⟨r.hd,by have:=r.dp;omega,by have:=r.un;omega⟩
theorem C3.deeper {k:Nat} {A:Around} (r:C3 (k+1) A) (env:Env):C3 k (A.deeper env) :=
 ⟨r.hd,by have:=r.dp;show A.depth+1+3*k+5 < _;omega,by have:=r.un;show A.units+3+16*k+200 < _;omega⟩
theorem LT {A:Around} {C:Addr} {us:List Value} {kw:List (Str × Value)}:(A.under (.builtin "type.__call__" ⟨.ref C :: us,kw⟩)).depth=A.depth+1:=by
 first | rfl | simp [Around.under,Code.weight,Code.isCreation,Code.isGuard,Code.isCaller,Code.frames,Code.isFrame,guardIds]
theorem Li {A:Around} {C:Addr} {us:List Value} {kw:List (Str × Value)}:(A.under (.builtin "type.__call__" ⟨.ref C :: us,kw⟩)).units=A.units+1:=by
 first | rfl | simp [Around.under,Code.cUnits,Code.frames,Code.isFrame]
theorem C3.make {k:Nat} {A:Around} (r:C3 (k+1) A) (C:Addr) (us:List Value) (kw:List (Str × Value)):C3 k (A.under (.builtin "type.__call__" ⟨.ref C :: us,kw⟩)) :=
 ⟨r.hd,by have:=r.dp;rw [LT];omega,by have:=r.un;rw [Li];omega⟩
theorem C3.depth {k:Nat} {A:Around} (r:C3 k A):A.depth < recursionLimit:=by have:=r.dp;omega
theorem C3.units {k:Nat} {A:Around} (r:C3 k A):A.units+64 < cLine:=by have:=r.un;omega
def TJ:TA:=fun _ H Q=>Q [] H
noncomputable def SQ (ta:TE) (tr:TA):TA:=fun σ H Q=>ta σ H fun x H1=>tr σ H1 fun xs H2=>Q (x :: xs) H2
section
variable {X:Cx} {e:Expr} {es:List Expr} {te:TE} {t:TA} {pos:Pos}
theorem Ad:PA X [] TJ:=fun _ _ _ _ H Q I h=>Calls.spliced_nil ⟨[],H,I,.nil,h⟩
theorem Aa (ha:PE X e te) (hr:PA X es t) (hs:starEach (e :: es) X.env=(false,eval e X.env) :: starEach es X.env:=by rfl):PA X (e :: es) (SQ te t):=by
 intro pos pins s σ H Q I h
 rw [hs]
 show wpAny _ _ (spliced ((false,eval e X.env) :: backTo pos (starEach es X.env))) _ _ s
 refine Calls.spliced_cons (thn (ha pins s σ H _ I h) fun u s1 ⟨x,H1,I1,r1,q1⟩=>?_)
 exact thn (hr pos pins s1 σ H1 _ I1 q1) fun us s2 ⟨xs,H2,I2,r2,q2⟩=>⟨x :: xs,H2,I2,.cons r1 r2,q2⟩
noncomputable def To (t:TA):TE:=fun σ H Q=>t σ H fun xs H1=>xs.length<=sizeLine/\∀p,H1 p=none->Q (.ref p) (upd H1 p (.tup xs))
noncomputable def Tj (t:TA):TE:=fun σ H Q=>t σ H fun xs H1=>xs.length<=sizeLine/\∀p,H1 p=none->Q (.ref p) (upd H1 p (.lst xs))
theorem A2 {x1} (h:PA X es t):PE X (.Tuple es x1 pos) (To t):=by
 intro pins s σ H Q I hq
 refine wpAny_Tuple_spliced (thn (h pos pins s σ H _ I hq) fun us s1 ⟨xs,H1,I1,r,z,q⟩=>⟨by rw [<- r.length];exact z,?_⟩)
 have hf:H1 s1.heap.objs.size=none:=I1.hok.fresh (Nat.le_refl _)
 refine ⟨.ref s1.heap.objs.size,upd H1 s1.heap.objs.size (.tup xs),I1.laid (t':=s1.toks) (fun b u e=>Heap.get?_push_of_some _ e) (Nat.le_refl _) ?_,rfl,q _ hf⟩
 exact ⟨z,us,r,⟨_,Heap.get?_push_size _ rfl,rfl,_,rfl⟩⟩
theorem BL (h:PA X es t):PE X (.List es pos) (Tj t):=by
 intro pins s σ H Q I hq
 refine wpAny_List_spliced (thn (h pos pins s σ H _ I hq) fun us s1 ⟨xs,H1,I1,r,z,q⟩=>⟨by rw [<- r.length];exact z,?_⟩)
 have hf:H1 s1.heap.objs.size=none:=I1.hok.fresh (Nat.le_refl _)
 refine ⟨.ref s1.heap.objs.size,upd H1 s1.heap.objs.size (.lst xs),I1.laid (t':=s1.toks) (fun b u e=>Heap.get?_push_of_some _ e) (Nat.le_refl _) ?_,rfl,q _ hf⟩
 exact ⟨z,us,0,r,Heap.get?_push_size _ rfl⟩
end
abbrev Sp:=List V->Hp->VK->XK->Prop
abbrev CXT:=List Env->Hp->Shared->XK->Value->Shared->Prop
structure L6 (P:Program) (w:World) (K:PySem.W.Frag) (mg:Str->Option Value) (base:Heap) (A:Around) (outer:List Env) (s:Shared) (H:Hp):Prop where
 frames:A.frames=some outer
 mod:Mod K mg base
 bs:∀b o,base.get? b=some o->s.heap.get? b=some o/\H b=none
 bsz:base.objs.size<=s.heap.objs.size
 funs:s.heap.FunFrames base outer
 frf:∀b∈frs outer,H b=none
 hok:HOk P w H s.heap
 bare:AllBare s.gens
noncomputable def CE (outer:List Env) (P:Program) (w:World) (H:Hp) (s:Shared) (Q:VK) (u:Value) (s':Shared):Prop :=
 ∃v H',s'.os=s.os/\AllBare s'.gens/\Un (frs outer) [] H H' s.heap s'.heap/\HOk P w H' s'.heap/\A9 v u/\Q v H'
noncomputable def CR (CX:CXT) (outer:List Env) (P:Program) (w:World) (H:Hp) (s:Shared) (Q:VK) (E:XK) (r:Result) (s':Shared):Prop :=
 match r with
 | .ok (.ret u)=>CE outer P w H s Q u s'
 | .ok _=>False
 | .error e=>CX outer H s E e s'
structure A8 (P:Program) (w:World) (K:PySem.W.Frag) (mg:Str->Option Value) (base:Heap) (CX:CXT) (k:Nat) (f:Addr) (fd:FuncData) (ps:List Str) (sp:Sp):Prop where
 len:∀vs H Q E,sp vs H Q E->vs.length=ps.length
 run:∀(A:Around) (outer:List Env) (s:Shared) (H:Hp) (args:Args) (us:List Value) (vs:List V) (Q:VK) (E:XK),C3 k A->L6 P w K mg base A outer s H->BindsTo s fd args (ps.zip us)->A5 vs us->sp vs H Q E ->
  codeAny (model P w) A (.call (.ref f) args) (CR CX outer P w H s Q E) s
theorem L6.make {P:Program} {w:World} {K:PySem.W.Frag} {mg:Str->Option Value} {base:Heap} {A:Around} {outer:List Env} {s:Shared} {H:Hp} (e:L6 P w K mg base A outer s H) (C:Addr) (us:List Value) (kw:List (Str × Value)) :
 L6 P w K mg base (A.under (.builtin "type.__call__" ⟨.ref C :: us,kw⟩)) outer s H:=⟨by first | exact e.frames | (simpa [Around.under,Code.envs,Code.isFrame,pushEnvs] using e.frames),e.mod,e.bs,e.bsz,e.funs,e.frf,e.hok,e.bare⟩
section
variable {X:Cx} {pins:List (Addr × Obj)} {σ:St} {H:Hp} {s s':Shared}
theorem Inv.env0 (I:Inv X pins σ H s):L6 X.prog X.w X.K X.mg X.base X.A X.stack s H :=
 ⟨I.ok.frames,I.ok.mod,I.bs,Nat.le_trans I.ok.bsz I.sz,I.stack,I.stkFree,I.hok,I.bare⟩
theorem Inv.after {Q:VK} {u:Value} (I:Inv X pins σ H s) (h:CE X.stack X.prog X.w H s Q u s'):EP X pins σ Q u s':=by
 obtain ⟨v,H',os,bare,un,hok,r,q⟩:=h
 obtain ⟨hh,g,d,t,os'⟩:=s'
 obtain rfl:os'=s.os:=os
 exact ⟨v,H',I.call (h':=hh) (g':=g) (d':=d) (t':=t) (ch:=[]) un hok bare (fun b z=>absurd z (by simp)),r,q⟩
end
noncomputable def R1 (sp:Sp) (dvs:List V) (E:XK) (t:TA):TE:=fun σ H Q=>t σ H fun vs H1=>sp (vs++dvs) H1 Q E
noncomputable def SM (C:Addr) (m:Str) (sp:Sp) (dvs:List V) (E:XK) (ta:TE) (t:TA):TE:=fun σ H Q=>ta σ H fun x H1=>∃a dx fs,x=.ref a/\H1 a=some (.ins C dx fs)/\fs.lookup m=none /\
 t σ H1 fun vs H2=>sp (x :: (vs++dvs)) H2 Q E
noncomputable def Te (C:Addr) (sp:Sp) (dvs:List V) (E:XK) (t:TA):TE:=fun σ H Q=>t σ H fun vs H1=>∀x dx,H1 x=none->H1 dx=none->dx≠x ->
 sp (.ref x :: (vs++dvs)) (upd (upd H1 dx (.own x)) x (.ins C dx [])) (fun v H2=>v=.non/\Q (.ref x) H2) E
def A1 (K:PySem.W.Frag) (fd:FuncData) (ps:List Str) (ds:List Value):Prop :=
 ∀(s:Shared) (us:List Value),K.In s.heap->(us++ds).length=ps.length->BindsTo s fd ⟨us,[]⟩ (ps.zip (us++ds))
theorem A1.all {K:PySem.W.Frag} {fd:FuncData} {ps:List Str} (h:∀us:List Value,us.length=ps.length->bindArgs fd ⟨us,[]⟩=pure (ps.zip us)):A1 K fd ps []:=fun s us _ hl=>by
 rw [append_nil] at hl ⊢
 exact .of_eq (h us hl)
noncomputable def Ez (CX:CXT) (X:Cx) (E:XK):Prop:=∀(pins:List (Addr × Obj)) (σ:St) (H:Hp) (s:Shared) (e:Value) (s':Shared),Inv X pins σ H s->CX X.stack H s E e s'->X.xe e s'
section
variable {X:Cx} {CX:CXT} {k:Nat} {f C:Addr} {fd:FuncData} {ps:List Str} {sp:Sp} {dvs:List V} {ds:List Value} {E:XK} {x m:Str} {p pos apos:Pos} {e o:Expr} {es:List Expr} {ta:TE} {t:TA}
theorem Lh {pins:List (Addr × Obj)} {σ:St} {H:Hp} {s:Shared} {Q:VK} {us:List Value} {vs:List V} (F:A8 X.prog X.w X.K X.mg X.base CX k f fd ps sp) (hr:C3 k X.A) (hb:A1 X.K fd ps ds) (hd:A5 dvs ds) (hx:Ez CX X E)
 (I:Inv X pins σ H s) (r:A5 vs us) (h:sp (vs++dvs) H Q E):wpAny (model X.prog X.w) X.A (call (.ref f) us) (EP X pins σ Q) X.xe s:=by
 have r2:A5 (vs++dvs) (us++ds):=r.append hd
 have hl:(us++ds).length=ps.length:=by rw [<- r2.length];exact F.len _ _ _ _ h
 refine wpAny_call (codeAny_mono (F.run X.A X.stack s H ⟨us,[]⟩ (us++ds) (vs++dvs) Q E hr I.env0 (hb s us I.kIn hl) r2 h) fun r s' hq=>?_)
 cases r with
 | error e=>exact hx pins σ H s e s' I hq
 | ok fl =>
   cases fl with
   | ret u=>exact I.after hq
   | next=>exact False.elim hq
   | brk=>exact False.elim hq
   | cont=>exact False.elim hq
theorem Ak (F:A8 X.prog X.w X.K X.mg X.base CX k f fd ps sp) (hr:C3 k X.A) (hg:Gl X x) (hm:X.mg x=some (.ref f)) (hk:PySem.W.keepIn X.K (.ref f)=true) (hb:A1 X.K fd ps ds) (hd:A5 dvs ds) (hx:Ez CX X E)
 (ha:PA X (e :: es) t) (hdb:(x == ("__debug__":Str))=false:=by decide) (he:starEach (e :: es) X.env=(false,eval e X.env) :: starEach es X.env:=by rfl) (hpl:(backTo pos (starEach es X.env)).any (·.1)=false:=by rfl) :
 PE X (.Call (.Name x p) (e :: es) [] pos) (R1 sp dvs E t):=by
 intro pins s σ H Q I h
 refine wpAny_Call_Name_kw (Gy I hg hm ?_ hdb)
 refine PySem.W.callWith_K (h₀:=X.base) I.ok.mod.kin hk (thn (ha pos pins s σ H _ I h) fun us s1 ⟨vs,H1,I1,r,q⟩=>⟨I1.kIn,?_⟩) he hpl
 exact Lh F hr hb hd hx I1 r q
theorem Cw {pl:Sem Bool} (he:PE X o ta) (c:Cls X.K C) (hm:JI X.K C m f) (F:A8 X.prog X.w X.K X.mg X.base CX k f fd ps sp) (hr:C3 k X.A) (hb:A1 X.K fd ps ds) (hd:A5 dvs ds) (hx:Ez CX X E) (ha:PA X (e :: es) t)
 (hst:starEach (e :: es) X.env=(false,eval e X.env) :: starEach es X.env:=by rfl) (hpl:(backTo pos (starEach es X.env)).any (·.1)=false:=by rfl)
 (ht:eval (.Call (.Attribute o m apos) (e :: es) [] pos) X.env=(do
  let ov <- eval o X.env
  standAt apos.atName
  let (f,first) <- holding [ov] (getMethod ov m pl)
  callWith pos f first (backTo pos (starEach (e :: es) X.env)) (backToKw pos (keywordEach [] X.env))):=by rfl) :
 PE X (.Call (.Attribute o m apos) (e :: es) [] pos) (SM C m sp dvs E ta t):=by
 intro pins s σ H Q I h
 refine PySem.W.methodCall_KW (pl:=pl) (thn (he pins s σ H _ I h) fun u s1 ⟨x,H1,I1,rx,a,dx,fs,ex,ea,l,q⟩=>?_) ht
 subst ex
 obtain rfl:u=Value.ref a:=rx
 refine LE I1 ea c hm l ?_
 refine PySem.W.callWith_K (first:=[.ref a]) (h₀:=X.base) I.ok.mod.kin hm.kp (thn (ha pos pins s1 σ H1 _ I1 q) fun us s2 ⟨vs,H2,I2,r,q2⟩=>⟨I2.kIn,?_⟩) hst hpl
 exact Lh (us:=.ref a :: us) (vs:=.ref a :: vs) F hr hb hd hx I2 (.cons rfl r) q2
structure Mk (K:PySem.W.Frag) (C f:Addr):Prop where
 makes:PySem.W.makesIn K C=true
 init:PySem.W.findIn K (.ref C) "__init__"=some (some (.ref f))
 fn:PySem.W.isFn K (.ref f)=true
 kp:PySem.W.keepIn K (.ref C)=true
theorem P5 {pins:List (Addr × Obj)} {σ:St} {H:Hp} {s:Shared} {Q:VK} {us:List Value} {vs:List V} (M:Mk X.K C f) (F:A8 X.prog X.w X.K X.mg X.base CX k f fd ps sp) (hr:C3 (k+1) X.A) (hb:A1 X.K fd ps ds) (hd:A5 dvs ds)
 (hx:Ez CX X E) (I:Inv X pins σ H s) (r:A5 vs us)
 (h:∀x dx,H x=none->H dx=none->dx≠x->sp (.ref x :: (vs++dvs)) (upd (upd H dx (.own x)) x (.ins C dx [])) (fun v H2=>v=.non/\Q (.ref x) H2) E) :
 wpAny (model X.prog X.w) X.A (call (.ref C) us) (EP X pins σ Q) X.xe s:=by
 have hq:=h (s.heap.objs.size+1) s.heap.objs.size (I.hok.fresh (Nat.le_succ _)) (I.hok.fresh (Nat.le_refl _)) (Nat.ne_of_lt (Nat.lt_succ_self _))
 have I2:=Inv.made (C:=C) I
 have r2:A5 (V.ref (s.heap.objs.size+1) :: (vs++dvs)) (Value.ref (s.heap.objs.size+1) :: (us++ds)):=.cons rfl (r.append hd)
 have hl:(Value.ref (s.heap.objs.size+1) :: us++ds).length=ps.length:=by
  have e:=r2.length
  rw [F.len _ _ _ _ hq] at e
  exact e.symm
 refine wpAny_call (Pn (f:=f) I.kIn M.makes M.init (beq_iff_eq.mp M.fn) (codeAny_mono (F.run _ X.stack _ _ ⟨Value.ref (s.heap.objs.size+1) :: us,[]⟩ (Value.ref (s.heap.objs.size+1) :: (us++ds)) _ _ E (hr.make C us [])
  (I2.env0.make C us []) (hb _ (Value.ref (s.heap.objs.size+1) :: us) I2.kIn hl) r2 hq) fun r s' hq'=>?_))
 cases r with
 | error e=>exact hx pins σ _ _ e s' I2 hq'
 | ok fl =>
   cases fl with
   | ret u =>
     obtain ⟨v,H',I3,rv,ev,q3⟩:=I2.after hq'
     subst ev
     exact ⟨rv,⟨V.ref (s.heap.objs.size+1),H',I3,rfl,q3⟩⟩
   | next=>exact False.elim hq'
   | brk=>exact False.elim hq'
   | cont=>exact False.elim hq'
theorem Q9 (M:Mk X.K C f) (F:A8 X.prog X.w X.K X.mg X.base CX k f fd ps sp) (hr:C3 (k+1) X.A) (hg:Gl X x) (hm:X.mg x=some (.ref C)) (hb:A1 X.K fd ps ds) (hd:A5 dvs ds) (hx:Ez CX X E)
 (ha:PA X (e :: es) t) (hdb:(x == ("__debug__":Str))=false:=by decide) (he:starEach (e :: es) X.env=(false,eval e X.env) :: starEach es X.env:=by rfl) (hpl:(backTo pos (starEach es X.env)).any (·.1)=false:=by rfl) :
 PE X (.Call (.Name x p) (e :: es) [] pos) (Te C sp dvs E t):=by
 intro pins s σ H Q I h
 refine wpAny_Call_Name_kw (Gy I hg hm ?_ hdb)
 refine PySem.W.callWith_K (h₀:=X.base) I.ok.mod.kin M.kp (thn (ha pos pins s σ H _ I h) fun us s1 ⟨vs,H1,I1,r,q⟩=>⟨I1.kIn,?_⟩) he hpl
 exact P5 M F hr hb hd hx I1 r q
end
section
variable {X:Cx} {CX:CXT} {k:Nat} {f C:Addr} {fd:FuncData} {ps ks:List Str} {sp:Sp} {E:XK} {x m:Str} {p pos apos kpos:Pos} {e o:Expr} {es:List Expr} {kws:List Keyword} {te ta:TE} {t tk:TA} {nm:Option Str}
variable {g:List Value->List Value->List Value} {gV:List V->List V->List V}
end
structure Ar (N P:List Str) (sc:Scope):Prop where
 kind:sc.kind=.function
 co:sc.isCoroutine=false
 gen:sc.isGenerator=false
 nd:N.Nodup
 pre:N.take P.length=P
 par:∀x∈P,sc.names.lookup x=some .local\/sc.names.lookup x=some .cell
 nofree:∀y∈sc.names,y.2≠.free
theorem Il {kindOf:Str->Option NameKind} {x:Str}:∀{binds:List (Str × Value)} {m:Str->Option Value},(∀v,(x,v) ∉ binds)->bindL kindOf binds m x=m x
 | [],_,_=>rfl
 | (n,v) :: r,m,h=>by
   unfold bindL
   rw [Il fun w hw=>h w (mem_cons_of_mem _ hw)]
   split
   ·have:x≠n:=by rintro rfl;exact h v mem_cons_self
    simp [this]
   ·rfl
theorem Ir {kindOf:Str->Option NameKind} {x:Str}:∀{binds:List (Str × Value)} {m:Str->Option Value},(∀v,(x,v) ∉ binds)->bindC kindOf binds m x=m x
 | [],_,_=>rfl
 | (n,v) :: r,m,h=>by
   unfold bindC
   rw [Ir fun w hw=>h w (mem_cons_of_mem _ hw)]
   split
   ·rfl
   ·have:x≠n:=by rintro rfl;exact h v mem_cons_self
    simp [this]
theorem IF {kindOf:Str->Option NameKind} {x:Str} {v:Value}:∀{P:List Str} {vs:List Value} {i:Nat} {m:Str->Option Value},P.Nodup->P[i]?=some x->vs[i]?=some v->kindOf x=some .local ->
 bindL kindOf (P.zip vs) m x=some v
 | [],_,_,_,_,h,_,_=>by simp at h
 | _ :: _,[],_,_,_,_,h,_=>by simp at h
 | p :: P,w :: vs,0,m,nd,h1,h2,hk=>by
   simp at h1 h2;subst h1;subst h2
   show bindL kindOf ((p,w) :: P.zip vs) m p=_
   unfold bindL
   rw [Il fun v hv=>(nodup_cons.mp nd).1 (of_mem_zip hv).1,if_pos hk]
   simp
 | p :: P,w :: vs,i+1,m,nd,h1,h2,hk=>by
   show bindL kindOf ((p,w) :: P.zip vs) m x=_
   unfold bindL
   exact IF (i:=i) (nodup_cons.mp nd).2 (by simpa using h1) (by simpa using h2) hk
theorem Iw {kindOf:Str->Option NameKind} {x:Str} {v:Value}:∀{P:List Str} {vs:List Value} {i:Nat} {m:Str->Option Value},P.Nodup->P[i]?=some x->vs[i]?=some v->kindOf x≠some .local ->
 bindC kindOf (P.zip vs) m x=some v
 | [],_,_,_,_,h,_,_=>by simp at h
 | _ :: _,[],_,_,_,_,h,_=>by simp at h
 | p :: P,w :: vs,0,m,nd,h1,h2,hk=>by
   simp at h1 h2;subst h1;subst h2
   show bindC kindOf ((p,w) :: P.zip vs) m p=_
   unfold bindC
   rw [Ir fun v hv=>(nodup_cons.mp nd).1 (of_mem_zip hv).1,if_neg hk]
   simp
 | p :: P,w :: vs,i+1,m,nd,h1,h2,hk=>by
   show bindC kindOf ((p,w) :: P.zip vs) m x=_
   unfold bindC
   exact Iw (i:=i) (nodup_cons.mp nd).2 (by simpa using h1) (by simpa using h2) hk
noncomputable def EN (N:List Str) (vs:List V):St:=vs.map some++List.replicate (N.length - vs.length) none
noncomputable def Lw (CX:CXT) (P:Program) (w:World) (K:PySem.W.Frag) (mg:Str->Option Value) (base:Heap) (N:List Str) (qual:Str) (scope:Scope) (f:Addr) (cd:Value) (A:Around) (outer:List Env) (s:Shared) (H:Hp) (E:XK):Cx where
 prog:=P
 w:=w
 K:=K
 mg:=mg
 base:=base
 A:=A.deeper (envOfC qual scope s.heap.objs.size f cd)
 N:=N
 s₀:=s
 H₀:=H
 env:=envOfC qual scope s.heap.objs.size f cd
 outer:=outer
 stack:=envOfC qual scope s.heap.objs.size f cd :: outer
 ex:=[]
 calm:=true
 fn:=fun _=>true
 pn:=[]
 xe:=fun e s'=>wpAny (model P w) (A.deeper (envOfC qual scope s.heap.objs.size f cd)) (leaving (envOfC qual scope s.heap.objs.size f cd) e) (fun _ s''=>CX outer H s E e s'') (fun e' s''=>CX outer H s E e' s'') s'
theorem Ko {sc:Scope} {n:Nat} {x:Str} (h:sc.names.lookup x=some .cell):∃c,(cellsFrom n sc.names []).lookup x=some c:=by
 have q:=PySem.W.cellsFrom_some sc.names n [] (.inl h)
 exact Option.isSome_iff_exists.mp q
theorem NP {CX:CXT} {P:Program} {w:World} {K:PySem.W.Frag} {mg:Str->Option Value} {base:Heap} {N ps:List Str} {qual:Str} {scope:Scope} {f:Addr} {cd:Value} {A:Around} {outer:List Env} {s s1:Shared} {H:Hp} {E:XK} {us:List Value} {vs:List V}
 (S:Ar N ps scope) (hd:A.handled=none) (e0:L6 P w K mg base A outer s H) (hl:vs.length=ps.length) (r:A5 vs us)
 (x:InCallC s s.heap.objs.size (bindL (envOfC qual scope s.heap.objs.size f cd).kindOf (ps.zip us) fun _=>none) (cellsFrom (s.heap.objs.size+1) scope.names []) (bindC (envOfC qual scope s.heap.objs.size f cd).kindOf (ps.zip us) fun _=>none) s1) :
 Inv (Lw CX P w K mg base N qual scope f cd A outer s H E) [] (EN N vs) H s1:=by
 have hpl:ps.length<=N.length:=by have:=congrArg List.length S.pre;rw [length_take] at this;omega
 obtain ⟨h1,tk,rfl,hk⟩:=x.done
 have noA:∀b:Addr,b ∉ (Lw CX P w K mg base N qual scope f cd A outer s H E).ex:=fun b z=>absurd (show b∈([]:List Addr) from z) (by simp)
 refine ⟨⟨e0.mod,S.kind,rfl,rfl,Nat.le_refl _,fun y z c h1 h2=>?_,fun y hy=>?_,fun y c _ h=>?_,fun _=>hd,Around.frames_deeper e0.frames,.inr ⟨rfl,rfl⟩,fun b z=>absurd z (noA b),e0.bs,e0.bsz,fun b _ _=>noA b,fun b z=>absurd z (noA b),e0.funs,e0.frf⟩,
  rfl,e0.bare,Un.kept hk,⟨_,x.toInCall.ns,fun i y v h1 h2 h3=>?_⟩,fun y c h=>⟨_,x.cell y c h⟩,e0.hok.fresh (Nat.le_refl _),fun y c h=>?_,fun p hp=>absurd (show p∈([]:List (Addr × Obj)) from hp) (by simp),e0.hok.kept hk,?_⟩
 ·exact name_of_addr x.apart (PySem.mem_of_lookup h1) (PySem.mem_of_lookup h2)
 ·have hy:scope.names.lookup y=some .cell\/scope.names.lookup y=some .free:=hy
  rcases hy with hy | hy
  ·exact Ko hy
  ·exact absurd rfl (S.nofree _ (PySem.mem_of_lookup hy))
 ·exact Nat.le_of_lt (x.above y c (PySem.mem_of_lookup h))
 ·have hi:i < vs.length:=by
   unfold EN at h2
   by_cases hi:i < vs.length
   ·exact hi
   ·rw [List.getElem?_append_right (by simpa using hi)] at h2
    rw [List.getElem?_replicate] at h2
    split at h2 <;> cases h2
  have ha:vs[i]?=some v:=by
   unfold EN at h2
   rw [List.getElem?_append_left (by simpa using hi),List.getElem?_map] at h2
   cases e:vs[i]? with
   | none=>rw [e] at h2;cases h2
   | some a=>rw [e] at h2;cases h2;rfl
  obtain ⟨u,hu,rv⟩:=r.get ha
  have hp:ps[i]?=some y:=by
   rw [<- S.pre,List.getElem?_take_of_lt (by omega)];exact h1
  have ndP:ps.Nodup:=by rw [<- S.pre];exact S.nd.sublist (take_sublist _ _)
  refine ⟨u,rv,?_⟩
  rcases S.par y (mem_of_getElem? hp) with k | k
  ·exact .inl ⟨k,IF ndP hp hu k⟩
  ·obtain ⟨c,e⟩:=Ko (n:=s.heap.objs.size+1) k
   refine .inr ⟨.inl k,c,e,?_⟩
   have q:=x.cell y c e
   rw [Iw ndP hp hu (by show scope.names.lookup y≠_;rw [k];decide)] at q
   exact q
 ·exact e0.hok.fresh (Nat.le_of_lt (x.above y c (PySem.mem_of_lookup h)))
 ·unfold EN
  show _=N.length
  rw [length_append,length_map,length_replicate]
  omega
theorem Rt {CX:CXT} {P:Program} {w:World} {K:PySem.W.Frag} {mg:Str->Option Value} {base:Heap} {k:Nat} {f:Addr} {name qual:Str} {params:Arguments} {body:List Stmt} {scope:Scope} {dV kV doc pm cdv ct oc:Value} {an od:Option Addr}
 {osl:Array (Option Value)} {N ps:List Str} {sp:Sp} (lk:K.lookup f=some ⟨oc,od,.func (PySem.W.fnOf name qual params body scope dV kV doc pm an cdv ct),osl⟩) (hcd:PySem.W.codeIn K cdv qual=true) (S:Ar N ps scope)
 (len:∀vs H Q E,sp vs H Q E->vs.length=ps.length)
 (hbody:∀(A:Around) (outer:List Env) (s:Shared) (H:Hp) (vs:List V) (Q:VK) (E:XK),C3 k (A.deeper (envOfC qual scope s.heap.objs.size f cdv))->sp vs H Q E ->
  ∃t,PSs (Lw CX P w K mg base N qual scope f cdv A outer s H E) body t/\t { nx:=fun _ H'=>Q .non H',rt:=Q } (EN N vs) H) :
 A8 P w K mg base CX (k+1) f (PySem.W.fnOf name qual params body scope dV kV doc pm an cdv ct) ps sp:=by
 refine ⟨len,fun A outer s H args us vs Q E hr e0 hb r hsp=>?_⟩
 have hl:=len _ _ _ _ hsp
 have KX:K.In s.heap:=e0.mod.kin.keeps fun b o e=>(e0.bs b o e).1
 have lim:s.heap.NoLimit:=e0.mod.nolimit.keeps fun b o e=>(e0.bs b o e).1
 have hkind:∀y∈ps.zip us,scope.names.lookup y.1=some .local\/(scope.names.lookup y.1=some .cell/\((cellsFrom (s.heap.objs.size+1) scope.names []).lookup y.1).isSome=true):=fun ⟨n,v⟩ hy=>by
  rcases S.par n (of_mem_zip hy).1 with q | q
  ·exact .inl q
  ·exact .inr ⟨q,PySem.W.cellsFrom_some _ _ _ (.inl q)⟩
 refine codeAny_call_function hr.depth (KX _ _ lk) rfl S.co S.gen rfl (PySem.W.codeRec_of KX hcd) (hb _ _ _ _ ?_)
 refine wpAny_newFunctionEnv_cells S.kind hkind fun env he s1 x=>?_
 subst he
 refine ⟨lim.keeps x.toInCall.keep,codeAny_func ?_⟩
 obtain ⟨t,ht,hq⟩:=hbody A outer s H vs Q E (hr.deeper _) hsp
 have I:Inv (Lw CX P w K mg base N qual scope f cdv A outer s H E) [] (EN N vs) H s1:=NP S hr.hd e0 hl r x
 refine wpAny_mono (ht [] s1 (EN N vs) H _ I hq) (fun fl s' hs=>?_) fun e s' hs=>hs
 have fin:∀{σ':St} {H':Hp} {v:V} {u:Value},Inv (Lw CX P w K mg base N qual scope f cdv A outer s H E) [] σ' H' s'->A9 v u->Q v H'->CE outer P w H s Q u s' :=
  fun {σ' H' v u} J rv q=>⟨v,H',J.os,J.bare,J.base,J.hok,rv,q⟩
 cases fl with
 | ret u =>
   obtain ⟨v,σ',H',J,rv,q⟩:=hs
   exact fin J rv q
 | next =>
   obtain ⟨σ',H',J,q⟩:=hs
   exact fin (v:=V.non) (u:=Value.none) J rfl q
 | brk =>
   obtain ⟨_,_,_,q⟩:=hs
   exact False.elim q
 | cont =>
   obtain ⟨_,_,_,q⟩:=hs
   exact False.elim q
end L2
namespace L2
open PySem PySem.Spec PyProof.Rows
section
variable {X:Cx} {x:Str} {p pos:Pos} {e:Expr} {es:List Expr} {t:TA} {id T:String} {r:List V->Hp->VK->Prop}
def tCB (r:List V->Hp->VK->Prop) (t:TA):TE:=fun σ H Q=>t σ H fun vs H1=>r vs H1 Q
theorem Aq (hc:C6 X (.builtin id) r) (hg:Gl X x) (hm:X.mg x=none) (hv:bootBuiltins x=some (.builtin id)) (ha:PA X (e :: es) t) (hn:x≠"__name__":=by decide) (hdb:(x == ("__debug__":Str))=false:=by decide)
 (he:starEach (e :: es) X.env=(false,eval e X.env) :: starEach es X.env:=by rfl) (hpl:(backTo pos (starEach es X.env)).any (·.1)=false:=by rfl):PE X (.Call (.Name x p) (e :: es) [] pos) (tCB r t):=by
 intro pins s σ H Q I h
 refine wpAny_Call_Name_kw (Ea I hg hm hv ?_ hn hdb)
 exact PyProof.Rows.callWith_builtin1 (thn (ha pos pins s σ H _ I h) fun us s1 ⟨vs,H1,I1,r1,q1⟩=>hc pins s1 σ H1 vs us Q I1 r1 q1) he hpl
theorem Bv (hc:C6 X (.type T) r) (hg:Gl X x) (hm:X.mg x=none) (hv:bootBuiltins x=some (.type T)) (ha:PA X (e :: es) t) (hn:x≠"__name__":=by decide) (hdb:(x == ("__debug__":Str))=false:=by decide)
 (he:starEach (e :: es) X.env=(false,eval e X.env) :: starEach es X.env:=by rfl) (hpl:(backTo pos (starEach es X.env)).any (·.1)=false:=by rfl):PE X (.Call (.Name x p) (e :: es) [] pos) (tCB r t):=by
 intro pins s σ H Q I h
 refine wpAny_Call_Name_kw (Ea I hg hm hv ?_ hn hdb)
 exact PyProof.Rows.callWith_type1 (thn (ha pos pins s σ H _ I h) fun us s1 ⟨vs,H1,I1,r1,q1⟩=>hc pins s1 σ H1 vs us Q I1 r1 q1) he hpl
end
end L2
namespace HT
open PySem PyProof.Rows
noncomputable def lexLt:List Int->List Int->Bool
 | [],[]=>false
 | [],_ :: _=>true
 | _ :: _,[]=>false
 | x :: xs,y :: ys=>if x=y then lexLt xs ys else decide (x < y)
theorem lexLt_cons (x y:Int) (xs ys:List Int):lexLt (x :: xs) (y :: ys)=if x=y then lexLt xs ys else decide (x < y):=rfl
theorem Ia:lexLt [] []=false:=rfl
theorem GP (y:Int) (ys:List Int):lexLt [] (y :: ys)=true:=rfl
theorem HL (x:Int) (xs:List Int):lexLt (x :: xs) []=false:=rfl
theorem OO (A:Around) (s:Shared) (a:Int) (t:Tok) (c:Int) (u:Tok):∃e,SeqAt.EqAt A s (.int a t) (.int c u) e/\(e=true↔a=c) :=
 ⟨(a == c),SeqAt.EqAt.int_int a t c u,by simp⟩
theorem OE (A:Around) (s:Shared) (a:Int) (t:Tok) (c:Int) (u:Tok) (prog:Program) (w:World) (E:Value->Shared->Prop) (Q:Value->Shared->Prop) (h:Q (.bool (decide (a < c))) s) :
 wpAny (model prog w) A (richCompare .Lt (.int a t) (.int c u)) Q E s :=
 (PyProof.Rows.lt_int h:wpAny (model prog w) A (compareOp .Lt (.int a t) (.int c u)) Q E s)
section
open PySem.SeqAt
open PySem.AutoSeq1 (wpAny_loadPart')
open PySem.MeetsSeq PySem.MeetsSeq2 PySem.MeetsSeq3
theorem tuple_lt_ints (l b:Addr) (items items2:Array Value) (n n2:Nat) (dd dd2:Option Addr) (sl sl2:Array (Option Value)) (ns ms:List Int) (hi:IntsAre items.toList ns) (hj:IntsAre items2.toList ms) :
 Meets (Builtin.«tuple.__lt__» ⟨[.ref l,.ref b],[]⟩)
  (fun _ R s=>s.heap.get? l=some { cls:=.type "tuple",dict:=dd,data:=.seq items n,slots:=sl }/\s.heap.get? b=some { cls:=.type "tuple",dict:=dd2,data:=.seq items2 n2,slots:=sl2 } /\
   R (.ok (.ret (.bool (lexLt ns ms)))) s) :=
 .of_wp fun prog w A R s h=>by
  obtain ⟨hp,g,d,tk,os⟩:=s;obtain ⟨hl,hb,h⟩:=h
  have f2:=AutoSeq1.sub_tuple_tuple
  have z1:items.size=ns.length:=by rw [<- hi.length];simp
  have z2:items2.size=ms.length:=by rw [<- hj.length];simp
  wp_walk using wpAny_loadPart' hl,wpAny_loadPart' hb,wpAny_forIn_list _ (fun rest b s'=>b.1=none/\s'=⟨hp,g,d,tk,os⟩/\∃(vs ws:List Value) (ns' ms':List Int),rest=vs.zip ws /\
   IntsAre vs ns'/\IntsAre ws ms'/\ns'.length+items2.size=ms'.length+items.size/\R (.ok (.ret (.bool (lexLt ns' ms')))) ⟨hp,g,d,tk,os⟩) _
  case turn =>
   rintro ⟨y,x⟩ rest b s' ⟨hb',rfl,vs,ws,ns',ms',hz,hvi,hwi,hlen,hR⟩
   cases hvi with
   | nil=>rw [zip_nil_left] at hz;cases hz
   | cons a t hvi' =>
     cases hwi with
     | nil=>rw [zip_nil_right] at hz;cases hz
     | cons c u hwi' =>
       rw [zip_cons_cons] at hz
       injection hz with hyx hrest
       injection hyx with hy hx
       subst hy hx
       rw [lexLt_cons] at hR
       simp only [length_cons] at hlen
       obtain ⟨e,he,hiff⟩:=OO A.in1 ⟨hp,g,d,tk,os⟩ a t c u
       refine wpAny_bind (he prog w _ _ ?_)
       cases e with
       | true =>
         rw [if_pos (hiff.mp rfl)] at hR
         wp_walk
         exact ⟨rfl,rfl,_,_,_,_,hrest,hvi',hwi',by omega,hR⟩
       | false =>
         rw [if_neg (fun q=>absurd (hiff.mpr q) Bool.false_ne_true)] at hR
         have hri:=OE A.in1 ⟨hp,g,d,tk,os⟩ a t c u prog w
         wp_walk using hri
         exact ⟨_,rfl,by simpa using hR⟩
  case fin =>
   rintro ⟨b1,b2⟩ s' ⟨hb',rfl,vs,ws,ns',ms',hz,hvi,hwi,hlen,hR⟩
   simp only at hb'
   subst hb'
   have hv:lexLt ns' ms'=decide (items.size < items2.size):=by
    cases hvi with
    | nil =>
      cases hwi with
      | nil =>
        simp only [length_nil] at hlen
        rw [Ia]
        exact (decide_eq_false (by omega)).symm
      | cons c u hw =>
        simp only [length_nil,length_cons] at hlen
        rw [GP]
        exact (decide_eq_true (by omega)).symm
    | cons a t hv =>
      cases hwi with
      | nil =>
        simp only [length_nil,length_cons] at hlen
        rw [HL]
        exact (decide_eq_false (by omega)).symm
      | cons c u hw =>
        rw [zip_cons_cons] at hz
        cases hz
   rw [hv] at hR
   wp_walk
   exact ⟨_,rfl,by simpa [Builtin.Tuple.tupleCompareSizes] using hR⟩
  case h =>
   exact ⟨rfl,rfl,items.toList,items2.toList,ns,ms,rfl,hi,hj,by omega,h⟩
end
section
variable {prog:Program} {w:World} {A:Around} {E:Value->Shared->Prop} {s:Shared}
theorem lt_tupInts {l b:Addr} {items items2:Array Value} {ns ms:List Int} {Q:Value->Shared->Prop} (hl:IsTup s.heap l items) (hb:IsTup s.heap b items2) (hi:IntsAre items.toList ns) (hj:IntsAre items2.toList ms)
 (hu:A.units < cLine) (h:Q (.bool (lexLt ns ms)) s):wpAny (model prog w) A (compareOp .Lt (.ref l) (.ref b)) Q E s:=by
 obtain ⟨⟨cls,dd,data,sl⟩,ho,hc,n,hd⟩:=id hl
 obtain ⟨⟨cls2,dd2,data2,sl2⟩,ho2,hc2,n2,hd2⟩:=id hb
 simp only at hc hd hc2 hd2
 subst hc hd hc2 hd2
 exact richCompare_meets_room (op:=.Lt) ⟨_,ho,rfl⟩ ⟨_,ho2,rfl⟩ PySem.F.slot_tuple_lt PySem.F.entry_tuple_lt (PySem.F.args_tuple_lt_2 _ _) (tuple_lt_ints l b items items2 n n2 dd dd2 sl sl2 ns ms hi hj)
  ⟨ho,ho2,show Value.bool (lexLt ns ms)≠Value.notImplemented/\Q (.bool (lexLt ns ms)) s from ⟨(fun x=>nomatch x),h⟩⟩ hu
noncomputable def sIx (n d:Nat):Option Int->Nat
 | none=>d
 | some v=>if v < 0 then (v+(n:Int)).toNat else min v.toNat n
theorem sIx_none (n d:Nat):sIx n d none=d:=rfl
theorem sIx_nat (n d k:Nat):sIx n d (some (k:Int))=min k n:=by
 show (if (k:Int) < 0 then ((k:Int)+(n:Int)).toNat else min (k:Int).toNat n)=min k n
 rw [if_neg (by omega),Int.toNat_natCast]
end
end HT
namespace L2
open PySem PySem.Spec PyProof.Rows
abbrev TO:=St->Hp->(Option Int->Hp->Prop)->Prop
def PO (X:Cx) (e:Option Expr) (t:TO):Prop :=
 ∀(pins:List (Addr × Obj)) (s:Shared) (σ:St) (H:Hp) (Q:Option Int->Hp->Prop),Inv X pins σ H s->t σ H Q ->
  wpAny (model X.prog X.w) X.A (evalPart e X.env) (fun u s'=>∃o H',Inv X pins σ H' s'/\IsPart u o/\Q o H') X.xe s
def QJ:TO:=fun _ H Q=>Q none H
def SL (t:TE):TO:=fun σ H Q=>t σ H fun x H1=>∃i,x=.int i/\Q (some i) H1
theorem E6 {ns:List Int}:∀{us:List Value},A5 (ns.map V.int) us->IntsAre us ns:=by
 induction ns with
 | nil=>intro us r;rw [map_nil] at r;cases r;exact .nil
 | cons n ns ih =>
   intro us r
   rw [map_cons] at r
   cases r with
   | cons r1 r2 =>
     obtain ⟨t,e⟩:=r1
     subst e
     exact .cons n t (ih r2)
section
variable {X:Cx} {e:Expr} {te:TE} {lo hi:Option Expr} {tl th:TO} {pos p2:Pos}
theorem Mu:PO X none QJ:=by
 intro pins s σ H Q I h
 rw [evalPart_none]
 exact wpAny_pure ⟨none,H,I,.none,h⟩
theorem M4 (h:PE X e te):PO X (some e) (SL te):=by
 intro pins s σ H Q I hw
 rw [evalPart_some]
 refine thn (h pins s σ H _ I hw) fun u s1 ⟨x,H1,I1,r1,q1⟩=>?_
 obtain ⟨i,rfl,q⟩:=q1
 obtain ⟨t,rfl⟩:=r1
 exact ⟨some i,H1,I1,.int i t,q⟩
def SlR (X:Cx) (r:V->Option Int->Option Int->Hp->VK->Prop):Prop :=
 ∀(pins:List (Addr × Obj)) (s:Shared) (σ:St) (H:Hp) (x:V) (v vl vu:Value) (lo hi:Option Int) (sl:Addr) (Q:VK),Inv X pins σ H s->A9 x v->s.heap.IsSliceOf sl vl vu .none->IsPart vl lo->IsPart vu hi->r x lo hi H Q ->
  ∃T id,typeLookup (.type T) "__getitem__"=pure (some (.builtin id))/\s.TypeIs v T/\wpAny (model X.prog X.w) X.A (getItem v (.ref sl)) (EP X pins σ Q) X.xe s
noncomputable def tSl (r:V->Option Int->Option Int->Hp->VK->Prop) (te:TE) (tl th:TO):TE:=fun σ H Q=>te σ H fun x H1=>tl σ H1 fun l H2=>th σ H2 fun u H3=>r x l u H3 Q
theorem Kh {r:V->Option Int->Option Int->Hp->VK->Prop} (hr:SlR X r) (he:PE X e te) (hl:PO X lo tl) (hu:PO X hi th):PE X (.Subscript e (.Slice lo hi none p2) pos) (tSl r te tl th):=by
 intro pins s σ H Q I h
 refine Subscript_ (thn (he pins s σ H _ I h) fun v s1 ⟨x,H1,I1,r1,q1⟩=>?_)
 refine wpAny_Slice (thn (hl pins s1 σ H1 _ I1 q1) fun vl s2 ⟨l,H2,I2,pl,q2⟩=>thn (hu pins s2 σ H2 _ I2 q2) fun vu s3 ⟨u,H3,I3,pu,q3⟩=>?_)
 rw [evalPart_none]
 refine wpAny_pure ?_
 have I4:Inv X pins σ H3 { s3 with heap:=s3.heap.push { cls:=.type "slice",data:=.fields #[vl,vu,.none] } }:=I3.kept (t':=s3.toks) fun b ob q=>Heap.get?_push_of_some _ q
 obtain ⟨T,id,hT,ht,hg⟩:=hr pins { s3 with heap:=s3.heap.push { cls:=.type "slice",data:=.fields #[vl,vu,.none] } } σ H3 x v vl vu l u s3.heap.objs.size Q I4 r1 (Heap.IsSliceOf.new ..) pl pu q3
 show wpAny (model X.prog X.w) X.A (subscriptTail e (.Slice lo hi none p2) v (.ref s3.heap.objs.size)) (EP X pins σ Q) X.xe { s3 with heap:=s3.heap.push { cls:=.type "slice",data:=.fields #[vl,vu,.none] } }
 exact tail_any (ops:=[.ref s3.heap.objs.size,v]) ht hT hg (by with_unfolding_all rfl)
noncomputable def HU (xs:List V) (lo hi:Option Int):List V:=(xs.drop (HT.sIx xs.length 0 lo)).take (HT.sIx xs.length xs.length hi - HT.sIx xs.length 0 lo)
theorem Kw (xs:List V) (lo hi:Option Int):(HU xs lo hi).length<=xs.length:=by
 unfold HU
 rw [length_take,length_drop]
 omega
end
end L2
namespace L2
open PySem PySem.Spec PyProof.Rows
noncomputable def ixN (n:Nat) (i:Int):Option Nat:=if 0<=i then (if i < n then some i.toNat else none) else if -(n:Int)<=i then some (i+n).toNat else none
noncomputable def atI {α:Type} (xs:List α) (i:Int):Option α:=(ixN xs.length i).bind fun j=>xs[j]?
theorem IQ {n:Nat} {i:Int} {j:Nat} (h:ixN n i=some j):seqIndex? i n=some j/\j < n/\-(n:Int)<=i/\i < n:=by
 unfold ixN at h
 by_cases h0:0<=i
 ·rw [if_pos h0] at h
  by_cases h1:i < n
  ·rw [if_pos h1] at h
   have e:i.toNat=j:=Option.some.inj h
   exact ⟨by rw [seqIndex_of h0 h1,e],by omega,by omega,h1⟩
  ·rw [if_neg h1] at h;cases h
 ·rw [if_neg h0] at h
  by_cases h1:-(n:Int)<=i
  ·rw [if_pos h1] at h
   have e:(i+n).toNat=j:=Option.some.inj h
   exact ⟨by rw [seqIndex_neg (by omega) h1,e],by omega,h1,by omega⟩
  ·rw [if_neg h1] at h;cases h
theorem M5 {α:Type} {xs:List α} {i:Int} {v:α} (h:atI xs i=some v):∃j,seqIndex? i xs.length=some j/\xs[j]?=some v/\j < xs.length/\-(xs.length:Int)<=i/\i < xs.length:=by
 unfold atI at h
 cases e:ixN xs.length i with
 | none=>rw [e] at h;cases h
 | some j =>
   rw [e] at h
   obtain ⟨h1,h2,h3,h4⟩:=IQ e
   exact ⟨j,h1,h,h2,h3,h4⟩
theorem Cb {α:Type} {xs:List α} {j:Nat} {v:α} (h:xs[j]?=some v):atI xs (j:Int)=some v:=by
 have hj:j < xs.length:=(List.getElem?_eq_some_iff.mp h).1
 have e:ixN xs.length (j:Int)=some j:=by
  unfold ixN
  rw [if_pos (by omega),if_pos (by omega)];simp
 unfold atI;rw [e];exact h
def Qx (b:Expr):Prop:=∀o i,subscripted b false o i=operate [o,i] (getItem o i)
def IxR (X:Cx) (r:R2):Prop :=
 ∀(value slice:Expr) (pins:List (Addr × Obj)) (s:Shared) (σ:St) (H:Hp) (x y:V) (v u:Value) (Q:VK),Inv X pins σ H s->A9 x v->A9 y u->r x y H Q ->
  subscripted slice false v u=operate [v,u] (getItem v u)->wpAny (model X.prog X.w) X.A (subscriptTail value slice v u) (EP X pins σ Q) X.xe s
def MtR (X:Cx) (id:String) (r:V->List V->Hp->VK->Prop):Prop :=
 ∀(pins:List (Addr × Obj)) (s:Shared) (σ:St) (H:Hp) (x:V) (xs:List V) (v:Value) (us:List Value) (Q:VK),Inv X pins σ H s->A9 x v->A5 xs us->r x xs H Q ->
  wpAny (model X.prog X.w) X.A (call (.builtin id) (v :: us)) (EP X pins σ Q) X.xe s
section
variable {X:Cx} {a b:Expr} {ta tb:TE} {pos:Pos}
theorem Ai {r:R2} (hr:IxR X r) (ha:PE X a ta) (hb:PE X b tb) (hs:Qx b):PE X (.Subscript a b pos) (tOp r ta tb):=by
 intro pins s σ H Q I h
 exact Subscript_ (Sw ha hb I h fun v u s2 x y H2 I2 rx ry q=>hr a b pins s2 σ H2 x y v u Q I2 rx ry q (hs _ _))
noncomputable def Ta (K:PySem.W.Frag):R2:=fun x y H Q=>∃p xs i v,x=.ref p/\y=.int i/\SqL K H p xs/\atI xs i=some v/\Q v H
noncomputable def SN (K:PySem.W.Frag):R2:=fun x y H Q=>∃p xs i v,x=.ref p/\y=.int i/\SqT K H p xs/\atI xs i=some v/\Q v H
theorem Au:IxR X (Ta X.K):=by
 intro value slice pins s σ H x y v u Q I rx ry h hs
 obtain ⟨p,xs,i,z,rfl,rfl,hq,he,q⟩:=h
 cases rx
 obtain ⟨t,rfl⟩:=ry
 obtain ⟨its,r,pl,hz⟩:=I.list hq
 obtain ⟨j,h1,h2,h3,h4,h5⟩:=M5 he
 obtain ⟨w,ew,rw'⟩:=r.get h2
 have hl:=r.length
 have hn:=Ji
 have fin:EP X pins σ Q w s:=⟨z,H,I,rw',q⟩
 by_cases h0:0<=i
 ·have hj:i.toNat=j:=by
   rw [seqIndex_of h0 h5] at h1
   exact Option.some.inj h1
  exact item_listR pl.isList h0 (by omega) (by rw [hj];simpa using ew) fin hs
 ·have hj:(i+(its.toArray.size:Int)).toNat=j:=by
   rw [seqIndex_neg (by omega) h4] at h1
   rw [size_toArray,<- hl]
   exact Option.some.inj h1
  exact subscriptTail_builtinR (x:=w) pl.isList.typeIs slot_list_getitem.lookup
   (wpAny_getItem_list_neg (Q:=fun r s'=>r=w/\EP X pins σ Q r s') pl.isList (by omega) (by rw [size_toArray] <;> omega) (by omega) (by rw [hj];simpa using ew) ⟨rfl,fin⟩) hs
theorem Al:IxR X (SN X.K):=by
 intro value slice pins s σ H x y v u Q I rx ry h hs
 obtain ⟨p,xs,i,z,rfl,rfl,hq,he,q⟩:=h
 cases rx
 obtain ⟨t,rfl⟩:=ry
 obtain ⟨its,r,pl,hz⟩:=I.tuple hq
 obtain ⟨j,h1,h2,h3,h4,h5⟩:=M5 he
 obtain ⟨w,ew,rw'⟩:=r.get h2
 have hl:=r.length
 have hn:=Ji
 have fin:EP X pins σ Q w s:=⟨z,H,I,rw',q⟩
 exact subscriptTail_builtinR (x:=w) pl.typeIs slot_tuple_getitem.lookup
  (getItem_tuple (j:=j) (Q:=fun r s'=>r=w/\EP X pins σ Q r s') pl (by omega) (by omega) (by rw [size_toArray,<- hl];exact h1) (by simpa using ew) ⟨rfl,fin⟩) hs
theorem Ly (its:List Value) (n j:Nat) (u:Value):Obj.mapSeq (·.setIfInBounds j u) { cls:=.type "list",data:=.seq its.toArray n }={ cls:=.type "list",data:=.seq (its.set j u).toArray n }:=by
 simp [Obj.mapSeq]
theorem Inv.lst {pins:List (Addr × Obj)} {σ:St} {H:Hp} {s:Shared} {p:Addr} {xs:List V} (I:Inv X pins σ H s) (h:H p=some (.lst xs)) :
 ∃(its:List Value) (n:Nat),A5 xs its/\s.heap.get? p=some { cls:=.type "list",data:=.seq its.toArray n }/\xs.length<=sizeLine:=by
 obtain ⟨z,its,n,r,e⟩:=I.hok p _ h
 exact ⟨its,n,r,e,z⟩
theorem Inv.lstUpd {pins:List (Addr × Obj)} {σ:St} {H:Hp} {s:Shared} {p:Addr} {xs ys:List V} {its its':List Value} {n n':Nat} {f:Obj->Obj} (I:Inv X pins σ H s) (h:H p=some (.lst xs))
 (ho:s.heap.get? p=some { cls:=.type "list",data:=.seq its.toArray n }) (hf:f { cls:=.type "list",data:=.seq its.toArray n }={ cls:=.type "list",data:=.seq its'.toArray n' }) (r:A5 ys its') (hz:ys.length<=sizeLine) (t:Nat) :
 Inv X pins σ (upd H p (.lst ys)) { s with heap:=s.heap.update p f,toks:=t }:=by
 have e:(s.heap.update p f).get? p=some { cls:=.type "list",data:=.seq its'.toArray n' }:=by
  rw [Heap.get?_update_self f ho (by rw [hf] <;> rfl),hf]
 refine I.write (x:=p) (e:=p) (by rw [h];trivial) (.inl rfl) (fun b u hb q=>(Heap.get?_update_other _ _ (Ne.symm hb)).trans q) ⟨_,e⟩ ?_
 exact ⟨hz,its',n',r,e⟩
noncomputable def SX:V->V->V->Hp->(Hp->Prop)->Prop:=fun o i v H Q=>∃p xs k j,o=.ref p/\i=.int k/\H p=some (.lst xs)/\ixN xs.length k=some j/\Q (upd H p (.lst (xs.set j v)))
theorem EY:SW X SX:=by
 intro pins s σ H o i v ov iv u Q I ro ri rv h
 obtain ⟨p,xs,k,j,rfl,rfl,hp,hj,q⟩:=h
 cases ro
 obtain ⟨t,rfl⟩:=ri
 obtain ⟨its,n,r,ho,hz⟩:=I.lst hp
 obtain ⟨h1,h2,h3,h4⟩:=IQ hj
 have hl:=r.length
 have hn:=Ji
 have I':Inv X pins σ (upd H p (.lst (xs.set j v))) { s with heap:=s.heap.update p (Obj.mapSeq (·.setIfInBounds j u)) } :=
  I.lstUpd hp ho (Ly its n j u) (r.set rv j) (by rw [length_set];exact hz) s.toks
 by_cases h0:0<=k
 ·have hk:k.toNat=j:=by
   rw [seqIndex_of h0 h4] at h1
   exact Option.some.inj h1
  exact PySem.W.ki_setAt ho h0 (by omega) (by rw [size_toArray,<- hl];exact h4) (by rw [hk];exact ⟨_,I',q⟩)
 ·have hk:(k+(its.toArray.size:Int)).toNat=j:=by
   rw [seqIndex_neg (by omega) h3] at h1
   rw [size_toArray,<- hl]
   exact Option.some.inj h1
  exact PySem.W.ki_setBack ho (by omega) (by rw [size_toArray,<- hl];exact h3) (by omega) (by rw [hk];exact ⟨_,I',q⟩)
theorem IT (lo hi:Option Int) (n:Nat):(sliceBounds lo hi none n).1=((HT.sIx n 0 lo:Nat):Int)/\(sliceBounds lo hi none n).2.1=((HT.sIx n n hi:Nat):Int)/\(sliceBounds lo hi none n).2.2=1:=by
 refine ⟨?_,?_,rfl⟩
 ·cases lo with
  | none=>simp [sliceBounds,HT.sIx]
  | some i =>
    simp only [sliceBounds,HT.sIx,Option.getD_none,show (1:Int) > 0 by decide,if_true]
    by_cases h:i < 0
    ·simp only [h,if_true] <;> omega
    ·simp only [h,if_false] <;> omega
 ·cases hi with
  | none=>simp [sliceBounds,HT.sIx]
  | some i =>
    simp only [sliceBounds,HT.sIx,Option.getD_none,show (1:Int) > 0 by decide,if_true]
    by_cases h:i < 0
    ·simp only [h,if_true] <;> omega
    ·simp only [h,if_false] <;> omega
theorem HX (its:List Value) (lo hi:Option Int):slicePick its.toArray lo hi none=((its.drop (HT.sIx its.length 0 lo)).take (HT.sIx its.length its.length hi - HT.sIx its.length 0 lo)).toArray:=by
 obtain ⟨h1,h2,h3⟩:=IT lo hi its.toArray.size
 unfold slicePick
 rw [h1,h2,h3]
 simp only [sliceRange_one,pick_run,size_toArray] <;> rfl
noncomputable def T4 (K:PySem.W.Frag):V->Option Int->Option Int->Hp->VK->Prop:=fun x lo hi H Q=>∃a xs,x=.ref a/\SqL K H a xs/\∀p,H p=none->Q (.ref p) (upd H p (.lst (HU xs lo hi)))
theorem ML:SlR X (T4 X.K):=by
 intro pins s σ H x v vl vu lo hi sl Q I rx hs pl pu h
 obtain ⟨a,xs,rfl,hx,q⟩:=h
 cases rx
 obtain ⟨its,r,ht,hz⟩:=I.list hx
 have hlen:=r.length
 refine ⟨"list",_,slot_list_getitem.lookup,ht.isList.typeIs,?_⟩
 refine wpAny_getItem_list_slice ht.isList hs pl pu .none (by simp) ?_ (by rw [size_toArray] <;> omega)
 rw [HX,<- hlen]
 refine ⟨.ref s.heap.objs.size,_,I.laid (t':=s.toks) (o:=.lst (HU xs lo hi)) (fun b ob q=>Heap.get?_push_of_some _ q) (Nat.le_refl _) ?_,rfl,q _ (I.hok.fresh (Nat.le_refl _))⟩
 exact ⟨Nat.le_trans (Kw xs lo hi) hz,_,0,(r.drop (HT.sIx xs.length 0 lo)).take (HT.sIx xs.length xs.length hi - HT.sIx xs.length 0 lo),Heap.get?_push_size _ rfl⟩
noncomputable def FU:V->Bool
 | .non=>true
 | .bl _=>true
 | .int _=>true
 | .str _=>true
 | _=>false
noncomputable def eqV:V->V->Bool
 | .non,.non=>true
 | .bl a,.bl b=>a == b
 | .bl a,.int b=>(if a then 1 else 0) == b
 | .int a,.bl b=>a == (if b then 1 else 0)
 | .int a,.int b=>a == b
 | .str a,.str b=>a == b
 | _,_=>false
theorem RY {A:Around} {s:Shared} {y x:V} {u v:Value} (ry:A9 y u) (rx:A9 x v) (fy:FU y=true) (fx:FU x=true):SeqAt.EqAt A s u v (eqV y x):=by
 cases y with
 | non =>
   cases ry
   cases x with
   | non=>cases rx;exact SeqAt.EqAt.same _
   | bl b=>cases rx;exact SeqAt.EqAt.none_bool b
   | int b=>obtain ⟨t,rfl⟩:=rx;exact SeqAt.EqAt.none_int b t
   | str b=>obtain ⟨t,rfl⟩:=rx;exact SeqAt.EqAt.none_str b t
   | _=>exact absurd (show false=true from fx) Bool.false_ne_true
 | bl a =>
   cases ry
   cases x with
   | non=>cases rx;exact SeqAt.EqAt.bool_none a
   | bl b=>cases rx;exact SeqAt.EqAt.bool_bool a b
   | int b=>obtain ⟨t,rfl⟩:=rx;exact SeqAt.EqAt.bool_int a b t
   | str b=>obtain ⟨t,rfl⟩:=rx;exact SeqAt.EqAt.bool_str a b t
   | _=>exact absurd (show false=true from fx) Bool.false_ne_true
 | int a =>
   obtain ⟨t',rfl⟩:=ry
   cases x with
   | non=>cases rx;exact SeqAt.EqAt.int_none a t'
   | bl b=>cases rx;exact SeqAt.EqAt.int_bool a t' b
   | int b=>obtain ⟨t,rfl⟩:=rx;exact SeqAt.EqAt.int_int a t' b t
   | str b=>obtain ⟨t,rfl⟩:=rx;exact SeqAt.EqAt.int_str a t' b t
   | _=>exact absurd (show false=true from fx) Bool.false_ne_true
 | str a =>
   obtain ⟨t',rfl⟩:=ry
   cases x with
   | non=>cases rx;exact SeqAt.EqAt.str_none a t'
   | bl b=>cases rx;exact SeqAt.EqAt.str_bool a t' b
   | int b=>obtain ⟨t,rfl⟩:=rx;exact SeqAt.EqAt.str_int a t' b t
   | str b=>obtain ⟨t,rfl⟩:=rx;exact SeqAt.EqAt.str_str a t' b t
   | _=>exact absurd (show false=true from fx) Bool.false_ne_true
 | _=>exact absurd (show false=true from fy) Bool.false_ne_true
noncomputable def eqU (x:V) (u:Value):Bool:=match u with
 | .none=>eqV .non x
 | .bool b=>eqV (.bl b) x
 | .int i _=>eqV (.int i) x
 | .str z _=>eqV (.str z) x
 | _=>false
theorem Os {x y:V} {u:Value} (r:A9 y u) (f:FU y=true):eqU x u=eqV y x:=by
 cases y with
 | non=>cases r;rfl
 | bl b=>cases r;rfl
 | int i=>obtain ⟨t,rfl⟩:=r;rfl
 | str z=>obtain ⟨t,rfl⟩:=r;rfl
 | _=>exact absurd (show false=true from f) Bool.false_ne_true
theorem JF {x:V}:∀{xs:List V} {us:List Value},A5 xs us->xs.all FU=true->us.any (eqU x)=xs.any fun y=>eqV y x
 | _,_,.nil,_=>rfl
 | y :: xs,u :: us,.cons r t,f=>by
   rw [all_cons,Bool.and_eq_true] at f
   rw [any_cons,any_cons,Os r f.1,JF t f.2]
theorem HH {A:Around} {s:Shared} {x:V} {v:Value} (rx:A9 x v) (fx:FU x=true):∀{xs:List V} {us:List Value},A5 xs us->xs.all FU=true->∀u∈us,SeqAt.EqAt A s u v (eqU x u)
 | _,_,.nil,_=>fun u hu=>by cases hu
 | y :: xs,u :: us,.cons r t,f=>fun u' hu=>by
   rw [all_cons,Bool.and_eq_true] at f
   rcases mem_cons.mp hu with rfl | hu
   ·rw [Os r f.1];exact RY r rx f.1 fx
   ·exact HH rx fx t f.2 u' hu
noncomputable def inV (x:V) (xs:List V):Bool:=xs.any fun y=>eqV y x
noncomputable def rIn (K:PySem.W.Frag) (neg:Bool):R2:=fun x y H Q=>∃p xs,y=.ref p/\(SqL K H p xs\/SqT K H p xs)/\FU x=true/\xs.all FU=true/\Q (.bl (if neg then !inV x xs else inV x xs)) H
theorem Nq:OpR X (compareOp .In) (rIn X.K false):=by
 intro pins s σ H x y v u Q I rx ry h
 obtain ⟨p,xs,rfl,hq,fx,fs,q⟩:=h
 cases ry
 rcases hq with hq | hq
 ·obtain ⟨its,r,pl,hz⟩:=I.list hq
  refine SeqAt.in_listAt (eqU x) pl.isList (fun w hw=>HH rx fx r fs w (by simpa using hw)) ⟨.bl _,H,I,rfl,?_⟩
  rw [show its.toArray.any (eqU x)=its.any (eqU x) by simp,JF r fs]
  exact q
 ·obtain ⟨its,r,pl,hz⟩:=I.tuple hq
  refine SeqAt.in_tupleAt (eqU x) pl (fun w hw=>HH rx fx r fs w (by simpa using hw)) ⟨.bl _,H,I,rfl,?_⟩
  rw [show its.toArray.any (eqU x)=its.any (eqU x) by simp,JF r fs]
  exact q
theorem At:C6 X (.builtin "len") (fun xs H Q=>∃p ys,xs=[.ref p]/\(SqL X.K H p ys\/SqT X.K H p ys)/\Q (.int ys.length) H):=by
 intro pins s σ H xs us Q I r h
 obtain ⟨p,ys,rfl,hq,q⟩:=h
 obtain ⟨u,rfl,rx⟩:=DR r
 cases rx
 have hn:=Ji
 rcases hq with hq | hq
 ·obtain ⟨its,r',pl,hz⟩:=I.list hq
  have hlen:=r'.length
  exact Calls.call_len_list pl.isList (by simp only [size_toArray] <;> omega) ⟨.int ys.length,H,I.tok _,⟨s.toks+1,by rw [size_toArray,hlen]⟩,q⟩
 ·obtain ⟨its,r',pl,hz⟩:=I.tuple hq
  have hlen:=r'.length
  exact len_tuple pl (by simp only [size_toArray] <;> omega) ⟨.int ys.length,H,I.tok _,⟨s.toks+1,by rw [size_toArray,hlen]⟩,q⟩
theorem BF:C6 X (.type "list") (fun xs H Q=>∃p ys,xs=[.ref p]/\(SqL X.K H p ys\/SqT X.K H p ys)/\∀l,H l=none->Q (.ref l) (upd H l (.lst ys))):=by
 intro pins s σ H xs us Q I r h
 obtain ⟨p,ys,rfl,hq,q⟩:=h
 obtain ⟨u,rfl,rx⟩:=DR r
 cases rx
 have fin:∀(its:List Value),A5 ys its->ys.length<=sizeLine->∀(h':Heap) (c':Nat),(∀b o',s.heap.get? b=some o'->h'.get? b=some o') ->
  h'.get? s.heap.objs.size=some { cls:=.type "list",dict:=none,data:=.seq its.toArray c',slots:=#[] }->EP X pins σ Q (.ref s.heap.objs.size) { s with heap:=h' }:=fun its r' hz h' c' kp e =>
  ⟨.ref s.heap.objs.size,_,I.laid (t':=s.toks) kp (Nat.le_refl _) (show AJ X.prog X.w _ h' _ (.lst ys) from ⟨hz,its,c',r',e⟩),rfl,q _ (I.hok.fresh (Nat.le_refl _))⟩
 rcases hq with hq | hq
 ·obtain ⟨its,r',pl,hz⟩:=I.list hq
  have hlen:=r'.length
  obtain ⟨o,ho,hc,n,hd⟩:=pl.isList
  exact call_list_seq p (.inl rfl) ho hc hd (fun h' c' kp e=>fin its r' hz h' c' kp e) (by simp only [size_toArray] <;> omega)
 ·obtain ⟨its,r',pl,hz⟩:=I.tuple hq
  have hlen:=r'.length
  obtain ⟨o,ho,hc,n,hd⟩:=pl
  exact call_list_seq p (.inr rfl) ho hc hd (fun h' c' kp e=>fin its r' hz h' c' kp e) (by simp only [size_toArray] <;> omega)
theorem HM:C6 X (.type "tuple") (fun xs H Q=>∃p ys,xs=[.ref p]/\((SqL X.K H p ys/\∀l,H l=none->Q (.ref l) (upd H l (.tup ys)))\/(SqT X.K H p ys/\Q (.ref p) H))):=by
 intro pins s σ H xs us Q I r h
 obtain ⟨p,ys,rfl,h⟩:=h
 obtain ⟨u,rfl,rx⟩:=DR r
 cases rx
 rcases h with ⟨hq,q⟩ | ⟨hq,q⟩
 ·obtain ⟨its,r',pl,hz⟩:=I.list hq
  have hlen:=r'.length
  refine call_tuple_list pl.isList (fun h' kp=>?_) (by simp only [size_toArray] <;> omega)
  have I1:Inv X pins σ H { s with heap:=h' }:=I.kept (t':=s.toks) kp
  have I2:Inv X pins σ (upd H h'.objs.size (.tup ys)) { s with heap:=h'.push { cls:=.type "tuple",data:=.seq its.toArray } } :=
   I1.laid (t':=s.toks) (fun b o e=>Heap.get?_push_of_some _ e) (Nat.le_refl _) (show AJ X.prog X.w _ _ _ (.tup ys) from ⟨hz,its,r',IsTup.new _ _⟩)
  exact ⟨.ref h'.objs.size,_,I2,rfl,q _ (I1.hok.fresh (Nat.le_refl _))⟩
 ·obtain ⟨its,r',pl,hz⟩:=I.tuple hq
  exact call_tuple_same pl ⟨.ref p,H,I,rfl,q⟩
def tyV (K:PySem.W.Frag) (T:String) (x:V) (H:Hp):Prop:=match x with
 | .str _=>T="str"
 | .int _=>T="int"
 | .ref p=>(T="list"/\∃xs,SqL K H p xs)\/(T="tuple"/\∃o,K.lookup p=some o/\o.cls=.type "tuple"/\o.dict=none) \/
  (T="dict"/\((∃kvs,H p=some (.dK kvs))\/∃kvs,H p=some (.dT kvs)))\/(T="set"/\∃S n,H p=some (.set S n))
 | _=>False
theorem Oy {pins:List (Addr × Obj)} {σ:St} {H:Hp} {s:Shared} {T:String} {x:V} {v:Value} (I:Inv X pins σ H s) (r:A9 x v) (ty:tyV X.K T x H) :
 s.TypeIs v T/\∀a,v=.ref a->∃ob,s.heap.get? a=some ob/\ob.dict=none:=by
 cases x with
 | str z =>
   obtain ⟨t,rfl⟩:=r
   cases (show T="str" from ty)
   exact ⟨typeIs_str s z t,fun _ e=>nomatch e⟩
 | int i =>
   obtain ⟨t,rfl⟩:=r
   cases (show T="int" from ty)
   exact ⟨typeIs_int s i t,fun _ e=>nomatch e⟩
 | ref p =>
   cases r
   rcases ty with ⟨rfl,xs,hq⟩ | ⟨rfl,o,hk,hc,hd⟩ | ⟨rfl,hk⟩ | ⟨rfl,S,n,hk⟩
   ·obtain ⟨its,_,pl,_⟩:=I.list hq
    refine ⟨pl.isList.typeIs,fun a e=>?_⟩
    cases e
    obtain ⟨o,n,e,c,hd,_⟩:=pl
    exact ⟨o,e,hd⟩
   ·refine ⟨⟨o,I.kIn p o hk,hc⟩,fun a e=>?_⟩
    cases e
    exact ⟨o,I.kIn _ o hk,hd⟩
   ·have z:∃o,s.heap.get? p=some o/\o.ExactDict:=by
     rcases hk with ⟨kvs,hk⟩ | ⟨kvs,hk⟩
     ·obtain ⟨_,_,_,_,o,_,_,e,ex,_⟩:=I.hok p _ hk
      exact ⟨o,e,ex⟩
     ·obtain ⟨_,_,_,_,o,_,_,e,ex,_⟩:=I.hok p _ hk
      exact ⟨o,e,ex⟩
    obtain ⟨o,e,ex⟩:=z
    refine ⟨⟨o,e,ex.1⟩,fun a e2=>?_⟩
    cases e2
    exact ⟨o,e,ex.2.1⟩
   ·obtain ⟨o,_,_,_,e,ex,_⟩:=I.hok p _ hk
    refine ⟨⟨o,e,ex.1⟩,fun a e2=>?_⟩
    cases e2
    exact ⟨o,e,ex.2.1⟩
 | _=>exact False.elim ty
noncomputable def Tt (K:PySem.W.Frag) (T:String) (r:V->List V->Hp->VK->Prop) (to:TE):TE:=fun σ H Q=>to σ H fun x H1=>tyV K T x H1/\r x [] H1 Q
noncomputable def tBM (K:PySem.W.Frag) (T:String) (r:V->List V->Hp->VK->Prop) (to:TE) (t:TA):TE:=fun σ H Q=>to σ H fun x H1=>tyV K T x H1/\t σ H1 fun xs H2=>r x xs H2 Q
variable {o e:Expr} {es:List Expr} {to:TE} {t:TA} {name:Str} {apos cpos:Pos} {T id:String} {r:V->List V->Hp->VK->Prop}
theorem Lg (pa:PlainAttrs T) (slot:Slot T name id) (hty:typeOf (.builtin id)=pure (.type "method_descriptor")) (hm:MtR X id r) (ho:PE X o to)
 (hbase:attributeBase o name X.env (eval o X.env)=eval o X.env:=by rfl) (hline:(apos.endLine == cpos.line)=true:=by rfl):PE X (.Call (.Attribute o name apos) [] [] cpos) (Tt X.K T r to):=by
 intro pins s σ H Q I h
 refine wpAny_Call_method0_late hbase hline (thn (ho pins s σ H _ I h) fun v s1 ⟨x,H1,I1,r1,ty,q1⟩=>?_)
 obtain ⟨h1,h2⟩:=Oy I1 r1 ty
 exact ⟨T,id,pa,slot,hty,h1,h2,Calls.callWith_builtin rfl (PySem.evalArgs_none (hm pins s1 σ H1 x [] v [] Q I1 r1 .nil q1))⟩
theorem DN (pa:PlainAttrs T) (slot:Slot T name id) (hty:typeOf (.builtin id)=pure (.type "method_descriptor")) (hm:MtR X id r) (ho:PE X o to) (ha:PA X (e :: es) t)
 (hbase:attributeBase o name X.env (eval o X.env)=eval o X.env:=by rfl)
 (hfew:((backTo cpos (starEach (e :: es) X.env)).all (fun x=>!x.1) && (backToKw cpos (keywordEach [] X.env)).all (fun x=>x.1.isSome)
  && decide ((e :: es).length+([]:List Keyword).length+(if ([]:List Keyword).isEmpty then 0 else 1) < 30))=true:=by rfl)
 (hline:(apos.endLine == cpos.line)=true:=by rfl) (hs:starEach (e :: es) X.env=(false,eval e X.env) :: starEach es X.env:=by rfl) (hplain:(backTo cpos (starEach es X.env)).any (·.1)=false:=by rfl) :
 PE X (.Call (.Attribute o name apos) (e :: es) [] cpos) (tBM X.K T r to t):=by
 intro pins s σ H Q I h
 refine wpAny_Call_method_late hbase hfew hline rfl (thn (ho pins s σ H _ I h) fun v s1 ⟨x,H1,I1,r1,ty,q1⟩=>?_)
 obtain ⟨h1,h2⟩:=Oy I1 r1 ty
 refine ⟨T,id,pa,slot,hty,h1,h2,?_⟩
 have hA:=ha cpos pins s1 σ H1 _ I1 q1
 rw [hs] at hA ⊢
 refine Calls.callWith_builtin (by show (false || (backTo cpos (starEach es X.env)).any (·.1))=false;rw [hplain] <;> rfl) (Calls.evalArgs_plain ?_)
 exact thn hA fun us s2 ⟨vs,H2,I2,r2,q2⟩=>hm pins s2 σ H2 x vs v us Q I2 r1 r2 q2
end
end L2
namespace L2
open PySem PySem.Spec PyProof.Rows
def MtM (X:Cx) (id:String) (r:V->List V->Hp->VK->Prop):Prop :=
 ∀(pins:List (Addr × Obj)) (s:Shared) (σ:St) (H:Hp) (x:V) (xs:List V) (v:Value) (us:List Value) (Q:VK),Inv X pins σ H s->A9 x v->A5 xs us->r x xs H Q ->
  wpAny (model X.prog X.w) X.A (call (.builtin id) (v :: us)) (EP X pins σ Q) X.xe s
theorem A5.one:∀{x:V} {us:List Value},A5 [x] us->∃u,us=[u]/\A9 x u
 | _,_,.cons r .nil=>⟨_,rfl,r⟩
theorem A5.zero:∀{us:List Value},A5 [] us->us=[]
 | _,.nil=>rfl
theorem A5.dropLast {xs:List V} {us:List Value} (h:A5 xs us):A5 xs.dropLast us.dropLast:=by
 induction h with
 | nil=>exact .nil
 | cons r t ih =>
   cases t with
   | nil=>exact .nil
   | cons q t'=>exact .cons r ih
theorem A5.eraseIdx:∀{xs:List V} {us:List Value} (i:Nat),A5 xs us->A5 (xs.eraseIdx i) (us.eraseIdx i)
 | _,_,_,.nil=>.nil
 | _,_,0,.cons _ t=>t
 | _,_,i+1,.cons r t=>.cons r (A5.eraseIdx i t)
theorem A5.rep {xs:List V} {us:List Value} (h:A5 xs us):∀k:Nat,A5 (List.replicate k xs).flatten (List.replicate k us).flatten
 | 0=>.nil
 | k+1=>by
   rw [replicate_succ,replicate_succ,flatten_cons,flatten_cons]
   exact A5.append h (A5.rep h k)
theorem Mc {α:Type} (l:List α):l.eraseIdx (l.length - 1)=l.dropLast:=by
 induction l with
 | nil=>rfl
 | cons a r ih =>
   cases r with
   | nil=>rfl
   | cons b r =>
     have e:(a :: b :: r).length - 1=((b :: r).length - 1)+1:=by
      have h1:(a :: b :: r).length=r.length+2:=rfl
      have h2:(b :: r).length=r.length+1:=rfl
      omega
     rw [e,eraseIdx_cons_succ,ih]
     all_goals rfl
theorem Iu {α:Type}:∀(l:List α) (i:Nat),(l.eraseIdx i).length<=l.length
 | [],_=>Nat.le_refl _
 | _ :: _,0=>Nat.le_succ _
 | _ :: r,i+1=>Nat.succ_le_succ (Iu r i)
theorem I0 (its:List Value):∀(k:Nat) (acc:List Value),
 List.foldl (fun x1 x2=>x1++x2) acc.toArray (List.replicate k its.toArray)=(acc++(List.replicate k its).flatten).toArray
 | 0,acc=>by simp
 | k+1,acc=>by
   have e:acc.toArray++its.toArray=(acc++its).toArray:=by simp
   have e2:(acc++its)++(List.replicate k its).flatten=acc++(List.replicate (k+1) its).flatten:=by
    rw [replicate_succ,flatten_cons,append_assoc]
   rw [<- e2,<- I0 its k (acc++its),<- e,replicate_succ,foldl_cons]
section
variable {X:Cx} {pins:List (Addr × Obj)} {σ:St} {H:Hp} {s:Shared} {l b:Addr} {xs ys zs:List V}
theorem Inv.lset {its its':List Value} {n:Nat} {f:Array Value->Array Value} {t':Nat} (I:Inv X pins σ H s) (hH:H l=some (.lst xs))
 (e:s.heap.get? l=some { cls:=.type "list",data:=.seq its.toArray n }) (hf:f its.toArray=its'.toArray) (hv:A5 ys its') (hz:ys.length<=sizeLine) :
 Inv X pins σ (upd H l (.lst ys)) { s with heap:=s.heap.update l (Obj.mapSeq f),toks:=t' }:=by
 have q:=PySem.IsL.update e f
 rw [hf] at q
 refine I.write (x:=l) (e:=l) (by rw [hH];exact trivial) (.inl rfl) (fun b' u hb hu=>(Heap.get?_update_other s.heap (Obj.mapSeq f) (Ne.symm hb)).trans hu) ⟨_,q⟩ ?_
 exact ⟨hz,its',_,hv,q⟩
theorem Inv.lnew {its:List Value} {t':Nat} (I:Inv X pins σ H s) (hv:A5 ys its) (hz:ys.length<=sizeLine) :
 Inv X pins σ (upd H s.heap.objs.size (.lst ys)) { s with heap:=s.heap.push { cls:=.type "list",data:=.seq its.toArray },toks:=t' } :=
 I.laid (fun _ _ q=>Heap.get?_push_of_some _ q) (Nat.le_refl _) ⟨hz,its,0,hv,Heap.get?_push_size _ rfl⟩
theorem Inv.fresh (I:Inv X pins σ H s):H s.heap.objs.size=none:=I.hok.fresh (Nat.le_refl _)
theorem Inv.lstM (I:Inv X pins σ H s) (hH:H l=some (.lst xs)):xs.length<=sizeLine/\∃(its:List Value) (n:Nat),A5 xs its/\xs.length=its.length/\s.heap.get? l=some { cls:=.type "list",data:=.seq its.toArray n }:=by
 obtain ⟨z,its,n,r,e⟩:=I.hok l _ hH
 exact ⟨z,its,n,r,r.length,e⟩
theorem OH {n:Nat} (h:n<=sizeLine):Builtin.List.listTooLong n=false:=by
 unfold Builtin.List.listTooLong
 exact decide_eq_false (by omega)
end
section
variable {X:Cx}
noncomputable def PQ:V->List V->Hp->VK->Prop:=fun x vs H Q=>∃l xs y,x=.ref l/\vs=[y]/\H l=some (.lst xs)/\xs.length < sizeLine/\Q .non (upd H l (.lst (xs++[y])))
theorem Bu:MtM X "list.append" PQ:=by
 intro pins s σ H x vs v us Q I rx rv h
 obtain ⟨l,xs,y,rfl,rfl,hH,hz,q⟩:=h
 cases rx
 obtain ⟨u,rfl,ru⟩:=rv.one
 obtain ⟨z,its,n,r,hl,e⟩:=I.lstM hH
 refine call_meets F.slot_list_append ⟨_,e,rfl⟩ F.entry_list_append (F.args_list_append_2 _ _) (PySem.list_append l its.toArray n u (by rw [size_toArray];omega)) ⟨e,?_⟩
 refine ⟨.non,_,I.lset (its':=its++[u]) hH e (by simp) (r.append (.cons ru .nil)) ?_,rfl,q⟩
 rw [length_append,length_singleton]
 omega
noncomputable def Tu:V->List V->Hp->VK->Prop:=fun x vs H Q=>∃l xs y,x=.ref l/\vs=[]/\H l=some (.lst xs)/\xs[xs.length - 1]?=some y/\Q y (upd H l (.lst xs.dropLast))
theorem RB:MtM X "list.pop" Tu:=by
 intro pins s σ H x vs v us Q I rx rv h
 obtain ⟨l,xs,y,rfl,rfl,hH,hy,q⟩:=h
 cases rx
 have hus:=rv.zero
 subst hus
 obtain ⟨z,its,n,r,hl,e⟩:=I.lstM hH
 obtain ⟨u,hu,ru⟩:=r.get hy
 have hy':its.toArray[its.toArray.size - 1]?=some u:=by
  show its.toArray[its.length - 1]?=some u
  rw [<- Array.getElem?_toList,<- hl]
  exact hu
 refine call_meets F.slot_list_pop ⟨_,e,rfl⟩ F.entry_list_pop (F.args_list_pop_1 _) (MeetsSeq.list_pop_last l its.toArray n u hy' (by rw [size_toArray];omega)) ⟨e,?_⟩
 refine ⟨y,_,I.lset (its':=its.dropLast) hH e ?_ r.dropLast ?_,ru,q⟩
 ·show its.toArray.eraseIdxIfInBounds (its.toArray.size - 1)=its.dropLast.toArray
  rw [size_toArray,eraseIdxIfInBounds_toArray,Mc]
 ·rw [length_dropLast]
  omega
noncomputable def R7:V->List V->Hp->VK->Prop:=fun x vs H Q=>∃l xs i k y,x=.ref l/\vs=[.int i]/\H l=some (.lst xs)/\-(2 ^ 63)<=i/\i < 2 ^ 63/\seqIndex? i xs.length=some k/\xs[k]?=some y/\Q y (upd H l (.lst (xs.eraseIdx k)))
theorem KC:MtM X "list.pop" R7:=by
 intro pins s σ H x vs v us Q I rx rv h
 obtain ⟨l,xs,i,k,y,rfl,rfl,hH,h1,h2,hk,hy,q⟩:=h
 cases rx
 obtain ⟨u,rfl,ru⟩:=rv.one
 obtain ⟨t,rfl⟩:=ru
 obtain ⟨z,its,n,r,hl,e⟩:=I.lstM hH
 obtain ⟨w,hw,rw'⟩:=r.get hy
 refine call_meets F.slot_list_pop ⟨_,e,rfl⟩ F.entry_list_pop (F.args_list_pop_2 _ _)
  (MeetsSeq.list_pop_at l its.toArray n i t k w (fitsIndex_both h1 h2) (by rw [size_toArray,<- hl];exact hk) (by rw [<- Array.getElem?_toList];exact hw) (by rw [size_toArray];omega)) ⟨e,?_⟩
 refine ⟨y,_,I.lset (its':=its.eraseIdx k) hH e ?_ (r.eraseIdx k) ?_,rw',q⟩
 ·show its.toArray.eraseIdxIfInBounds k=(its.eraseIdx k).toArray
  rw [eraseIdxIfInBounds_toArray]
 ·have:=Iu xs k
  omega
noncomputable def TF:R2:=fun x y H Q=>∃l b xs zs,x=.ref l/\y=.ref b/\H l=some (.lst xs)/\H b=some (.lst zs)/\xs.length+zs.length<=sizeLine/\∀p,H p=none->Q (.ref p) (upd H p (.lst (xs++zs)))
theorem Oo:OpR X (binaryOp .Add) TF:=by
 intro pins s σ H x y v u Q I rx ry h
 obtain ⟨l,b,xs,zs,rfl,rfl,hH,hB,hz,q⟩:=h
 cases rx
 cases ry
 obtain ⟨z,its,n,r,hl,e⟩:=I.lstM hH
 obtain ⟨z2,its2,n2,r2,hl2,e2⟩:=I.lstM hB
 refine PySem.P.add_list e e2 ?_ (by rw [size_toArray,size_toArray];omega)
 have ea:its.toArray++its2.toArray=(its++its2).toArray:=by simp
 rw [ea]
 exact ⟨.ref _,_,I.lnew (t':=s.toks) (r.append r2) (by rw [length_append];omega),rfl,q _ I.fresh⟩
noncomputable def Tk:R2:=fun x y H Q=>∃l k xs,x=.ref l/\y=.int k/\H l=some (.lst xs)/\-(2 ^ 63)<=k/\k < 2 ^ 63/\xs.length*k.toNat<=sizeLine /\
 ∀p,H p=none->Q (.ref p) (upd H p (.lst (List.replicate k.toNat xs).flatten))
theorem QC {α:Type} (xs:List α) (k:Nat):(List.replicate k xs).flatten.length=k*xs.length:=by
 induction k with
 | zero=>simp
 | succ k ih=>rw [replicate_succ,flatten_cons,length_append,ih,Nat.succ_mul,Nat.add_comm]
theorem RW:OpR X (binaryOp .Mult) Tk:=by
 intro pins s σ H x y v u Q I rx ry h
 obtain ⟨l,k,xs,rfl,rfl,hH,h1,h2,hz,q⟩:=h
 cases rx
 obtain ⟨t,rfl⟩:=ry
 obtain ⟨z,its,n,r,hl,e⟩:=I.lstM hH
 have hlen:its.toArray.size*k.toNat<=sizeLine:=by rw [size_toArray,<- hl];exact hz
 have hcap:¬ its.toArray.size*k.toNat > (2 ^ 63 - 1) / 8:=by
  have:(sizeLine:Nat)<=(2 ^ 63 - 1) / 8:=by decide
  omega
 have hfit:¬ (!Builtin.List.listFitsIndex k)=true:=by
  rw [fitsIndex_both h1 h2]
  exact Bool.false_ne_true
 have hlong:¬ Builtin.List.listTooLong (its.toArray.size*k.toNat)=true:=by
  rw [OH hlen]
  exact Bool.false_ne_true
 have hnew:List.foldl (fun x1 x2=>x1++x2) #[] (List.replicate (if its.toArray.isEmpty=true then 0 else k.toNat) its.toArray)=(List.replicate k.toNat its).flatten.toArray:=by
  have f0:∀m:Nat,List.foldl (fun x1 x2=>x1++x2) #[] (List.replicate m its.toArray)=(List.replicate m its).flatten.toArray:=fun m=>by
   have:=I0 its m []
   rw [nil_append] at this
   exact this
  rw [f0]
  cases its with
  | nil=>simp
  | cons a r'=>rw [if_neg (by simp)]
 refine wpAny_binaryOp_repeat_ref (T:="list") (U:="int") (by decide) ⟨_,e,rfl⟩ (fun s'=>typeIs_int s' k t) noFill_list_mul F.fills_int_mul F.slot_int_rmul repeat_list F.slot_int_index.lookup
  (call_meets F.slot_int_rmul (typeIs_int s k t) F.entry_int_rmul (F.args_int_rmul_2 _ _) (int___rmul___int_list k t l its.toArray n)
   ⟨e,rfl,⟨_,e,rfl⟩,call_meets F.slot_list_mul ⟨_,e,rfl⟩ F.entry_list_mul (F.args_list_mul_2 _ _) (AutoListH.list___mul___list_int_3 l its.toArray n k t hfit hcap hlong) ⟨e,?_⟩⟩)
 rw [hnew]
 exact ⟨.ref _,_,I.lnew (t':=s.toks) (r.rep k.toNat) (by rw [QC,Nat.mul_comm];exact hz),rfl,q _ I.fresh⟩
end
section
variable {prog:Program} {w:World} {A:Around} {E:Value->Shared->Prop} {s:Shared}
set_option maxRecDepth 100000 in
end
section
variable {X:Cx}
end
end L2
namespace Att
open PySem PySem.W PySem.Calls PyProof.Rows
theorem Gu {P:Params} {h:Heap}:∀(ns:List Int) (vs:List Value),WellAll P h vs (ns.map WData.int)->IntsAre vs ns:=by
 intro ns
 induction ns with
 | nil =>
   intro vs w
   rw [map_nil] at w
   cases w
   exact .nil
 | cons n ns ih =>
   intro vs w
   rw [map_cons] at w
   cases w with
   | cons a b =>
     cases a
     exact .cons _ _ (ih _ b)
theorem Nr {l:OpenLaw} {n:Nat} (hn:l.most=some n) {P:Params} {h:Heap} {args:List WData} {vals:List Value}
 (hpre:l.row.toRowW.claim.pre args=true) (hwl:WellAll P h vals args) :
 ∃a vs ns,vals=[Value.ref a]/\args=[WData.list (ns.map WData.int)]/\h.get? a=some { cls:=.type "list",data:=.seq vs.toArray }/\IntsAre vs ns/\ns.length<=n:=by
 have hsh:WShape.hasAll [] args [.list .int]=true:=(pre_splitW hpre).1
 have hc:l.pre.holds [] { args:=args }=true:=(pre_splitW hpre).2
 obtain ⟨d,r,rfl,h1,h2⟩:=hasAllW_cons hsh
 obtain rfl:=hasAllW_nil h2
 obtain ⟨xs,rfl,h3⟩:=hasW_list h1
 obtain ⟨ns,rfl⟩:=items_int h3
 have hlen:ns.length<=n:=by
  unfold OpenLaw.pre at hc
  have h4:(WTm.not (.lt (.lit (.int (n:Int))) (.len (.arg 0)))).holds [] { args:=[.list (ns.map .int)] }=true:=by
   have h4:=(holds_andW hc).1
   rw [hn] at h4
   exact h4
  have h5:=condW_of h4 (w_not (w_lt w_lit (w_len_list (w_arg rfl))))
  rw [length_map] at h5
  refine Nat.le_of_not_lt fun q=>?_
  have q':(n:Int) < ((ns.length:Nat):Int):=by omega
  first
   | (rw [decide_eq_true q'] at h5;exact absurd h5 (by decide))
   | (simp at h5;omega)
 cases hwl with
 | cons w1 w2 =>
   cases w2
   cases w1 with
   | list ho hall=>exact ⟨_,_,ns,rfl,rfl,ho,Gu ns _ hall,hlen⟩
theorem MZ (l:OpenLaw) (args:List WData):l.row.toRowW.claim.post args (.bool true) args=true :=
 postW_of (r:=l.row.toRowW) (X:=(true == true))
  (show WShape.has [] (.bool true) .bool=true by first | rfl | decide | simp [WShape.has,WShape.arms,WShape.armsAll])
  (show (WTm.eq .res (.lit (.bool true))).value [] { args:=args,res:=some (.bool true),after:=args }=some (.bool (true == true)) from w_eq_bool (w_res rfl) w_lit) rfl
theorem attach_call {l:OpenLaw} {n:Nat} {q:Program} {loose:List Str} {XP:(Str->Option Value)->Heap->Prop} {YP:World->Heap->Prop} {d:DefRec}
 (hn:l.most=some n) (hdf:d.params.defaults=[])
 (call:∀(w:World) (s₀ s₁:Shared) (mg mb:Str->Option Value) (fa:Addr) (o:Obj) (pm cd doc:Value) (a:Addr) (vs:List Value) (ns:List Int),
  Ground q loose [] XP w s₀ mg mb s₁.heap->YP w s₁.heap ->
  s₁.heap.get? fa=some o->o.data=.func (docDef d.name d.params d.body d.scope pm cd doc)->s₁.heap.CodeRec cd d.name->mg d.name=some (.ref fa) ->
  s₁.heap.get? a=some { cls:=.type "list",data:=.seq vs.toArray }->IntsAre vs ns->ns.length<=n->s₁.gens=#[] ->
  codeAny (model l.prog w) callerA (.call (.ref fa) ⟨[.ref a],[]⟩) (fun r s'=>r=.ok (.ret (.bool true))/\OldK s₁.heap s'.heap/\s'.os=s₁.os/\AllBare s'.gens) s₁) :
 WalkO q loose XP YP l.row.toRowW d [] (fun f vs=>PySem.call f vs):=by
 intro w s₀ s₁ mg mb G Y fa o pm cd doc dV kV ho hd hcd hD hmg hg args vals as hpre hlay hrd hwl hlo
 obtain rfl:dV=.none:=Dflts.none hD hdf
 obtain rfl:kV=.none:=Dflts.noKw hD
 obtain ⟨a,vs,ns,rfl,rfl,hobj,hints,hlen⟩:=Nr hn hpre hwl
 refine enter_call (codeAny_mono (call w s₀ s₁ mg mb fa o pm cd doc a vs ns G Y ho (fd_plain hd) hcd hmg hobj hints hlen hg) fun r s' hq=>?_)
 obtain ⟨rfl,h2,h3,h4⟩:=hq
 exact ⟨.inl ⟨.bool true,.bool true,[],rfl,fun _=>rfl,.bool true,MZ l _,fun _=>⟨List.Pairwise.nil,fun _ hm=>(nomatch hm)⟩⟩,h2,h3,h4⟩
section
variable {prog:Program} {w:World} {A:Around} {E:Value->Shared->Prop} {s:Shared} {K:Frag}
end
end Att
namespace L2
open PySem PySem.Spec PyProof.Rows
theorem Do:∀{vs:List Value} {ns:List Int},IntsAre vs ns->A5 (ns.map V.int) vs
 | _,_,.nil=>.nil
 | _,_,.cons n t h=>.cons ⟨t,rfl⟩ (Do h)
def RK (H:Hp):Prop:=∀b,H b=none\/∃o xs,H b=some (.frz o (.lst xs))
theorem Pe {P:Program} {w:World} {K:PySem.W.Frag} {mg mb:Str->Option Value} {CX:CXT} {k:Nat} {fa a:Addr} {fd:FuncData} {x:Str} {sp:Sp} {s₁:Shared} {vs:List Value} {ns:List Int}
 (KX:K.In s₁.heap) (hns:s₁.heap.Ns mainGlobals mg) (hb:s₁.heap.Ns builtinsNs mb) (hbb:∀x:Str,x≠"__name__"->mb x=bootBuiltins x) (hlim:s₁.heap.NoLimit) (hg:s₁.gens=#[])
 (ha:s₁.heap.get? a=some { cls:=.type "list",data:=.seq vs.toArray }) (hi:IntsAre vs ns) (hl:ns.length<=sizeLine) (hr:C3 k callerA)
 (F:∀base:Heap,K.In base->base.Ns mainGlobals mg->A8 P w K mg base CX k fa fd [x] sp) (hbind:∀(s:Shared) (u:Value),BindsTo s fd ⟨[u],[]⟩ [(x,u)])
 (hsp:∀H:Hp,RK H->SqL K H a (ns.map V.int)->sp [.ref a] H (fun v _=>v=.bl true) fun _ _ _=>False)
 (hCX:∀H e s',CX [] H s₁ (fun _ _ _=>False) e s'->False) :
 codeAny (model P w) callerA (.call (.ref fa) ⟨[.ref a],[]⟩) (fun r s'=>r=.ok (.ret (.bool true))/\OldK s₁.heap s'.heap/\s'.os=s₁.os/\AllBare s'.gens) s₁:=by
 have rv:=Do hi
 have lenV:=hi.length
 have core:∀H:Hp,RK H->SqL K H a (ns.map V.int)->HOk P w H s₁.heap->(∀b,H b≠none->b=a)->(H a≠none->K.lookup a=none) ->
  codeAny (model P w) callerA (.call (.ref fa) ⟨[.ref a],[]⟩) (fun r s'=>r=.ok (.ret (.bool true))/\OldK s₁.heap s'.heap/\s'.os=s₁.os/\AllBare s'.gens) s₁:=by
  intro H hO hS hok hA hK
  have base_of:∀{b:Addr} {o:Obj},s₁.heap.get? b=some o->H b=none->(Jh s₁.heap H).get? b=some o:=fun e n=>NZ e n
  have noA:∀{b:Addr} {o:Obj} {es:Array DictEntry} {ep:Nat},s₁.heap.get? b=some o->o.data=.dict es ep->H b=none:=fun {b o es ep} e d=>by
   cases q:H b with
   | none=>rfl
   | some u =>
     have e':b=a:=hA b (by rw [q];simp)
     subst e'
     rw [ha] at e;cases e
     have d':Data.seq vs.toArray _=Data.dict es ep:=d
     cases d'
  have nsK:∀{b:Addr} {m:Str->Option Value},s₁.heap.Ns b m->(Jh s₁.heap H).Ns b m:=fun {b m} ⟨o,es,ep,e,d,r⟩=>⟨o,es,ep,base_of e (noA e d),d,r⟩
  have hKb:K.In (Jh s₁.heap H):=fun b o e=>base_of (KX b o e) (by
   cases q:H b with
   | none=>rfl
   | some u =>
     have e':b=a:=hA b (by rw [q];simp)
     subst e'
     rw [hK (by rw [q];simp)] at e;cases e)
  have hM:Mod K mg (Jh s₁.heap H):=⟨hKb,nsK hns,⟨mb,nsK hb,hbb⟩,let ⟨mc,h1,h2⟩:=hlim;⟨mc,nsK h1,h2⟩⟩
  have e0:L6 P w K mg (Jh s₁.heap H) callerA [] s₁ H:=⟨rfl,hM,fun b o e=>Qd e,Nat.le_of_eq (N9 _ _),trivial,fun b hb=>absurd (show b∈([]:List Addr) from hb) (by simp),hok,.of_eq hg⟩
  refine codeAny_mono ((F _ hKb (nsK hns)).run callerA [] s₁ H ⟨[.ref a],[]⟩ [.ref a] [.ref a] _ _ hr e0 (hbind s₁ (.ref a)) (.cons rfl .nil) (hsp H hO hS)) fun r s' h=>?_
  cases r with
  | error e=>exact (hCX H e s' h).elim
  | ok fl =>
    cases fl with
    | next=>exact False.elim h
    | brk=>exact False.elim h
    | cont=>exact False.elim h
    | ret u =>
      obtain ⟨v,H',os,bare,un,hok',r',q⟩:=h
      have q':v=.bl true:=q
      subst q'
      obtain rfl:u=Value.bool true:=r'
      refine ⟨rfl,OldK.of_keep fun b o e=>?_,os,bare⟩
      cases q:H b with
      | none=>exact un.keep b o e q (by intro z;exact absurd (show b∈([]:List Addr) from z) (by simp)) (by simp)
      | some u =>
        rcases hO b with z | ⟨ob,xs,z⟩
        ·rw [q] at z;cases z
        ·have z2:=un.frzs b ob _ z
         obtain ⟨e1,_⟩:=hok b _ z
         obtain ⟨e2,_⟩:=hok' b _ z2
         rw [e] at e1;cases e1
         exact e2
 cases hk:K.lookup a with
 | some o =>
   have e:=KX a o hk
   rw [ha] at e
   cases e
   refine core (fun _=>none) (fun _=>.inl rfl) (.inr ⟨_,vs.toArray,_,hk,rfl,rfl,rfl,by rw [size_toArray,lenV];exact hl,by simpa using rv⟩) (fun b u z=>by have z':(none:Option HO)=some u:=z;cases z') (fun b z=>absurd rfl z) fun z=>absurd rfl z
 | none =>
   refine core (fun b=>if b=a then some (.frz { cls:=.type "list",data:=.seq vs.toArray } (.lst (ns.map V.int))) else none) (fun b=>?_) (.inl (.inr ⟨{ cls:=.type "list",data:=.seq vs.toArray },if_pos rfl⟩)) (fun b u z=>?_) (fun b z=>?_) fun _=>hk
   ·by_cases hb:b=a
    ·exact .inr ⟨_,_,if_pos hb⟩
    ·exact .inl (if_neg hb)
   ·by_cases hb:b=a
    ·have z':=(if_pos hb).symm.trans z
     cases z'
     subst hb
     exact ⟨ha,by rw [length_map];exact hl,vs,_,rv,ha⟩
    ·have z':=(if_neg hb).symm.trans z
     cases z'
   ·by_cases hb:b=a
    ·exact hb
    ·exact absurd (if_neg hb) z
end L2
namespace L2
open PySem PySem.Spec PyProof.Rows
theorem walk_of {l:PySem.W.OpenLaw} {n k:Nat} {q:Program} {loose:List Str} {XP:(Str->Option Value)->Heap->Prop} {YP:World->Heap->Prop} {d:DefRec} {K:Params->PySem.W.Frag} {CX:World->CXT} {sp:World->Sp} {x:Str}
 (hn:l.most=some n) (hn2:n<=sizeLine) (hdf:d.params.defaults=[]) (hr:C3 k callerA)
 (hY:∀(w:World) (h:Heap),YP w h->(K w.params).In h)
 (F:∀(w:World) (mg:Str->Option Value) (fa:Addr) (h:Heap),(K w.params).In h->h.Ns mainGlobals mg->mg d.name=some (.ref fa) ->
  ∃fd:FuncData,(∀(s:Shared) (u:Value),BindsTo s fd ⟨[u],[]⟩ [(x,u)]) /\
   ∀base:Heap,(K w.params).In base->base.Ns mainGlobals mg->A8 l.prog w (K w.params) mg base (CX w) k fa fd [x] (sp w))
 (hsp:∀(w:World) (H:Hp) (a:Addr) (ns:List Int),ns.length<=n->RK H->SqL (K w.params) H a (ns.map V.int)->sp w [.ref a] H (fun v _=>v=.bl true) fun _ _ _=>False)
 (hCX:∀(w:World) (H:Hp) (s:Shared) (e:Value) (s':Shared),CX w [] H s (fun _ _ _=>False) e s'->False) :
 PySem.W.WalkO q loose XP YP l.row.toRowW d [] (fun f vs=>PySem.call f vs):=by
 refine Att.attach_call hn hdf fun w s₀ s₁ mg mb fa o pm cd doc a vs ns G Y ho hd hcd hmg hobj hints hlen hg=>?_
 have KX:=hY w _ Y
 obtain ⟨fd,hb,hF⟩:=F w mg fa _ KX G.T.g hmg
 exact Pe KX G.T.g G.T.b G.T.builtins G.T.nolimit hg hobj hints (Nat.le_trans hlen hn2) hr hF hb (fun H hO hS=>hsp w H a ns hlen hO hS) fun H e s'=>hCX w H s₁ e s'
end L2
namespace L2
open PySem PySem.Spec PyProof.Rows
def CP (s:Stmt) (j:Nat):Stmt:=match s with
 | .ClassDef _ _ _ body _ _ _ _ _ _ _=>body.getD j (.Pass ⟨0,0,0,0⟩)
 | _=>.Pass ⟨0,0,0,0⟩
noncomputable def Ed (s:Stmt):Arguments:=match s with
 | .FunctionDef _ a _ _ _ _ _ _ _ _=>a
 | _=>{ posonlyargs:=[],args:=[],vararg:=none,kwonlyargs:=[],kw_defaults:=[],kwarg:=none,defaults:=[] }
noncomputable def CO (s:Stmt):List Stmt:=match s with
 | .FunctionDef _ _ b _ _ _ _ _ _ _=>b
 | _=>[]
noncomputable def Ah (s:Stmt):Scope:=match s with
 | .FunctionDef _ _ _ _ _ _ sc _ _ _=>sc
 | _=>{ kind:=.function,names:=[],isGenerator:=false,isCoroutine:=false }
abbrev CX0:CXT:=fun _ _ _ _ _ _=>False
abbrev E0:XK:=fun _ _ _=>False
theorem As {X:Cx}:Ez CX0 X E0:=fun _ _ _ _ _ _ _ h=>h.elim
structure Fun (K:PySem.W.Frag) (x qual:Str) (st:Stmt) (f:Addr) (fd:FuncData):Prop where
 ex:∃(oc:Value) (od:Option Addr) (kV doc pm:Value) (an:Option Addr) (cdv ct:Value) (osl:Array (Option Value)),
  fd=PySem.W.fnOf x qual (Ed st) (CO st) (Ah st) .none kV doc pm an cdv ct/\K.lookup f=some ⟨oc,od,.func fd,osl⟩/\PySem.W.codeIn K cdv qual=true
 kp:PySem.W.keepIn K (.ref f)=true
section
variable {P:Program} {w:World} {K:PySem.W.Frag} {mg:Str->Option Value} {base:Heap}
theorem Fun.ok {x qual:Str} {st:Stmt} {f:Addr} {fd:FuncData} {N ps:List Str} {k:Nat} {sp:Sp} (F:Fun K x qual st f fd) (S:Ar N ps (Ah st)) (len:∀vs H Q E,sp vs H Q E->vs.length=ps.length)
 (hbody:∀(cdv:Value) (A:Around) (outer:List Env) (s:Shared) (H:Hp) (vs:List V) (Q:VK) (E:XK),C3 k (A.deeper (envOfC qual (Ah st) s.heap.objs.size f cdv))->sp vs H Q E ->
  ∃t,PSs (Lw CX0 P w K mg base N qual (Ah st) f cdv A outer s H E).nox (CO st) t/\t { nx:=fun _ H'=>Q .non H',rt:=Q } (EN N vs) H):A8 P w K mg base CX0 (k+1) f fd ps sp:=by
 obtain ⟨oc,od,kV,doc,pm,an,cdv,ct,osl,rfl,lk,hcd⟩:=F.ex
 refine Rt lk hcd S len fun A outer s H vs Q E hr hsp=>?_
 obtain ⟨t,h,q⟩:=hbody cdv A outer s H vs Q E hr hsp
 exact ⟨t,h.nox,q⟩
theorem fun_mk {x qual:Str} {st:Stmt} {f:Addr} {oc:Value} {od an:Option Addr} {osl:Array (Option Value)} {kV doc pm cdv ct:Value} (l:K.lookup f=some ⟨oc,od,.func (PySem.W.fnOf x qual (Ed st) (CO st) (Ah st) .none kV doc pm an cdv ct),osl⟩)
 (c:PySem.W.codeIn K cdv qual=true) (k:PySem.W.keepIn K (.ref f)=true):Fun K x qual st f (PySem.W.fnOf x qual (Ed st) (CO st) (Ah st) .none kV doc pm an cdv ct):=⟨⟨oc,od,kV,doc,pm,an,cdv,ct,osl,rfl,l,c⟩,k⟩
end
theorem AT {n:Nat} (h:n<=1000):n < sizeLine:=Nat.lt_of_le_of_lt h (by decide)
section
variable {X:Cx}
theorem pv (i:Nat) {x:Str} {pos:Pos} (hN:X.N[i]?=some x:=by rfl) (hv:Vis X.env.scope x:=by first | exact Or.inl rfl | exact Or.inr (Or.inl rfl) | exact Or.inr (Or.inr rfl)) (hd:(x == ("__debug__":Str))=false:=by decide)
 (hcd:(x == ("__classdict__":Str))=false:=by decide):PE X (.Name x pos) (Ng i):=Sy hN hv hd hcd
end
theorem Ri {A B:Prop} (h:B):if false=true then A else B:=by
 rw [if_neg Bool.false_ne_true]
 exact h
theorem Qr {A B:Prop} (h:A):if true=true then A else B:=by
 rw [if_pos rfl]
 exact h
theorem OI {c A B:Prop} [Decidable c] (h1:c->A) (h2:¬ c->B):if c then A else B:=by
 by_cases h:c
 ·rw [if_pos h]
  exact h1 h
 ·rw [if_neg h]
  exact h2 h
def Az (H H':Hp):Prop:=∀b o,H b=some o->H' b=some o
theorem Az.trans {H H1 H2:Hp} (a:Az H H1) (b:Az H1 H2):Az H H2:=fun c o h=>b c o (a c o h)
theorem Az.seq {K:PySem.W.Frag} {H H':Hp} {a:Addr} {xs:List V} (e:Az H H') (h:SqL K H a xs):SqL K H' a xs:=by
 rcases h with (h | ⟨o,h⟩) | h
 ·exact .inl (.inl (e _ _ h))
 ·exact .inl (.inr ⟨o,e _ _ h⟩)
 ·exact .inr h
end L2
namespace L2
open PySem PySem.Spec PyProof.Rows
section
variable {κ:Type} [DecidableEq κ]
noncomputable def AZ (kvs:List (κ × V)) (k:κ):Option V:=(kvs.find? fun kv=>decide (kv.1=k)).map (·.2)
noncomputable def BD (kvs:List (κ × V)) (k:κ) (v:V):List (κ × V) :=
 if (kvs.any fun kv=>decide (kv.1=k))=true then kvs.map (fun kv=>if kv.1=k then (kv.1,v) else kv) else kvs++[(k,v)]
theorem B8 {p:κ × V} {r:List (κ × V)} {k:κ} (e:p.1=k):AZ (p :: r) k=some p.2:=by simp [AZ,List.find?_cons,e]
theorem B7 {p:κ × V} {r:List (κ × V)} {k:κ} (e:¬ p.1=k):AZ (p :: r) k=AZ r k:=by simp [AZ,List.find?_cons,e]
theorem Ce (k:κ):∀kvs:List (κ × V),(kvs.any fun kv=>decide (kv.1=k))=(AZ kvs k).isSome
 | []=>rfl
 | p :: r=>by
   rw [any_cons]
   by_cases e:p.1=k
   ·simp only [B8 e,decide_eq_true e,Bool.true_or,Option.isSome_some]
   ·rw [B7 e,decide_eq_false e,Bool.false_or];exact Ce k r
theorem Kn (k j:κ) (y:V):∀kvs:List (κ × V),AZ (kvs.map fun kv=>if kv.1=k then (kv.1,y) else kv) j=(AZ kvs j).map fun x=>if j=k then y else x
 | []=>rfl
 | p :: r=>by
   have ih:=Kn k j y r
   rw [map_cons]
   by_cases h:p.1=k
   ·rw [if_pos h]
    by_cases e:p.1=j
    ·rw [B8 (p:=(p.1,y)) e,B8 e,Option.map_some,if_pos (e.symm.trans h)]
    ·rw [B7 (p:=(p.1,y)) e,B7 e,ih]
   ·rw [if_neg h]
    by_cases e:p.1=j
    ·rw [B8 (p:=p) e,B8 e,Option.map_some,if_neg (fun z=>h (e.trans z))]
    ·rw [B7 (p:=p) e,B7 e,ih]
theorem Ik (k j:κ) (y:V):∀kvs:List (κ × V),AZ kvs k=none->AZ (kvs++[(k,y)]) j=if j=k then some y else AZ kvs j
 | [],_=>by
   by_cases e:k=j
   ·rw [if_pos e.symm];exact B8 (p:=(k,y)) e
   ·rw [if_neg (fun z=>e z.symm)];exact B7 (p:=(k,y)) e
 | p :: r,hn=>by
   rw [cons_append]
   have hk:¬ p.1=k:=fun z=>by rw [B8 z] at hn;cases hn
   rw [B7 hk] at hn
   have ih:=Ik k j y r hn
   by_cases e:p.1=j
   ·rw [B8 e,B8 e,if_neg (fun z=>hk (e.trans z))]
   ·rw [B7 e,B7 e,ih]
theorem GO (kvs:List (κ × V)) (k j:κ) (y:V):AZ (BD kvs k y) j=if j=k then some y else AZ kvs j:=by
 unfold BD
 by_cases a:(kvs.any fun kv=>decide (kv.1=k))=true
 ·rw [if_pos a,Kn]
  rw [Ce] at a
  by_cases e:j=k
  ·obtain ⟨x,hx⟩:=Option.isSome_iff_exists.mp a
   rw [if_pos e,e,hx,Option.map_some,if_pos rfl]
  ·rw [if_neg e]
   cases AZ kvs j with
   | none=>rfl
   | some x=>rw [Option.map_some,if_neg e]
 ·rw [if_neg a]
  refine Ik k j y kvs ?_
  rw [Ce] at a
  cases q:AZ kvs k with
  | none=>rfl
  | some x=>rw [q] at a;exact (a rfl).elim
theorem BY (kvs:List (κ × V)) (k:κ) (v:V):(BD kvs k v).length<=kvs.length+1:=by
 unfold BD
 split
 ·rw [length_map];omega
 ·rw [length_append,length_cons,length_nil];omega
theorem O4 {kvs:List (κ × V)} {k:κ} (v:V) (h:AZ kvs k=none):BD kvs k v=kvs++[(k,v)]:=by
 unfold BD
 rw [Ce,h]
 exact if_neg (by decide)
theorem Dt.isSome_eq {o:Option V} {u:Option Value} (r:Dt o u):o.isSome=u.isSome:=by
 cases o with
 | none=>cases u with
   | none=>rfl
   | some _=>exact (show False from r).elim
 | some _=>cases u with
   | none=>exact (show False from r).elim
   | some _=>rfl
theorem Dt.getD {o:Option V} {u:Option Value} {d:V} {d':Value} (r:Dt o u) (rd:A9 d d'):A9 (o.getD d) (u.getD d'):=by
 cases o with
 | none=>cases u with
   | none=>exact rd
   | some _=>exact (show False from r).elim
 | some _=>cases u with
   | none=>exact (show False from r).elim
   | some _=>exact r
theorem KV.val {kvs:List (κ × V)} {vs:List (κ × Value)} (r:KV kvs vs) (k:κ):Dt (AZ kvs k) (valueAt vs k):=by
 unfold KV at r
 induction r with
 | nil=>exact True.intro
 | @cons p q ps qs h t ih =>
   obtain ⟨h1,h2⟩:=h
   by_cases e:p.1=k
   ·have e':q.1=k:=h1.symm.trans e
    have b:valueAt (q :: qs) k=some q.2:=by simp [valueAt,List.find?_cons,e']
    rw [B8 e,b];exact h2
   ·have e':¬ q.1=k:=fun z=>e (h1.trans z)
    have b:valueAt (q :: qs) k=valueAt qs k:=by simp [valueAt,List.find?_cons,e']
    rw [B7 e,b];exact ih
theorem KV.any {kvs:List (κ × V)} {vs:List (κ × Value)} (r:KV kvs vs) (k:κ):(kvs.any fun kv=>decide (kv.1=k))=vs.any fun kv=>decide (kv.1=k):=by
 unfold KV at r
 induction r with
 | nil=>rfl
 | cons h t ih=>rw [any_cons,any_cons,ih,h.1]
theorem KV.repl {kvs:List (κ × V)} {vs:List (κ × Value)} (r:KV kvs vs) (k:κ) {y:V} {u:Value} (ry:A9 y u) :
 KV (kvs.map fun kv=>if kv.1=k then (kv.1,y) else kv) (vs.map fun kv=>if kv.1=k then (kv.1,u) else kv):=by
 unfold KV at r ⊢
 induction r with
 | nil=>exact .nil
 | @cons p q ps qs h t ih =>
   rw [map_cons,map_cons]
   refine .cons ?_ ih
   obtain ⟨h1,h2⟩:=h
   by_cases e:p.1=k
   ·rw [if_pos e,if_pos (h1.symm.trans e)];exact ⟨h1,ry⟩
   ·rw [if_neg e,if_neg (fun z=>e (h1.trans z))];exact ⟨h1,h2⟩
theorem KV.put {kvs:List (κ × V)} {vs:List (κ × Value)} (r:KV kvs vs) (k:κ) {y:V} {u:Value} (ry:A9 y u):KV (BD kvs k y) (stored vs k u):=by
 unfold BD stored
 rw [r.any k]
 by_cases e:(vs.any fun kv=>decide (kv.1=k))=true
 ·rw [if_pos e,if_pos e];exact r.repl k ry
 ·rw [if_neg e,if_neg e];exact Paired.snoc r ⟨rfl,ry⟩
theorem KV.keys {kvs:List (κ × V)} {vs:List (κ × Value)} (r:KV kvs vs):kvs.map (·.1)=vs.map (·.1):=by
 unfold KV at r
 induction r with
 | nil=>rfl
 | cons h t ih=>rw [map_cons,map_cons,ih,h.1]
theorem KV.length {kvs:List (κ × V)} {vs:List (κ × Value)} (r:KV kvs vs):kvs.length=vs.length:=Paired.length r
end
theorem ME {P:Program} {w:World} {k:Key} {u:Value} (r:A9 (kV k) u):(AF P w).is k u=true:=by
 cases k with
 | inl i=>obtain ⟨t,e⟩:=(show ∃t,u=Value.int i t from r);subst e;exact Lc P w i t
 | inr x=>obtain ⟨t,e⟩:=(show ∃t,u=Value.str x t from r);subst e;exact Kg P w x t
theorem II {P:Program} {w:World}:∀{ks:List Key} {us:List Value},A5 (ks.map kV) us->ItemsAre (AF P w) ks us
 | [],_,r=>by rw [map_nil] at r;cases r;exact .nil
 | k :: ks,_,r=>by
   rw [map_cons] at r
   cases r with
   | cons h t=>exact .cons (ME h) (II t)
abbrev KT (H:Hp):List (List Key × V)->List (List Key × Addr × Value)->Prop:=Paired fun p q=>p.1=q.1/\H q.2.1=some (.tup (p.1.map kV))/\A9 p.2 q.2.2
theorem KT.val {H:Hp} {kvs:List (List Key × V)} {xs:List (List Key × Addr × Value)} (r:KT H kvs xs) (k:List Key):Dt (AZ kvs k) ((atKey xs k).map (·.2)):=by
 induction r with
 | nil=>exact True.intro
 | @cons p q ps qs h t ih =>
   obtain ⟨h1,_,h2⟩:=h
   by_cases e:p.1=k
   ·have e':q.1=k:=h1.symm.trans e
    have b:atKey (q :: qs) k=some q.2:=by simp [atKey,List.find?_cons,e']
    rw [B8 e,b];exact h2
   ·have e':¬ q.1=k:=fun z=>e (h1.trans z)
    have b:atKey (q :: qs) k=atKey qs k:=by simp [atKey,List.find?_cons,e']
    rw [B7 e,b];exact ih
theorem KT.repl {H:Hp} {kvs:List (List Key × V)} {xs:List (List Key × Addr × Value)} (r:KT H kvs xs) (k:List Key) {y:V} {u:Value} (ry:A9 y u) :
 KT H (kvs.map fun kv=>if kv.1=k then (kv.1,y) else kv) (xs.map (putAt k u)):=by
 induction r with
 | nil=>exact .nil
 | @cons p q ps qs h t ih =>
   rw [map_cons,map_cons]
   refine .cons ?_ ih
   obtain ⟨h1,h2,h3⟩:=h
   unfold putAt
   by_cases e:p.1=k
   ·rw [if_pos e,if_pos (h1.symm.trans e)];exact ⟨h1,h2,ry⟩
   ·rw [if_neg e,if_neg (fun z=>e (h1.trans z))];exact ⟨h1,h2,h3⟩
theorem KT.put {H:Hp} {kvs:List (List Key × V)} {xs:List (List Key × Addr × Value)} (r:KT H kvs xs) (k:List Key) {b:Addr} {y:V} {u:Value} (hb:H b=some (.tup (k.map kV))) (ry:A9 y u) :
 KT H (BD kvs k y) (storedH xs k b u):=by
 have e:(kvs.any fun kv=>decide (kv.1=k))=(atKey xs k).isSome:=by
  rw [Ce,(r.val k).isSome_eq,Option.isSome_map]
 unfold BD storedH
 rw [e]
 by_cases q:(atKey xs k).isSome=true
 ·rw [if_pos q,if_pos q];exact r.repl k ry
 ·rw [if_neg q,if_neg q];exact Paired.snoc r ⟨rfl,hb,ry⟩
theorem KT.keeps {H H':Hp} {kvs:List (List Key × V)} {xs:List (List Key × Addr × Value)} (r:KT H kvs xs) (ht:∀b ys,H b=some (.tup ys)->H' b=some (.tup ys)):KT H' kvs xs :=
 Paired.mapP r fun _ _ z=>⟨z.1,ht _ _ z.2.1,z.2.2⟩
section
variable {P:Program} {w:World} {H:Hp} {h:Heap} {a:Addr}
theorem Rx {u:HO} (ok:HOk P w H h) (e:Rd H a u):AJ P w H h a u:=e.ok ok
theorem GT {kvs:List (Key × V)} (ok:HOk P w H h) (e:Rd H a (.dK kvs)):kvs.length<=sizeLine/\(a == sysModules)=false/\∃vs,KV kvs vs/\h.DictOf (AF P w) a vs :=
 show AJ P w H h a (.dK kvs) from Rx ok e
theorem SD {kvs:List (Key × V)} (ok:HOk P w H h) (e:H a=some (.dK kvs)):kvs.length<=sizeLine/\(a == sysModules)=false/\∃vs,KV kvs vs/\h.DictOf (AF P w) a vs:=GT ok (.inl e)
theorem GV {ks:List Key} (ok:HOk P w H h) (e:H a=some (.tup (ks.map kV))):(tupleKind (AF P w)).is h ks a:=by
 obtain ⟨_,its,r,o,h1,h2,n,h3⟩:=(show AJ P w H h a (.tup (ks.map kV)) from ok a _ e)
 exact ⟨o,its.toArray,n,h1,h2,h3,by simpa using II r⟩
theorem IM {kvs:List (List Key × V)} (ok:HOk P w H h) (e:Rd H a (.dT kvs)):kvs.length<=sizeLine/\(a == sysModules)=false /\
 ∃xs,KT H kvs xs/\h.DictOfH (tupleKind (AF P w)) a xs:=by
 obtain ⟨z,y,xs,r,o,es,ep,h1,h2,h3,h4,h5⟩:=(show AJ P w H h a (.dT kvs) from Rx ok e)
 refine ⟨z,y,xs,r,o,es,ep,h1,h2,h3,h4,fun x hx=>?_,h5⟩
 have all:∀{l:List (List Key × V)} {m:List (List Key × Addr × Value)},KT H l m->∀x∈m,(tupleKind (AF P w)).is h x.1 x.2.1:=by
  intro l m q
  induction q with
  | nil=>intro x hx;exact nomatch hx
  | @cons p q ps qs hq t ih =>
    intro x hx
    rcases mem_cons.mp hx with e | hx
    ·subst e
     exact GV ok (by rw [<- hq.1];exact hq.2.1)
    ·exact ih x hx
 exact all r x hx
theorem SC {kvs:List (List Key × V)} (ok:HOk P w H h) (e:H a=some (.dT kvs)):kvs.length<=sizeLine/\(a == sysModules)=false /\
 ∃xs,KT H kvs xs/\h.DictOfH (tupleKind (AF P w)) a xs:=IM ok (.inl e)
end
def EF (H:Hp) (a:Addr) (y:V) (r:Option V):Prop :=
 (∃kvs k,Rd H a (.dK kvs)/\y=kV k/\r=AZ kvs k)\/∃kvs k b,Rd H a (.dT kvs)/\y=.ref b/\H b=some (.tup (k.map kV))/\r=AZ kvs k
def Ii (H:Hp) (a:Addr) (y v:V) (H':Hp):Prop :=
 (∃kvs k,H a=some (.dK kvs)/\y=kV k/\kvs.length < sizeLine/\H'=upd H a (.dK (BD kvs k v))) \/
 ∃kvs k b,H a=some (.dT kvs)/\y=.ref b/\H b=some (.tup (k.map kV))/\kvs.length < sizeLine/\H'=upd H a (.dT (BD kvs k v))
theorem EF.k {H:Hp} {a:Addr} {kvs:List (Key × V)} {k:Key} (e:H a=some (.dK kvs)):EF H a (kV k) (AZ kvs k):=.inl ⟨kvs,k,.inl e,rfl,rfl⟩
theorem EF.t {H:Hp} {a b:Addr} {kvs:List (List Key × V)} {k:List Key} (e:H a=some (.dT kvs)) (eb:H b=some (.tup (k.map kV))):EF H a (.ref b) (AZ kvs k):=.inr ⟨kvs,k,b,.inl e,rfl,eb,rfl⟩
theorem Ii.k {H:Hp} {a:Addr} {kvs:List (Key × V)} {k:Key} {v:V} (e:H a=some (.dK kvs)) (hl:kvs.length < sizeLine):Ii H a (kV k) v (upd H a (.dK (BD kvs k v))):=.inl ⟨kvs,k,e,rfl,hl,rfl⟩
theorem Ii.t {H:Hp} {a b:Addr} {kvs:List (List Key × V)} {k:List Key} {v:V} (e:H a=some (.dT kvs)) (eb:H b=some (.tup (k.map kV))) (hl:kvs.length < sizeLine) :
 Ii H a (.ref b) v (upd H a (.dT (BD kvs k v))):=.inr ⟨kvs,k,b,e,rfl,eb,hl,rfl⟩
section
variable {X:Cx} {pins:List (Addr × Obj)} {σ:St} {H:Hp} {s:Shared} {a:Addr} {y v:V} {u r:Value} {o:Option V} {A:Around} {E:Value->Shared->Prop}
theorem Inv.big (I:Inv X pins σ H s):sysModules < s.heap.objs.size:=by
 have h:mainGlobals < s.heap.objs.size:=(I.mod.glob.keeps I.bk).lt
 exact Nat.lt_trans (by decide) h
theorem MY {Q:Value->Shared->Prop} (hu:A.units+1 < cLine) (I:Inv X pins σ H s) (g:EF H a y (some v)) (ry:A9 y u) (h:∀w' s',Inv X pins σ H s'->A9 v w'->Q w' s') :
 wpAny (model X.prog X.w) A (getItem (.ref a) u) Q E s:=by
 rcases g with ⟨kvs,k,e,ey,l⟩ | ⟨kvs,k,b,e,ey,eb,l⟩
 ·subst ey
  obtain ⟨z,hd,vs,rel,dd⟩:=GT I.hok e
  obtain ⟨w',hw,rw'⟩:=Dt.some_of (v:=v) (o:=valueAt vs k) (by rw [l];exact rel.val k)
  exact wpAny_getItem_of (ME ry) dd.mapOf hw (h w' _ (I.tok _) rw')
 ·subst ey
  cases (show u=Value.ref b from ry)
  obtain ⟨z,hd,xs,rel,dd⟩:=IM I.hok e
  obtain ⟨w',hw,rw'⟩:=Dt.some_of (v:=v) (o:=(atKey xs k).map (·.2)) (by rw [l];exact rel.val k)
  obtain ⟨p,hp,hp2⟩:=Option.map_eq_some_iff.mp hw
  refine wpAny_getItem_heap (tupleKind_room_in1 hu) (GV I.hok eb) dd hp ?_
  rw [hp2]
  exact h w' _ (I.tok _) rw'
theorem EG {h':Heap} {t':Nat} {ob:HO} (I:Inv X pins σ H s) (mu:Mut (H a)) (hs:Heap.SameBut a s.heap h') (he:∃q,h'.get? a=some q) (new:AJ X.prog X.w (upd H a ob) h' a ob) :
 Inv X pins σ (upd H a ob) { s with heap:=h',toks:=t' } :=
 I.write (x:=a) (e:=a) mu (.inl rfl) (fun b q hb z=>(hs.2 b hb).trans z) he new
theorem RC {P:Program} {w:World} {H':Hp} {h':Heap} {kvs:List (Key × V)} {vs:List (Key × Value)} (z:kvs.length<=sizeLine) (hd:(a == sysModules)=false) (rel:KV kvs vs) (dd:h'.DictOf (AF P w) a vs) :
 AJ P w H' h' a (.dK kvs):=⟨z,hd,vs,rel,dd⟩
theorem NA {H':Hp} {Q:Unit->Shared->Prop} (hu:A.units+1 < cLine) (I:Inv X pins σ H s) (g:Ii H a y v H') (ry:A9 y u) (rv:A9 v r) (h:∀s',Inv X pins σ H' s'->Q () s') :
 wpAny (model X.prog X.w) A (setItem (.ref a) u r) Q E s:=by
 rcases g with ⟨kvs,k,e,ey,l,eH⟩ | ⟨kvs,k,b,e,ey,eb,l,eH⟩
 ·subst ey eH
  obtain ⟨z,hd,vs,rel,dd⟩:=SD I.hok e
  have hz:vs.length<=sizeLine:=by rw [<- rel.length];exact z
  have hl:(BD kvs k v).length<=sizeLine:=by have:=BY kvs k v;omega
  refine wpAny_setItem_pairs (hsz:=hz) (ME ry) dd fun h' dd' hs=>h _ ?_
  have he:∃q,h'.get? a=some q:=let ⟨q,_,_,hq,_⟩:=dd';⟨q,hq⟩
  exact EG I (by rw [e];exact True.intro) hs he (RC hl hd (rel.put k rv) dd')
 ·subst ey eH
  cases (show u=Value.ref b from ry)
  obtain ⟨z,hd,xs,rel,dd⟩:=SC I.hok e
  have hz:xs.length<=sizeLine:=by rw [<- Paired.length rel];exact z
  have hl:(BD kvs k v).length<=sizeLine:=by have:=BY kvs k v;omega
  refine wpAny_setItem_heap (hsz:=hz) (tupleKind_room_in1 hu) (GV I.hok eb) dd fun h' dd' hs=>h _ ?_
  obtain ⟨q,es,ep,hq,h2,h3,h4,_,h5⟩:=dd'
  refine EG I (by rw [e];exact True.intro) hs ⟨q,hq⟩ ⟨hl,hd,_,(rel.put k eb rv).keeps fun c ys ec=>?_,q,es,ep,hq,h2,h3,h4,h5⟩
  rw [Ap (BV ec e (fun z=>nomatch z))]
  exact ec
end
section
variable {X:Cx} {pins:List (Addr × Obj)} {σ:St} {H:Hp} {s:Shared} {a:Addr} {kvs:List (Key × V)} {k:Key} {u:Value} {A:Around} {E:Value->Shared->Prop}
end
def R6 (i:Expr):Prop:=∀ov iv,subscripted i false ov iv=operate [ov,iv] (getItem ov iv)
theorem MD {prog:Program} {w:World} {A:Around} {E:Value->Shared->Prop} {s:Shared} {env:Env} {value slice:Expr} {pos:Pos} {T id:String} {Q:Value->Shared->Prop}
 (hl:typeLookup (.type T) "__getitem__"=pure (some (.builtin id))) (hs:R6 slice)
 (h:wpAny (model prog w) A (eval value env) (fun o s₁=>wpAny (model prog w) A (eval slice env) (fun i s₂=>s₂.TypeIs o T/\wpAny (model prog w) A (getItem o i) Q E s₂) E s₁) E s) :
 wpAny (model prog w) A (eval (.Subscript value slice pos) env) Q E s:=by
 refine Subscript_ (wpAny_mono h (fun o s₁ h₁=>wpAny_mono h₁ (fun i s₂ h₂=>?_) fun _ _ x=>x) fun _ _ x=>x)
 obtain ⟨hT,h₂⟩:=h₂
 unfold subscriptTail
 refine wpAny_bind ?_
 rw [getitemInPython_of_ne hT.not_modules]
 refine wpAny_bind (wpAny_specialOf hT hl ?_)
 have fin:wpAny (model prog w) A (subscripted slice false o i) (fun r s₃=>wpAny (model prog w) A (letTemporaryGo value o r >>= fun _=>pure r) Q E s₃) E s₂:=by
  rw [hs o i]
  exact wpAny_operating (wpAny_mono h₂ (fun r s₃ h₃=>wpAny_bind (wpAny_letTemporaryGo (wpAny_pure h₃))) fun _ _ x=>x)
 first
  | exact wpAny_pure (wpAny_bind fin)
  | exact wpAny_bind (wpAny_pure (wpAny_bind fin))
  | exact wpAny_bind fin
theorem KP {X:Cx} {pins:List (Addr × Obj)} {σ:St} {H:Hp} {s:Shared} {a:Addr} {y:V} {o:Option V} (I:Inv X pins σ H s) (g:EF H a y o):s.TypeIs (.ref a) "dict":=by
 rcases g with ⟨kvs,k,e,_,_⟩ | ⟨kvs,k,b,e,_,_,_⟩
 ·obtain ⟨_,_,vs,_,dd⟩:=GT I.hok e
  exact dd.typeIs
 ·obtain ⟨_,_,xs,_,dd⟩:=IM I.hok e
  exact dd.typeIs
noncomputable def SR (td ty:TE):TE:=fun σ H Q=>td σ H fun x H1=>ty σ H1 fun y H2=>∃a v,x=.ref a/\EF H2 a y (some v)/\Q v H2
noncomputable def SO (td ty tv:TE):TS:=fun D σ H=>tv σ H fun v H1=>td σ H1 fun x H2=>ty σ H2 fun y H3=>∃a H4,x=.ref a/\Ii H3 a y v H4/\D.nx σ H4
section
variable {X:Cx} {o i e value:Expr} {pos pos' tpos:Pos} {td ty tv:TE}
theorem MR (hu:X.A.units+1 < cLine) (ho:PE X o td) (hi:PE X i ty) (hs:R6 i):PE X (.Subscript o i pos) (SR td ty):=by
 intro pins s σ H Q I h
 refine MD PySem.F.slot_dict_getitem.lookup hs (thn (ho pins s σ H _ I h) fun u s1 ⟨x,H1,I1,rx,q1⟩=>thn (hi pins s1 σ H1 _ I1 q1) fun iv s2 ⟨y,H2,I2,ry,a,v,ex,g,q2⟩=>?_)
 subst ex
 obtain rfl:u=Value.ref a:=rx
 exact ⟨KP I2 g,MY hu I2 g ry fun w' s3 I3 rw'=>⟨v,H2,I3,rw',q2⟩⟩
theorem GI (hu:X.A.units+1 < cLine) (ho:PE X o td) (hi:PE X i ty) (hv:PE X value tv) (hs:swapsWith value (some (.Subscript o i pos')) pos.line X.env=pure false) :
 PS X (.Assign [.Subscript o i pos'] value pos) (SO td ty tv):=by
 intro pins s σ H D I h
 refine wpAny_Assign_Subscript (thn (hv pins s σ H _ I h) fun r s1 ⟨v,H1,I1,rv,q1⟩=>thn (ho pins s1 σ H1 _ I1 q1) fun u s2 ⟨x,H2,I2,rx,q2⟩=>thn (hi pins s2 σ H2 _ I2 q2) fun iv s3 ⟨y,H3,I3,ry,a,H4,ex,g,q3⟩=>?_) hs
 subst ex
 obtain rfl:u=Value.ref a:=rx
 exact NA hu I3 g ry rv fun s4 I4=>⟨σ,H4,I4,q3⟩
end
theorem PM {P:Program} {w:World} {H:Hp} (h:Heap) (hb:sysModules < h.objs.size):AJ P w H (h.push { cls:=.type "dict",data:=.dict #[] }) h.objs.size (.dK []) :=
 ⟨Nat.zero_le _,beq_eq_false_iff_ne.mpr (Ne.symm (Nat.ne_of_lt hb)),[],.nil,Heap.DictOf.new h⟩
theorem O6 {P:Program} {w:World} {H:Hp} (h:Heap) (hb:sysModules < h.objs.size):AJ P w H (h.push { cls:=.type "dict",data:=.dict #[] }) h.objs.size (.dT []) :=
 ⟨Nat.zero_le _,beq_eq_false_iff_ne.mpr (Ne.symm (Nat.ne_of_lt hb)),[],.nil,_,#[],0,Heap.get?_push_size _ rfl,⟨rfl,rfl,rfl⟩,rfl,rfl,nodup_nil⟩
def Sk:TE:=fun _ H Q=>∀p,H p=none->Q (.ref p) (upd H p (.dK []))
def Sn:TE:=fun _ H Q=>∀p,H p=none->Q (.ref p) (upd H p (.dT []))
section
variable {X:Cx} {pos:Pos}
theorem Kf:PE X (.Dict [] [] pos) Sk:=fun pins s σ H Q I h =>
 wpAny_Dict_empty ⟨.ref s.heap.objs.size,_,I.laid (a:=s.heap.objs.size) (o:=.dK []) (t':=s.toks) (fun _ _ q=>Heap.get?_push_of_some _ q) (Nat.le_refl _) (PM s.heap I.big),rfl,h _ (I.hok.fresh (Nat.le_refl _))⟩
theorem OA:PE X (.Dict [] [] pos) Sn:=fun pins s σ H Q I h =>
 wpAny_Dict_empty ⟨.ref s.heap.objs.size,_,I.laid (a:=s.heap.objs.size) (o:=.dT []) (t':=s.toks) (fun _ _ q=>Heap.get?_push_of_some _ q) (Nat.le_refl _) (O6 s.heap I.big),rfl,h _ (I.hok.fresh (Nat.le_refl _))⟩
end
structure M2 (X:Cx) (o:Expr) (m:Str) (apos:Pos) (e f:Expr) (cpos:Pos):Prop where
 base:attributeBase o m X.env (eval o X.env)=eval o X.env
 few:((backTo cpos (starEach [e,f] X.env)).all (fun x=>!x.1) && (backToKw cpos (keywordEach [] X.env)).all (fun x=>x.1.isSome)
  && decide (([e,f]:List Expr).length+([]:List Keyword).length+(if ([]:List Keyword).isEmpty then 0 else 1) < 30))=true
 line:(apos.endLine == cpos.line)=true
 trees:backTo cpos (starEach [e,f] X.env)=[(false,eval e X.env),(false,eval f X.env)]
def IsD (H:Hp) (a:Addr):Prop:=(∃kvs,Rd H a (.dK kvs))\/∃kvs,Rd H a (.dT kvs)
theorem S3 {X:Cx} {pins:List (Addr × Obj)} {σ:St} {H:Hp} {s:Shared} {a:Addr} (I:Inv X pins σ H s) (d:IsD H a) :
 s.TypeIs (.ref a) "dict"/\(∀b,Value.ref a=.ref b->∃ob,s.heap.get? b=some ob/\ob.dict=none)/\(a == sysModules)=false:=by
 rcases d with ⟨kvs,e⟩ | ⟨kvs,e⟩
 ·obtain ⟨_,hd,vs,_,dd⟩:=GT I.hok e
  refine ⟨dd.typeIs,fun b q=>?_,hd⟩
  cases q
  obtain ⟨ob,_,_,h1,h2,_⟩:=dd
  exact ⟨ob,h1,h2.2.1⟩
 ·obtain ⟨_,hd,xs,_,dd⟩:=IM I.hok e
  refine ⟨dd.typeIs,fun b q=>?_,hd⟩
  cases q
  obtain ⟨ob,_,_,h1,h2,_⟩:=dd
  exact ⟨ob,h1,h2.2.1⟩
section
variable {X:Cx} {pins:List (Addr × Obj)} {σ:St} {H:Hp} {s:Shared} {a:Addr} {y d:V} {u r:Value} {o:Option V} {A:Around} {E:Value->Shared->Prop}
theorem RV {Q:Value->Shared->Prop} (hu:A.units+1 < cLine) (I:Inv X pins σ H s) (g:EF H a y o) (ry:A9 y u) (rd:A9 d r) (h:∀w' s',Inv X pins σ H s'->A9 (o.getD d) w'->Q w' s') :
 wpAny (model X.prog X.w) A (call (.builtin "dict.get") [.ref a,u,r]) Q E s:=by
 rcases g with ⟨kvs,k,e,ey,l⟩ | ⟨kvs,k,b,e,ey,eb,l⟩
 ·subst ey
  obtain ⟨z,hd,vs,rel,dd⟩:=GT I.hok e
  refine call_meetsIn PySem.F.slot_dict_get dd.typeIs PySem.F.entry_dict_get (PySem.F.args_dict_get_3 _ _ _) (meets_dict_get_default (AF X.prog X.w) a (ME ry) hd r) ⟨_,dd.mapOf,h _ _ (I.tok _) ?_⟩
  rw [l]
  exact (rel.val k).getD rd
 ·subst ey
  cases (show u=Value.ref b from ry)
  obtain ⟨z,hd,xs,rel,dd⟩:=IM I.hok e
  refine call_meetsIn PySem.F.slot_dict_get dd.typeIs PySem.F.entry_dict_get (PySem.F.args_dict_get_3 _ _ _) (meetsH_dict_get_default (tupleKind (AF X.prog X.w)) a b hd r) ⟨tupleKind_room_in1 hu,k,xs,GV I.hok eb,dd,h _ _ (I.tok _) ?_⟩
  rw [l]
  exact (rel.val k).getD rd
end
noncomputable def RZ (td ty tx:TE):TE:=fun σ H Q=>td σ H fun x H1=>∃a,x=.ref a/\IsD H1 a/\ty σ H1 fun y H2=>tx σ H2 fun z H3=>∃o,EF H3 a y o/\Q (o.getD z) H3
section
variable {X:Cx} {o e f:Expr} {apos cpos:Pos} {td ty tx:TE}
theorem GY (hu:X.A.units+1 < cLine) (ho:PE X o td) (he:PE X e ty) (hf:PE X f tx) (m:M2 X o "get" apos e f cpos):PE X (.Call (.Attribute o "get" apos) [e,f] [] cpos) (RZ td ty tx):=by
 intro pins s σ H Q I h
 refine wpAny_Call_method m.base m.few m.line PySem.F.plainAttrs_dict PySem.F.slot_dict_get PySem.F.type_dict_get (thn (ho pins s σ H _ I h) fun u s1 ⟨x,H1,I1,rx,a,ex,d,q1⟩=>?_)
 subst ex
 obtain rfl:u=Value.ref a:=rx
 obtain ⟨t1,t2,_⟩:=S3 I1 d
 refine ⟨t1,t2,?_⟩
 rw [m.trees]
 refine Calls.callWith_builtin rfl (Calls.evalArgs_plain (Calls.spliced_cons (thn (he pins s1 σ H1 _ I1 q1) fun iv s2 ⟨y,H2,I2,ry,q2⟩ =>
  Calls.spliced_cons (thn (hf pins s2 σ H2 _ I2 q2) fun fv s3 ⟨z,H3,I3,rz,ov,g,q3⟩=>Calls.spliced_nil ?_))))
 exact RV hu I3 g ry rz fun w' s4 I4 rw'=>⟨_,H3,I4,rw',q3⟩
end
section
variable {X:Cx} {pins:List (Addr × Obj)} {σ:St} {H:Hp} {s:Shared} {a:Addr} {kvs:List (Key × V)} {A:Around} {E:Value->Shared->Prop}
end
section
variable {X:Cx} {pins:List (Addr × Obj)} {σ:St} {H:Hp} {s:Shared} {a:Addr} {y:V} {u:Value} {A:Around} {E:Value->Shared->Prop}
end
end L2
namespace L2
open PySem PySem.Spec PyProof.Rows
section
variable {κ:Type} [DecidableEq κ]
theorem Hn {kvs:List (κ × V)} {k:κ} (h:AZ kvs k=none):¬ k∈kvs.map (·.1):=by
 intro m
 obtain ⟨p,hp,e⟩:=mem_map.mp m
 have q:(kvs.any fun kv=>decide (kv.1=k))=true:=any_eq_true.mpr ⟨p,hp,decide_eq_true e⟩
 rw [Ce,h] at q
 exact absurd q (by simp)
theorem QD {kvs:List (κ × V)} {k:κ} {v:V} (h:AZ kvs k=some v):k∈kvs.map (·.1):=by
 have q:(kvs.any fun kv=>decide (kv.1=k))=true:=by
  rw [Ce,h]
  all_goals rfl
 obtain ⟨p,hp,e⟩:=any_eq_true.mp q
 exact mem_map.mpr ⟨p,hp,of_decide_eq_true e⟩
theorem M3:∀{l:List κ} {k:κ},l.Nodup->¬ k∈l->(l++[k]).Nodup
 | [],k,_,_=>by simp
 | a :: r,k,h,hk=>by
   obtain ⟨h1,h2⟩:=nodup_cons.mp h
   show (a :: (r++[k])).Nodup
   refine nodup_cons.mpr ⟨fun m=>?_,M3 h2 fun m=>hk (mem_cons.mpr (Or.inr m))⟩
   rcases mem_append.mp m with q | q
   ·exact h1 q
   ·exact hk (mem_cons.mpr (Or.inl (mem_singleton.mp q).symm))
theorem M8 {kvs:List (κ × V)} {k:κ} (v:V) (hn:(kvs.map (·.1)).Nodup) (h:AZ kvs k=none):((BD kvs k v).map (·.1)).Nodup:=by
 rw [O4 v h,map_append]
 exact M3 hn (Hn h)
end
end L2
namespace L2
open PySem PySem.Spec PyProof.Rows
def Sz (n:Nat) (x:Int):Prop:=x.natAbs < 2 ^ n
section
variable {m n:Nat} {x y:Int}
theorem Sz.bits (h:Sz n x):Builtin.Int.intBits x<=n:=intBits_le_iff.mpr h
theorem Sz.of_bits (h:Builtin.Int.intBits x<=n):Sz n x:=intBits_le_iff.mp h
theorem Sz.mono (h:Sz m x) (l:m<=n):Sz n x:=.of_bits (Nat.le_trans h.bits l)
theorem Sz.mul (h:Sz m x) (k:Sz n y):Sz (m+n) (x*y):=.of_bits (intBits_mul_le h.bits k.bits)
theorem Sz.add (h:Sz m x) (k:Sz n y):Sz (max m n+1) (x+y):=.of_bits (intBits_add_le h.bits k.bits)
theorem Sz.sub (h:Sz m x) (k:Sz n y):Sz (max m n+1) (x - y):=.of_bits (intBits_sub_le h.bits k.bits)
theorem Sz.neg (h:Sz m x):Sz m (-x):=.of_bits (intBits_neg_le h.bits)
theorem Sz.fdiv (h:Sz m x):Sz m (x.fdiv y):=.of_bits (intBits_fdiv_le h.bits)
theorem szd (n:Nat) {x:Int} (h:decide (x.natAbs < 2 ^ n)=true:=by decide +kernel):Sz n x:=(show x.natAbs < 2 ^ n from of_decide_eq_true h)
theorem AK (h:-(2 ^ n:Nat) < x) (k:x < (2 ^ n:Nat)):Sz n x:=by
 unfold Sz
 generalize 2 ^ n=p at h k ⊢
 omega
end
def MK (i j:Int):Prop:=∃m n,Sz m i/\Sz n j/\m+n<=134217728
theorem Ts {i j:Int} {m n:Nat} (h:Sz m i) (k:Sz n j) (l:decide (m+n<=134217728)=true:=by decide +kernel):MK i j:=⟨m,n,h,k,of_decide_eq_true l⟩
def SY (_ j:Int):Prop:=j≠0/\Sz 9000 j
section
variable {X:Cx}
theorem A3:OpR X (binaryOp .Mult) (rI MK fun i j=>.int (i*j)):=opI fun _ _ _ _ _ _ _ hc q =>
 mul_int q (let ⟨_,_,a,b,c⟩:=hc;IntMulOk.of_le a.bits b.bits c)
theorem Bj:OpR X (binaryOp .FloorDiv) (rI SY fun i j=>.int (i.fdiv j)):=opI fun _ j _ _ _ _ _ hc q =>
 floordiv_int hc.1 q (.inl (PyProof.noPylong_of_log2 ((Nat.log2_lt (by have:=hc.1;omega)).mpr hc.2)))
theorem HS {x y:Int} (h:Sz 13500 x):Builtin.divisionGoesByPylong x y=false:=by
 have key:(if x == 0 then 0 else x.natAbs.log2 / 30+1)<=450:=by
  by_cases hy:(x == 0)=true
  ·rw [if_pos hy];exact Nat.zero_le _
  ·rw [if_neg hy]
   have nz:x.natAbs≠0:=by
    have:¬ x=0:=fun e=>hy (by rw [e];rfl)
    omega
   have:=(Nat.log2_lt nz).mpr h
   omega
 show (decide ((if y == 0 then 0 else y.natAbs.log2 / 30+1) > 300) && decide ((if x == 0 then 0 else x.natAbs.log2 / 30+1) > (if y == 0 then 0 else y.natAbs.log2 / 30+1)+150))=false
 generalize (if y == 0 then 0 else y.natAbs.log2 / 30+1)=dy
 generalize (if x == 0 then 0 else x.natAbs.log2 / 30+1)=dx at key
 by_cases c:dy > 300
 ·rw [decide_eq_false (show ¬ dx > dy+150 by omega),Bool.and_false]
 ·rw [decide_eq_false c,Bool.false_and]
theorem EV:OpR X (binaryOp .FloorDiv) (rI (fun i j=>j≠0/\Sz 13500 i) fun i j=>.int (i.fdiv j)):=opI fun _ _ _ _ _ _ _ hc q=>floordiv_int hc.1 q (.inl (HS hc.2))
theorem Bx:C6 X (.builtin "isinstance") (fun xs H Q=>∃x t c b,xs=[x,.ty c]/\BO X.K H x t/\PySem.W.kitOne X.K t (.type c)=some b/\Q (.bl b) H):=by
 intro pins s σ H xs us Q I rv h
 obtain ⟨x,t,c,b,rfl,ty,e,q⟩:=h
 obtain ⟨u,u',rfl,r1,r2⟩:=P7 rv
 cases (show u'=Value.type c from r2)
 exact N1 I r1 ty e fun tk=>⟨.bl b,H,I.tok tk,rfl,q⟩
end
section
variable {K:PySem.W.Frag}
theorem FR:PySem.W.kitOne K (.type "int") (.type "int")=some true:=by
 show (if ((Value.type "int") == (Value.type "int"))=true then some true else (if PySem.W.kitMeta "int"=true then (PySem.fastBuiltinMro "int").map (·.contains (Value.type "int")) else none))=some true
 decide +kernel
theorem Fh:PySem.W.kitOne K (.type "int") (.type "bool")=some false:=by
 show (if ((Value.type "int") == (Value.type "bool"))=true then some true else (if PySem.W.kitMeta "bool"=true then (PySem.fastBuiltinMro "int").map (·.contains (Value.type "bool")) else none))=some false
 decide +kernel
theorem Bl:PySem.W.kitOne K (.type "tuple") (.type "tuple")=some true:=by
 show (if ((Value.type "tuple") == (Value.type "tuple"))=true then some true else (if PySem.W.kitMeta "tuple"=true then (PySem.fastBuiltinMro "tuple").map (·.contains (Value.type "tuple")) else none))=some true
 decide +kernel
theorem BN:PySem.W.kitOne K (.type "list") (.type "list")=some true:=by
 show (if ((Value.type "list") == (Value.type "list"))=true then some true else (if PySem.W.kitMeta "list"=true then (PySem.fastBuiltinMro "list").map (·.contains (Value.type "list")) else none))=some true
 decide +kernel
end
noncomputable def Tp (c:TT) (t u:TS):TS:=fun D σ H=>∃M:St->Hp->Prop,(c σ H fun b H1=>if b=true then t { D with nx:=M } σ H1 else u { D with nx:=M } σ H1)/\∀σ' H',M σ' H'->D.nx σ' H'
theorem Ft {X:Cx} {c:Expr} {a b:List Stmt} {tc:TT} {t u:TS} {pos:Pos} (hc:PT X c tc) (ha:PSs X a t) (hb:PSs X b u):PS X (.If c a b pos) (Tp tc t u):=by
 intro pins s σ H D I h
 obtain ⟨M,h,hM⟩:=h
 have up:∀(f:Flow) (s':Shared),SP X pins { D with nx:=M } f s'->SP X pins D f s':=fun f s' q=>by
  cases f with
  | next =>
    obtain ⟨σ',H',I',q⟩:=q
    exact ⟨σ',H',I',hM σ' H' q⟩
  | ret v=>exact q
  | brk=>exact q
  | cont=>exact q
 refine wpAny_If (thn (hc pins s σ H _ I h) fun d s1 ⟨H1,I1,q1⟩=>?_)
 cases d with
 | true=>exact thn (ha pins s1 σ H1 _ I1 q1) up
 | false=>exact thn (hb pins s1 σ H1 _ I1 q1) up
theorem Pm:Nk 10 40:=⟨by decide,by decide,by decide⟩
theorem AL {n:Nat} (h:n<=1000):n<=sizeLine:=Nat.le_of_lt (AT h)
theorem Mj {ns:List Int} {k:Int} (h0:0<=k) (h:k < (ns.length:Int)):∃v:Int,atI (ns.map V.int) k=some (.int v):=by
 have hk:k.toNat < ns.length:=by omega
 have ek:k=((k.toNat:Nat):Int):=by omega
 have q:atI (ns.map V.int) ((k.toNat:Nat):Int)=some (.int ns[k.toNat]):=Cb (by rw [List.getElem?_map,List.getElem?_eq_getElem hk] <;> rfl)
 rw [<- ek] at q
 exact ⟨_,q⟩
end L2
namespace L2
open PySem PySem.Spec PyProof.Rows
noncomputable def Cx.inComp (X:Cx) (Nc:List Str) (sc:Scope) (cl:List (Str × Addr)) (s:Shared) (H:Hp) (ex:List Addr):Cx :=
 { X with N:=Nc,s₀:=s,H₀:=H,env:=compEnvC sc cl s.heap.objs.size X.env,outer:=X.stack,stack:=X.stack,ex:=ex,fn:=fun _=>false,pn:=[],xe:=fun _ _=>False }
theorem LR {env:Env} {f:Str × NameKind->List (Str × Addr)->Sem (ForInStep (List (Str × Addr)))}
 (hf:∀n k r,f (n,k) r=if (k == NameKind.free)=true then (cellOf env n >>= fun c=>pure (ForInStep.yield ((n,c) :: r))) else pure (ForInStep.yield r)) :
 ∀(l:List (Str × NameKind)) (cs:List (Str × Addr)),(∀x∈l,x.2=.free->∃c,env.cells.lookup x.1=some c) ->
  ∃cl,(forIn l cs f:Sem (List (Str × Addr)))=pure cl/\(∀p∈cl,p∈cs\/env.cells.lookup p.1=some p.2)/\(∀p∈cs,p∈cl)/\∀x∈l,x.2=.free->∃c,(x.1,c)∈cl:=by
 intro l
 induction l with
 | nil =>
   intro cs _
   exact ⟨cs,by rw [forIn_nil],fun p hp=>.inl hp,fun p hp=>hp,fun x hx=>absurd hx (by simp)⟩
 | cons y r ih =>
   intro cs h
   obtain ⟨n,k⟩:=y
   by_cases hk:k=.free
   ·subst hk
    obtain ⟨c,hc⟩:=h (n,.free) (by simp) rfl
    have e:cellOf env n=pure c:=by
     unfold cellOf
     rw [show env.cells.lookup n=some c from hc]
    obtain ⟨cl,h1,h2,h3,h4⟩:=ih ((n,c) :: cs) fun x hx=>h x (mem_cons_of_mem _ hx)
    refine ⟨cl,?_,fun p hp=>?_,fun p hp=>h3 p (mem_cons_of_mem _ hp),fun x hx hf'=>?_⟩
    ·rw [forIn_cons,hf,if_pos (by decide),e]
     simp only [pure_bind]
     exact h1
    ·rcases h2 p hp with z | z
     ·rcases mem_cons.mp z with z | z
      ·subst z;exact .inr hc
      ·exact .inl z
     ·exact .inr z
    ·rcases mem_cons.mp hx with z | z
     ·subst z;exact ⟨c,h3 _ (by simp)⟩
     ·exact h4 x z hf'
   ·have hb:(k == NameKind.free)=false:=by simpa using hk
    obtain ⟨cl,h1,h2,h3,h4⟩:=ih cs fun x hx=>h x (mem_cons_of_mem _ hx)
    refine ⟨cl,?_,h2,h3,fun x hx hf'=>?_⟩
    ·rw [forIn_cons,hf,hb,if_neg (by decide)]
     simp only [pure_bind]
     exact h1
    ·rcases mem_cons.mp hx with z | z
     ·subst z;exact absurd hf' hk
     ·exact h4 x z hf'
theorem Hq {α:Type}:∀{l:List (Str × α)} {n:Str} {c:α},(n,c)∈l->∃d,l.lookup n=some d
 | (k,v) :: r,n,c,h=>by
   rw [lookup_cons]
   cases hx:(n == k) with
   | true=>exact ⟨v,rfl⟩
   | false =>
     rcases mem_cons.mp h with z | z
     ·cases z
      simp at hx
     ·exact Hq z
theorem CI {env:Env} {sc:Scope} (h:∀x∈sc.names,x.2=.free->∃c,env.cells.lookup x.1=some c) :
 ∃cl,closureFor sc env=pure cl/\(∀y c,cl.lookup y=some c->env.cells.lookup y=some c)/\∀x∈sc.names,x.2=.free->∃c,cl.lookup x.1=some c:=by
 obtain ⟨cl,h1,h2,_,h4⟩:=LR (env:=env) (f:=fun x r=>if (x.2 == NameKind.free)=true then (cellOf env x.1 >>= fun c=>pure (ForInStep.yield ((x.1,c) :: r))) else pure (ForInStep.yield r)) (fun _ _ _=>rfl) sc.names [] h
 refine ⟨cl,?_,fun y c e=>?_,fun x hx hf=>?_⟩
 ·unfold closureFor
  have:(forIn sc.names ([]:List (Str × Addr)) fun x r=>(match x with | (name,kind)=>if (kind == NameKind.free)=true then (do let __do_lift <- cellOf env name;pure (ForInStep.yield ((name,__do_lift) :: r))) else pure (ForInStep.yield r)):Sem (List (Str × Addr)))=pure cl:=h1
  first
   | (simp only [this,pure_bind];done)
   | (simp only [h1,pure_bind];done)
   | (rw [show (forIn sc.names ([]:List (Str × Addr)) _:Sem (List (Str × Addr)))=pure cl from h1];rfl)
 ·rcases h2 (y,c) (PySem.mem_of_lookup e) with z | z
  ·exact absurd z (by simp)
  ·exact z
 ·obtain ⟨c,hc⟩:=h4 x hx hf
  exact Hq hc
theorem Ca (env:Env):∀(names:List (Str × NameKind)) (y:Str),
 (names.map fun (n,k)=>if (k == NameKind.free && env.scope.kind == .function && env.kindOf n == some .cell) then (n,NameKind.cell) else (n,k)).lookup y
  = (names.lookup y).map fun k=>if (k == NameKind.free && env.scope.kind == .function && env.kindOf y == some .cell) then NameKind.cell else k
 | [],y=>rfl
 | (n,k) :: r,y=>by
   have ih:=Ca env r y
   rw [map_cons]
   dsimp only
   cases hx:(y == n) with
   | true =>
     have e:y=n:=by simpa using hx
     subst e
     by_cases c:(k == NameKind.free && env.scope.kind == .function && env.kindOf y == some .cell)=true
     ·rw [if_pos c];simp only [lookup_cons,hx,Option.map_some];rw [if_pos c]
     ·rw [if_neg c];simp only [lookup_cons,hx,Option.map_some];rw [if_neg c]
   | false =>
     by_cases c:(k == NameKind.free && env.scope.kind == .function && env.kindOf n == some .cell)=true
     ·rw [if_pos c];simp only [lookup_cons,hx];exact ih
     ·rw [if_neg c];simp only [lookup_cons,hx];exact ih
def EU (X:Cx) (ifs:List Expr) (t:TT):Prop :=
 ∀(pins:List (Addr × Obj)) (s:Shared) (σ:St) (H:Hp) (Q:Bool->Hp->Prop),Inv X pins σ H s->t σ H Q ->
  wpAny (model X.prog X.w) X.A (forIn ifs true fun c r=>if r=true then do let ok <- isTrue c X.env (eval c X.env);pure (ForInStep.yield ok) else pure (ForInStep.yield r)) (TP X pins σ Q) X.xe s
def Tf:TT:=fun _ H Q=>Q true H
theorem yes {σ:St} {H:Hp} {Q:Bool->Hp->Prop} (h:Q true H):Tf σ H Q:=h
theorem Bg {X:Cx}:EU X [] Tf:=by
 intro pins s σ H Q I h
 rw [forIn_nil]
 exact wpAny_pure ⟨H,I,h⟩
theorem IY {X:Cx} {c:Expr} {t:TT} (hc:PT X c t):EU X [c] t:=by
 intro pins s σ H Q I h
 rw [forIn_cons,if_pos rfl]
 refine wpAny_bind (wpAny_bind (thn (hc pins s σ H Q I h) fun b s1 q=>wpAny_pure ?_))
 dsimp only
 rw [forIn_nil]
 exact wpAny_pure q
theorem Et {α:Type} {t:Sem α} {Q Q':α->Shared->Prop} {M:Model} {A:Around} {E:Value->Shared->Prop} {s:Shared} (h:wpAny M A t Q (fun _ _=>False) s) (hQ:∀a s,Q a s->Q' a s):wpAny M A t Q' E s:=wpAny_mono h hQ fun _ _ z=>z.elim
noncomputable def KO (wi:TI) (tt:TT) (te:TE):TE:=fun σ H Q=>wi σ H fun J H1=>∀D,H1 D=none->∃W:Nat->Nat->List V->Hp->Prop,(∃m,W 0 m [] (upd H1 D (.lst [])))/\∀i m ys H2,W i m ys H2 ->
 H2 D=some (.lst ys)/\((J.stop i H2/\Q (.ref D) H2)\/(J.go i H2/\ys.length < sizeLine/\∀x H3,J.yld i H2 x H3->tt (σ++[some x]) H3 fun b H4=>if b=true then te (σ++[some x]) H4 fun y H5=>H5 D=some (.lst ys)/\∃m',m' < m/\W (i+1) m' (ys++[y]) (upd H5 D (.lst (ys++[y])))
  else ∃m',m' < m/\W (i+1) m' ys H4))
structure FT (N Nc:List Str) (x:Str) (sc fsc:Scope):Prop where
 kind:sc.kind=.function
 cell:∀y∈sc.names,y.2≠.cell
 nm:∀y∈sc.names,y.2=.local->sc.names.lookup y.1=some .local
 own:sc.names.lookup x=some .local
 fr:∀y∈sc.names,y.2=.free->fsc.names.lookup y.1=some .cell\/fsc.names.lookup y.1=some .free
 len:Nc.length=N.length+1
 nd:Nc.Nodup
 last:Nc[N.length]?=some x
 slot:((List.range N.length).all fun i=>match Nc[i]? with
  | some y=>(match sc.names.lookup y with | some .free=>N[i]? == some y | some .local=>false | some .cell=>false | _=>true)
  | none=>true)=true
theorem FT.at {N Nc:List Str} {x:Str} {sc fsc:Scope} (C:FT N Nc x sc fsc) {i:Nat} {y:Str} (hi:i < N.length) (h:Nc[i]?=some y):sc.names.lookup y≠some .local/\sc.names.lookup y≠some .cell/\(sc.names.lookup y=some .free->N[i]?=some y):=by
 have q:=all_eq_true.mp C.slot i (mem_range.mpr hi)
 rw [h] at q
 dsimp only at q
 cases e:sc.names.lookup y with
 | none=>exact ⟨fun z=>(nomatch z),fun z=>(nomatch z),fun z=>(nomatch z)⟩
 | some k =>
   rw [e] at q
   cases k with
   | «local»=>exact absurd (show false=true from q) Bool.false_ne_true
   | cell=>exact absurd (show false=true from q) Bool.false_ne_true
   | free=>exact ⟨fun z=>(nomatch z),fun z=>(nomatch z),fun _=>by simpa using q⟩
   | _=>exact ⟨fun z=>(nomatch z),fun z=>(nomatch z),fun z=>(nomatch z)⟩
section
variable {X:Cx} {elt iter:Expr} {x:Str} {px pos:Pos} {ifs:List Expr} {sc fsc:Scope} {N Nc:List Str} {wi:TI} {tt:TT} {te:TE}
structure OG (X:Cx) (pins:List (Addr × Obj)) (H:Hp) (C:Addr):Prop where
 free:H C=none
 ne:C≠X.env.locals
 new:X.s₀.heap.objs.size<=C
 cells:∀x c,X.env.cells.lookup x=some c->c≠C
 pins:∀p∈X.pn++pins,p.1≠C
theorem Inv.sameBut {pins:List (Addr × Obj)} {σ:St} {H:Hp} {s:Shared} {C:Addr} {h':Heap} (I:Inv X pins σ H s) (c:OG X pins H C) (k:Heap.SameBut C s.heap h'):Inv X pins σ H { s with heap:=h' } :=
 I.turned (t':=s.toks) (it:=C) (fun b o hb e=>(k.2 b hb).trans e) c.free c.ne (.inr c.new) c.cells c.pins
theorem K0 {σ:St} {o v:Option V}:(σ++[o]).set σ.length v=σ++[v]:=by
 rw [set_append_right _ _ (Nat.le_refl _),Nat.sub_self]
 rfl
end
theorem D9 {lo:Int} {n:Nat} {tt:TT} {te:TE} {σ:St} {H1:Hp} {Q:Addr->Hp->Prop} (hn:n<=sizeLine) (Pv:Addr->Nat->List V->Hp->Prop)
 (h0:∀D,H1 D=none->Pv D 0 [] (upd H1 D (.lst []))) (hD:∀D i ys H,Pv D i ys H->H D=some (.lst ys)/\ys.length<=i)
 (hs:∀D i ys H (K1:VK) (K2:Hp->Prop),H1 D=none->i < n->Pv D i ys H->(∀y H5,H5 D=some (.lst ys)->Pv D (i+1) (ys++[y]) (upd H5 D (.lst (ys++[y])))->K1 y H5)->(∀H4,Pv D (i+1) ys H4->K2 H4) ->
  tt (σ++[some (.int (lo+i))]) H fun b H4=>if b=true then te (σ++[some (.int (lo+i))]) H4 K1 else K2 H4)
 (hd:∀D ys H,H1 D=none->Pv D n ys H->Q D H) :
 ∀D,H1 D=none->∃W:Nat->Nat->List V->Hp->Prop,(∃m,W 0 m [] (upd H1 D (.lst [])))/\∀i m ys H2,W i m ys H2 ->
  H2 D=some (.lst ys)/\(((Itr lo n).stop i H2/\Q D H2)\/((Itr lo n).go i H2/\ys.length < sizeLine/\∀x H3,(Itr lo n).yld i H2 x H3->tt (σ++[some x]) H3 fun b H4=>if b=true then te (σ++[some x]) H4 fun y H5=>H5 D=some (.lst ys)/\∃m',m' < m/\W (i+1) m' (ys++[y]) (upd H5 D (.lst (ys++[y])))
   else ∃m',m' < m/\W (i+1) m' ys H4)):=by
 intro D hDn
 refine ⟨fun i m ys H=>m=n - i/\i<=n/\Pv D i ys H,⟨n,rfl,Nat.zero_le _,h0 D hDn⟩,?_⟩
 rintro i m ys H2 ⟨rfl,hi,p⟩
 obtain ⟨e,l⟩:=hD D i ys H2 p
 refine ⟨e,?_⟩
 by_cases hlt:i < n
 ·refine .inr ⟨hlt,Nat.lt_of_le_of_lt l (Nat.lt_of_lt_of_le hlt hn),fun x H3 y=>?_⟩
  obtain ⟨e1,e2⟩:=y
  subst e1 e2
  exact hs D i ys _ _ _ hDn hlt p (fun y H5 h5 p5=>⟨h5,n - (i+1),by omega,rfl,hlt,p5⟩) fun H4 p4=>⟨n - (i+1),by omega,rfl,hlt,p4⟩
 ·have ei:i=n:=by omega
  subst ei
  exact .inl ⟨Nat.le_refl _,hd D ys H2 hDn p⟩
theorem Bk {K:PySem.W.Frag} {a:Addr} {xs:List V} {tt:TT} {te:TE} {σ:St} {H1:Hp} {Q:Addr->Hp->Prop} (hn:xs.length<=sizeLine) (Pv:Addr->Nat->List V->Hp->Prop)
 (h0:∀D,H1 D=none->Pv D 0 [] (upd H1 D (.lst []))) (hD:∀D i ys H,Pv D i ys H->H D=some (.lst ys)/\ys.length<=i) (hl:∀D i ys H,H1 D=none->Pv D i ys H->SqL K H a xs)
 (hs:∀D i x ys H (K1:VK) (K2:Hp->Prop),H1 D=none->xs[i]?=some x->Pv D i ys H->(∀y H5,H5 D=some (.lst ys)->Pv D (i+1) (ys++[y]) (upd H5 D (.lst (ys++[y])))->K1 y H5)->(∀H4,Pv D (i+1) ys H4->K2 H4) ->
  tt (σ++[some x]) H fun b H4=>if b=true then te (σ++[some x]) H4 K1 else K2 H4)
 (hd:∀D ys H,H1 D=none->Pv D xs.length ys H->Q D H) :
 ∀D,H1 D=none->∃W:Nat->Nat->List V->Hp->Prop,(∃m,W 0 m [] (upd H1 D (.lst [])))/\∀i m ys H2,W i m ys H2 ->
  H2 D=some (.lst ys)/\(((Itl K a).stop i H2/\Q D H2)\/((Itl K a).go i H2/\ys.length < sizeLine/\∀x H3,(Itl K a).yld i H2 x H3->tt (σ++[some x]) H3 fun b H4=>if b=true then te (σ++[some x]) H4 fun y H5=>H5 D=some (.lst ys)/\∃m',m' < m/\W (i+1) m' (ys++[y]) (upd H5 D (.lst (ys++[y])))
   else ∃m',m' < m/\W (i+1) m' ys H4)):=by
 intro D hDn
 refine ⟨fun i m ys H=>m=xs.length - i/\i<=xs.length/\Pv D i ys H,⟨xs.length,rfl,Nat.zero_le _,h0 D hDn⟩,?_⟩
 rintro i m ys H2 ⟨rfl,hi,p⟩
 obtain ⟨e,l⟩:=hD D i ys H2 p
 have q:=hl D i ys H2 hDn p
 refine ⟨e,?_⟩
 by_cases hlt:i < xs.length
 ·refine .inr ⟨⟨xs,xs[i],q,by simp [hlt]⟩,Nat.lt_of_le_of_lt l (Nat.lt_of_lt_of_le hlt hn),fun x H3 y=>?_⟩
  obtain ⟨e1,y⟩:=y
  subst e1
  exact hs D i x ys _ _ _ hDn (y xs q) p (fun y H5 h5 p5=>⟨h5,xs.length - (i+1),by omega,rfl,hlt,p5⟩) fun H4 p4=>⟨xs.length - (i+1),by omega,rfl,hlt,p4⟩
 ·have ei:i=xs.length:=by omega
  subst ei
  exact .inl ⟨⟨xs,q,Nat.le_refl _⟩,hd D ys H2 hDn p⟩
section
variable {X:Cx}
theorem Hj (K:PySem.W.Frag) (h:X.K=K:=by rfl):IxR X (Ta K):=by subst h;exact Au
theorem D6 (K:PySem.W.Frag) (h:X.K=K:=by rfl):IxR X (SN K):=by subst h;exact Al
end
end L2
namespace L2
open PySem PySem.Spec PyProof.Rows
section
variable {X:Cx}
theorem Fa (hc:X.calm=true):C6 X (.builtin "sum") (fun xs H Q=>∃(p:Addr) (ns:List Int),xs=[.ref p]/\SqL X.K H p (ns.map V.int)/\Q (.int ns.sum) H):=by
 intro pins s σ H xs us Q I rv h
 obtain ⟨p,ns,rfl,hS,q⟩:=h
 obtain ⟨u,rfl,r⟩:=DR rv
 cases r
 obtain ⟨its,rv,pl,hz⟩:=I.list hS
 have hi:=E6 rv
 obtain ⟨xs,e⟩:=hi.allInts.items
 have en:xs.toList.map (·.1)=ns:=by
  have:=nums_intItems xs
  rw [<- e,show its.toArray.toList=its from rfl,hi.numsOf] at this
  exact this.symm
 refine sum_intListG (I.ok.hd hc) (by rw [<- e];exact pl.isList) fun h' tk t' hk=>?_
 rw [preSum_eq,take_of_length_le (by simp),en]
 exact ⟨.int ns.sum,H,I.kept hk,⟨_,rfl⟩,q⟩
theorem QZ:MtR X "int.bit_length" (fun x xs H Q=>∃i:Int,x=.int i/\xs=[]/\Q (.int (Builtin.Int.intBits i:Nat)) H):=by
 intro pins s σ H x xs v us Q I rx rv h
 obtain ⟨i,rfl,rfl,q⟩:=h
 obtain ⟨t,rfl⟩:=rx
 cases rv
 exact call_int_bit_length ⟨.int _,H,I.tok _,⟨_,rfl⟩,q⟩
end
end L2
namespace L2
open PySem PySem.Spec PyProof.Rows
section
variable {M:Model} {A:Around} {E:Value->Shared->Prop} {s:Shared} {env:Env} {outer:List Env} {L e:Addr} {base:Heap}
end
end L2
namespace L2
open PySem PySem.Spec PyProof.Rows
section
variable {X:Cx} {pins:List (Addr × Obj)} {σ:St} {H:Hp} {s:Shared} {e:Addr} {cls:Value} {od:Option Addr}
end
section
variable {X:Cx} {pins:List (Addr × Obj)} {σ:St} {H:Hp} {s s':Shared} {E:XK} {ev:Value}
end
section
variable {X:Cx} {W:St->XK} {k:Nat} {f:Addr} {fd:FuncData} {ps:List Str} {sp:Sp} {dvs:List V} {ds:List Value} {x:Str} {p pos:Pos} {e:Expr} {es:List Expr} {t:TA}
end
end L2
namespace L2
open PySem PySem.Spec PyProof.Rows
section
variable {X:Cx} {W:St->XK} {C:Addr} {x:Str} {p cpos pos:Pos} {e:Expr} {es:List Expr} {t:TA}
end
section
variable {X:Cx} {pins:List (Addr × Obj)} {σ:St} {H:Hp} {s:Shared} {e:Addr} {cls:Value} {od:Option Addr}
end
section
variable {X:Cx} {pins:List (Addr × Obj)} {σ:St} {H:Hp} {s:Shared} {e C:Addr} {cls:Value} {od:Option Addr} {x n:Str} {i:Nat} {np pos:Pos} {b₀:Stmt} {suite:List Stmt} {rest:List ExceptHandler} {ts:TS} {tr:TH}
end
end L2
namespace L2
open PySem PySem.Spec PyProof.Rows
section
variable {prog:Program} {w:World} {A:Around} {E:Value->Shared->Prop} {s:Shared} {K:PySem.W.Frag} {a C:Addr} {o:Obj} {od:Option Obj} {name:Str} {tk:Tok}
end
section
variable {X:Cx}
end
end L2
namespace L2
open PySem PySem.Spec PyProof.Rows
section
variable {X:Cx}
end
section
variable {K:PySem.W.Frag} {H H':Hp} {x:V} {b:Bool}
end
section
variable {K:PySem.W.Frag} {A B:Addr}
end
end L2
namespace L2
open PySem PySem.Spec PyProof.Rows
end L2
namespace L2
open PySem PySem.Spec PyProof.Rows
section
variable {prog:Program} {w:World} {A:Around} {E:Value->Shared->Prop} {s:Shared} {K:PySem.W.Frag} {C P f x:Addr} {ox:Obj} {od:Option Obj} {name:Str} {v:Value}
end
end L2
namespace L2
open PySem PySem.Spec PyProof.Rows
section
variable {prog:Program} {w:World} {A:Around} {E:Value->Shared->Prop} {h:Heap} {g:Array GenState} {d:Drawn} {t:Nat} {os:OsState}
variable {nm q:Str} {C N:Addr} {bs bm:List Value} {hd:Bool} {sn:List Str} {sub:List Value} {ab:Bool} {col:Option Bool} {dd:Option Addr} {k0 k1 k2 k3 k5:Option Value}
end
section
variable {X:Cx} {W:St->XK} {C P fi:Addr} {k:Nat} {fd:FuncData} {ps ns:List Str} {x:Str} {p cpos pos:Pos} {e:Expr} {es:List Expr} {t:TA}
end
end L2
namespace L2
open PySem PySem.Spec PyProof.Rows
mutual
inductive Rep (K:PySem.W.Frag) (H:Hp):V->PyData->Prop
 | non:Rep K H .non .none
 | bl (b:Bool):Rep K H (.bl b) (.bool b)
 | int (i:Int):Rep K H (.int i) (.int i)
 | str (x:Str):Rep K H (.str x) (.str x)
 | lst {a:Addr} {xs:List V} {ds:List PyData}:SqL K H a xs->Reps K H xs ds->Rep K H (.ref a) (.list ds)
 | tup {a:Addr} {xs:List V} {ds:List PyData}:SqT K H a xs->Reps K H xs ds->Rep K H (.ref a) (.tuple ds)
inductive Reps (K:PySem.W.Frag) (H:Hp):List V->List PyData->Prop
 | nil:Reps K H [] []
 | cons {x:V} {xs:List V} {d:PyData} {ds:List PyData}:Rep K H x d->Reps K H xs ds->Reps K H (x :: xs) (d :: ds)
end
section
variable {K:PySem.W.Frag} {H H':Hp}
mutual
theorem Rep.same (e:Az H H'):∀{x:V} {d:PyData},Rep K H x d->Rep K H' x d
 | _,_,.non=>.non
 | _,_,.bl b=>.bl b
 | _,_,.int i=>.int i
 | _,_,.str x=>.str x
 | _,_,.lst h r=>.lst (e.seq h) (Reps.same e r)
 | _,_,.tup h r=>.tup (by
  rcases h with (h | ⟨o,h⟩) | h
  ·exact .inl (.inl (e _ _ h))
  ·exact .inl (.inr ⟨o,e _ _ h⟩)
  ·exact .inr h) (Reps.same e r)
theorem Reps.same (e:Az H H'):∀{xs:List V} {ds:List PyData},Reps K H xs ds->Reps K H' xs ds
 | _,_,.nil=>.nil
 | _,_,.cons r t=>.cons (Rep.same e r) (Reps.same e t)
end
theorem Reps.ints:∀(ns:List Int),Reps K H (ns.map V.int) (ns.map PyData.int)
 | []=>.nil
 | n :: ns=>.cons (.int n) (Reps.ints ns)
end
section
variable {X:Cx} {pins:List (Addr × Obj)} {σ:St} {H:Hp} {s:Shared}
mutual
theorem Inv.reads (I:Inv X pins σ H s):∀{x:V} {d:PyData},Rep X.K H x d->∀{v:Value},A9 x v->∃as,Reads s.heap v d as
 | _,_,.non,v,r=>by cases (show v=Value.none from r);exact ⟨_,.none⟩
 | _,_,.bl b,v,r=>by cases (show v=Value.bool b from r);exact ⟨_,.bool b⟩
 | _,_,.int i,v,r=>by obtain ⟨t,e⟩:=(show ∃t,v=Value.int i t from r);cases e;exact ⟨_,.int i t⟩
 | _,_,.str x,v,r=>by obtain ⟨t,e⟩:=(show ∃t,v=Value.str x t from r);cases e;exact ⟨_,.str x t⟩
 | _,_,.lst (a:=a) h rs,v,r=>by
   cases (show v=Value.ref a from r)
   obtain ⟨its,rv,⟨o,n,e1,e2,_,e4⟩,_⟩:=I.list h
   obtain ⟨as,q⟩:=Inv.readsAll I rs rv
   exact ⟨_,.list e1 e2 e4 q⟩
 | _,_,.tup (a:=a) h rs,v,r=>by
   cases (show v=Value.ref a from r)
   obtain ⟨its,rv,⟨o,e1,e2,n,e4⟩,_⟩:=I.tuple h
   obtain ⟨as,q⟩:=Inv.readsAll I rs rv
   exact ⟨_,.tuple e1 e2 e4 q⟩
theorem Inv.readsAll (I:Inv X pins σ H s):∀{xs:List V} {ds:List PyData},Reps X.K H xs ds->∀{vs:List Value},A5 xs vs->∃as,ReadsAll s.heap vs ds as
 | _,_,.nil,_,.nil=>⟨_,.nil⟩
 | _,_,.cons r t,_,.cons q u=>by
   obtain ⟨a1,h1⟩:=Inv.reads I r q
   obtain ⟨a2,h2⟩:=Inv.readsAll I t u
   exact ⟨_,.cons h1 h2⟩
end
noncomputable def T6 (K:PySem.W.Frag):R2:=fun x y H Q=>∃d e,Rep K H x d/\Rep K H y e/\PySem.SeqAt.shaped d=true/\PySem.SeqAt.shaped e=true/\Q (.bl (PyData.eqv d e)) H
noncomputable def TC (K:PySem.W.Frag):R2:=fun x y H Q=>∃d e,Rep K H x d/\Rep K H y e/\PySem.SeqAt.shaped d=true/\PySem.SeqAt.shaped e=true/\Q (.bl (!PyData.eqv d e)) H
theorem Fs {K:PySem.W.Frag} (hu:X.A.units+64 < cLine) (hK:X.K=K:=by rfl):OpR X (compareOp .Eq) (T6 K):=by
 subst hK
 intro pins s σ H x y v u Q I rx ry h
 obtain ⟨d,e,hx,hy,s1,s2,q⟩:=h
 obtain ⟨as,r1⟩:=I.reads hx rx
 obtain ⟨bs,r2⟩:=I.reads hy ry
 exact eq_dataH r1 r2 s1 s2 hu ⟨.bl _,H,I,rfl,q⟩
theorem LO {K:PySem.W.Frag} (hu:X.A.units+64 < cLine) (hK:X.K=K:=by rfl):OpR X (compareOp .NotEq) (TC K):=by
 subst hK
 intro pins s σ H x y v u Q I rx ry h
 obtain ⟨d,e,hx,hy,s1,s2,q⟩:=h
 obtain ⟨as,r1⟩:=I.reads hx rx
 obtain ⟨bs,r2⟩:=I.reads hy ry
 exact ne_dataH r1 r2 s1 s2 hu ⟨.bl _,H,I,rfl,q⟩
end
end L2
namespace L2
open PySem PySem.W PySem.Spec PyProof.Rows
section
variable {O:KeyOrd} {ky:Nat->O.α} {n:Nat} {cmp:Nat->Nat->(Bool->Shared->Prop)->Shared->Prop} {J:Shared->Prop}
noncomputable def kk (ky:Nat->O.α) (p:Array Nat) (i:Nat):O.α:=ky (p.getD i 0)
noncomputable def Srt (ky:Nat->O.α) (p:Array Nat) (m:Nat):Prop:=∀i j,i<=j->j < m->O.kle (kk ky p i) (kk ky p j)
noncomputable def Fal (ky:Nat->O.α) (p:Array Nat) (m:Nat):Prop:=∀i j,i<=j->j < m->O.kle (kk ky p j) (kk ky p i)
def Prm (n:Nat) (p:Array Nat):Prop:=p.toList.Perm (List.range n)
noncomputable def IU (O:KeyOrd) (ky:Nat->O.α) (n:Nat) (cmp:Nat->Nat->(Bool->Shared->Prop)->Shared->Prop) (J:Shared->Prop):Prop :=
 ∀i j (C:Bool->Shared->Prop) s,i < n->j < n->J s->(∀s',J s'->C (O.blt (ky i) (ky j)) s')->cmp i j C s
theorem Prm.size {p:Array Nat} (h:Prm n p):p.size=n:=by
 have:=h.length_eq
 rw [length_range] at this
 exact this
theorem Prm.lt {p:Array Nat} (h:Prm n p) {k:Nat} (hk:k < n):p.getD k 0 < n:=by
 have hz:=h.size
 have e:p.getD k 0=p[k]'(by omega):=by simp [Array.getD,hz,hk]
 rw [e]
 exact mem_range.mp (h.mem_iff.mp (by simp))
theorem Prm.rev {p:Array Nat} (h:Prm n p) (i j:Nat):Prm n (kas_rev p i j):=(mirror_perm p i j _).toList.trans h
theorem Prm.bub {p:Array Nat} (h:Prm n p) (k d:Nat):Prm n (bubble p k d):=(bubble_perm p k d).toList.trans h
theorem Fk {p q:Array Nat} {i j:Nat} (e:p[i]?=q[j]?):p.getD i 0=q.getD j 0:=by
 rw [Array.getD_eq_getD_getElem?,Array.getD_eq_getD_getElem?,e]
theorem FD {p:Array Nat} {i j:Nat} (hj:j<=p.size) (k:Nat):kk ky (kas_rev p i j) k=if i<=k/\k < j then kk ky p (i+j - 1 - k) else kk ky p k:=by
 have e:=getElem?_mirror_all (xs:=p) (i:=i) hj k
 unfold kk kas_rev
 by_cases c:i<=k/\k < j
 ·rw [if_pos c] at e ⊢
  rw [Fk e]
 ·rw [if_neg c] at e ⊢
  rw [Fk e]
theorem Ow {p:Array Nat} {src d:Nat} (hs:src < p.size) (hd:d<=src) (k:Nat) :
 kk ky (bubble p src d) k=if k=src - d then kk ky p src else if src - d < k/\k<=src then kk ky p (k - 1) else kk ky p k:=by
 have e:=getElem?_bubble hs d hd k
 unfold kk
 by_cases c:k=src - d
 ·rw [if_pos c] at e ⊢
  rw [Fk e]
 ·rw [if_neg c] at e ⊢
  by_cases c2:src - d < k/\k<=src
  ·rw [if_pos c2] at e ⊢
   rw [Fk e]
  ·rw [if_neg c2] at e ⊢
   rw [Fk e]
theorem Srt.succ {p:Array Nat} {m:Nat} (h:Srt ky p m) (h1:1<=m) (c:O.kle (kk ky p (m - 1)) (kk ky p m)):Srt ky p (m+1):=fun i j hij hj=>by
 by_cases e:j=m
 ·subst e
  by_cases e2:i=j
  ·subst e2
   exact KeyOrd.kle_refl _
  ·exact KeyOrd.kle_trans (h i (j - 1) (by omega) (by omega)) c
 ·exact h i j hij (by omega)
theorem Fal.succ {p:Array Nat} {m:Nat} (h:Fal ky p m) (h1:1<=m) (c:O.kle (kk ky p m) (kk ky p (m - 1))):Fal ky p (m+1):=fun i j hij hj=>by
 by_cases e:j=m
 ·subst e
  by_cases e2:i=j
  ·subst e2
   exact KeyOrd.kle_refl _
  ·exact KeyOrd.kle_trans c (h i (j - 1) (by omega) (by omega))
 ·exact h i j hij (by omega)
theorem Srt.one {p:Array Nat}:Srt ky p 1:=fun i j hij hj=>by
 have:i=j:=by omega
 subst this
 exact KeyOrd.kle_refl _
theorem Fal.rev {p:Array Nat} {m:Nat} (hz:m<=p.size) (h:Fal ky p m):Srt ky (kas_rev p 0 m) m:=fun i j hij hj=>by
 rw [FD hz,FD hz,if_pos ⟨Nat.zero_le _,by omega⟩,if_pos ⟨Nat.zero_le _,hj⟩]
 exact h _ _ (by omega) (by omega)
theorem Fal.revEq {p:Array Nat} {i j m:Nat} (hz:j<=p.size) (hm:j<=m) (h:Fal ky p m) (eq:∀a b,i<=a->a < j->i<=b->b < j->O.kle (kk ky p a) (kk ky p b)):Fal ky (kas_rev p i j) m:=fun a b hab hb=>by
 rw [FD hz,FD hz]
 by_cases c1:i<=a/\a < j
 ·rw [if_pos c1]
  by_cases c2:i<=b/\b < j
  ·rw [if_pos c2]
   exact eq _ _ (by omega) (by omega) (by omega) (by omega)
  ·rw [if_neg c2]
   exact h _ _ (by omega) hb
 ·rw [if_neg c1]
  by_cases c2:i<=b/\b < j
  ·rw [if_pos c2]
   exact h _ _ (by omega) (by omega)
  ·rw [if_neg c2]
   exact h _ _ hab hb
theorem LW (ac:IU O ky n cmp J) {p:Array Nat} (hp:Prm n p) {R:Nat->Shared->Prop}:∀(f a:Nat) (s:Shared),1<=a->a+f<=n->Srt ky p a->J s ->
 (∀m s',a<=m->m<=a+f->Srt ky p m->(m < a+f->O.klt (kk ky p m) (kk ky p (m - 1)))->J s'->R m s')->(kas_asc p f a).kasWp cmp R s
 | 0,a,s,h1,hz,hs,hJ,k=>k a s (Nat.le_refl _) (Nat.le_refl _) hs (fun h=>absurd h (Nat.lt_irrefl _)) hJ
 | f+1,a,s,h1,hz,hs,hJ,k=>by
   refine ac _ _ _ s (hp.lt (by omega)) (hp.lt (by omega)) hJ fun s' hJ'=>?_
   cases e:O.blt (ky (p.getD a 0)) (ky (p.getD (a - 1) 0)) with
   | true =>
     dsimp only
     rw [if_pos rfl]
     exact k a s' (Nat.le_refl _) (by omega) hs (fun _=>e) hJ'
   | false =>
     dsimp only
     rw [if_neg Bool.false_ne_true]
     refine LW ac hp f (a+1) s' (by omega) (by omega) (hs.succ h1 e) hJ' fun m s2 l1 l2 q1 q2 q3=>?_
     exact k m s2 (by omega) (by omega) q1 (fun h=>q2 (by omega)) q3
theorem GB (ac:IU O ky n cmp J) {R:Array Nat × Nat × Nat->Shared->Prop}:∀(f:Nat) (p:Array Nat) (m q:Nat) (s:Shared),Prm n p->q+1<=m->m+f<=n->Fal ky p m ->
 (∀a b,m - (q+1)<=a->a < m->m - (q+1)<=b->b < m->O.kle (kk ky p a) (kk ky p b))->J s ->
 (∀p' m' q' s',Prm n p'->q'+1<=m'->m<=m'->m'<=m+f->Fal ky p' m'->(∀a b,m' - (q'+1)<=a->a < m'->m' - (q'+1)<=b->b < m'->O.kle (kk ky p' a) (kk ky p' b))->J s'->R (p',m',q') s') ->
 (kas_desc f p m q).kasWp cmp R s
 | 0,p,m,q,s,hp,hq,hz,hf,he,hJ,k=>k p m q s hp hq (Nat.le_refl _) (Nat.le_refl _) hf he hJ
 | f+1,p,m,q,s,hp,hq,hz,hf,he,hJ,k=>by
   have hsz:=hp.size
   refine ac _ _ _ s (hp.lt (by omega)) (hp.lt (by omega)) hJ fun s' hJ'=>?_
   cases e:O.blt (ky (p.getD m 0)) (ky (p.getD (m - 1) 0)) with
   | true =>
     dsimp only
     rw [if_pos rfl]
     have hf':Fal ky p (m+1):=hf.succ (by omega) (KeyOrd.kle_of_klt e)
     have one:∀p':Array Nat,∀a b,m+1 - (0+1)<=a->a < m+1->m+1 - (0+1)<=b->b < m+1->O.kle (kk ky p' a) (kk ky p' b):=fun p' a b _ _ _ _=>by
      have:a=b:=by omega
      subst this
      exact KeyOrd.kle_refl _
     by_cases c:q > 0
     ·rw [if_pos c]
      refine GB ac f (kas_rev p (m - (q+1)) m) (m+1) 0 s' (hp.rev _ _) (by omega) (by omega) (hf'.revEq (by omega) (by omega) he) (one _) hJ' fun p' m' q' s2 a1 a2 a3 a4 a5 a6 a7=>?_
      exact k p' m' q' s2 a1 a2 (by omega) (by omega) a5 a6 a7
     ·rw [if_neg c]
      refine GB ac f p (m+1) 0 s' hp (by omega) (by omega) hf' (one _) hJ' fun p' m' q' s2 a1 a2 a3 a4 a5 a6 a7=>?_
      exact k p' m' q' s2 a1 a2 (by omega) (by omega) a5 a6 a7
   | false =>
     dsimp only
     rw [if_neg Bool.false_ne_true]
     refine ac _ _ _ s' (hp.lt (by omega)) (hp.lt (by omega)) hJ' fun s2 hJ2=>?_
     cases e2:O.blt (ky (p.getD (m - 1) 0)) (ky (p.getD m 0)) with
     | true =>
       dsimp only
       rw [if_pos rfl]
       exact k p m q s2 hp hq (Nat.le_refl _) (by omega) hf he hJ2
     | false =>
       dsimp only
       rw [if_neg Bool.false_ne_true]
       have g1:O.kle (kk ky p (m - 1)) (kk ky p m):=e
       have g2:O.kle (kk ky p m) (kk ky p (m - 1)):=e2
       refine GB ac f p (m+1) (q+1) s2 hp (by omega) (by omega) (hf.succ (by omega) g2) (fun a b a1 a2 b1 b2=>?_) hJ2 fun p' m' q' s3 c1 c2 c3 c4 c5 c6 c7=>?_
       ·by_cases ea:a=m
        ·by_cases eb:b=m
         ·rw [ea,eb]
          exact KeyOrd.kle_refl _
         ·rw [ea]
          exact KeyOrd.kle_trans g2 (he (m - 1) b (by omega) (by omega) (by omega) (by omega))
        ·by_cases eb:b=m
         ·rw [eb]
          exact KeyOrd.kle_trans (he a (m - 1) (by omega) (by omega) (by omega) (by omega)) g1
         ·exact he a b (by omega) (by omega) (by omega) (by omega)
       ·exact k p' m' q' s3 c1 c2 (by omega) (by omega) c5 c6 c7
theorem Kc (ac:IU O ky n cmp J) {p:Array Nat} (hp:Prm n p) {m nrem:Nat} {R:Nat × Array Nat->Shared->Prop} {s:Shared} (h1:1<=m) (h2:m<=nrem) (h3:nrem<=n) (hf:Fal ky p m) (hJ:J s)
 (k:∀m' p' s',1<=m'->m'<=nrem->Prm n p'->Srt ky p' m'->J s'->R (m',p') s'):(kas_tail3 m nrem p).kasWp cmp R s:=by
 have hsz:=hp.size
 unfold kas_tail3
 rw [KasT.kasWp_bind]
 refine LW ac (hp.rev 0 m) (nrem - m) m s h1 (by omega) (hf.rev (by omega)) hJ fun m' s' a1 a2 a3 _ a5=>?_
 exact k m' _ s' (by omega) (by omega) (hp.rev _ _) a3 a5
theorem Ga (ac:IU O ky n cmp J) {p:Array Nat} (hp:Prm n p) {m nrem:Nat} {R:Nat × Array Nat->Shared->Prop} {s:Shared} (h2:m+1<=nrem) (h3:nrem<=n) (hf:Fal ky p (m+1)) (hJ:J s)
 (k:∀m' p' s',1<=m'->m'<=nrem->Prm n p'->Srt ky p' m'->J s'->R (m',p') s'):(kas_descPart m nrem p).kasWp cmp R s:=by
 unfold kas_descPart
 rw [KasT.kasWp_bind]
 refine GB ac (nrem - (m+1)) p (m+1) 0 s hp (by omega) (by omega) hf (fun a b _ _ _ _=>?_) hJ fun p' m' q' s' a1 a2 a3 a4 a5 a6 a7=>?_
 ·have:a=b:=by omega
  subst this
  exact KeyOrd.kle_refl _
 ·have hsz:=a1.size
  dsimp only
  by_cases c:q' > 0
  ·rw [if_pos c]
   exact Kc ac (a1.rev _ _) (by omega) (by omega) h3 (a5.revEq (by omega) (Nat.le_refl _) a6) a7 k
  ·rw [if_neg c]
   exact Kc ac a1 (by omega) (by omega) h3 a5 a7 k
theorem Ol (ac:IU O ky n cmp J) {p:Array Nat} (hp:Prm n p) {R:Nat × Array Nat->Shared->Prop} {s:Shared} (h1:1<=n) (hJ:J s)
 (k:∀m' p' s',1<=m'->m'<=n->Prm n p'->Srt ky p' m'->J s'->R (m',p') s'):(kas_count n p).kasWp cmp R s:=by
 have hsz:=hp.size
 unfold kas_count
 rw [KasT.kasWp_bind]
 refine LW ac hp (n - 1) 1 s (Nat.le_refl _) (by omega) Srt.one hJ fun m s' a1 a2 a3 a4 a5=>?_
 by_cases c:m=n
 ·rw [if_pos (by simpa using c)]
  exact k m p s' a1 (by omega) hp a3 a5
 ·rw [if_neg (by simpa using c)]
  have lt:=a4 (by omega)
  by_cases c1:m > 1
  ·rw [if_pos c1]
   refine ac _ _ _ s' (hp.lt (by omega)) (hp.lt (by omega)) a5 fun s2 hJ2=>?_
   cases e:O.blt (ky (p.getD 0 0)) (ky (p.getD (m - 1) 0)) with
   | true =>
     dsimp only
     rw [if_pos rfl]
     exact k m p s2 a1 (by omega) hp a3 hJ2
   | false =>
     dsimp only
     rw [if_neg Bool.false_ne_true]
     have g:O.kle (kk ky p (m - 1)) (kk ky p 0):=e
     have eq:∀a b,a < m->b < m->O.kle (kk ky p a) (kk ky p b):=fun a b ha hb =>
      KeyOrd.kle_trans (a3 a (m - 1) (by omega) (by omega)) (KeyOrd.kle_trans g (a3 0 b (by omega) hb))
     refine Ga ac (hp.rev 0 m) (by omega) (Nat.le_refl _) ?_ hJ2 k
     intro i j hij hj
     rw [FD (by omega),FD (by omega)]
     by_cases cj:j < m
     ·rw [if_pos ⟨Nat.zero_le _,cj⟩,if_pos ⟨Nat.zero_le _,by omega⟩]
      exact eq _ _ (by omega) (by omega)
     ·have ej:j=m:=by omega
      subst ej
      rw [if_neg (by omega)]
      by_cases ci:i < j
      ·rw [if_pos ⟨Nat.zero_le _,ci⟩]
       exact KeyOrd.kle_trans (KeyOrd.kle_of_klt lt) (eq _ _ (by omega) (by omega))
      ·rw [if_neg (by omega)]
       have:i=j:=by omega
       subst this
       exact KeyOrd.kle_refl _
  ·rw [if_neg c1]
   have em:m=1:=by omega
   subst em
   refine Ga ac hp (by omega) (Nat.le_refl _) ?_ a5 k
   have f1:Fal ky p 1:=fun i j hij hj=>by
    have:i=j:=by omega
    subst this
    exact KeyOrd.kle_refl _
   exact f1.succ (Nat.le_refl _) (KeyOrd.kle_of_klt lt)
theorem GK (ac:IU O ky n cmp J) {p:Array Nat} (hp:Prm n p) {t:Nat} (ht:t < n) {R:Nat->Shared->Prop}:∀(f l r:Nat) (s:Shared),l<=r->r<=t->r - l<=f->(∀i,i < l->O.kle (kk ky p i) (kk ky p t))->(∀i,r<=i->i < t->O.klt (kk ky p t) (kk ky p i)) ->
 Srt ky p t->J s->(∀l' s',l'<=t->(∀i,i < l'->O.kle (kk ky p i) (kk ky p t))->(∀i,l'<=i->i < t->O.klt (kk ky p t) (kk ky p i))->J s'->R l' s')->(kas_place p t f l r).kasWp cmp R s
 | 0,l,r,s,h1,h2,h3,h4,h5,_,hJ,k=>k l s (by omega) h4 (fun i a b=>h5 i (by omega) b) hJ
 | f+1,l,r,s,h1,h2,h3,h4,h5,hs,hJ,k=>by
   unfold kas_place
   by_cases c:l>=r
   ·rw [if_pos c]
    exact k l s (by omega) h4 (fun i a b=>h5 i (by omega) b) hJ
   ·rw [if_neg c]
    refine ac _ _ _ s (hp.lt ht) (hp.lt (by omega)) hJ fun s' hJ'=>?_
    cases e:O.blt (ky (p.getD t 0)) (ky (p.getD ((l+r) / 2) 0)) with
    | true =>
      dsimp only
      rw [if_pos rfl]
      have g:O.klt (kk ky p t) (kk ky p ((l+r) / 2)):=e
      exact GK ac hp ht f l ((l+r) / 2) s' (by omega) (by omega) (by omega) h4 (fun i a b=>KeyOrd.klt_of_klt_of_kle g (hs _ _ a b)) hs hJ' k
    | false =>
      dsimp only
      rw [if_neg Bool.false_ne_true]
      have g:O.kle (kk ky p ((l+r) / 2)) (kk ky p t):=e
      exact GK ac hp ht f ((l+r) / 2+1) r s' (by omega) h2 (by omega) (fun i a=>KeyOrd.kle_trans (hs i ((l+r) / 2) (by omega) (by omega)) g) h5 hs hJ' k
theorem P3 (ac:IU O ky n cmp J) {R:Array Nat->Shared->Prop}:∀(f:Nat) (p:Array Nat) (t:Nat) (s:Shared),Prm n p->t+f=n->Srt ky p t->J s->(∀p' s',Prm n p'->Srt ky p' n->J s'->R p' s')->(kas_bin f p t).kasWp cmp R s
 | 0,p,t,s,hp,hz,hs,hJ,k=>k p s hp (by have:t=n:=by omega
                                       subst this;exact hs) hJ
 | f+1,p,t,s,hp,hz,hs,hJ,k=>by
   have hsz:=hp.size
   unfold kas_bin
   rw [KasT.kasWp_bind]
   refine GK ac hp (by omega) t 0 t s (Nat.zero_le _) (Nat.le_refl _) (by omega) (fun i h=>absurd h (Nat.not_lt_zero _)) (fun i a b=>absurd b (by omega)) hs hJ fun l s' a1 a2 a3 hJ'=>?_
   refine P3 ac f (bubble p t (t - l)) (t+1) s' (hp.bub _ _) (by omega) ?_ hJ' k
   intro i j hij hj
   have el:t - (t - l)=l:=by omega
   rw [Ow (by omega) (by omega),Ow (by omega) (by omega),el]
   by_cases ci:i=l
   ·rw [if_pos ci]
    by_cases cj:j=l
    ·rw [if_pos cj]
     exact KeyOrd.kle_refl _
    ·rw [if_neg cj,if_pos ⟨by omega,by omega⟩]
     exact KeyOrd.kle_of_klt (a3 _ (by omega) (by omega))
   ·rw [if_neg ci]
    by_cases ci2:l < i/\i<=t
    ·rw [if_pos ci2,if_neg (by omega),if_pos ⟨by omega,by omega⟩]
     exact hs _ _ (by omega) (by omega)
    ·rw [if_neg ci2]
     by_cases cj:j=l
     ·rw [if_pos cj]
      exact a2 _ (by omega)
     ·rw [if_neg cj]
      by_cases cj2:l < j/\j<=t
      ·rw [if_pos cj2]
       exact hs _ _ (by omega) (by omega)
      ·rw [if_neg cj2]
       exact hs _ _ hij (by omega)
theorem PY (ac:IU O ky n cmp J) {R:Array Nat->Shared->Prop} {s:Shared} (h1:1<=n) (hJ:J s) (k:∀p s',Prm n p->Srt ky p n->J s'->R p s'):(kas_sort n).kasWp cmp R s:=by
 unfold kas_sort
 rw [KasT.kasWp_bind]
 refine Ol ac (List.Perm.refl _) h1 hJ fun m p s' a1 a2 a3 a4 a5=>?_
 dsimp only
 by_cases c:m < n
 ·rw [if_pos c]
  have e:max m 1=m:=by omega
  rw [e]
  exact P3 ac (n - m) p m s' a3 (by omega) a4 a5 k
 ·rw [if_neg c]
  have e:m=n:=by omega
  subst e
  exact k p s' a3 a4 a5
end
end L2
namespace L2
open PySem PySem.W PySem.Spec PyProof.Rows
theorem D7:∀a b:List Int,HT.lexLt a b=decide (a < b)
 | [],[]=>by simp [HT.lexLt]
 | [],_ :: _=>by simp [HT.lexLt]
 | _ :: _,[]=>by simp [HT.lexLt]
 | x :: xs,y :: ys=>by
   rw [HT.lexLt_cons,D7 xs ys]
   by_cases e:x=y
   ·subst e
    rw [if_pos rfl]
    simp [cons_lt_cons_iff]
   ·rw [if_neg e]
    simp [cons_lt_cons_iff,e]
noncomputable def Rf:KeyOrd where
 α:=List Int
 blt a b:=HT.lexLt a b
 irrefl a:=by rw [D7];simpa using List.lt_irrefl a
 trans a b c h1 h2:=by
  rw [D7] at *
  simp only [decide_eq_true_eq] at *
  exact List.lt_trans h1 h2
 negTrans a b c h:=by
  rw [D7] at h
  rw [D7,D7]
  simp only [decide_eq_true_eq] at *
  by_cases hab:a < b
  ·exact .inl hab
  ·exact .inr (List.lt_of_le_of_lt (List.not_lt.mp hab) h)
 total a b h1 h2:=by
  rw [D7] at *
  simp only [decide_eq_false_iff_not] at *
  exact List.le_antisymm (List.not_lt.mp h2) (List.not_lt.mp h1)
noncomputable def DH (h:Heap) (v:Value) (ns:List Int):Prop:=∃a its,v=.ref a/\IsTup h a its/\IntsAre its.toList ns
section
variable {prog:Program} {w:World} {A:Around} {E:Value->Shared->Prop} {s:Shared} {Q:Bool->Shared->Prop}
theorem Mm {fin bb:Bool}:∀{vs us:List Value} {ns ms:List Int} (i:Nat),IntsAre vs ns->IntsAre us ms->Q (HT.lexLt ns ms) s->fin=decide (vs.length < us.length)->KatLex prog w A bb fin Q (vs.zip us) i s
 | _,_,_,_,i,.nil,.nil,h,e=>by
   refine kat_nil ?_
   rw [e]
   exact h
 | _,_,_,_,i,.nil,.cons _ _ _,h,e=>by
   refine kat_nil ?_
   rw [e]
   simpa [HT.lexLt] using h
 | _,_,_,_,i,.cons _ _ _,.nil,h,e=>by
   refine kat_nil ?_
   rw [e]
   simpa [HT.lexLt] using h
 | _,_,_,_,i,.cons (vs:=vs) (ns:=ns) x t hv,.cons (vs:=us) (ns:=ms) y u hu,h,e=>by
   refine kat_cons (wpAny_eqBool_int (kat_go (fun c=>?_) (fun c=>?_)))
   ·have xy:x=y:=by simpa using c
    subst xy
    refine kat_yes (Mm (i+1) hv hu ?_ ?_)
    ·simpa [HT.lexLt] using h
    ·rw [e]
     simp
   ·have xy:¬ x=y:=by simpa using c
    refine kat_no ?_
    have h':Q (decide (x < y)) s:=by simpa [HT.lexLt,xy] using h
    cases (bb && i == 0) with
    | true=>exact oneLt_int h'
    | false=>exact kat_one _ _ (lt_int h')
def My (κ:SortKind):Prop:=(∃b,κ=tuples' b)\/κ=general'\/κ=oneType'
theorem S8 {κ:SortKind} {x y:Value} {ns ms:List Int} (hk:My κ) (hx:DH s.heap x ns) (hy:DH s.heap y ms) (hu:A.units < cLine) (h:Q (HT.lexLt ns ms) s):wpAny (model prog w) A (keyLt' κ x y) Q E s:=by
 obtain ⟨a,its,rfl,ta,ia⟩:=hx
 obtain ⟨b,jts,rfl,tb,ib⟩:=hy
 rcases hk with ⟨bb,rfl⟩ | rfl | rfl
 ·obtain ⟨o,ho,hc,n,hd⟩:=ta
  obtain ⟨o2,ho2,hc2,n2,hd2⟩:=tb
  exact kat_lt ho hd ho2 hd2 (Mm 0 ia ib h (by simp))
 ·exact kat_one _ _ (HT.lt_tupInts ta tb ia ib hu h)
 ·rw [keyLt'_oneType,oneLt'_eq]
  simp only [if_true]
  refine wpAny_bind (wpAny_cRoomFor hu ?_)
  obtain ⟨⟨cls,dd,data,sl⟩,ho,hc,n,hd⟩:=id ta
  obtain ⟨⟨cls2,dd2,data2,sl2⟩,ho2,hc2,n2,hd2⟩:=id tb
  simp only at hc hd hc2 hd2
  subst hc hd hc2 hd2
  refine wpAny_bind (wpAny_callSpecialIfBound?_slot (T:="tuple") ⟨_,ho,rfl⟩ PySem.F.slot_tuple_lt (call_meets PySem.F.slot_tuple_lt ⟨_,ho,rfl⟩ PySem.F.entry_tuple_lt (PySem.F.args_tuple_lt_2 _ _) (HT.tuple_lt_ints a b its jts n n2 dd dd2 sl sl2 ns ms ia ib) ⟨ho,ho2,?_⟩))
  exact wpAny_truthy_bool h
theorem Lz:∀{l:List Value} {ns:List Int},IntsAre l ns->∀{v:Value},l[0]?=some v->∃n t,v=Value.int n t
 | _,_,.nil,v,e=>by simp at e
 | _,_,.cons n t _,v,e=>⟨n,t,by simpa using e.symm⟩
theorem Lb {α β:Type} {f:α->Sem β}:∀(l:List α) {R:List β->Shared->Prop},(∀v∈l,∀(Q':β->Shared->Prop),(∀r,Q' r s)->wpAny (model prog w) A (f v) Q' E s)->(∀rs,R rs s)->wpAny (model prog w) A (l.mapM f) R E s
 | [],_,_,h=>by
   rw [mapM_nil]
   exact wpAny_pure (h [])
 | x :: l,R,hf,h=>by
   rw [mapM_cons]
   exact wpAny_bind (hf x (.head _) _ fun r=>wpAny_bind (Lb l (R:=fun bs s'=>wpAny (model prog w) A (pure (r :: bs)) R E s') (fun v hv=>hf v (.tail _ hv)) fun rs=>wpAny_pure (h _)))
theorem Kr {l:List Value} {R:Option Value->Shared->Prop} (hf:∀v∈l,∀(Q':Value->Shared->Prop),(∀r,Q' r s)->wpAny (model prog w) A (typeOf v) Q' E s) (h:∀r,R r s):wpAny (model prog w) A (oneTypeOnly' l.toArray) R E s:=by
 rw [oneTypeOnly'_eq,mapM_toArray,map_eq_pure_bind]
 refine wpAny_bind (wpAny_bind (Lb l hf fun rs=>wpAny_pure ?_))
 cases rs.toArray[0]? with
 | none=>exact wpAny_pure (h _)
 | some t=>exact wpAny_pure (h _)
theorem L7 {rows:List (List Int)}:∀{vs:List Value},Paired (DH s.heap) vs rows->∀{R:List (Option Value)->Shared->Prop},(∀fs,fs.length=vs.length->(∀f∈fs,∀v,f=some v->∃n t,v=Value.int n t)->R fs s) ->
 wpAny (model prog w) A (vs.mapM firstOfTuple') R E s:=by
 intro vs hp
 induction hp with
 | nil =>
   intro R h
   rw [mapM_nil]
   exact wpAny_pure (h [] rfl (fun f m=>nomatch m))
 | cons hx hr ih =>
   intro R h
   obtain ⟨a,its,rfl,⟨o,ho,hc,n,hd⟩,ia⟩:=hx
   rw [mapM_cons]
   refine wpAny_bind ?_
   rw [kas_first_eq]
   refine wpAny_bind (Looks.here (show Looks (model prog w) s.heap (typeOf (.ref a)) o.cls from (Looks.ld ho).andThen .now) ?_)
   rw [hc,if_neg (by first | decide | simp)]
   refine wpAny_bind (listItems_at ho hd (wpAny_pure ?_))
   refine wpAny_bind (ih fun fs l1 l2=>wpAny_pure (h _ (by rw [length_cons,length_cons,l1]) fun f m v e=>?_))
   rcases mem_cons.mp m with m | m
   ·subst m
    have e':its.toList[0]?=some v:=by simpa using e
    exact Lz ia e'
   ·exact l2 f m v e
theorem OW {vs:List Value} {rows:List (List Int)} (hp:Paired (DH s.heap) vs rows) {R:SortKind->Shared->Prop} (h:∀κ,My κ->R κ s):wpAny (model prog w) A (keyKind' vs.toArray) R E s:=by
 rw [kat_kind_eq,mapM_toArray,map_eq_pure_bind]
 refine wpAny_bind (wpAny_bind (L7 hp fun fs l1 l2=>wpAny_pure ?_))
 by_cases c:(fs.toArray.all fun x=>x.isSome)=true
 ·rw [if_pos c]
  refine wpAny_bind (wpAny_rule ?_)
  have e:fs.toArray.filterMap id=(fs.filterMap id).toArray:=by simp
  rw [e]
  refine wpAny_bind (Kr (fun v hv Q' hq=>?_) fun r=>wpAny_pure (h _ (.inl ⟨_,rfl⟩)))
  obtain ⟨f,fm,fe⟩:=mem_filterMap.mp hv
  obtain ⟨n,t,rfl⟩:=l2 f fm v fe
  exact wpAny_of_eq (a:=Value.type "int") rfl (hq _)
 ·rw [if_neg c]
  by_cases c2:(fs.toArray[0]?.bind id).isSome=true
  ·rw [if_pos c2]
   exact wpAny_pure (h _ (.inr (.inl rfl)))
  ·rw [if_neg c2]
   refine wpAny_bind (Kr (fun v hv Q' hq=>?_) fun r=>?_)
   ·obtain ⟨ns,hr⟩:∃ns,DH s.heap v ns:=by
     clear l1 l2 c c2
     induction hp with
     | nil=>cases hv
     | cons hx _ ih =>
       rcases mem_cons.mp hv with m | m
       ·exact ⟨_,m ▸ hx⟩
       ·exact ih m
    obtain ⟨a,its,rfl,⟨o,ho,hc,n,hd⟩,ia⟩:=hr
    exact Looks.here (show Looks (model prog w) s.heap (typeOf (.ref a)) o.cls from (Looks.ld ho).andThen .now) (hq _)
   ·cases r with
    | none=>exact wpAny_pure (h _ (.inr (.inl rfl)))
    | some t=>exact wpAny_pure (h _ (.inr (.inr rfl)))
theorem Fz {α β:Type} {R:α->β->Prop} (d:α) (e:β):∀{xs:List α} {ys:List β},Paired R xs ys->∀i,i < xs.length->R (xs.getD i d) (ys.getD i e)
 | _,_,.nil,i,h=>absurd h (Nat.not_lt_zero _)
 | _,_,.cons r _,0,_=>r
 | _,_,.cons _ t,i+1,h=>Fz d e t i (by simpa using h)
theorem HC (vs:List Value):(List.range vs.length).map (fun i=>vs.getD i Value.none)=vs:=by
 apply ext_getElem
 ·simp
 ·intro i h1 h2
  simp [h2]
theorem DH.keep {h h':Heap} {v:Value} {ns:List Int} (x:DH h v ns) (k:∀b o,o.cls=.type "tuple"->h.get? b=some o->h'.get? b=some o):DH h' v ns:=by
 obtain ⟨a,its,rfl,⟨o,ho,hc,n,hd⟩,ia⟩:=x
 exact ⟨a,its,rfl,⟨o,k a o hc ho,hc,n,hd⟩,ia⟩
theorem OT {a:Addr} {vs:List Value} {rows:List (List Int)} {n:Nat} {P:PySem.Fin->Shared->Prop} (ho:s.heap.get? a=some (seqObj "list" vs.toArray n)) (hp:Paired (DH s.heap) vs rows) (h64:vs.length < 64) (hu:A.units < cLine)
 (h:∀p:Array Nat,Prm vs.length p->Srt (O:=Rf) (fun i=>rows.getD i []) p vs.length->P (.done (.ret .none)) { s with heap:=sortedHeap s.heap a vs (List.toArray (p.toList.map fun i=>vs.getD i Value.none)) }) :
 wpAny (model prog w) A (Builtin.«list.sort» ⟨[.ref a],[]⟩) P E s:=by
 rw [list_sort_plain]
 have ha:a < s.heap.objs.size:=Heap.lt_size ho
 refine wpAny_bind (listItems_at ho rfl ?_)
 refine wpAny_bind (listUpdate_at ho rfl ?_)
 obtain ⟨e1,ho1⟩:∃e1,(s.heap.update a (Obj.mapSeq fun _=>#[])).get? a=some (seqObj "list" #[] e1):=⟨_,get?_update_seq ho (fun _=>#[])⟩
 refine wpAny_bind (seqEpoch_at ho1 rfl ?_)
 refine wpAny_bind (wpAny_newTuple ?_)
 refine wpAny_bind (wpAny_newList ?_)
 refine wpAny_holding ?_
 have ho6:(((s.heap.update a (Obj.mapSeq fun _=>#[])).push (seqObj "tuple" vs.toArray 0)).push (seqObj "list" #[] 0)).get? a=some (seqObj "list" #[] e1):=by
  rw [Heap.get?_push_ne _ _ _ (by rw [size_push',Heap.size_update];exact Nat.ne_of_lt (Nat.lt_succ_of_lt ha)),Heap.get?_push_ne _ _ _ (by rw [Heap.size_update];exact Nat.ne_of_lt ha)]
  exact ho1
 have hp6:Paired (DH (((s.heap.update a (Obj.mapSeq fun _=>#[])).push (seqObj "tuple" vs.toArray 0)).push (seqObj "list" #[] 0))) vs rows:=Paired.mapP hp fun v ns x=>x.keep fun b o hc e=>by
  have hb:b≠a:=fun z=>by
   rw [z,ho] at e
   cases e
   exact absurd (show Value.type "list"=Value.type "tuple" from hc) (by decide)
  exact Heap.get?_push_of_some _ (Heap.get?_push_of_some _ ((Heap.get?_update_other _ _ (Ne.symm hb)).trans e))
 show wpAny (model prog w) A _ P E { s with heap:=((s.heap.update a (Obj.mapSeq fun _=>#[])).push (seqObj "tuple" vs.toArray 0)).push (seqObj "list" #[] 0) }
 dsimp only
 have hsz:vs.toArray.size=vs.length:=by simp
 by_cases h2:vs.toArray.size < 2
 ·rw [if_pos h2,if_pos h2]
  refine wpAny_bind (wpAny_pure ?_)
  rw [StateT.run_pure]
  refine wpAny_bind (wpAny_pure ?_)
  dsimp only
  refine wpAny_bind (seqEpoch_at ho6 rfl ?_)
  refine wpAny_bind (listUpdate_at ho6 rfl ?_ (hsz2:=by rw [Array.size_map];show (pairsOf vs).size<=_;rw [pairsOf_size,sizeLine_eq];omega))
  simp only [bne_self_eq_false,Bool.false_eq_true,if_false]
  have hh:=h (List.range vs.length).toArray (List.Perm.refl _) (fun i j hij hj=>by
   have:i=j:=by omega
   subst this
   exact KeyOrd.kle_refl _)
  rw [show (List.range vs.length).toArray.toList.map (fun i=>vs.getD i Value.none)=vs from HC vs] at hh
  have e:(arrOf (SortSt.mk' general' (vs.toArray.zip vs.toArray) #[] 7 none)).map (·.2)=vs.toArray:=by
   show (vs.toArray.zip vs.toArray).map (·.2)=vs.toArray
   apply Array.ext
   ·simp
   ·intro i h1 h2
    simp
  refine wpAny_pure ?_
  have hh':=hh
  rw [<- e] at hh'
  exact hh'
 ·rw [if_neg h2,if_neg h2]
  refine wpAny_bind (OW hp6 fun κ hκ=>?_)
  have ac:IU Rf (fun i=>rows.getD i []) vs.length (kas_ask prog w A κ vs) (fun s'=>s'={ s with heap:=((s.heap.update a (Obj.mapSeq fun _=>#[])).push (seqObj "tuple" vs.toArray 0)).push (seqObj "list" #[] 0) }):=by
   intro i j C s' hi hj e k
   subst e
   exact S8 hκ (Fz Value.none [] hp6 i hi) (Fz Value.none [] hp6 j hj) hu (k _ rfl)
  refine wpAny_bind (wpAny_mono (kat_run (ks:=vs) (vs:=vs) (Q:=fun st' s'=>∃p:Array Nat,arrOf st'=p.map (kas_item (vs.toArray.zip vs.toArray))/\failedOf st'=none/\s'={ s with heap:=((s.heap.update a (Obj.mapSeq fun _=>#[])).push (seqObj "tuple" vs.toArray 0)).push (seqObj "list" #[] 0) }/\Prm vs.length p/\Srt (O:=Rf) (fun i=>rows.getD i []) p vs.length)
   (G:=fun p s'=>s'={ s with heap:=((s.heap.update a (Obj.mapSeq fun _=>#[])).push (seqObj "tuple" vs.toArray 0)).push (seqObj "list" #[] 0) }/\Prm vs.length p/\Srt (O:=Rf) (fun i=>rows.getD i []) p vs.length)
   rfl (by omega) h64 (fun p st' s' _ a2 a3 g=>⟨p,a2,a3,g⟩) (PY ac (by omega) rfl fun p s' q1 q2 e=>⟨e,q1,q2⟩)) ?_ fun _ _ e=>e)
  rintro ⟨⟨⟩,st'⟩ s' ⟨p,har,hf,rfl,q1,q2⟩
  dsimp only
  have hout:=kat_snds rfl har
  refine wpAny_bind (seqEpoch_at ho6 rfl ?_)
  rw [hout]
  refine wpAny_bind (listUpdate_at ho6 rfl ?_ (hsz2:=by rw [size_toArray,length_map,Array.length_toList,q1.size,sizeLine_eq];omega))
  rw [hf]
  simp only [bne_self_eq_false,Bool.false_eq_true,if_false]
  exact wpAny_pure (h p q1 q2)
end
section
variable {X:Cx}
theorem Jt:C6 X (.builtin "sorted") (fun xs H Q=>∃(a:Addr) (ns:List Int),xs=[.ref a]/\SqL X.K H a (ns.map V.int)/\ns.length < 64 /\
 ∀(l:Addr) (ms:List Int),ms.Perm ns->ms.Pairwise (·<=·)->H l=none->Q (.ref l) (upd H l (.lst (ms.map V.int)))):=by
 intro pins s σ H xs us Q I r h
 obtain ⟨a,ns,rfl,hq,h64,q⟩:=h
 obtain ⟨u,rfl,rx⟩:=DR r
 cases rx
 obtain ⟨its,rv,pl,hz⟩:=I.list hq
 have hlen:=rv.length
 rw [length_map] at hlen
 refine sorted_ints pl.isList (E6 rv) (by omega) fun out ms i1 i2 i3=>?_
 obtain ⟨e,he⟩:=sortedAll_at s.heap its out
 have hfr:H (s.heap.objs.size+1)=none:=I.hok.fresh (Nat.le_succ _)
 refine ⟨.ref _,_,I.laid (t':=s.toks) (fun b o hb=>sortedAll_old hb) (Nat.le_succ _) (show AJ X.prog X.w _ _ _ (.lst (ms.map V.int)) from ⟨?_,out.toList,e,Do i1,he⟩),rfl,q _ ms i2 i3 hfr⟩
 rw [length_map,i2.length_eq,sizeLine_eq]
 omega
theorem Iz:∀as:List Addr,A5 (as.map V.ref) (as.map Value.ref)
 | []=>.nil
 | a :: as=>.cons rfl (Iz as)
end
end L2
namespace L2
open PySem PySem.W PySem.Spec PyProof.Rows
noncomputable def CL (h:Heap) (d:Addr) (es:Array DictEntry) (ep:Nat):Prop:=∃o,h.get? d=some o/\o.ExactDict/\o.data=.dict es ep
theorem CL.at {h h':Heap} {d:Addr} {es:Array DictEntry} {ep:Nat} (x:CL h d es ep) (e:∀o,h.get? d=some o->h'.get? d=some o):CL h' d es ep:=let ⟨o,ho,r⟩:=x;⟨o,e _ ho,r⟩
theorem CL.lt {h:Heap} {d:Addr} {es:Array DictEntry} {ep:Nat} (x:CL h d es ep):d < h.objs.size:=let ⟨_,ho,_⟩:=x;Heap.lt_size ho
theorem CL.typeIs {s:Shared} {d:Addr} {es:Array DictEntry} {ep:Nat} (x:CL s.heap d es ep):s.TypeIs (.ref d) "dict":=let ⟨o,ho,hc,_⟩:=x;⟨o,ho,hc.1⟩
section
variable {prog:Program} {w:World} {A:Around} {E:Value->Shared->Prop} {s:Shared} {d:Addr} {es:Array DictEntry} {ep:Nat}
theorem OX {Q:Value->Shared->Prop} (hd:(d == sysModules)=false) (hm:CL s.heap d es ep)
 (hQ:Q (.ref s.heap.objs.size) { s with heap:=s.heap.push { cls:=.type "dict_keyiterator",data:=.fields #[.ref d,.int 0 0,.int es.size 0,.int ep 0] } }):wpAny (model prog w) A (pyIter (.ref d)) Q E s:=by
 have hT:=hm.typeIs
 obtain ⟨o,ho,hc,hdat⟩:=id hm
 refine wpAny_pyIter_slot hT F.slot_dict_iter (wpAny_call_entry F.slot_dict_iter hT F.entry_dict_iter ?_ (F.args_dict_iter_1 _))
 unfold Builtin.«dict.__iter__»
 refine wpAny_bind ?_
 unfold Builtin.Dict.dictSlotNone
 refine wpAny_bind (wpAny_notOrdered_dict hT ?_)
 show wpAny _ _ (pure (Value.ref d)) _ _ s
 refine wpAny_pure ?_
 show wpAny _ _ (Builtin.Dict.showsAll d >>= _) _ _ s
 unfold Builtin.Dict.showsAll
 rw [if_neg (by rw [hd];exact Bool.false_ne_true)]
 refine wpAny_bind (wpAny_pure ?_)
 refine wpAny_bind (wpAny_dictEntries ho hdat ?_)
 refine wpAny_bind (wpAny_dictEpoch ho hdat ?_)
 refine wpAny_bind (wpAny_newObj_type (wpAny_pure ⟨_,rfl,"dict_keyiterator",_,⟨_,Heap.get?_push_size _ rfl,rfl⟩,F.slot_dict_keyiterator_next.lookup,?_⟩))
 simpa [rawInt] using hQ
theorem Ov {it:Addr} {i:Nat} {e:DictEntry} {Q:Option Value->Shared->Prop} (hit:s.heap.IsKeyIter it d i es.size ep) (hm:CL s.heap d es ep) (hx:es[i]?=some e)
 (hQ:∀h',h'.IsKeyIter it d (i+1) es.size ep->Heap.SameBut it s.heap h'->Q (some e.key) { s with heap:=h' }):wpAny (model prog w) A (pyNext (.ref it)) Q E s:=by
 obtain ⟨o,ho,hc,hd⟩:=id hit
 obtain ⟨od,hod,hcd,hdd⟩:=id hm
 unfold pyNext
 refine wpAny_bind (wpAny_attempt (wpAny_callSpecial?_slot (name:=Str.ofString "__next__") hit.typeIs F.slot_dict_keyiterator_next
  (wpAny_call_entry F.slot_dict_keyiterator_next hit.typeIs F.entry_dict_keyiterator_next ?_ (F.args_dict_keyiterator_next_1 _))))
 refine wpAny_bind (wpAny_pure ?_)
 refine wpAny_bind ?_
 refine wpAny_bind ?_
 first | refine wpAny_bind (wpAny_typeNameOfWhole_keyiter hit.typeIs (wpAny_pure ?_)) | refine wpAny_bind (wpAny_typeNameOf_keyiter hit.typeIs (wpAny_pure ?_))
 refine wpAny_bind (wpAny_fieldsOf ho hd ?_)
 have hown:Builtin.Dict_items.ownsTuple "dict_keyiterator"=false:=by decide
 simp only [hown,Bool.false_eq_true,if_false]
 show wpAny _ _ (if (Value.ref d == Value.none)=true then _ else _) _ _ s
 rw [if_neg (show ¬ ((Value.ref d == Value.none)=true) from Bool.false_ne_true)]
 refine wpAny_bind (wpAny_pure ?_)
 refine wpAny_bind (wpAny_dictEntries hod hdd ?_)
 rw [if_neg (by simp)]
 refine wpAny_bind (wpAny_pure ?_)
 refine wpAny_bind (wpAny_dictEpoch hod hdd ?_)
 rw [if_neg (by simp)]
 refine wpAny_pure ?_
 simp only [show ¬ ((i:Int) < 0) from by omega,if_false,Int.toNat_natCast,hx]
 refine wpAny_bind ?_
 first | refine wpAny_bind (wpAny_typeNameOfWhole_keyiter hit.typeIs (wpAny_pure ?_)) | refine wpAny_bind (wpAny_typeNameOf_keyiter hit.typeIs (wpAny_pure ?_))
 refine wpAny_bind (wpAny_isOneOf_keyiter hit.typeIs ?_)
 show wpAny _ _ (setField (.ref it) 1 (rawInt ((i:Int)+1)) >>= _) _ _ s
 refine wpAny_bind (wpAny_setField ho hd (by simp) ?_)
 have hit':(s.heap.update it (Obj.mapFields (·.setIfInBounds 1 (rawInt ((i:Int)+1))))).IsKeyIter it d (i+1) es.size ep :=
  ⟨_,Heap.get?_update_self _ ho (Obj.isFreed_of_fields (Obj.data_mapFields hd _)),(Obj.cls_mapFields ..).trans hc,by rw [Obj.data_mapFields hd];simp [rawInt]⟩
 refine wpAny_bind (wpAny_holding ?_)
 refine wpAny_bind (wpAny_isOneOf_keyiter (s:={ s with heap:=s.heap.update it (Obj.mapFields (·.setIfInBounds 1 (rawInt ((i:Int)+1)))) }) hit'.typeIs ?_)
 show wpAny _ _ (pure e.key) _ _ _
 exact wpAny_pure (wpAny_pure ⟨_,rfl,wpAny_pure (hQ _ hit' (Heap.SameBut.update ..))⟩)
theorem Qw {it:Addr} {i:Nat} {Q:Option Value->Shared->Prop} (hh:A.handled=none) (hit:s.heap.IsKeyIter it d i es.size ep) (hm:CL s.heap d es ep) (hx:es.size<=i)
 (hQ:∀h',Heap.ExtBut it s.heap h'->Q none { s with heap:=h' }):wpAny (model prog w) A (pyNext (.ref it)) Q E s:=by
 obtain ⟨o,ho,hc,hd⟩:=id hit
 obtain ⟨od,hod,hcd,hdd⟩:=id hm
 unfold pyNext
 refine wpAny_bind (wpAny_attempt (wpAny_callSpecial?_slot (name:=Str.ofString "__next__") hit.typeIs F.slot_dict_keyiterator_next
  (wpAny_call_entry F.slot_dict_keyiterator_next hit.typeIs F.entry_dict_keyiterator_next ?_ (F.args_dict_keyiterator_next_1 _))))
 refine wpAny_bind (wpAny_pure ?_)
 refine wpAny_bind ?_
 refine wpAny_bind ?_
 first | refine wpAny_bind (wpAny_typeNameOfWhole_keyiter hit.typeIs (wpAny_pure ?_)) | refine wpAny_bind (wpAny_typeNameOf_keyiter hit.typeIs (wpAny_pure ?_))
 refine wpAny_bind (wpAny_fieldsOf ho hd ?_)
 have hown:Builtin.Dict_items.ownsTuple "dict_keyiterator"=false:=by decide
 simp only [hown,Bool.false_eq_true,if_false]
 show wpAny _ _ (if (Value.ref d == Value.none)=true then _ else _) _ _ s
 rw [if_neg (show ¬ ((Value.ref d == Value.none)=true) from Bool.false_ne_true)]
 refine wpAny_bind (wpAny_pure ?_)
 refine wpAny_bind (wpAny_dictEntries hod hdd ?_)
 rw [if_neg (by simp)]
 refine wpAny_bind (wpAny_pure ?_)
 refine wpAny_bind (wpAny_dictEpoch hod hdd ?_)
 rw [if_neg (by simp)]
 refine wpAny_pure ?_
 simp only [show ¬ ((i:Int) < 0) from by omega,if_false,Int.toNat_natCast,Array.getElem?_eq_none hx]
 refine wpAny_bind ?_
 first | refine wpAny_bind (wpAny_typeNameOfWhole_keyiter hit.typeIs (wpAny_pure ?_)) | refine wpAny_bind (wpAny_typeNameOf_keyiter hit.typeIs (wpAny_pure ?_))
 show wpAny _ _ (setField (.ref it) 0 .none >>= _) _ _ s
 refine wpAny_bind (wpAny_setField ho hd (by simp) ?_)
 show wpAny _ _ (newExc (.type "StopIteration") [] >>= _) _ _ _
 refine wpAny_bind ?_
 simp only [newExc,newTuple]
 refine wpAny_bind (wpAny_newObj_type ?_ (by size_fits))
 refine wpAny_bind (m:=firstArgMember _ _) (wpAny_of_eq (a:=Value.none) (by first | rfl | (simp only [firstArgMember];rfl)) ?_)
 refine wpAny_newObj_type ?_ (by size_fits)
 simp only [raiseNew]
 refine wpAny_bind (wpAny_handled ?_)
 rw [show A.in1.handled=none from hh]
 refine wpAny_bind (wpAny_pure (wpAny_throw ?_))
 refine wpAny_bind (wpAny_isInstance (T:="StopIteration") (b:=true) ⟨_,Heap.get?_push_size _ rfl,rfl⟩ isSubtype_stop ?_)
 exact wpAny_pure (hQ _ (((Heap.SameBut.update ..).extBut.push _).push _))
theorem NB (hh:A.handled=none) (I:Addr) (hne:d≠I):Walks prog w A I [I,d] [I] es.size (fun i v=>∃e,es[i]?=some e/\v=e.key) (fun i h=>h.IsKeyIter I d i es.size ep/\CL h d es ep) where
 sub:=fun b hb=>by simp at hb;simp [hb]
 frame:=fun _ _ _ st hk=>⟨st.1.at fun o e=>hk I (by simp) o e,st.2.at fun o e=>hk d (by simp) o e⟩
 item:=fun i s Q E hi st hQ=>by
  obtain ⟨e,hx⟩:∃e,es[i]?=some e:=⟨es[i],by simp [hi]⟩
  refine Ov st.1 st.2 hx fun h' hit' hs'=>?_
  exact hQ e.key h' s.toks ⟨e,hx,rfl⟩ ⟨hit',st.2.at fun o q=>hs'.extBut d o hne q⟩ fun b o hb q=>hs'.extBut b o (fun h=>hb (by simp [h])) q
 done:=fun s Q E st hQ=>Qw hh st.1 st.2 (Nat.le_refl _) fun h' he'=>hQ h' s.toks fun b o hb q=>he' b o (fun h=>hb (by simp [h])) q
 self:=fun _ _ _ _ st hQ=>wpAny_pyIter_keyiter st.1 hQ
theorem Rh (lo:(d == sysModules)=false):KdlSrc prog w "dict" d d es.size (fun i v=>∃e,es[i]?=some e/\v=e.key) (fun h=>CL h d es ep) where
 type:=fun _ hm=>hm.typeIs
 there:=fun _ hm=>⟨hm.lt,hm.lt⟩
 keep:=fun _ _ hm hk=>hm.at fun o e=>hk d (.inl rfl) o e
 notList:=by decide
 notTuple:=by decide
 hint:=fun _ _ _ _ hm hq=>kdl_hint_dict hm.typeIs hq
 iter:=fun _ s hh hm=>⟨_,_,(fun _ _ hq=>OX lo hm hq),NB hh _ (Nat.ne_of_lt hm.lt),⟨⟨_,Heap.get?_push_size _ rfl,rfl,rfl⟩,hm.at fun o e=>Heap.get?_push_of_some _ e⟩⟩
theorem Pp {acc:Array Value} (h:ItemsOf (fun i v=>∃e,es[i]?=some e/\v=e.key) acc es.size):acc=es.map (·.key):=by
 obtain ⟨h1,h2⟩:=h
 apply Array.ext
 ·simpa using h1
 ·intro i hi hj
  obtain ⟨e,he,hk⟩:=h2 i acc[i] (by simp [hi])
  have hi':i < es.size:=by omega
  rw [Array.getElem?_eq_getElem hi'] at he
  rw [hk,Array.getElem_map,Option.some.inj he]
theorem FL {R:List Value->Shared->Prop} (lo:(d == sysModules)=false) (hm:CL s.heap d es ep) (hh:A.handled=none) (hn:es.size<=sizeLine)
 (h:∀(h':Heap) (tk:Nat),(∀b o,s.heap.get? b=some o->h'.get? b=some o)->s.heap.objs.size < h'.objs.size->R (es.toList.map (·.key)) { s with heap:=h',toks:=tk }) :
 wpAny (model prog w) A (collect (.ref d)) R E s:=by
 have hlt:=hm.lt
 unfold collect
 refine wpAny_bind (wpAny_runValue (codeAny_builtin entry_proto_collect' ?_))
 rw [Around.under_plainId PySem.F.plain_proto_collect _]
 show wpAny _ A.in1 (newList [] >>= fun l=>again (.builtin "list.__iadd__" ⟨[l,.ref d],[]⟩)) _ _ s
 refine wpAny_bind (wpAny_newObj_type ?_)
 refine wpAny_pure ⟨plainId_quiet PySem.F.plain_list_iadd _,codeAny_builtin entry_list_iadd' ?_⟩
 rw [Around.under_plainId PySem.F.plain_list_iadd _]
 have hS₁:(s.heap.push { cls:=.type "list",data:=.seq ([]:List Value).toArray }).get? s.heap.objs.size=some { cls:=.type "list",data:=.seq #[] }:=Heap.get?_push_size _ rfl
 show wpAny _ A.in1 (Builtin.List.listExtendWith (.ref s.heap.objs.size) (.ref d) (.ref s.heap.objs.size)) _ _ _
 have key:=kdl_extend (A:=A) (s:={ s with heap:=s.heap.push { cls:=.type "list",data:=.seq ([]:List Value).toArray } })
  (R:=fun (q:Result) (s':Shared)=>∃(h':Heap) (tk c':Nat),q=.ok (.ret (.ref s.heap.objs.size))/\s'={ s with heap:=h',toks:=tk } /\
   (∀b o,s.heap.get? b=some o->h'.get? b=some o)/\h'.get? s.heap.objs.size=some { cls:=.type "list",dict:=none,data:=.seq (es.map (·.key)) c',slots:=#[] })
  (Rh (prog:=prog) (w:=w) (es:=es) (ep:=ep) lo) hh (hm.at fun o e=>Heap.get?_push_of_some _ e) s.heap.objs.size (Nat.ne_of_gt hlt) (Nat.ne_of_gt hlt) (.ref s.heap.objs.size) 0 hS₁
  (fun h' tk acc' c' hk hS' hacc=>⟨h',tk,c',rfl,rfl,fun b o e=>hk b o (Nat.ne_of_lt (Heap.lt_size e)) (Heap.get?_push_of_some _ e),by rw [<- Pp hacc];exact hS'⟩) hn
 refine wpAny_mono key (fun fin s' x=>?_) fun e s' x=>?_
 ·cases fin with
  | done f =>
    obtain ⟨h',tk,c',e,rfl,hk,hS'⟩:=x
    cases e
    show wpAny _ A (load s.heap.objs.size >>= _) _ _ _
    refine wpAny_bind (wpAny_load hS' ?_)
    have:=h h' tk hk (Heap.lt_size hS')
    rw [<- Array.toList_map] at this
    exact wpAny_pure this
  | again c₁ =>
    refine ⟨x.1,codeAny_mono x.2 fun q s₂ y=>?_⟩
    obtain ⟨h',tk,c',rfl,rfl,hk,hS'⟩:=y
    show wpAny _ A (load s.heap.objs.size >>= _) _ _ _
    refine wpAny_bind (wpAny_load hS' ?_)
    have:=h h' tk hk (Heap.lt_size hS')
    rw [<- Array.toList_map] at this
    exact wpAny_pure this
 ·obtain ⟨_,_,_,e',_⟩:=x
  cases e'
theorem FQ {vs:List Value} (lo:(d == sysModules)=false) (hm:CL s.heap d es ep) (hz:es.size < 64) (hh:A.handled=none) (hv:es.toList.map (·.key)=vs) {R:Value->Shared->Prop}
 (h:∀(h':Heap) (tk:Nat) (a:Addr),(∀b o,s.heap.get? b=some o->h'.get? b=some o/\b≠a)->s.heap.objs.size<=a->h'.get? a=some (seqObj "list" vs.toArray 0) ->
  wpAny (model prog w) A.in1.in1 (Builtin.«list.sort» ⟨[.ref a],[]⟩) (fun fin s'=>∃v,fin=.done (.ret v)/\R (.ref a) s') E { s with heap:=h',toks:=tk }) :
 wpAny (model prog w) A (call (.builtin "sorted") [.ref d]) R E s:=by
 refine Calls.call_function_entry kind_sorted plain_sorted entry_sorted (args_sorted1 _) ?_
 unfold Builtin.«sorted»
 refine wpAny_bind (m:=checkCount "sorted" 1 1 _) (wpAny_pure ?_)
 refine wpAny_bind (FL (A:=A.in1) lo hm hh (by rw [sizeLine_eq];omega) fun h' tk hk ge=>?_)
 rw [hv]
 have hl:vs.length < 64:=by rw [<- hv,length_map,Array.length_toList];exact hz
 refine wpAny_bind (wpAny_newList ?_ (by rw [sizeLine_eq];omega))
 have ho:(h'.push (seqObj "list" vs.toArray 0)).get? h'.objs.size=some (seqObj "list" vs.toArray 0):=Heap.get?_push_size _ rfl
 refine wpAny_bind (wpAny_holding (wpAny_call_entry slot_list_sort ⟨_,ho,rfl⟩ entry_list_sort ?_ (args_list_sort _)))
 refine wpAny_mono (h _ tk h'.objs.size (fun b o e=>⟨Heap.get?_push_of_some _ (hk b o e),Nat.ne_of_lt (Heap.lt_size (hk b o e))⟩) (Nat.le_of_lt ge) ho) (fun fin s' x=>?_) fun _ _ x=>x
 obtain ⟨v,rfl,q⟩:=x
 exact ⟨_,rfl,wpAny_pure ⟨_,rfl,q⟩⟩
end
section
variable {X:Cx}
theorem Qq {H:Hp}:∀{kvs:List (List Key × V)} {xs:List (List Key × Addr × Value)} {ks:List (List Int)},KT H kvs xs->kvs.map (·.1)=ks.map (List.map Sum.inl) ->
 ∃qs:List (Addr × List Int),xs.map (fun x=>Value.ref x.2.1)=(qs.map (·.1)).map Value.ref/\qs.map (·.2)=ks/\∀q∈qs,H q.1=some (.tup (q.2.map V.int)):=by
 intro kvs xs ks r
 induction r generalizing ks with
 | nil =>
   intro e
   cases ks with
   | nil=>exact ⟨[],rfl,rfl,fun _ m=>nomatch m⟩
   | cons _ _=>cases e
 | @cons p q ps qr hq t ih =>
   intro e
   cases ks with
   | nil=>cases e
   | cons k ks =>
     injection e with e1 e2
     obtain ⟨qs,a1,a2,a3⟩:=ih e2
     refine ⟨(q.2.1,k) :: qs,?_,?_,fun x m=>?_⟩
     ·rw [map_cons,a1]
      rfl
     ·rw [map_cons,a2]
     ·rcases mem_cons.mp m with m | m
      ·subst m
       have h:=hq.2.1
       have e1':p.1=k.map Sum.inl:=e1
       rw [e1',map_map] at h
       exact h
      ·exact a3 x m
theorem HZ (hc:X.calm=true) (hu:X.A.units+64 < cLine):C6 X (.builtin "sorted") (fun xs H Q=>∃(d:Addr) (kvs:List (List Key × V)) (ks:List (List Int)),xs=[.ref d]/\Rd H d (.dT kvs)/\kvs.map (·.1)=ks.map (List.map Sum.inl)/\ks.length < 64 /\
 ∀(l:Addr) (rs:List (Addr × List Int)),(∀q∈rs,H q.1=some (.tup (q.2.map V.int)))->(rs.map (·.2)).Perm ks->rs.Pairwise (fun x y=>HT.lexLt y.2 x.2=false)->H l=none->Q (.ref l) (upd H l (.lst (rs.map fun q=>V.ref q.1)))):=by
 intro pins s σ H xs us Q I r h
 obtain ⟨d,kvs,ks,rfl,hd,hks,h64,q⟩:=h
 obtain ⟨u,rfl,rx⟩:=DR r
 cases rx
 obtain ⟨_,lo,xs,kt,o,es,ep,h1,h2,h3,h4,_,_⟩:=IM I.hok hd
 obtain ⟨qs,b1,b2,b3⟩:=Qq kt hks
 have hv:es.toList.map (·.key)=(qs.map (·.1)).map Value.ref:=by
  rw [h4,map_map,<- b1]
  rfl
 have hql:qs.length=ks.length:=by rw [<- b2,length_map]
 have hes:es.size=qs.length:=by
  have:=congrArg List.length hv
  simpa using this
 have hp:Paired (DH s.heap) ((qs.map (·.1)).map Value.ref) (qs.map (·.2)):=by
  clear hv hql hes b1 b2
  induction qs with
  | nil=>exact .nil
  | cons q0 qr ih =>
    refine .cons ?_ (ih fun q m=>b3 q (mem_cons_of_mem _ m))
    obtain ⟨jts,rj,tj,_⟩:=I.tuple (SqT.of (b3 q0 (mem_cons_self ..)))
    exact ⟨q0.1,jts.toArray,rfl,tj,by simpa using E6 rj⟩
 refine FQ lo ⟨o,h1,h2,h3⟩ (by omega) (I.ok.hd hc) hv fun h' tk a kp ge ho=>?_
 have hp':Paired (DH h') ((qs.map (·.1)).map Value.ref) (qs.map (·.2)):=Paired.mapP hp fun v ns x=>x.keep fun b o _ e=>(kp b o e).1
 have ll:((qs.map (·.1)).map Value.ref).length=qs.length:=by rw [length_map,length_map]
 refine OT (s:={ s with heap:=h',toks:=tk }) ho hp' (by omega) (by show X.A.units+1+1 < cLine;omega) fun p a1 a2=>⟨_,rfl,?_⟩
 obtain ⟨e,he⟩:=sortedHeap_at (out:=List.toArray (p.toList.map fun i=>((qs.map (·.1)).map Value.ref).getD i Value.none)) ho
 have hfr:H a=none:=I.hok.fresh ge
 have hps:=a1.size
 have lt:∀i∈p.toList,i < qs.length:=fun i m=>by
  have:=mem_range.mp (a1.mem_iff.mp m)
  omega
 let rs:=p.toList.map fun i=>qs.getD i (0,[])
 have eo:(p.toList.map fun i=>((qs.map (·.1)).map Value.ref).getD i Value.none)=(rs.map (·.1)).map Value.ref:=by
  show _=((p.toList.map fun i=>qs.getD i (0,[])).map (·.1)).map Value.ref
  simp only [map_map]
  refine map_congr_left fun i m=>?_
  have hi:=lt i m
  simp [hi]
 rw [eo] at he ⊢
 have pm:rs.Perm qs:=by
  have e1:(List.range ((qs.map (·.1)).map Value.ref).length).map (fun i=>qs.getD i ((0:Addr),([]:List Int)))=qs:=by
   rw [ll]
   apply ext_getElem
   ·simp
   ·intro i h1 h2
    simp [h2]
  have:=List.Perm.map (fun i=>qs.getD i ((0:Addr),([]:List Int))) a1
  rw [e1] at this
  exact this
 refine ⟨.ref _,_,I.laid (t':=tk) (fun b o hb=>?_) ge (show AJ X.prog X.w _ _ _ (.lst (rs.map fun q=>V.ref q.1)) from ⟨?_,(rs.map (·.1)).map Value.ref,e,?_,he⟩),rfl,q _ rs (fun q m=>b3 q (pm.mem_iff.mp m)) (by rw [<- b2];exact pm.map _) ?_ hfr⟩
 ·obtain ⟨k1,k2⟩:=kp b o hb
  rw [sortedHeap_old k2 (Heap.lt_size k1)]
  exact k1
 ·rw [length_map,pm.length_eq,sizeLine_eq]
  omega
 ·have:=Iz (rs.map (·.1))
  rw [map_map] at this
  exact this
 ·rw [pairwise_iff_getElem]
  intro i j hi hj hij
  have hi':i < p.size:=by simpa [rs] using hi
  have hj':j < p.size:=by simpa [rs] using hj
  have g:=a2 i j (by omega) (by omega)
  have gi:(qs.map (·.2)).getD (p.getD i 0) []=(rs[i]).2:=by
   have l1:=lt p[i] (by simp)
   simp [rs,Array.getD,hi',l1]
  have gj:(qs.map (·.2)).getD (p.getD j 0) []=(rs[j]).2:=by
   have l1:=lt p[j] (by simp)
   simp [rs,Array.getD,hj',l1]
  have g2:HT.lexLt ((qs.map (·.2)).getD (p.getD j 0) []) ((qs.map (·.2)).getD (p.getD i 0) [])=false:=g
  rw [gi,gj] at g2
  exact g2
theorem Kd {P:Program} {w:World} {kvs:List (Key × V)} {vs:List (Key × Value)} (r:KV kvs vs):∀{es:List DictEntry} {ns:List Int},Pairs (AF P w) es vs->kvs.map (·.1)=ns.map Sum.inl->IntsAre (es.map (·.key)) ns:=by
 intro es ns hp e
 rw [r.keys] at e
 clear r
 induction hp generalizing ns with
 | nil =>
   cases ns with
   | nil=>exact .nil
   | cons _ _=>cases e
 | @cons ent kv es' vs' h _ t ih =>
   cases ns with
   | nil=>cases e
   | cons n ns =>
     injection e with e1 e2
     have e1':kv.1=Sum.inl n:=e1
     have hk:=h
     rw [e1'] at hk
     rcases AX (show Gm (Sum.inl n) ent.key=true from hk) with ⟨i,t',a,b⟩ | ⟨x,t',a,_⟩
     ·cases a
      rw [map_cons,b]
      exact .cons n t' (ih e2)
     ·cases a
theorem Ie (hc:X.calm=true):C6 X (.builtin "sorted") (fun xs H Q=>∃(d:Addr) (kvs:List (Key × V)) (ns:List Int),xs=[.ref d]/\Rd H d (.dK kvs)/\kvs.map (·.1)=ns.map Sum.inl/\ns.length < 64 /\
 ∀(l:Addr) (ms:List Int),ms.Perm ns->ms.Pairwise (·<=·)->H l=none->Q (.ref l) (upd H l (.lst (ms.map V.int)))):=by
 intro pins s σ H xs us Q I r h
 obtain ⟨d,kvs,ns,rfl,hd,hks,h64,q⟩:=h
 obtain ⟨u,rfl,rx⟩:=DR r
 cases rx
 obtain ⟨_,lo,vs,kv,o,es,ep,h1,h2,h3,h4,h5,_⟩:=GT I.hok hd
 have hi:=Kd kv h5 hks
 have hl:=hi.length
 have hes:es.size=ns.length:=by simpa using hl
 refine FQ lo ⟨o,h1,h2,h3⟩ (by omega) (I.ok.hd hc) rfl fun h' tk a kp ge ho=>?_
 refine list_sort_tree (s:={ s with heap:=h',toks:=tk }) ho hi (by rw [hl];exact h64) fun out ms i1 i2 i3=>⟨_,rfl,?_⟩
 obtain ⟨e,he⟩:=sortedHeap_at (out:=out) ho
 have hfr:H a=none:=I.hok.fresh ge
 refine ⟨.ref _,_,I.laid (t':=tk) (fun b o hb=>?_) ge (show AJ X.prog X.w _ _ _ (.lst (ms.map V.int)) from ⟨?_,out.toList,e,Do i1,he⟩),rfl,q _ ms i2 i3 hfr⟩
 ·obtain ⟨k1,k2⟩:=kp b o hb
  rw [sortedHeap_old k2 (Heap.lt_size k1)]
  exact k1
 ·rw [length_map,i2.length_eq,sizeLine_eq]
  omega
end
end L2
namespace L2
open PySem
end L2
namespace L2
open PySem PySem.W PySem.Spec PyProof.Rows
section
variable {prog:Program} {w:World} {A:Around} {E:Value->Shared->Prop} {s:Shared}
end
section
variable {prog:Program} {w:World} {A:Around} {R:Result->Shared->Prop} {I:Addr} {fp wr:List Addr} {G:Array GenState->Array GenState->Prop} {n:Nat} {P:Nat->Value->Prop} {St:Nat->Shared->Prop}
end
section
variable {prog:Program} {w:World} {A:Around} {E:Value->Shared->Prop} {s:Shared}
set_option maxRecDepth 100000 in
set_option maxHeartbeats 3200000 in
end
end L2
namespace L2
open PySem PySem.W PySem.Spec PyProof.Rows
section
variable {prog:Program} {w:World} {A:Around} {E:Value->Shared->Prop} {s:Shared}
end
section
variable {prog:Program} {w:World} {A:Around} {E:Value->Shared->Prop} {s:Shared} {a:Addr} {es:Array (Int × Value)} {ep:Nat} {t:SetTable}
end
end L2
namespace L2
open PySem PySem.W PySem.Spec PyProof.Rows
section
variable {X:Cx} {e:Expr} {te:TE} {p p2 pos pos2:Pos}
end
end L2
namespace L2
open PySem PySem.Spec PyProof.Rows
section
variable {X:Cx} {pins:List (Addr × Obj)} {σ:St} {H:Hp} {s:Shared} {h':Heap}
theorem Inv.turnedAll {t':Nat} {fp:List Addr} (I:Inv X pins σ H s) (k:∀b o,b ∉ fp->s.heap.get? b=some o->h'.get? b=some o) (hf:∀b∈fp,Go X pins H b):Inv X pins σ H { s with heap:=h',toks:=t' }:=by
 have nin:∀b u,H b=some u->b ∉ fp:=fun b u e z=>by rw [(hf b z).1] at e;cases e
 refine I.step (g':=s.gens) (d':=s.drawn) (ch:=fp) (fun b hb=>?_) (fun b o _ _ hc e _=>k b o hc e) (fun b o _ _ hc e _=>⟨o.slots,k b o hc e⟩) (fun _ _ _ _ n=>n)
  (fun b o hc e=>⟨o,k b o hc e⟩) (fun _ _ e=>e) (fun _ _ _ e=>e) (fun b ps e=>⟨#[],by rw [e];simp⟩) (fun m hm=>?_) (fun b u e=>?_) I.bare
 ·obtain ⟨_,f1,_,f3,f4,f5⟩:=hf b hb
  exact ⟨f3,f1,f4,f5⟩
 ·obtain ⟨o,es,ep,ho,r⟩:=hm
  exact ⟨o,es,ep,k _ o (fun z=>(hf _ z).2.1 rfl) ho,r⟩
 ·refine (I.hok b u e).stay (fun c v hc q=>k c v ?_ q) (fun _ q=>q) fun _ _ q=>q
  rcases hc with z | z
  ·rw [z];exact nin b u e
  ·exact nin c _ z
theorem Inv.laidTurned {t':Nat} {fp:List Addr} {a:Addr} {o:HO} (I:Inv X pins σ H s) (k:∀b u,b ∉ fp->s.heap.get? b=some u->h'.get? b=some u) (hf:∀b∈fp,Go X pins H b) (hp:s.heap.objs.size<=a)
 (new:AJ X.prog X.w (upd H a o) h' a o):Inv X pins σ (upd H a o) { s with heap:=h',toks:=t' }:=by
 have nin:∀b u,H b=some u->b ∉ fp:=fun b u e z=>by rw [(hf b z).1] at e;cases e
 have hn:H a=none:=I.hok.fresh hp
 refine I.step (g':=s.gens) (d':=s.drawn) (ch:=fp) (fun b hb=>?_) (fun b o _ _ hc e _=>k b o hc e) (fun b o _ _ hc e _=>⟨o.slots,k b o hc e⟩)
  (fun b u _ q n=>by rw [Ap (Nat.ne_of_lt (Nat.lt_of_lt_of_le (Heap.lt_size q) hp))];exact n)
  (fun b o hc e=>⟨o,k b o hc e⟩) (fun b xs q=>by rw [Ap (AV q hn)];exact q) (fun b u xs q=>by rw [Ap (AV q hn)];exact q) (fun b ps q=>⟨#[],by rw [Ap (AV q hn),q];simp⟩) (fun m hm=>?_) (fun b u e=>?_) I.bare
 ·obtain ⟨_,f1,_,f3,f4,f5⟩:=hf b hb
  exact ⟨f3,f1,f4,f5⟩
 ·obtain ⟨o,es,ep,ho,r⟩:=hm
  exact ⟨o,es,ep,k _ o (fun z=>(hf _ z).2.1 rfl) ho,r⟩
 ·by_cases hb:b=a
  ·subst hb;rw [Ab] at e;cases e;exact new
  ·rw [Ap hb] at e
   refine (I.hok b u e).stay (fun c v hc q=>k c v ?_ q) (fun c q=>by rw [Ap (AV q hn)];exact q) fun c xs q=>by rw [Ap (AV q hn)];exact q
   rcases hc with z | z
   ·rw [z];exact nin b u e
   ·exact nin c _ z
end
section
variable {X:Cx}
end
section
variable {X:Cx}
theorem GU:∀{bs:List Bool} {us:List Value},A5 (bs.map V.bl) us->us=bs.map Value.bool
 | [],_,.nil=>rfl
 | _ :: _,_,.cons r rr=>by
   cases r
   rw [GU rr]
   rfl
theorem NN (bs:List Bool):(List.range bs.length).all (fun i=>bs.getD i false)=bs.all id:=by
 rw [Bool.eq_iff_iff,all_eq_true,all_eq_true]
 constructor
 ·intro h b hb
  obtain ⟨i,hi,rfl⟩:=mem_iff_getElem.mp hb
  have:=h i (mem_range.mpr hi)
  simpa [getD_eq_getElem?_getD,hi] using this
 ·intro h i hi
  have hi':=mem_range.mp hi
  have:=h _ (getElem_mem hi')
  simpa [getD_eq_getElem?_getD,hi'] using this
theorem JW {P:Program} {w:World} {A:Around} {bs:List Bool}:TruthOf P w A (fun i v=>(bs.map Value.bool).toArray[i]?=some v) (fun i=>bs.getD i false):=by
 intro i v s Q E hP hQ
 have hP':(bs.map Value.bool)[i]?=some v:=by simpa using hP
 rw [List.getElem?_map] at hP'
 cases e:bs[i]? with
 | none=>rw [e] at hP';cases hP'
 | some b =>
   rw [e] at hP'
   have:Value.bool b=v:=Option.some.inj hP'
   subst this
   refine wpAny_truthy_bool ?_
   have e2:bs.getD i false=b:=by rw [getD_eq_getElem?_getD,e];rfl
   dsimp only at hQ
   rw [e2] at hQ
   exact hQ
theorem P1 (hc:X.calm=true) {K:PySem.W.Frag} (hK:X.K=K:=by rfl):C6 X (.builtin "all") (fun xs H Q=>∃(a:Addr) (bs:List Bool),xs=[.ref a]/\SqL K H a (bs.map V.bl)/\Q (.bl (bs.all id)) H):=by
 subst hK
 intro pins s σ H xs us Q I r h
 obtain ⟨a,bs,rfl,hq,q⟩:=h
 obtain ⟨u,rfl,rx⟩:=DR r
 cases rx
 obtain ⟨its,rv,pl,hz⟩:=I.list hq
 have ei:=GU rv
 subst ei
 have lt:a < s.heap.objs.size:=by obtain ⟨o,q,_⟩:=pl.isList;exact Heap.lt_size q
 refine call_all_walk (wpAny_pyIter_list pl.isList ?_)
 refine ⟨_,_,_,_,_,_,_,rfl,Walks.list (A:=X.A.in1) (I.ok.hd hc) s.heap.objs.size a (Nat.ne_of_lt lt) (bs.map Value.bool).toArray,⟨⟨_,Heap.get?_push_size _ rfl,rfl,rfl⟩,pl.isList.at fun o q=>Heap.get?_push_of_some _ q⟩,JW,fun h' tk hk=>?_⟩
 rw [size_toArray,length_map,NN]
 exact ⟨.bl _,H,I.kept (t':=tk) fun b o q=>hk b o (by simpa using Nat.ne_of_lt (Heap.lt_size q)) (Heap.get?_push_of_some _ q),rfl,q⟩
end
end L2
namespace L2
open PySem PySem.Spec PyProof.Rows
noncomputable def GS (n:Nat) (wi:TI) (g:TG) (tt:TT) (te:TE):TE:=fun σ H Q=>wi σ H fun J H1=>∀D,H1 D=none->∃W:Nat->Nat->List V->Hp->Prop,(∃m,W 0 m [] (upd H1 D (.lst [])))/\∀i m ys H2,W i m ys H2 ->
 H2 D=some (.lst ys)/\((J.stop i H2/\Q (.ref D) H2)\/(J.go i H2/\ys.length < sizeLine/\∀x H3,J.yld i H2 x H3->∀os:St,os.length=n->g x (σ++os) H3 fun σ4 H4=>(∃os':St,σ4=σ++os'/\os'.length=n)/\tt σ4 H4 fun b H5=>if b=true then te σ4 H5 fun y H6=>H6 D=some (.lst ys)/\∃m',m' < m/\W (i+1) m' (ys++[y]) (upd H6 D (.lst (ys++[y])))
  else ∃m',m' < m/\W (i+1) m' ys H5))
structure CG (N Nc:List Str) (xs:List Str) (sc fsc:Scope):Prop where
 kind:sc.kind=.function
 cell:∀y∈sc.names,y.2≠.cell
 nm:∀y∈sc.names,y.2=.local->sc.names.lookup y.1=some .local
 own:∀x∈xs,sc.names.lookup x=some .local
 fr:∀y∈sc.names,y.2=.free->fsc.names.lookup y.1=some .cell\/fsc.names.lookup y.1=some .free
 len:Nc.length=N.length+xs.length
 nd:Nc.Nodup
 last:Nc.drop N.length=xs
 slot:((List.range N.length).all fun i=>match Nc[i]? with
  | some y=>(match sc.names.lookup y with | some .free=>N[i]? == some y | some .local=>false | some .cell=>false | _=>true)
  | none=>true)=true
theorem CG.at {N Nc:List Str} {xs:List Str} {sc fsc:Scope} (C:CG N Nc xs sc fsc) {i:Nat} {y:Str} (hi:i < N.length) (h:Nc[i]?=some y):sc.names.lookup y≠some .local/\sc.names.lookup y≠some .cell/\(sc.names.lookup y=some .free->N[i]?=some y):=by
 have q:=all_eq_true.mp C.slot i (mem_range.mpr hi)
 rw [h] at q
 dsimp only at q
 cases e:sc.names.lookup y with
 | none=>exact ⟨fun z=>(nomatch z),fun z=>(nomatch z),fun z=>(nomatch z)⟩
 | some k =>
   rw [e] at q
   cases k with
   | «local»=>exact absurd (show false=true from q) Bool.false_ne_true
   | cell=>exact absurd (show false=true from q) Bool.false_ne_true
   | free=>exact ⟨fun z=>(nomatch z),fun z=>(nomatch z),fun _=>by simpa using q⟩
   | _=>exact ⟨fun z=>(nomatch z),fun z=>(nomatch z),fun z=>(nomatch z)⟩
theorem Cg {X:Cx} {N Nc xs:List Str} {sc fsc:Scope} {cl:List (Str × Addr)} {s:Shared} {H:Hp} {ex:List Addr} {x:Str} {px:Pos} {j n:Nat} (cn:CG N Nc xs sc fsc) (hj:xs[j]?=some x) (hn:n=N.length+j):PG (X.inComp Nc sc cl s H ex) (.Name x px) (Bt n):=by
 have own:(relabel sc X.env).names.lookup x=some .local:=by
  have e:=Ca X.env sc.names x
  rw [cn.own x (mem_of_getElem? hj)] at e
  exact e
 refine AD (X:=X.inComp Nc sc cl s H ex) cn.nd ?_ (.inl own) (.inr own)
 show Nc[n]?=some x
 rw [hn,<- List.getElem?_drop,cn.last]
 exact hj
theorem SE {prog:Program} {w:World} {A:Around} {R:Result->Shared->Prop} {s:Shared} {elt tg iter:Expr} {ifs:List Expr} {scope:Scope} {pos:Pos} {it acc:Value} {env:Env} (I:Nat->Shared->Prop)
 (turn:∀n s,I n s->wpAny (model prog w) A (pyNext it) (fun r s₁=>match r with
  | none=>R (.ok .next) s₁
  | some v=>wpAny (model prog w) A (letOwnedTupleGo tg it v) (fun _ z=>wpAny (model prog w) A (assign tg env v) (fun _ s₂ =>
   wpAny (model prog w) A (forIn ifs true fun c r=>if r=true then do let ok <- isTrue c env (eval c env);pure (ForInStep.yield ok) else pure (ForInStep.yield r)) (fun ok s₃ =>
    if ok=true then wpAny (model prog w) A (eval elt env) (fun x s₄=>wpAny (model prog w) A (call (.builtin "list.append") [acc,x]) (fun _ s₅=>∃m,m < n/\I m s₅) (fun _ _=>False) s₄) (fun _ _=>False) s₃
    else ∃m,m < n/\I m s₃) (fun _ _=>False) s₂) (fun _ _=>False) z) (fun _ _=>False) s₁) (fun _ _=>False) s)
 (n:Nat) (h:I n s):codeAny (model prog w) A (.compLoop (.ListComp elt [⟨tg,iter,ifs,0⟩] scope pos) 0 it acc env) R s:=by
 refine codeAny_loop rfl I (fun k z y=>?_) n h
 show wpAny _ A ((compTurn (.ListComp elt [⟨tg,iter,ifs,0⟩] scope pos) 0 it acc env).onRaise fun x=>do noteFrame x env;theTreesLotGoes x) _ _ z
 refine wpAny_noted ?_
 rw [compTurn_list]
 refine wpAny_bind (wpAny_standAt (wpAny_bind (Et (turn k z y) fun r s₁ q1=>?_)))
 cases r with
 | none=>exact wpAny_pure q1
 | some v =>
   refine wpAny_bind (Et q1 fun _ z q2=>wpAny_bind (Et q2 fun _ s₂ q3=>wpAny_bind (Et q3 fun ok s₃ q4=>?_)))
   cases ok with
   | false=>exact wpAny_pure ⟨rfl,q4⟩
   | true=>exact wpAny_bind (wpAny_bind (Et q4 fun x s₄ q5=>wpAny_bind (Et q5 fun _ s₅ q6=>wpAny_pure (wpAny_pure ⟨rfl,q6⟩))))
section
variable {X:Cx} {elt iter:Expr} {xs:List Str} {tg:Expr} {g:TG} {pos:Pos} {ifs:List Expr} {sc fsc:Scope} {N Nc:List Str} {wi:TI} {tt:TT} {te:TE}
theorem Dy (hE:X.env.scope=fsc) (hXN:X.N=N) (cn:CG N Nc xs sc fsc) (hc:X.calm=true)
 (hg:∀cl s H ex,PG (X.inComp Nc sc cl s H ex) tg g) (ht:∀cl s H ex,EU (X.inComp Nc sc cl s H ex) ifs tt) (he:∀cl s H ex,PE (X.inComp Nc sc cl s H ex) elt te)
 {cl:List (Str × Addr)} (clS:∀y c,cl.lookup y=some c->X.env.cells.lookup y=some c) (clH:∀y∈sc.names,y.2=.free->∃c,cl.lookup y.1=some c)
 {pins:List (Addr × Obj)} {σ:St} {H2:Hp} {s2:Shared} {it:Addr} {fp:List Addr} {tn:Nat->Heap->Prop} {J:It} {Q:VK} {E:Value->Shared->Prop}
 (I2:Inv X pins σ H2 s2) (T:JJ X.prog X.w X.K tg J fp it tn) (st2:tn 0 s2.heap) (f2:∀b∈fp,Go X pins H2 b)
 (h2:∀D,H2 D=none->∃W:Nat->Nat->List V->Hp->Prop,(∃m,W 0 m [] (upd H2 D (.lst [])))/\∀i m ys H2,W i m ys H2 ->
  H2 D=some (.lst ys)/\((J.stop i H2/\Q (.ref D) H2)\/(J.go i H2/\ys.length < sizeLine/\∀x H3,J.yld i H2 x H3->∀os:St,os.length=xs.length->g x (σ++os) H3 fun σ4 H4=>(∃os':St,σ4=σ++os'/\os'.length=xs.length)/\tt σ4 H4 fun b H5=>if b=true then te σ4 H5 fun y H6=>H6 D=some (.lst ys)/\∃m',m' < m/\W (i+1) m' (ys++[y]) (upd H6 D (.lst (ys++[y])))
   else ∃m',m' < m/\W (i+1) m' ys H5))) :
 wpAny (model X.prog X.w) X.A (newList []) (fun acc s₃=>wpAny (model X.prog X.w) X.A (newFunctionEnv sc X.env.globals cl [] X.env.qual none .none (some X.env)) (fun cenv s₄ =>
  codeAny (model X.prog X.w) X.A (.compStart (.ListComp elt [⟨tg,iter,ifs,0⟩] sc pos) 0 (.ref it) acc { cenv with scope:=relabel sc X.env })
   (fun r s'=>r=.ok .next/\∃D H',acc=.ref D/\Inv X pins σ H' s'/\Q (.ref D) H'/\OG X pins H' cenv.locals/\∃m,s'.heap.Ns cenv.locals m) s₄) E s₃) E s2:=by
 refine wpAny_newObj_type (wpAny_newFunctionEnv cn.cell (by intro y hy;simp at hy) (fun h₁ hns₁ hsb₁=>?_) cn.kind)
 dsimp only at hns₁ hsb₁ ⊢
 have hD:H2 s2.heap.objs.size=none:=I2.hok.fresh (Nat.le_refl _)
 obtain ⟨W,⟨m0,w0⟩,turn⟩:=h2 s2.heap.objs.size hD
 have I3:Inv X pins σ (upd H2 s2.heap.objs.size (.lst [])) { s2 with heap:=s2.heap.push { cls:=.type "list",dict:=none,data:=.seq ([]:List Value).toArray } } :=
  I2.laid (t':=s2.toks) (fun b u e=>Heap.get?_push_of_some _ e) (Nat.le_refl _) ⟨Nat.zero_le _,[],0,.nil,Heap.get?_push_size _ rfl⟩
 generalize hs3:({ s2 with heap:=s2.heap.push { cls:=.type "list",dict:=none,data:=.seq ([]:List Value).toArray } }:Shared)=s3 at I3
 have eh:s3.heap=s2.heap.push { cls:=.type "list",dict:=none,data:=.seq ([]:List Value).toArray }:=by rw [<- hs3]
 have e2:({ s2 with heap:=h₁,toks:=s2.toks+([]:List (Str × Value)).length }:Shared)={ s3 with heap:=h₁,toks:=s3.toks }:=by rw [<- hs3];rfl
 generalize hH3:upd H2 s2.heap.objs.size (.lst [])=H3 at I3 w0
 rw [<- eh] at hns₁ hsb₁ ⊢
 rw [e2]
 have below2:∀b,b∈fp->b < s3.heap.objs.size:=fun b hb=>by
  obtain ⟨o,e,_⟩:=T.obj _ _ st2 b hb
  have:s2.heap.objs.size<=s3.heap.objs.size:=by rw [eh,Heap.size_push];exact Nat.le_succ _
  exact Nat.lt_of_lt_of_le (Heap.lt_size e) this
 have old:∀b o,s3.heap.get? b=some o->h₁.get? b=some o:=fun b o e=>(hsb₁.2 b (Nat.ne_of_lt (Heap.lt_size e))).trans (Heap.get?_push_of_some _ e)
 have old2:∀b o,s2.heap.get? b=some o->s3.heap.get? b=some o:=fun b o e=>by rw [eh];exact Heap.get?_push_of_some _ e
 have hsz3:s2.heap.objs.size < s3.heap.objs.size:=by rw [eh,Heap.size_push];exact Nat.lt_succ_self _
 have fpFree:∀b∈fp,H3 b=none:=fun b hb=>by
  rw [<- hH3,Ap (fun z=>?_)]
  ·exact (f2 b hb).1
  ·obtain ⟨o,e,_⟩:=T.obj _ _ st2 b hb
   have:=Heap.lt_size e
   rw [z] at this
   exact Nat.lt_irrefl _ this
 have rl:∀y,(relabel sc X.env).names.lookup y=(sc.names.lookup y).map fun k=>if (k == NameKind.free && X.env.scope.kind == .function && X.env.kindOf y == some .cell) then NameKind.cell else k:=fun y=>Ca X.env sc.names y
 have freeOf:∀y,sc.names.lookup y=some .free->∃c,cl.lookup y=some c:=fun y e=>clH (y,.free) (PySem.mem_of_lookup e) rfl
 have noCell:∀y,sc.names.lookup y≠some .cell:=fun y e=>cn.cell (y,.cell) (PySem.mem_of_lookup e) rfl
 have isFree:∀y,((relabel sc X.env).names.lookup y=some .cell\/(relabel sc X.env).names.lookup y=some .free)->sc.names.lookup y=some .free:=fun y h=>by
  rw [rl y] at h
  cases e:sc.names.lookup y with
  | none=>rw [e] at h;rcases h with z | z <;> exact absurd z (by simp)
  | some k =>
    rw [e] at h
    cases k with
    | free=>rfl
    | cell=>exact absurd e (noCell y)
    | «local»=>rcases h with z | z <;> exact absurd z (by simp)
    | _=>rcases h with z | z <;> exact absurd z (by simp)
 have exOk:∀b∈fp,b≠s3.heap.objs.size/\(∀y c,X.env.cells.lookup y=some c->c≠b)/\b ∉ frs X.stack:=fun b hb=>by
  obtain ⟨g0,g1,g2,g3,g4,g5⟩:=f2 b hb
  refine ⟨Nat.ne_of_lt (below2 b hb),g4,fun z=>?_⟩
  rcases mem_cons.mp (I2.stkSub b z) with z | z
  ·exact g1 z
  ·exact g2 z
 have hCnew:X.s₀.heap.objs.size<=s3.heap.objs.size:=I3.sz
 have hCcell:∀y c,X.env.cells.lookup y=some c->c≠s3.heap.objs.size:=fun y c e z=>by
  obtain ⟨v,q⟩:=I3.cell y c e
  have:=q.lt
  rw [z] at this
  exact Nat.lt_irrefl _ this
 have hCpin:∀p∈X.pn++pins,p.1≠s3.heap.objs.size:=fun p hp z=>by
  have:=Heap.lt_size (I3.pin p hp).1
  rw [z] at this
  exact Nat.lt_irrefl _ this
 have okc:(X.inComp Nc sc cl s3 H3 fp).Ok:=by
  refine ⟨I3.ok.mod,cn.kind,I3.ok.glob,I3.ok.blt,Nat.le_refl _,fun y z c h1 h2=>I3.ok.inj y z c (clS y c h1) (clS z c h2),fun y hy=>freeOf y (isFree y hy),fun y c hf=>absurd (show false=true from hf) Bool.false_ne_true,I3.ok.hd,I3.ok.frames,.inl rfl,
   fun b hb=>⟨(exOk b hb).1,fun y c e=>(exOk b hb).2.1 y c (clS y c e)⟩,fun b o e=>I3.bs b o e,Nat.le_trans I3.ok.bsz I3.sz,fun b o e hb=>?_,fun b hb=>(exOk b hb).2.2,I3.stack,I3.stkFree⟩
  obtain ⟨g0,g1,g2,g3,g4,g5⟩:=f2 b hb
  rcases g3 with z | z
  ·exact I3.ok.noex b o e z
  ·exact absurd (Heap.lt_size (I3.ok.bs b o e).1) (Nat.not_lt.mpr z)
 have hlen:σ.length=N.length:=by rw [I3.len,hXN]
 have Ic:Inv (X.inComp Nc sc cl s3 H3 fp) [] (σ++List.replicate xs.length none) H3 { s3 with heap:=h₁,toks:=s3.toks }:=by
  refine ⟨okc,rfl,I3.bare,Un.kept old,⟨_,hns₁,fun i y v h1 h2 h3=>?_⟩,fun y c e=>?_,I3.hok.fresh (Nat.le_refl _),fun y c e=>I3.freeC y c (clS y c e),fun p hp=>absurd (show p∈([]:List (Addr × Obj)) from hp) (by simp),I3.hok.kept old,?_⟩
  ·have hi:i < σ.length:=by
    by_cases hi:i < σ.length
    ·exact hi
    ·rw [List.getElem?_append_right (Nat.not_lt.mp hi)] at h2
     rw [List.getElem?_replicate] at h2
     split at h2 <;> cases h2
   rw [List.getElem?_append_left hi] at h2
   have hi':i < N.length:=by rw [<- hlen];exact hi
   obtain ⟨n1,n2,n3⟩:=cn.at hi' h1
   have hf:sc.names.lookup y=some .free:=by
    rcases h3 with z | z
    ·exfalso
     have z':(relabel sc X.env).names.lookup y=some .local:=z
     rw [rl y] at z'
     cases e:sc.names.lookup y with
     | none=>rw [e] at z';simp at z'
     | some k =>
       rw [e] at z'
       cases k with
       | «local»=>exact n1 e
       | cell=>exact n2 e
       | free =>
         simp only [Option.map_some,Option.some.injEq] at z'
         split at z' <;> cases z'
       | _=>simp at z'
    ·exact isFree y z
   have hN:X.N[i]?=some y:=by rw [hXN];exact n3 hf
   obtain ⟨m,hn,hl⟩:=I3.loc
   have hv:fsc.names.lookup y=some .cell\/fsc.names.lookup y=some .free:=cn.fr (y,.free) (PySem.mem_of_lookup hf) rfl
   have hv':X.env.scope.names.lookup y=some .cell\/X.env.scope.names.lookup y=some .free:=by rw [hE];exact hv
   obtain ⟨u,ru,lk⟩:=hl i y v hN h2 (.inr hv')
   refine ⟨u,ru,.inr ⟨?_,?_⟩⟩
   ·show (relabel sc X.env).names.lookup y=some .cell\/(relabel sc X.env).names.lookup y=some .free
    rw [rl y,hf]
    simp only [Option.map_some,Option.some.injEq]
    split
    ·exact .inl rfl
    ·exact .inr rfl
   ·rcases lk with ⟨kl,_⟩ | ⟨_,c,hc,hcell⟩
    ·exfalso
     have kl':X.env.scope.names.lookup y=some .local:=kl
     rw [kl'] at hv'
     rcases hv' with z | z <;> cases z
    ·obtain ⟨d,hd⟩:=freeOf y hf
     have ed:=clS y d hd
     rw [hc] at ed
     cases ed
     exact ⟨c,hd,hcell.keeps old⟩
  ·obtain ⟨v,q⟩:=I3.cell y c (clS y c e)
   exact ⟨v,q.keeps old⟩
  ·show (σ++List.replicate xs.length none).length=Nc.length
   rw [length_append,hlen,cn.len,length_replicate]
 have stc:tn 0 ({ s3 with heap:=h₁,toks:=s3.toks }:Shared).heap:=T.keep _ _ _ st2 fun b _ o e=>old b o (old2 b o e)
 have hDf:s2.heap.objs.size ∉ fp:=fun hm=>by
  obtain ⟨o,e,_⟩:=T.obj _ _ st2 _ hm
  exact Nat.lt_irrefl _ (Heap.lt_size e)
 have fpc:∀{pins':List (Addr × Obj)} {H':Hp},pins'=[]->(∀b∈fp,H' b=none)->∀b∈fp,Go (X.inComp Nc sc cl s3 H3 fp) pins' H' b:=fun {pins' H'} hp hn b hb=>by
  subst hp
  exact ⟨hn b hb,(exOk b hb).1,(exOk b hb).2.2,.inl hb,fun y c e=>(exOk b hb).2.1 y c (clS y c e),fun p hp=>absurd (show p∈([]:List (Addr × Obj)) from hp) (by simp)⟩
 have loop:∀s₄:Shared,s₄={ s3 with heap:=h₁,toks:=s3.toks } ->
  codeAny (model X.prog X.w) X.A (.compLoop (.ListComp elt [⟨tg,iter,ifs,0⟩] sc pos) 0 (.ref it) (.ref s2.heap.objs.size) (compEnvC sc cl s3.heap.objs.size X.env))
   (fun r s'=>r=.ok .next/\∃D H',(Value.ref s2.heap.objs.size)=.ref D/\Inv X pins σ H' s'/\Q (.ref D) H'/\OG X pins H' s3.heap.objs.size/\∃m,s'.heap.Ns s3.heap.objs.size m) s₄:=by
  rintro s₄ rfl
  refine SE (fun n s'=>∃(i:Nat) (o:St) (H':Hp) (ys:List V),o.length=xs.length/\Inv (X.inComp Nc sc cl s3 H3 fp) [] (σ++o) H' s'/\tn i s'.heap/\(∀b∈fp,H' b=none)/\W i n ys H') ?_ m0 ⟨0,_,H3,[],length_replicate ..,Ic,stc,fpFree,w0⟩
  rintro n s' ⟨i,o,H',ys,lo,I',st',fr',w'⟩
  obtain ⟨hDl,tw⟩:=turn i n ys H' w'
  rcases tw with ⟨stop,q⟩ | ⟨go,hz,step⟩
  ·
   refine thn (T.done (X.inComp Nc sc cl s3 H3 fp) rfl rfl rfl hc i [] s' _ H' _ I' (fpc rfl fr') st' stop) fun r s5 ⟨hr,I5⟩=>?_
   subst hr
   have Ix:Inv X pins σ H' s5:=I3.call' (ch:=fp) I5.os I5.base I5.hok I5.bare fun b hb=>by
    obtain ⟨g0,g1,g2,g3,g4,g5⟩:=f2 b hb
    exact ⟨g3,g1,g4,g5⟩
   have hCf:H' s3.heap.objs.size=none:=I5.free
   obtain ⟨m,hn,_⟩:=I5.loc
   exact ⟨rfl,s2.heap.objs.size,H',rfl,Ix,q,⟨hCf,fun z=>Nat.lt_irrefl _ (by have:=I3.lt;rw [<- z] at this;exact this),hCnew,hCcell,hCpin⟩,m,hn⟩
  ·
   refine thn (T.item (X.inComp Nc sc cl s3 H3 fp) rfl rfl rfl hc i [] s' _ H' _ I' (fpc rfl fr') st' go) fun r s5 ⟨u,hr,h4⟩=>?_
   subst hr
   dsimp only
   refine Et h4 fun _ s6 ⟨xv,H5,I5,r5,y5,st5,fr5⟩=>?_
   have I5':=I5.pinned (fpc rfl fr5) (T.obj _ _ st5)
   have again:∀{o':St} {H7:Hp} {s7:Shared} {m':Nat} {ys':List V},o'.length=xs.length->Inv (X.inComp Nc sc cl s3 H3 fp) ([]++Fv fp s6.heap) (σ++o') H7 s7->m' < n->W (i+1) m' ys' H7 ->
    ∃m,m < n/\∃(i:Nat) (o:St) (H':Hp) (ys:List V),o.length=xs.length/\Inv (X.inComp Nc sc cl s3 H3 fp) [] (σ++o) H' s7/\tn i s7.heap/\(∀b∈fp,H' b=none)/\W i m ys H':=fun {o' H7 s7 m' ys'} lo' I7 hm w7=>by
    refine ⟨m',hm,i+1,o',H7,ys',lo',I7.unpinned,T.keep _ _ _ st5 fun b hb o e=>(I7.pin (b,o) (mem_append_right _ (mem_append_right _ (Co hb e)))).1,fun b hb=>?_,w7⟩
    obtain ⟨o',e,d⟩:=T.obj _ _ st5 b hb
    exact (I7.pin (b,o') (mem_append_right _ (mem_append_right _ (Co hb e)))).2.1
   refine Et (hg cl s3 H3 fp _ s6 _ H5 xv u _ I5' r5 (step xv _ y5 o lo)) fun _ s7 ⟨σ7,H7,I7,⟨o7,e7,lo7⟩,q7⟩=>?_
   subst e7
   refine Et (ht cl s3 H3 fp _ s7 _ _ _ I7 q7) fun b s8 ⟨H8,I8,q8⟩=>?_
   cases b with
   | false =>
     rw [if_neg Bool.false_ne_true] at q8 ⊢
     obtain ⟨m',hm,w8⟩:=q8
     exact again lo7 I8 hm w8
   | true =>
     rw [if_pos rfl] at q8 ⊢
     refine Et (he cl s3 H3 fp _ s8 _ H8 _ I8 q8) fun y s9 ⟨yv,H9,I9,r9,hD9,m',hm,w9⟩=>?_
     refine Et (Bu _ s9 _ H9 (.ref s2.heap.objs.size) [yv] (.ref s2.heap.objs.size) [y] (fun v H=>v=.non/\H=upd H9 s2.heap.objs.size (.lst (ys++[yv]))) I9 rfl (.cons r9 .nil) ⟨_,ys,yv,rfl,rfl,hD9,hz,rfl,rfl⟩) fun _ s10 ⟨v10,H10,I10,r10,e10,e11⟩=>?_
     subst e11
     exact again lo7 I10 hm w9
 exact codeAny_compStart_list (loop _ rfl) (T.self _ 0 _ _ _ stc (loop _ rfl))
theorem Ej (I:∀y,(X.env.kindOf y=some .cell\/X.env.kindOf y=some .free)->∃c,X.env.cells.lookup y=some c) (hE:X.env.scope=fsc) (cn:CG N Nc xs sc fsc):∀y∈sc.names,y.2=.free->∃c,X.env.cells.lookup y.1=some c:=fun y hy hf=>by
 refine I y.1 ?_
 show X.env.scope.names.lookup y.1=some .cell\/X.env.scope.names.lookup y.1=some .free
 rw [hE]
 exact cn.fr y hy hf
theorem Op (hE:X.env.scope=fsc) (hXN:X.N=N) (cn:CG N Nc xs sc fsc) (hc:X.calm=true) (hi:PI X tg iter wi)
 (hg:∀cl s H ex,PG (X.inComp Nc sc cl s H ex) tg g) (ht:∀cl s H ex,EU (X.inComp Nc sc cl s H ex) ifs tt) (he:∀cl s H ex,PE (X.inComp Nc sc cl s H ex) elt te)
 (hs:∀v,foldedSetIterable iter X.env v=pure v:=by intro _;rfl):PE X (.ListComp elt [⟨tg,iter,ifs,0⟩] sc pos) (GS xs.length wi g tt te):=by
 intro pins s σ H Q I h
 obtain ⟨cl,hcl,clS,clH⟩:=CI (env:=X.env) (sc:=sc) (Ej I.ok.has hE cn)
 rw [eval_ListComp]
 refine wpAny_comprehension_free (use:=none) rfl hs hcl cn.kind cn.nm (thn (hi pins s σ H _ I h) fun v s1 h1=>thn h1 fun itv s2 h2=>?_)
 obtain ⟨it,fp,tn,J,H2,rfl,I2,T,st2,f2,h2⟩:=h2
 refine thn (Dy (pos:=pos) (iter:=iter) hE hXN cn hc hg ht he clS clH I2 T st2 f2 h2) fun acc s3 h3=>thn h3 fun cenv s4 h4=>codeAny_mono h4 fun r s' h5=>?_
 obtain ⟨rfl,D,H',rfl,I',q,cloc,m,hn⟩:=h5
 exact ⟨m,hn,fun h' k=>⟨.ref D,H',I'.sameBut cloc k,rfl,q⟩⟩
theorem JO {j:Nat} {y:Str} {py spos:Pos} (hE:X.env.scope=fsc) (hXN:X.N=N) (cn:CG N Nc xs sc fsc) (hc:X.calm=true) (hnd:X.N.Nodup) (hj:X.N[j]?=some y) (hy:X.env.scope.names.lookup y=some .local) (hi:PI X tg iter wi)
 (hg:∀cl s H ex,PG (X.inComp Nc sc cl s H ex) tg g) (ht:∀cl s H ex,EU (X.inComp Nc sc cl s H ex) ifs tt) (he:∀cl s H ex,PE (X.inComp Nc sc cl s H ex) elt te)
 (hsw:swapsWith (.ListComp elt [⟨tg,iter,ifs,0⟩] sc pos) (some (.Name y py)) spos.line X.env=pure true)
 (hs:∀v,foldedSetIterable iter X.env v=pure v:=by intro _;rfl):PS X (.Assign [.Name y py] (.ListComp elt [⟨tg,iter,ifs,0⟩] sc pos) spos) (Nj (GS xs.length wi g tt te) (Bt j)):=by
 intro pins s σ H D I h
 obtain ⟨cl,hcl,clS,clH⟩:=CI (env:=X.env) (sc:=sc) (Ej I.ok.has hE cn)
 rw [exec_Assign_Name_used _ _ _ _ hsw]
 refine wpAny_bind (wpAny_standAt (wpAny_bind ?_))
 show wpAny _ X.A (do let _ <- comprehension (.ListComp elt [⟨tg,iter,ifs,0⟩] sc pos) sc X.env _ (newList []) false (eval iter X.env) (some (assign (.Name y py) X.env))) _ _ s
 refine wpAny_bind (thn (wpAny_comprehension_free (Q:=fun _ s'=>SP X pins D .next s') rfl hs hcl cn.kind cn.nm (thn (hi pins s σ H _ I h) fun v s1 h1=>thn h1 fun itv s2 h2=>?_)) fun _ s' hq=>wpAny_pure (wpAny_pure hq))
 obtain ⟨it,fp,tn,J,H2,rfl,I2,T,st2,f2,h2⟩:=h2
 refine thn (Dy (pos:=pos) (iter:=iter) (Q:=fun x H1=>Bt j x σ H1 D.nx) hE hXN cn hc hg ht he clS clH I2 T st2 f2 h2) fun acc s3 h3=>thn h3 fun cenv s4 h4=>codeAny_mono h4 fun r s' h5=>?_
 obtain ⟨rfl,D',H',rfl,I',q,cloc,m,hn⟩:=h5
 refine wpAny_assign_Name (FJ (v:=.ref D') I' hnd hj (.inl hy) rfl (fun s6 I6 sb=>?_) (.inr hy))
 obtain ⟨a,k,ha⟩:=sb
 refine ⟨m,hn.sameBut k (fun z=>?_),fun h' k'=>⟨_,H',I6.sameBut cloc k',q⟩⟩
 rcases ha with ha | ha
 ·exact cloc.ne (z.trans ha)
 ·exact cloc.cells _ _ ha z.symm
end
theorem Ex {K:PySem.W.Frag} {a:Addr} {zs:List V} {tt:TT} {te:TE} {σ:St} {H1:Hp} {Q:Addr->Hp->Prop} {n m:Nat} (hn:n=σ.length) (hm:m=σ.length+1) (hz:zs.length<=sizeLine) (Pv:Addr->Nat->List V->Hp->Prop)
 (h0:∀D,H1 D=none->Pv D 0 [] (upd H1 D (.lst []))) (hD:∀D i ys H,Pv D i ys H->H D=some (.lst ys)/\ys.length<=i) (hl:∀D i ys H,H1 D=none->Pv D i ys H->SqL K H a zs)
 (hs:∀D i x ys H (K1:VK) (K2:Hp->Prop),H1 D=none->zs[i]?=some x->Pv D i ys H->(∀y H5,H5 D=some (.lst ys)->Pv D (i+1) (ys++[y]) (upd H5 D (.lst (ys++[y])))->K1 y H5)->(∀H4,Pv D (i+1) ys H4->K2 H4) ->
  ∃t v w,x=.ref t/\SqT K H t [v,w]/\tt (σ++[some v,some w]) H fun b H4=>if b=true then te (σ++[some v,some w]) H4 K1 else K2 H4)
 (hd:∀D ys H,H1 D=none->Pv D zs.length ys H->Q D H) :
 ∀D,H1 D=none->∃W:Nat->Nat->List V->Hp->Prop,(∃m,W 0 m [] (upd H1 D (.lst [])))/\∀i k ys H2,W i k ys H2 ->
  H2 D=some (.lst ys)/\(((Itl K a).stop i H2/\Q D H2)\/((Itl K a).go i H2/\ys.length < sizeLine/\∀x H3,(Itl K a).yld i H2 x H3->∀os:St,os.length=2->KW K 2 (Cy (Bt n) (Cy (Bt m) JV)) x (σ++os) H3 fun σ4 H4=>(∃os':St,σ4=σ++os'/\os'.length=2)/\tt σ4 H4 fun b H5=>if b=true then te σ4 H5 fun y H6=>H6 D=some (.lst ys)/\∃m',m' < k/\W (i+1) m' (ys++[y]) (upd H6 D (.lst (ys++[y])))
   else ∃m',m' < k/\W (i+1) m' ys H5)):=by
 intro D hDn
 subst hn hm
 refine ⟨fun i m ys H=>m=zs.length - i/\i<=zs.length/\Pv D i ys H,⟨zs.length,rfl,Nat.zero_le _,h0 D hDn⟩,?_⟩
 rintro i m ys H2 ⟨rfl,hi,p⟩
 obtain ⟨e,l⟩:=hD D i ys H2 p
 have q:=hl D i ys H2 hDn p
 refine ⟨e,?_⟩
 by_cases hlt:i < zs.length
 ·refine .inr ⟨⟨zs,zs[i],q,by simp [hlt]⟩,Nat.lt_of_le_of_lt l (Nat.lt_of_lt_of_le hlt hz),fun x H3 y os ho=>?_⟩
  obtain ⟨e1,y⟩:=y
  subst e1
  obtain ⟨t,v,w,rfl,ht,q5⟩:=hs D i x ys _ (fun y H6=>H6 D=some (.lst ys)/\∃m',m' < zs.length - i/\m'=zs.length - (i+1)/\i+1<=zs.length/\Pv D (i+1) (ys++[y]) (upd H6 D (.lst (ys++[y])))) (fun H5=>∃m',m' < zs.length - i/\m'=zs.length - (i+1)/\i+1<=zs.length/\Pv D (i+1) ys H5) hDn (y zs q) p (fun y H5 h5 p5=>⟨h5,zs.length - (i+1),by omega,rfl,hlt,p5⟩) fun H4 p4=>⟨zs.length - (i+1),by omega,rfl,hlt,p4⟩
  match os,ho with
  | [o1,o2],_ =>
    have e2:((σ++[o1,o2]).set σ.length (some v)).set (σ.length+1) (some w)=σ++[some v,some w]:=by
     rw [set_append_right _ _ (Nat.le_refl _),Nat.sub_self,set_append_right _ _ (Nat.le_succ _)]
     rw [show (List.length σ+1) - List.length σ=1 by omega]
     rfl
    refine ⟨t,[v,w],rfl,ht,rfl,v,[w],rfl,w,[],rfl,rfl,?_⟩
    refine ⟨⟨[some v,some w],e2,rfl⟩,?_⟩
    rw [e2]
    exact q5
 ·have ei:i=zs.length:=by omega
  subst ei
  exact .inl ⟨⟨zs,q,Nat.le_refl _⟩,hd D ys H2 hDn p⟩
section
variable {X:Cx} {elt iter:Expr} {x1 x2 x3:Str} {p1 p2 p3 pt pos:Pos} {k:Nat} {ifs:List Expr} {sc fsc:Scope} {N Nc:List Str} {wi:TI} {tt:TT} {te:TE}
theorem E9 (hE:X.env.scope=fsc) (hXN:X.N=N) (cn:CG N Nc [x1,x2] sc fsc) (hc:X.calm=true) (hi:PI X (.Tuple [.Name x1 p1,.Name x2 p2] k pt) iter wi)
 (ht:∀cl s H ex,EU (X.inComp Nc sc cl s H ex) ifs tt) (he:∀cl s H ex,PE (X.inComp Nc sc cl s H ex) elt te) (hs:∀v,foldedSetIterable iter X.env v=pure v:=by intro _;rfl) :
 PE X (.ListComp elt [⟨.Tuple [.Name x1 p1,.Name x2 p2] k pt,iter,ifs,0⟩] sc pos) (GS 2 wi (KW X.K 2 (Cy (Bt N.length) (Cy (Bt (N.length+1)) JV))) tt te) :=
 Op hE hXN cn hc hi (fun cl s H ex=>FG (X:=X.inComp Nc sc cl s H ex) hc (Bo (Cg (j:=0) cn rfl rfl) (Bo (Cg (j:=1) cn rfl rfl) Eg))) ht he hs
theorem Km {j:Nat} {y:Str} {py spos:Pos} (hE:X.env.scope=fsc) (hXN:X.N=N) (cn:CG N Nc [x1,x2] sc fsc) (hc:X.calm=true) (hnd:X.N.Nodup) (hj:X.N[j]?=some y) (hy:X.env.scope.names.lookup y=some .local) (hi:PI X (.Tuple [.Name x1 p1,.Name x2 p2] k pt) iter wi)
 (ht:∀cl s H ex,EU (X.inComp Nc sc cl s H ex) ifs tt) (he:∀cl s H ex,PE (X.inComp Nc sc cl s H ex) elt te)
 (hsw:swapsWith (.ListComp elt [⟨.Tuple [.Name x1 p1,.Name x2 p2] k pt,iter,ifs,0⟩] sc pos) (some (.Name y py)) spos.line X.env=pure true)
 (hs:∀v,foldedSetIterable iter X.env v=pure v:=by intro _;rfl) :
 PS X (.Assign [.Name y py] (.ListComp elt [⟨.Tuple [.Name x1 p1,.Name x2 p2] k pt,iter,ifs,0⟩] sc pos) spos) (Nj (GS 2 wi (KW X.K 2 (Cy (Bt N.length) (Cy (Bt (N.length+1)) JV))) tt te) (Bt j)) :=
 JO hE hXN cn hc hnd hj hy hi (fun cl s H ex=>FG (X:=X.inComp Nc sc cl s H ex) hc (Bo (Cg (j:=0) cn rfl rfl) (Bo (Cg (j:=1) cn rfl rfl) Eg))) ht he hsw hs
end
end L2
namespace L2
open PySem PySem.Spec PyProof.Rows
theorem FT.ns {N Nc:List Str} {x:Str} {sc fsc:Scope} (c:FT N Nc x sc fsc):CG N Nc [x] sc fsc:=⟨c.kind,c.cell,c.nm,fun y m=>by rw [mem_singleton.mp m];exact c.own,c.fr,c.len,c.nd,by
 have l:=c.len
 refine ext_getElem? fun i=>?_
 rw [List.getElem?_drop]
 cases i with
 | zero=>exact c.last
 | succ i=>rw [List.getElem?_eq_none (by omega),List.getElem?_eq_none (by show 1<=i+1;omega)],c.slot⟩
section
variable {X:Cx} {elt iter:Expr} {x:Str} {px pos:Pos} {ifs:List Expr} {sc fsc:Scope} {N Nc:List Str} {wi:TI} {tt:TT} {te:TE}
theorem IK {J:It} {σ:St} {H1:Hp} {Q:VK} {n:Nat} (hn:n=σ.length) (h:∀D,H1 D=none->∃W:Nat->Nat->List V->Hp->Prop,(∃m,W 0 m [] (upd H1 D (.lst [])))/\∀i m ys H2,W i m ys H2 ->
 H2 D=some (.lst ys)/\((J.stop i H2/\Q (.ref D) H2)\/(J.go i H2/\ys.length < sizeLine/\∀x H3,J.yld i H2 x H3->tt (σ++[some x]) H3 fun b H4=>if b=true then te (σ++[some x]) H4 fun y H5=>H5 D=some (.lst ys)/\∃m',m' < m/\W (i+1) m' (ys++[y]) (upd H5 D (.lst (ys++[y])))
  else ∃m',m' < m/\W (i+1) m' ys H4))) :
 ∀D,H1 D=none->∃W:Nat->Nat->List V->Hp->Prop,(∃m,W 0 m [] (upd H1 D (.lst [])))/\∀i m ys H2,W i m ys H2 ->
  H2 D=some (.lst ys)/\((J.stop i H2/\Q (.ref D) H2)\/(J.go i H2/\ys.length < sizeLine/\∀x H3,J.yld i H2 x H3->∀os:St,os.length=1->Bt n x (σ++os) H3 fun σ4 H4=>(∃os':St,σ4=σ++os'/\os'.length=1)/\tt σ4 H4 fun b H5=>if b=true then te σ4 H5 fun y H6=>H6 D=some (.lst ys)/\∃m',m' < m/\W (i+1) m' (ys++[y]) (upd H6 D (.lst (ys++[y])))
   else ∃m',m' < m/\W (i+1) m' ys H5)):=by
 intro D hD
 obtain ⟨W,w0,w1⟩:=h D hD
 refine ⟨W,w0,fun i m ys H2 w=>?_⟩
 obtain ⟨a,b⟩:=w1 i m ys H2 w
 refine ⟨a,b.imp id fun ⟨c,d,e⟩=>⟨c,d,fun x H3 y os ho=>?_⟩⟩
 match os,ho with
 | [o],_ =>
   have e2:(σ++[o]).set n (some x)=σ++[some x]:=by rw [hn];exact K0
   show (∃os':St,(σ++[o]).set n (some x)=σ++os'/\os'.length=1)/\_
   rw [e2]
   exact ⟨⟨[some x],rfl,rfl⟩,e x H3 y⟩
theorem C7 (hE:X.env.scope=fsc) (hXN:X.N=N) (cn:FT N Nc x sc fsc) (hc:X.calm=true) (hi:PI X (.Name x px) iter wi)
 (ht:∀cl s H ex,EU (X.inComp Nc sc cl s H ex) ifs tt) (he:∀cl s H ex,PE (X.inComp Nc sc cl s H ex) elt te)
 (hs:∀v,foldedSetIterable iter X.env v=pure v:=by intro _;rfl):PE X (.ListComp elt [⟨.Name x px,iter,ifs,0⟩] sc pos) (KO wi tt te):=by
 intro pins s σ H Q I h
 obtain ⟨cl,hcl,clS,clH⟩:=CI (env:=X.env) (sc:=sc) (Ej I.ok.has hE cn.ns)
 rw [eval_ListComp]
 refine wpAny_comprehension_free (use:=none) rfl hs hcl cn.kind cn.nm (thn (hi pins s σ H _ I h) fun v s1 h1=>thn h1 fun itv s2 h2=>?_)
 obtain ⟨it,fp,tn,J,H2,rfl,I2,T,st2,f2,h2⟩:=h2
 refine thn (Dy (pos:=pos) (iter:=iter) hE hXN cn.ns hc (fun cl s H ex=>Cg (j:=0) cn.ns rfl rfl) ht he clS clH I2 T st2 f2 (IK (by rw [I2.len,hXN];rfl) h2)) fun acc s3 h3=>thn h3 fun cenv s4 h4=>codeAny_mono h4 fun r s' h5=>?_
 obtain ⟨rfl,D,H',rfl,I',q,cloc,m,hn⟩:=h5
 exact ⟨m,hn,fun h' k=>⟨.ref D,H',I'.sameBut cloc k,rfl,q⟩⟩
theorem GC {j:Nat} {y:Str} {py spos:Pos} (hE:X.env.scope=fsc) (hXN:X.N=N) (cn:FT N Nc x sc fsc) (hc:X.calm=true) (hnd:X.N.Nodup) (hj:X.N[j]?=some y) (hy:X.env.scope.names.lookup y=some .local) (hi:PI X (.Name x px) iter wi)
 (ht:∀cl s H ex,EU (X.inComp Nc sc cl s H ex) ifs tt) (he:∀cl s H ex,PE (X.inComp Nc sc cl s H ex) elt te)
 (hsw:swapsWith (.ListComp elt [⟨.Name x px,iter,ifs,0⟩] sc pos) (some (.Name y py)) spos.line X.env=pure true)
 (hs:∀v,foldedSetIterable iter X.env v=pure v:=by intro _;rfl):PS X (.Assign [.Name y py] (.ListComp elt [⟨.Name x px,iter,ifs,0⟩] sc pos) spos) (Nj (KO wi tt te) (Bt j)):=by
 intro pins s σ H D I h
 obtain ⟨cl,hcl,clS,clH⟩:=CI (env:=X.env) (sc:=sc) (Ej I.ok.has hE cn.ns)
 rw [exec_Assign_Name_used _ _ _ _ hsw]
 refine wpAny_bind (wpAny_standAt (wpAny_bind ?_))
 show wpAny _ X.A (do let _ <- comprehension (.ListComp elt [⟨.Name x px,iter,ifs,0⟩] sc pos) sc X.env _ (newList []) false (eval iter X.env) (some (assign (.Name y py) X.env))) _ _ s
 refine wpAny_bind (thn (wpAny_comprehension_free (Q:=fun _ s'=>SP X pins D .next s') rfl hs hcl cn.kind cn.nm (thn (hi pins s σ H _ I h) fun v s1 h1=>thn h1 fun itv s2 h2=>?_)) fun _ s' hq=>wpAny_pure (wpAny_pure hq))
 obtain ⟨it,fp,tn,J,H2,rfl,I2,T,st2,f2,h2⟩:=h2
 refine thn (Dy (pos:=pos) (iter:=iter) (Q:=fun x H1=>Bt j x σ H1 D.nx) hE hXN cn.ns hc (fun cl s H ex=>Cg (j:=0) cn.ns rfl rfl) ht he clS clH I2 T st2 f2 (IK (Q:=fun x H1=>Bt j x σ H1 D.nx) (by rw [I2.len,hXN];rfl) h2)) fun acc s3 h3=>thn h3 fun cenv s4 h4=>codeAny_mono h4 fun r s' h5=>?_
 obtain ⟨rfl,D',H',rfl,I',q,cloc,m,hn⟩:=h5
 refine wpAny_assign_Name (FJ (v:=.ref D') I' hnd hj (.inl hy) rfl (fun s6 I6 sb=>?_) (.inr hy))
 obtain ⟨a,k,ha⟩:=sb
 refine ⟨m,hn.sameBut k (fun z=>?_),fun h' k'=>⟨_,H',I6.sameBut cloc k',q⟩⟩
 rcases ha with ha | ha
 ·exact cloc.ne (z.trans ha)
 ·exact cloc.cells _ _ ha z.symm
end
end L2
namespace L2
open PySem PySem.Spec PyProof.Rows
noncomputable def Itz (K:PySem.W.Frag) (a b:Addr):It :=
 ⟨fun i H=>∃xs ys x y,SqL K H a xs/\SqL K H b ys/\xs[i]?=some x/\ys[i]?=some y,fun i H x H'=>∃T y z,x=.ref T/\H T=none/\H'=upd H T (.tup [y,z])/\(∀xs,SqL K H a xs->xs[i]?=some y)/\∀xs,SqL K H b xs->xs[i]?=some z,
  fun i H=>∃xs ys,SqL K H a xs/\SqL K H b ys/\(xs.length<=i\/ys.length<=i)⟩
theorem Nu {n a b:Nat} (ha:a < n) (hb:b < n):ZipApart (n+4) (n+2) (n+3) n (n+1) a b:=by
 constructor <;> (show @Ne Nat _ _) <;> omega
theorem Om {z TO i1 i2 TI c:Addr} (h:c ∉ [z,TI,TO,i1,i2]):c≠z/\c≠TO/\c≠i1/\c≠i2 :=
 ⟨fun e=>h (by simp [e]),fun e=>h (by simp [e]),fun e=>h (by simp [e]),fun e=>h (by simp [e])⟩
theorem PB {P:Program} {w:World} {K:PySem.W.Frag} {es:List Expr} {k:Nat} {pos:Pos} (a b z TI TO i1 i2:Addr) (D:ZipApart z TI TO i1 i2 a b) :
 JJ P w K (.Tuple es k pos) (Itz K a b) [z,TI,TO,i1,i2] z (fun i h=>IsZip h z TI TO .none/\IsPair h TI (.ref i1) (.ref i2)/\(∃u v,IsPair h TO u v)/\h.IsListIter i1 a i/\h.IsListIter i2 b i) where
 mem:=by simp
 obj:=fun i h st c hc=>by
  obtain ⟨hz,hTI,⟨u,v,hTO⟩,⟨o1,e1,c1,d1⟩,o2,e2,c2,d2⟩:=st
  simp only [mem_cons,List.not_mem_nil,or_false] at hc
  rcases hc with q | q | q | q | q <;> subst q
  ·exact ⟨_,hz,fun v z=>by cases (show Data.fields _=Data.cell v from z)⟩
  ·exact ⟨_,hTI,fun v z=>by cases (show Data.seq _ _=Data.cell v from z)⟩
  ·exact ⟨_,hTO,fun v z=>by cases (show Data.seq _ _=Data.cell v from z)⟩
  ·exact ⟨o1,e1,fun v z=>by rw [d1] at z;cases z⟩
  ·exact ⟨o2,e2,fun v z=>by rw [d2] at z;cases z⟩
 keep:=fun i h h' st kk=>by
  obtain ⟨hz,hTI,⟨u,v,hTO⟩,h1,h2⟩:=st
  exact ⟨kk z (by simp) _ hz,kk TI (by simp) _ hTI,⟨u,v,kk TO (by simp) _ hTO⟩,h1.at fun o q=>kk i1 (by simp) o q,h2.at fun o q=>kk i2 (by simp) o q⟩
 item:=by
  intro X hP hw hK hc i pins s σ H E I hf st hg
  subst hP hw hK
  obtain ⟨xs,ys,x,y,hx,hy,ex,ey⟩:=hg
  obtain ⟨its,rv,p,_⟩:=I.list hx
  obtain ⟨jts,rw',p',_⟩:=I.list hy
  obtain ⟨u,hu,ru⟩:=rv.get ex
  obtain ⟨v,hv,rv'⟩:=rw'.get ey
  obtain ⟨hz,hTI,⟨c,d,hTO⟩,h1,h2⟩:=st
  refine wpAny_pyNext_zip_item D hz hTI hTO h1 h2 p.isList p'.isList (x:=u) (y:=v) (by simpa using hu) (by simpa using hv) fun g1 z1 t1 a1 a2 nT hsz hk=>⟨_,rfl,?_⟩
  refine wpAny_letOwnedTupleGo_zip z1 fun g2 z2 sb=>?_
  have fr:H s.heap.objs.size=none:=I.hok.fresh (Nat.le_refl _)
  have lt:∀b∈[z,TI,TO,i1,i2],b < s.heap.objs.size:=fun b hb=>by
   obtain ⟨o1,e1,_⟩:=id h1
   obtain ⟨o2,e2,_⟩:=id h2
   simp only [mem_cons,List.not_mem_nil,or_false] at hb
   rcases hb with q | q | q | q | q <;> subst q
   ·exact Heap.lt_size hz
   ·exact Heap.lt_size hTI
   ·exact Heap.lt_size hTO
   ·exact Heap.lt_size e1
   ·exact Heap.lt_size e2
  refine ⟨.ref s.heap.objs.size,upd H s.heap.objs.size (.tup [x,y]),?_,rfl,⟨_,x,y,rfl,fr,rfl,fun l hl=>by rw [I.list_inj hl hx];exact ex,fun l hl=>by rw [I.list_inj hl hy];exact ey⟩,
   ⟨z2,(sb.2 TI D.TIz).trans (hk TI _ D.TIz D.TITO D.TIi1 D.TIi2 hTI),⟨u,v,(sb.2 TO D.TOz).trans t1⟩,a1.at fun o q=>(sb.2 i1 D.i1z).trans q,a2.at fun o q=>(sb.2 i2 D.i2z).trans q⟩,fun b hb=>?_⟩
  ·refine I.laidTurned (fp:=[z,TI,TO,i1,i2]) (t':=s.toks) (fun c o hc q=>?_) hf (Nat.le_refl _) ?_
   ·obtain ⟨n1,n2,n3,n4⟩:=Om hc
    exact (sb.2 c n1).trans (hk c o n1 n2 n3 n4 q)
   ·exact ⟨by show 2<=sizeLine;decide,[u,v],.cons ru (.cons rv' .nil),⟨_,(sb.2 _ (Nat.ne_of_gt (lt z (by simp)))).trans nT,rfl,_,rfl⟩⟩
  ·rw [Ap (Nat.ne_of_lt (lt b hb))]
   exact (hf b hb).1
 done:=by
  intro X hP hw hK hc i pins s σ H E I hf st hg
  subst hP hw hK
  obtain ⟨xs,ys,hx,hy,en⟩:=hg
  obtain ⟨its,rv,p,_⟩:=I.list hx
  obtain ⟨jts,rw',p',_⟩:=I.list hy
  obtain ⟨hz,hTI,⟨c,d,hTO⟩,h1,h2⟩:=st
  have l1:=rv.length
  have l2:=rw'.length
  refine wpAny_pyNext_zip_end (I.ok.hd hc) D hz hTI hTO h1 h2 p.isList p'.isList ?_ fun h' hk=>⟨rfl,I.turnedAll (fp:=[z,TI,TO,i1,i2]) (t':=s.toks) (fun c o hc q=>?_) hf⟩
  ·rcases en with q | q
   ·exact .inl (by simp;omega)
   ·exact .inr (by simp;omega)
  ·obtain ⟨n1,n2,n3,n4⟩:=Om hc
   exact hk c o n1 n2 n3 n4 q
 self:=fun _ _ _ _ _ st h=>wpAny_pyIter_zip st.1 h
section
variable {X:Cx}
noncomputable def T8 (K:PySem.W.Frag) (ta:TA):TI:=fun σ H R=>ta σ H fun vs H1=>∃a b,vs=[.ref a,.ref b]/\(∃xs,SqL K H1 a xs)/\(∃ys,SqL K H1 b ys)/\R (Itz K a b) H1
theorem Jx {l m:Expr} {ta:TA} {p pos pt:Pos} {es:List Expr} {k:Nat} (hg:Gl X "zip") (hm:X.mg "zip"=none) (ha:PA X [l,m] ta) (hs:starEach [l,m] X.env=[(false,eval l X.env),(false,eval m X.env)]:=by rfl) (hs2:starEach [m] X.env=[(false,eval m X.env)]:=by rfl) :
 PI X (.Tuple es k pt) (.Call (.Name "zip" p) [l,m] [] pos) (T8 X.K ta):=by
 intro pins s σ H R I h
 refine Call_ (Ea I hg hm boot_zip (PyProof.Rows.callWith_type1 (thn (ha pos pins s σ H _ I h) fun us s1 ⟨vs,H1,I1,r1,q1⟩=>?_) (by rw [hs,hs2]) (by rw [hs2];rfl)))
 obtain ⟨a,b,e,⟨xs,hx⟩,⟨ys,hy⟩,q⟩:=q1
 subst e
 cases r1 with
 | cons r rr =>
   cases rr with
   | cons r' rr =>
     cases rr
     cases r
     cases r'
     obtain ⟨its,rv,p1,_⟩:=I1.list hx
     obtain ⟨jts,rw',p2,_⟩:=I1.list hy
     have lta:a < s1.heap.objs.size:=by obtain ⟨o,q,_⟩:=p1.isList;exact Heap.lt_size q
     have ltb:b < s1.heap.objs.size:=by obtain ⟨o,q,_⟩:=p2.isList;exact Heap.lt_size q
     refine call_zip_2 p1.isList p2.isList fun h' hz hTI hTO h1 h2 hsz hk=>?_
     refine wpAny_pyIter_zip (s:={ s1 with heap:=h' }) hz ?_
     have D:ZipApart (s1.heap.objs.size+4) (s1.heap.objs.size+2) (s1.heap.objs.size+3) s1.heap.objs.size (s1.heap.objs.size+1) a b:=Nu lta ltb
     refine ⟨s1.heap.objs.size+4,[s1.heap.objs.size+4,s1.heap.objs.size+2,s1.heap.objs.size+3,s1.heap.objs.size,s1.heap.objs.size+1],_,_,H1,rfl,I1.kept (t':=s1.toks) hk,PB a b _ _ _ _ _ D,⟨hz,hTI,⟨_,_,hTO⟩,h1,h2⟩,fun c hc=>?_,q⟩
     have ge:s1.heap.objs.size<=c:=by
      simp only [mem_cons,List.not_mem_nil,or_false] at hc
      rcases hc with q | q | q | q | q <;> rw [q] <;> first | exact Nat.le_refl _ | exact Nat.le_add_right _ _
     exact I1.fpOk ge (I1.hok.fresh ge)
end
theorem Mi {K:PySem.W.Frag} {a b:Addr} {xs ys:List V} {g:TG} {tb:TS} {D:EB} {σ:St} {H:Hp} (hxy:xs.length=ys.length) (Pv:Nat->St->Hp->Prop) (h0:Pv 0 σ H) (hl:∀i σ H,i<=xs.length->Pv i σ H->SqL K H a xs/\SqL K H b ys)
 (hs:∀i x y T σ H,xs[i]?=some x->ys[i]?=some y->Pv i σ H->H T=none->g (.ref T) σ (upd H T (.tup [x,y])) fun σ2 H2=>tb { D with nx:=Pv (i+1),ct:=Pv (i+1),bk:=D.nx } σ2 H2) (hd:∀σ H,Pv xs.length σ H->D.nx σ H) :
 ∃W:Nat->Nat->St->Hp->Prop,(∃m,W 0 m σ H)/\∀i m σ H,W i m σ H ->
  ((Itz K a b).stop i H/\D.nx σ H)\/((Itz K a b).go i H/\∃N:St->Hp->Prop,(∀σ' H',N σ' H'->∃m',m' < m/\W (i+1) m' σ' H')/\∀x H',(Itz K a b).yld i H x H'->g x σ H' fun σ2 H2=>tb { D with nx:=N,ct:=N,bk:=D.nx } σ2 H2):=by
 refine ⟨fun i m σ H=>m=xs.length - i/\i<=xs.length/\Pv i σ H,⟨xs.length,by simp,Nat.zero_le _,h0⟩,?_⟩
 rintro i m σ H ⟨rfl,hi,p⟩
 obtain ⟨q1,q2⟩:=hl i σ H hi p
 by_cases hlt:i < xs.length
 ·have hlt':i < ys.length:=by omega
  refine .inr ⟨⟨xs,ys,xs[i],ys[i],q1,q2,by simp [hlt],by simp [hlt']⟩,Pv (i+1),fun σ' H' p'=>⟨xs.length - (i+1),by omega,rfl,hlt,p'⟩,fun x H' y=>?_⟩
  obtain ⟨T,y,z,rfl,hT,rfl,hy,hz⟩:=y
  exact hs i y z T σ H (hy xs q1) (hz ys q2) p hT
 ·have e:i=xs.length:=by omega
  subst e
  exact .inl ⟨⟨xs,ys,q1,q2,.inl (Nat.le_refl _)⟩,hd σ H p⟩
section
variable {X:Cx}
end
theorem HA:∀ns ms:List Int,PyData.eqvAll (ns.map .int) (ms.map .int)=decide (ns=ms)
 | [],[]=>rfl
 | [],_ :: _=>rfl
 | _ :: _,[]=>rfl
 | n :: ns,m :: ms=>by
   show ((n == m) && PyData.eqvAll (ns.map .int) (ms.map .int))=_
   rw [HA ns ms]
   by_cases h:n=m
   ·by_cases k:ns=ms
    ·subst h;subst k;simp
    ·simp [h,k]
   ·simp [h]
theorem lay_ints:∀ns:List Int,PyData.canLayAll0 (ns.map .int)=true/\PyData.depthAll (ns.map .int)<=0
 | []=>⟨rfl,Nat.le_refl _⟩
 | n :: ns=>by
   obtain ⟨h1,h2⟩:=lay_ints ns
   refine ⟨?_,?_⟩
   ·show (true && PyData.canLayAll0 (ns.map .int))=true
    rw [h1];rfl
   ·show max 0 (PyData.depthAll (ns.map .int))<=0
    omega
theorem D8 (ns:List Int):SeqAt.shaped (.tuple (ns.map .int))=true/\SeqAt.shaped (.list (ns.map .int))=true:=by
 obtain ⟨h1,h2⟩:=lay_ints ns
 constructor
 ·unfold SeqAt.shaped
  rw [Bool.and_eq_true]
  refine ⟨h1,decide_eq_true ?_⟩
  show PyData.depthAll (ns.map .int)+1<=64
  omega
 ·unfold SeqAt.shaped
  rw [Bool.and_eq_true]
  refine ⟨h1,decide_eq_true ?_⟩
  show PyData.depthAll (ns.map .int)+1<=64
  omega
section
variable {X:Cx}
end
end L2
namespace L2
open PySem PySem.Spec PyProof.Rows
namespace CutT
open HT
section
variable {prog:Program} {w:World} {A:Around} {E:Value->Shared->Prop} {s:Shared}
end
end CutT
end L2
namespace L2
open PySem PySem.Spec PyProof.Rows
section
variable {prog:Program} {w:World} {A:Around} {E:Value->Shared->Prop} {s:Shared}
end
section
variable {M:Model} {A:Around} {E:Value->Shared->Prop} {s:Shared} {env:Env}
end
section
variable {X:Cx}
end
end L2
namespace L2
open PySem PySem.Spec PyProof.Rows
section
variable {X:Cx}
end
theorem Kj:∀{xs:List V} {us:List Value},xs.length=us.length->(∀(i:Nat) x u,xs[i]?=some x->us[i]?=some u->A9 x u)->A5 xs us
 | [],[],_,_=>.nil
 | [],_ :: _,h,_=>by cases h
 | _ :: _,[],h,_=>by cases h
 | x :: xs,u :: us,h,k=>.cons (k 0 x u rfl rfl) (Kj (Nat.succ.inj h) fun i y v h1 h2=>k (i+1) y v h1 h2)
section
variable {X:Cx} {e:Expr} {te:TE} {p p2 pos pos2:Pos}
noncomputable def Qj (te:TE):TE:=fun σ H Q=>te σ H fun x H1=>∃n:Nat,x=.int (n:Int)/\n < 1000/\∀l,H1 l=none->Q (.ref l) (upd H1 l (.lst ((List.range n).map fun i:Nat=>V.int (i:Int))))
theorem C8 (hc:X.calm=true) (hg:Gl X "list") (hm:X.mg "list"=none) (hg2:Gl X "range") (hm2:X.mg "range"=none) (he:PE X e te)
 (hs:starEach [e] X.env=[(false,eval e X.env)]:=by rfl)
 (hs2:starEach [(.Call (.Name "range" p2) [e] [] pos2:Expr)] X.env=[(false,eval (.Call (.Name "range" p2) [e] [] pos2) X.env)]:=by rfl) :
 PE X (.Call (.Name "list" p) [.Call (.Name "range" p2) [e] [] pos2] [] pos) (Qj te):=by
 intro pins s σ H Q I h
 refine wpAny_Call_Name_kw (Ea I hg hm boot_list ?_ (by decide) (by decide))
 refine callWith_type1 ?_ hs2 rfl
 rw [hs2]
 refine Calls.spliced_cons ?_
 refine wpAny_Call_Name_kw (Ea I hg2 hm2 boot_range ?_ (by decide) (by decide))
 refine callWith_type1 ?_ hs rfl
 rw [hs]
 refine Calls.spliced_cons (thn (he pins s σ H _ I h) fun u s1 ⟨x,H1,I1,r1,n,hx,hn,q⟩=>?_)
 subst hx
 obtain ⟨t,rfl⟩:=r1
 refine Calls.spliced_nil ?_
 refine call_range_1 ?_
 refine Calls.spliced_nil ?_
 refine call_list_range (n:=n) (I1.ok.hd hc) (IsRange.new ..) (small_one (by omega) (by omega) (by omega) (by omega)) (by rw [rangeSize_one];split <;> omega) (by omega) fun h' tk acc c' kp eS it=>?_
 have kp':∀b o,s1.heap.get? b=some o->h'.get? b=some o:=fun b o e=>kp b o (Heap.get?_push_of_some _ e)
 have hp:s1.heap.objs.size<=(s1.heap.push { cls:=.type "range",data:=.fields #[.int 0 s1.toks,.int (n:Int) t,.int 1 (s1.toks+1)] }).objs.size:=by simp [Heap.push]
 have rv:A5 ((List.range n).map fun i:Nat=>V.int (i:Int)) acc.toList:=by
  refine Kj (by simp [it.1]) fun i x u hx hu=>?_
  rw [List.getElem?_map] at hx
  obtain ⟨t',e⟩:=it.2 i u (by simpa using hu)
  have hi:i < n:=by
   have:=(List.getElem?_eq_some_iff.mp hu).1
   rw [Array.length_toList,it.1] at this
   exact this
  rw [List.getElem?_range hi] at hx
  have hx':x=V.int (i:Int):=(Option.some.inj hx).symm
  subst hx'
  exact ⟨t',by rw [e];simp⟩
 have hz:((List.range n).map fun i:Nat=>V.int (i:Int)).length<=sizeLine:=by rw [length_map,length_range];exact Nat.le_of_lt (AT (by omega))
 exact ⟨.ref _,_,I1.laid (t':=tk) kp' hp (show AJ X.prog X.w _ h' _ (.lst ((List.range n).map fun i:Nat=>V.int (i:Int))) from ⟨hz,acc.toList,c',rv,by simpa using eS⟩),rfl,q _ (I1.hok.fresh hp)⟩
end
section
variable {prog:Program} {w:World} {A:Around} {E:Value->Shared->Prop} {s:Shared}
end
section
variable {X:Cx}
end
end L2
namespace L2
open PySem PySem.Spec PyProof.Rows
section
variable {P:Program} {w:World} {K:PySem.W.Frag} {mg:Str->Option Value} {base:Heap}
end
section
variable {X:Cx} {k:Nat} {f:Addr} {fd:FuncData} {ps:List Str} {sp:Sp} {x:Str} {p pos:Pos} {e:Expr} {es:List Expr} {t:TA}
end
section
variable {X:Cx}
end
end L2
namespace L2
open PySem PySem.Spec PyProof.Rows
section
variable {prog:Program} {w:World} {A:Around} {E:Value->Shared->Prop} {s:Shared}
end
section
variable {X:Cx} {pins:List (Addr × Obj)} {σ:St} {H:Hp}
end
end L2
namespace L2
open PySem PySem.Spec PyProof.Rows
section
variable {prog:Program} {w:World} {A:Around} {E:Value->Shared->Prop} {s:Shared}
end
abbrev hoF (d:Addr) (ob:Obj):HO:=.ext fun h=>h.get? d=some ob
theorem Hm {α β:Type} {R:α->β->Prop}:∀{xs:List α} {ys:List β} {i:Nat} {x:α},Paired R xs ys->xs[i]?=some x->∃y,ys[i]?=some y/\R x y
 | _,_,_,_,.nil,h=>by cases h
 | _,_,0,_,.cons r t,h=>⟨_,rfl,by cases Option.some.inj h;exact r⟩
 | _,_,i+1,_,.cons _ t,h=>Hm (i:=i) t h
section
variable {X:Cx}
theorem Inv.held {pins:List (Addr × Obj)} {σ:St} {H:Hp} {s:Shared} {d:Addr} {ob:Obj} (I:Inv X pins σ H s) (e:H d=some (hoF d ob)):s.heap.get? d=some ob:=by
 obtain ⟨z,_⟩:=(show AJ X.prog X.w H s.heap d (hoF d ob) from I.hok d _ e)
 exact z
end
end L2
namespace L2
open PySem PySem.Spec PyProof.Rows
theorem Lf {K:PySem.W.Frag} {a:Addr} {zs:List V} {tt:TT} {te:TE} {σ:St} {H1:Hp} {Q:Addr->Hp->Prop} {n m o:Nat} (hn:n=σ.length) (hm:m=σ.length+1) (ho:o=σ.length+2) (hz:zs.length<=sizeLine) (Pv:Addr->Nat->List V->Hp->Prop)
 (h0:∀D,H1 D=none->Pv D 0 [] (upd H1 D (.lst []))) (hD:∀D i ys H,Pv D i ys H->H D=some (.lst ys)/\ys.length<=i) (hl:∀D i ys H,H1 D=none->Pv D i ys H->SqL K H a zs)
 (hs:∀D i x ys H (K1:VK) (K2:Hp->Prop),H1 D=none->zs[i]?=some x->Pv D i ys H->(∀y H5,H5 D=some (.lst ys)->Pv D (i+1) (ys++[y]) (upd H5 D (.lst (ys++[y])))->K1 y H5)->(∀H4,Pv D (i+1) ys H4->K2 H4) ->
  ∃t v w z,x=.ref t/\SqT K H t [v,w,z]/\tt (σ++[some v,some w,some z]) H fun b H4=>if b=true then te (σ++[some v,some w,some z]) H4 K1 else K2 H4)
 (hd:∀D ys H,H1 D=none->Pv D zs.length ys H->Q D H) :
 ∀D,H1 D=none->∃W:Nat->Nat->List V->Hp->Prop,(∃m,W 0 m [] (upd H1 D (.lst [])))/\∀i k ys H2,W i k ys H2 ->
  H2 D=some (.lst ys)/\(((Itl K a).stop i H2/\Q D H2)\/((Itl K a).go i H2/\ys.length < sizeLine/\∀x H3,(Itl K a).yld i H2 x H3->∀os:St,os.length=3->KW K 3 (Cy (Bt n) (Cy (Bt m) (Cy (Bt o) JV))) x (σ++os) H3 fun σ4 H4=>(∃os':St,σ4=σ++os'/\os'.length=3)/\tt σ4 H4 fun b H5=>if b=true then te σ4 H5 fun y H6=>H6 D=some (.lst ys)/\∃m',m' < k/\W (i+1) m' (ys++[y]) (upd H6 D (.lst (ys++[y])))
   else ∃m',m' < k/\W (i+1) m' ys H5)):=by
 intro D hDn
 subst hn hm ho
 refine ⟨fun i m ys H=>m=zs.length - i/\i<=zs.length/\Pv D i ys H,⟨zs.length,rfl,Nat.zero_le _,h0 D hDn⟩,?_⟩
 rintro i m ys H2 ⟨rfl,hi,p⟩
 obtain ⟨e,l⟩:=hD D i ys H2 p
 have q:=hl D i ys H2 hDn p
 refine ⟨e,?_⟩
 by_cases hlt:i < zs.length
 ·refine .inr ⟨⟨zs,zs[i],q,by simp [hlt]⟩,Nat.lt_of_le_of_lt l (Nat.lt_of_lt_of_le hlt hz),fun x H3 y os ho'=>?_⟩
  obtain ⟨e1,y⟩:=y
  subst e1
  obtain ⟨t,v,w,z,rfl,ht,q5⟩:=hs D i x ys _ (fun y H6=>H6 D=some (.lst ys)/\∃m',m' < zs.length - i/\m'=zs.length - (i+1)/\i+1<=zs.length/\Pv D (i+1) (ys++[y]) (upd H6 D (.lst (ys++[y])))) (fun H5=>∃m',m' < zs.length - i/\m'=zs.length - (i+1)/\i+1<=zs.length/\Pv D (i+1) ys H5) hDn (y zs q) p (fun y H5 h5 p5=>⟨h5,zs.length - (i+1),by omega,rfl,hlt,p5⟩) fun H4 p4=>⟨zs.length - (i+1),by omega,rfl,hlt,p4⟩
  match os,ho' with
  | [o1,o2,o3],_ =>
    have e2:(((σ++[o1,o2,o3]).set σ.length (some v)).set (σ.length+1) (some w)).set (σ.length+2) (some z)=σ++[some v,some w,some z]:=by
     rw [set_append_right _ _ (Nat.le_refl _),Nat.sub_self,set_append_right _ _ (Nat.le_add_right _ 1),set_append_right _ _ (Nat.le_add_right _ 2)]
     rw [show (List.length σ+1) - List.length σ=1 by omega,show (List.length σ+2) - List.length σ=2 by omega]
     rfl
    refine ⟨t,[v,w,z],rfl,ht,rfl,v,[w,z],rfl,w,[z],rfl,z,[],rfl,rfl,?_⟩
    refine ⟨⟨[some v,some w,some z],e2,rfl⟩,?_⟩
    rw [e2]
    exact q5
 ·have ei:i=zs.length:=by omega
  subst ei
  exact .inl ⟨⟨zs,q,Nat.le_refl _⟩,hd D ys H2 hDn p⟩
section
variable {X:Cx} {elt iter:Expr} {x1 x2 x3:Str} {p1 p2 p3 pt pos:Pos} {k:Nat} {ifs:List Expr} {sc fsc:Scope} {N Nc:List Str} {wi:TI} {tt:TT} {te:TE}
theorem O3 {j:Nat} {y:Str} {py spos:Pos} (hE:X.env.scope=fsc) (hXN:X.N=N) (cn:CG N Nc [x1,x2,x3] sc fsc) (hc:X.calm=true) (hnd:X.N.Nodup) (hj:X.N[j]?=some y) (hy:X.env.scope.names.lookup y=some .local) (hi:PI X (.Tuple [.Name x1 p1,.Name x2 p2,.Name x3 p3] k pt) iter wi)
 (ht:∀cl s H ex,EU (X.inComp Nc sc cl s H ex) ifs tt) (he:∀cl s H ex,PE (X.inComp Nc sc cl s H ex) elt te)
 (hsw:swapsWith (.ListComp elt [⟨.Tuple [.Name x1 p1,.Name x2 p2,.Name x3 p3] k pt,iter,ifs,0⟩] sc pos) (some (.Name y py)) spos.line X.env=pure true)
 (hs:∀v,foldedSetIterable iter X.env v=pure v:=by intro _;rfl) :
 PS X (.Assign [.Name y py] (.ListComp elt [⟨.Tuple [.Name x1 p1,.Name x2 p2,.Name x3 p3] k pt,iter,ifs,0⟩] sc pos) spos) (Nj (GS 3 wi (KW X.K 3 (Cy (Bt N.length) (Cy (Bt (N.length+1)) (Cy (Bt (N.length+2)) JV)))) tt te) (Bt j)) :=
 JO hE hXN cn hc hnd hj hy hi (fun cl s H ex=>FG (X:=X.inComp Nc sc cl s H ex) hc (Bo (Cg (j:=0) cn rfl rfl) (Bo (Cg (j:=1) cn rfl rfl) (Bo (Cg (j:=2) cn rfl rfl) Eg)))) ht he hsw hs
end
end L2
namespace L2
open PySem PySem.Spec PyProof.Rows
structure OB (K:PySem.W.Frag) (x qual:Str) (st:Stmt) (f:Addr) (fd:FuncData):Prop where
 ex:∃(oc:Value) (od:Option Addr) (dV kV doc pm:Value) (an:Option Addr) (cdv ct:Value) (osl:Array (Option Value)),
  fd=PySem.W.fnOf x qual (Ed st) (CO st) (Ah st) dV kV doc pm an cdv ct/\K.lookup f=some ⟨oc,od,.func fd,osl⟩/\PySem.W.codeIn K cdv qual=true
 kp:PySem.W.keepIn K (.ref f)=true
section
variable {P:Program} {w:World} {K:PySem.W.Frag} {mg:Str->Option Value} {base:Heap}
theorem OB.ok {x qual:Str} {st:Stmt} {f:Addr} {fd:FuncData} {N ps:List Str} {k:Nat} {sp:Sp} (F:OB K x qual st f fd) (S:Ar N ps (Ah st)) (len:∀vs H Q E,sp vs H Q E->vs.length=ps.length)
 (hbody:∀(cdv:Value) (A:Around) (outer:List Env) (s:Shared) (H:Hp) (vs:List V) (Q:VK) (E:XK),C3 k (A.deeper (envOfC qual (Ah st) s.heap.objs.size f cdv))->sp vs H Q E ->
  ∃t,PSs (Lw CX0 P w K mg base N qual (Ah st) f cdv A outer s H E).nox (CO st) t/\t { nx:=fun _ H'=>Q .non H',rt:=Q } (EN N vs) H):A8 P w K mg base CX0 (k+1) f fd ps sp:=by
 obtain ⟨oc,od,dV,kV,doc,pm,an,cdv,ct,osl,rfl,lk,hcd⟩:=F.ex
 refine Rt lk hcd S len fun A outer s H vs Q E hr hsp=>?_
 obtain ⟨t,h,q⟩:=hbody cdv A outer s H vs Q E hr hsp
 exact ⟨t,h.nox,q⟩
theorem fund_mk {x qual:Str} {st:Stmt} {f:Addr} {oc:Value} {od an:Option Addr} {osl:Array (Option Value)} {dV kV doc pm cdv ct:Value} (l:K.lookup f=some ⟨oc,od,.func (PySem.W.fnOf x qual (Ed st) (CO st) (Ah st) dV kV doc pm an cdv ct),osl⟩)
 (c:PySem.W.codeIn K cdv qual=true) (k:PySem.W.keepIn K (.ref f)=true):OB K x qual st f (PySem.W.fnOf x qual (Ed st) (CO st) (Ah st) dV kV doc pm an cdv ct):=⟨⟨oc,od,dV,kV,doc,pm,an,cdv,ct,osl,rfl,l,c⟩,k⟩
end
structure CFn (K:PySem.W.Frag) (C:Addr) (m:Str) (f:Addr):Prop where
 sg:PySem.W.specialIn K (.ref C) "__getattribute__"=some (some (.builtin "type.__getattribute__"))
 rd:PySem.W.readsIn K C (.type "type")=true
 at_:PySem.W.findCls K (.ref C) (.type "type") m=some (.val (.ref f))
section
variable {X:Cx} {CX:CXT} {W:St->XK} {k:Nat} {f C:Addr} {fd:FuncData} {ps:List Str} {sp:Sp} {dvs:List V} {ds:List Value} {E:XK} {x m:Str} {p pos apos:Pos} {e o:Expr} {es:List Expr} {ta:TE} {t:TA}
theorem Sd {pl:Sem Bool} (F:A8 X.prog X.w X.K X.mg X.base CX k f fd ps sp) (hr:C3 k X.A) (hg:Gl X x) (hm:X.mg x=some (.ref C)) (c:CFn X.K C m f) (hk:PySem.W.keepIn X.K (.ref f)=true) (hb:A1 X.K fd ps ds) (hd:A5 dvs ds) (hx:Ez CX X E) (ha:PA X (e :: es) t)
 (hdb:(x == ("__debug__":Str))=false:=by decide) (hst:starEach (e :: es) X.env=(false,eval e X.env) :: starEach es X.env:=by rfl) (hpl:(backTo pos (starEach es X.env)).any (·.1)=false:=by rfl)
 (ht:eval (.Call (.Attribute (.Name x p) m apos) (e :: es) [] pos) X.env=(do
  let ov <- eval (.Name x p) X.env
  standAt apos.atName
  let (f,first) <- holding [ov] (getMethod ov m pl)
  callWith pos f first (backTo pos (starEach (e :: es) X.env)) (backToKw pos (keywordEach [] X.env))):=by rfl) :
 PE X (.Call (.Attribute (.Name x p) m apos) (e :: es) [] pos) (R1 sp dvs E t):=by
 intro pins s σ H Q I h
 refine PySem.W.methodCall_KW (pl:=pl) (Gy I hg hm ?_ hdb) ht
 refine PySem.W.method_cls I.kIn c.sg (PySem.W.cls_value I.kIn c.rd c.at_ rfl ?_)
 refine PySem.W.callWith_K (first:=[]) (h₀:=X.base) I.ok.mod.kin hk (thn (ha pos pins _ σ H _ (I.tok _) h) fun us s1 ⟨vs,H1,I1,r,q⟩=>⟨I1.kIn,?_⟩) hst hpl
 exact Lh F hr hb hd hx I1 r q
end
end L2
namespace L2
open PySem PySem.Spec PyProof.Rows
noncomputable def Cx.inCompC (X:Cx) (Nc:List Str) (sc:Scope) (x:Str) (cl:List (Str × Addr)) (s:Shared) (H:Hp) (ex:List Addr):Cx :=
 { X with N:=Nc,s₀:=s,H₀:=H,env:=compEnvC sc ((x,s.heap.objs.size+1) :: cl) s.heap.objs.size X.env,outer:=X.stack,stack:=X.stack,ex:=ex,fn:=fun y=>decide (y=x),pn:=[],xe:=fun _ _=>False }
structure Ht (N Nc:List Str) (x:Str) (sc fsc:Scope):Prop where
 kind:sc.kind=.function
 one:(sc.names.filter fun y=>y.2 == .cell)=[(x,.cell)]
 nm:∀y∈sc.names,y.2=.local->sc.names.lookup y.1=some .local
 own:sc.names.lookup x=some .cell
 fr:∀y∈sc.names,y.2=.free->fsc.names.lookup y.1=some .cell\/fsc.names.lookup y.1=some .free
 len:Nc.length=N.length+1
 nd:Nc.Nodup
 last:Nc[N.length]?=some x
 slot:((List.range N.length).all fun i=>match Nc[i]? with
  | some y=>(match sc.names.lookup y with | some .free=>N[i]? == some y | some .local=>false | some .cell=>false | _=>true)
  | none=>true)=true
theorem Ht.at {N Nc:List Str} {x:Str} {sc fsc:Scope} (C:Ht N Nc x sc fsc) {i:Nat} {y:Str} (hi:i < N.length) (h:Nc[i]?=some y):sc.names.lookup y≠some .local/\sc.names.lookup y≠some .cell/\(sc.names.lookup y=some .free->N[i]?=some y):=by
 have q:=all_eq_true.mp C.slot i (mem_range.mpr hi)
 rw [h] at q
 dsimp only at q
 cases e:sc.names.lookup y with
 | none=>exact ⟨fun z=>(nomatch z),fun z=>(nomatch z),fun z=>(nomatch z)⟩
 | some k =>
   rw [e] at q
   cases k with
   | «local»=>exact absurd (show false=true from q) Bool.false_ne_true
   | cell=>exact absurd (show false=true from q) Bool.false_ne_true
   | free=>exact ⟨fun z=>(nomatch z),fun z=>(nomatch z),fun _=>by simpa using q⟩
   | _=>exact ⟨fun z=>(nomatch z),fun z=>(nomatch z),fun z=>(nomatch z)⟩
theorem Cq:∀(names:List (Str × NameKind)) (n:Nat) (acc:List (Str × Addr)),cellsFrom n names acc=cellsFrom n (names.filter fun y=>y.2 == .cell) acc
 | [],_,_=>rfl
 | (y,k) :: r,n,acc=>by
   rw [filter_cons]
   cases e:k == NameKind.cell with
   | true=>simp only [if_true,cellsFrom,e];exact Cq r _ _
   | false=>simp only [Bool.false_eq_true,if_false,cellsFrom,e];exact Cq r _ _
theorem Cp:∀(names:List (Str × NameKind)) (h:Heap),pushCells h names=pushCells h (names.filter fun y=>y.2 == .cell)
 | [],_=>rfl
 | (y,k) :: r,h=>by
   rw [filter_cons]
   cases e:k == NameKind.cell with
   | true=>simp only [if_true,pushCells,e];exact Cp r _
   | false=>simp only [Bool.false_eq_true,if_false,pushCells,e];exact Cp r _
theorem HN {M:Model} {A:Around} {E:Value->Shared->Prop} {s:Shared} {scope:Scope} {globals:Addr} {closure:List (Str × Addr)} {qual:Str} {outer:Env} {x:Str} {Q:Env->Shared->Prop}
 (one:(scope.names.filter fun y=>y.2 == .cell)=[(x,.cell)])
 (hQ:Q (newEnv scope s.heap.objs.size globals ((x,s.heap.objs.size+1) :: closure) qual none .none (some outer) builtinsNs) { s with heap:=(s.heap.push { cls:=.type "dict",data:=.dict #[] }).push { cls:=.type "cell",data:=.cell none } }) :
 wpAny M A (newFunctionEnv scope globals closure [] qual none .none (some outer)) Q E s:=by
 simp only [newFunctionEnv,Option.isSome_some,if_true]
 refine wpAny_bind (wpAny_alloc ?_)
 refine wpAny_bind (wpAny_layCells _ (fun name kind cells=>by cases hkc:kind == NameKind.cell <;> simp [hkc]) _ _ _ _ ?_)
 rw [Cq,Cp,one]
 rw [show ({ s with heap:=s.heap.push { cls:=.type "dict",data:=.dict #[] } }:Shared).heap.objs.size=s.heap.objs.size+1 from Heap.size_push ..]
 rw [forIn_nil]
 exact wpAny_bind (wpAny_pure (wpAny_pure hQ))
section
variable {X:Cx} {elt iter:Expr} {x:Str} {px pos:Pos} {ifs:List Expr} {sc fsc:Scope} {N Nc:List Str} {wi:TI} {tt:TT} {te:TE}
theorem Lk (hE:X.env.scope=fsc) (hXN:X.N=N) (cn:Ht N Nc x sc fsc) (hc:X.calm=true)
 (ht:∀cl s H ex,EU (X.inCompC Nc sc x cl s H ex) ifs tt) (he:∀cl s H ex,PE (X.inCompC Nc sc x cl s H ex) elt te)
 {cl:List (Str × Addr)} (clS:∀y c,cl.lookup y=some c->X.env.cells.lookup y=some c) (clH:∀y∈sc.names,y.2=.free->∃c,cl.lookup y.1=some c)
 {pins:List (Addr × Obj)} {σ:St} {H2:Hp} {s2:Shared} {it:Addr} {fp:List Addr} {tn:Nat->Heap->Prop} {J:It} {Q:VK} {E:Value->Shared->Prop}
 (I2:Inv X pins σ H2 s2) (T:JJ X.prog X.w X.K (.Name x px) J fp it tn) (st2:tn 0 s2.heap) (f2:∀b∈fp,Go X pins H2 b)
 (h2:∀D,H2 D=none->∃W:Nat->Nat->List V->Hp->Prop,(∃m,W 0 m [] (upd H2 D (.lst [])))/\∀i m ys H2,W i m ys H2 ->
  H2 D=some (.lst ys)/\((J.stop i H2/\Q (.ref D) H2)\/(J.go i H2/\ys.length < sizeLine/\∀x H3,J.yld i H2 x H3->tt (σ++[some x]) H3 fun b H4=>if b=true then te (σ++[some x]) H4 fun y H5=>H5 D=some (.lst ys)/\∃m',m' < m/\W (i+1) m' (ys++[y]) (upd H5 D (.lst (ys++[y])))
   else ∃m',m' < m/\W (i+1) m' ys H4))) :
 wpAny (model X.prog X.w) X.A (newList []) (fun acc s₃=>wpAny (model X.prog X.w) X.A (newFunctionEnv sc X.env.globals cl [] X.env.qual none .none (some X.env)) (fun cenv s₄ =>
  codeAny (model X.prog X.w) X.A (.compStart (.ListComp elt [⟨.Name x px,iter,ifs,0⟩] sc pos) 0 (.ref it) acc { cenv with scope:=relabel sc X.env })
   (fun r s'=>r=.ok .next/\∃D H',acc=.ref D/\Inv X pins σ H' s'/\Q (.ref D) H'/\OG X pins H' cenv.locals/\∃m,s'.heap.Ns cenv.locals m) s₄) E s₃) E s2:=by
 refine wpAny_newObj_type (HN cn.one ?_)
 dsimp only
 have hD:H2 s2.heap.objs.size=none:=I2.hok.fresh (Nat.le_refl _)
 obtain ⟨W,⟨m0,w0⟩,turn⟩:=h2 s2.heap.objs.size hD
 have I3:Inv X pins σ (upd H2 s2.heap.objs.size (.lst [])) { s2 with heap:=s2.heap.push { cls:=.type "list",dict:=none,data:=.seq ([]:List Value).toArray } } :=
  I2.laid (t':=s2.toks) (fun b u e=>Heap.get?_push_of_some _ e) (Nat.le_refl _) ⟨Nat.zero_le _,[],0,.nil,Heap.get?_push_size _ rfl⟩
 generalize hs3:({ s2 with heap:=s2.heap.push { cls:=.type "list",dict:=none,data:=.seq ([]:List Value).toArray } }:Shared)=s3 at I3
 have eh:s3.heap=s2.heap.push { cls:=.type "list",dict:=none,data:=.seq ([]:List Value).toArray }:=by rw [<- hs3]
 generalize hH3:upd H2 s2.heap.objs.size (.lst [])=H3 at I3 w0
 rw [<- eh]
 have hns₁:((s3.heap.push { cls:=.type "dict",data:=.dict #[] }).push { cls:=.type "cell",data:=.cell none }).Ns s3.heap.objs.size (fun _=>none):=(Heap.Ns.new s3.heap (.type "dict")).keeps fun b o e=>Heap.get?_push_of_some _ e
 have hcell₁:((s3.heap.push { cls:=.type "dict",data:=.dict #[] }).push { cls:=.type "cell",data:=.cell none }).IsCell (s3.heap.objs.size+1) none:=by
  refine ⟨{ cls:=.type "cell",data:=.cell none },?_,rfl⟩
  have:=Heap.get?_push_size (s3.heap.push { cls:=.type "dict",data:=.dict #[] }) (o:={ cls:=.type "cell",data:=.cell none }) rfl
  rw [Heap.size_push] at this
  exact this
 have old:∀b o,s3.heap.get? b=some o->((s3.heap.push { cls:=.type "dict",data:=.dict #[] }).push { cls:=.type "cell",data:=.cell none }).get? b=some o:=fun b o e=>Heap.get?_push_of_some _ (Heap.get?_push_of_some _ e)
 have e2:({ s2 with heap:=(s3.heap.push { cls:=.type "dict",data:=.dict #[] }).push { cls:=.type "cell",data:=.cell none } }:Shared)={ s3 with heap:=(s3.heap.push { cls:=.type "dict",data:=.dict #[] }).push { cls:=.type "cell",data:=.cell none },toks:=s3.toks }:=by rw [<- hs3]
 rw [e2]
 generalize (s3.heap.push { cls:=.type "dict",data:=.dict #[] }).push { cls:=.type "cell",data:=.cell none }=h₁ at hns₁ hcell₁ old ⊢
 have below2:∀b,b∈fp->b < s3.heap.objs.size:=fun b hb=>by
  obtain ⟨o,e,_⟩:=T.obj _ _ st2 b hb
  have:s2.heap.objs.size<=s3.heap.objs.size:=by rw [eh,Heap.size_push];exact Nat.le_succ _
  exact Nat.lt_of_lt_of_le (Heap.lt_size e) this
 have old2:∀b o,s2.heap.get? b=some o->s3.heap.get? b=some o:=fun b o e=>by rw [eh];exact Heap.get?_push_of_some _ e
 have hsz3:s2.heap.objs.size < s3.heap.objs.size:=by rw [eh,Heap.size_push];exact Nat.lt_succ_self _
 have fpFree:∀b∈fp,H3 b=none:=fun b hb=>by
  rw [<- hH3,Ap (fun z=>?_)]
  ·exact (f2 b hb).1
  ·obtain ⟨o,e,_⟩:=T.obj _ _ st2 b hb
   have:=Heap.lt_size e
   rw [z] at this
   exact Nat.lt_irrefl _ this
 have rl:∀y,(relabel sc X.env).names.lookup y=(sc.names.lookup y).map fun k=>if (k == NameKind.free && X.env.scope.kind == .function && X.env.kindOf y == some .cell) then NameKind.cell else k:=fun y=>Ca X.env sc.names y
 have freeOf:∀y,sc.names.lookup y=some .free->∃c,cl.lookup y=some c:=fun y e=>clH (y,.free) (PySem.mem_of_lookup e) rfl
 have onlyX:∀y,sc.names.lookup y=some .cell->y=x:=fun y e=>by
  have m:(y,NameKind.cell)∈sc.names.filter fun y=>y.2 == .cell:=mem_filter.mpr ⟨PySem.mem_of_lookup e,rfl⟩
  rw [cn.one] at m
  exact (Prod.mk.inj (mem_singleton.mp m)).1
 have clD:∀y c,((x,s3.heap.objs.size+1) :: cl).lookup y=some c->(y=x/\c=s3.heap.objs.size+1)\/(y≠x/\cl.lookup y=some c):=fun y c e=>by
  rw [lookup_cons] at e
  cases hb:y == x with
  | true=>rw [hb] at e;exact .inl ⟨by simpa using hb,(Option.some.inj e).symm⟩
  | false=>rw [hb] at e;exact .inr ⟨by simpa using hb,e⟩
 have clN:∀y c,y≠x->cl.lookup y=some c->((x,s3.heap.objs.size+1) :: cl).lookup y=some c:=fun y c n e=>by
  rw [lookup_cons,show (y == x)=false by simpa using n]
  exact e
 have clX:((x,s3.heap.objs.size+1) :: cl).lookup x=some (s3.heap.objs.size+1):=by rw [lookup_cons,show (x == x)=true by simp]
 have isFree:∀y,((relabel sc X.env).names.lookup y=some .cell\/(relabel sc X.env).names.lookup y=some .free)->(sc.names.lookup y=some .free\/y=x):=fun y h=>by
  rw [rl y] at h
  cases e:sc.names.lookup y with
  | none=>rw [e] at h;rcases h with z | z <;> exact absurd z (by simp)
  | some k =>
    rw [e] at h
    cases k with
    | free=>exact .inl rfl
    | cell=>exact .inr (onlyX y e)
    | «local»=>rcases h with z | z <;> exact absurd z (by simp)
    | _=>rcases h with z | z <;> exact absurd z (by simp)
 have ownC:(relabel sc X.env).names.lookup x=some .cell:=by rw [rl x,cn.own];rfl
 have exOk:∀b∈fp,b≠s3.heap.objs.size/\(∀y c,X.env.cells.lookup y=some c->c≠b)/\b ∉ frs X.stack:=fun b hb=>by
  obtain ⟨g0,g1,g2,g3,g4,g5⟩:=f2 b hb
  refine ⟨Nat.ne_of_lt (below2 b hb),g4,fun z=>?_⟩
  rcases mem_cons.mp (I2.stkSub b z) with z | z
  ·exact g1 z
  ·exact g2 z
 have hCnew:X.s₀.heap.objs.size<=s3.heap.objs.size:=I3.sz
 have hCcell:∀y c,X.env.cells.lookup y=some c->c≠s3.heap.objs.size:=fun y c e z=>by
  obtain ⟨v,q⟩:=I3.cell y c e
  have:=q.lt
  rw [z] at this
  exact Nat.lt_irrefl _ this
 have hCpin:∀p∈X.pn++pins,p.1≠s3.heap.objs.size:=fun p hp z=>by
  have:=Heap.lt_size (I3.pin p hp).1
  rw [z] at this
  exact Nat.lt_irrefl _ this
 have ltC:∀y c,X.env.cells.lookup y=some c->c < s3.heap.objs.size:=fun y c e=>by
  obtain ⟨v,q⟩:=I3.cell y c e
  exact q.lt
 have injC:∀y z c,((x,s3.heap.objs.size+1) :: cl).lookup y=some c->((x,s3.heap.objs.size+1) :: cl).lookup z=some c->y=z:=fun y z c h1 h2=>by
  rcases clD y c h1 with ⟨e1,e2⟩ | ⟨_,e2⟩ <;> rcases clD z c h2 with ⟨f1,f2'⟩ | ⟨_,f2'⟩
  ·rw [e1,f1]
  ·exact absurd (ltC z c (clS z c f2')) (by rw [e2];exact Nat.not_lt.mpr (Nat.le_succ _))
  ·exact absurd (ltC y c (clS y c e2)) (by rw [f2'];exact Nat.not_lt.mpr (Nat.le_succ _))
  ·exact I3.ok.inj y z c (clS y c e2) (clS z c f2')
 have hasC:∀y,((relabel sc X.env).names.lookup y=some .cell\/(relabel sc X.env).names.lookup y=some .free)->∃c,((x,s3.heap.objs.size+1) :: cl).lookup y=some c:=fun y hy=>by
  by_cases e:y=x
  ·exact ⟨_,by rw [e];exact clX⟩
  ·rcases isFree y hy with f | f
   ·obtain ⟨c,hc⟩:=freeOf y f
    exact ⟨c,clN y c e hc⟩
   ·exact absurd f e
 have exC:∀b∈fp,∀y c,((x,s3.heap.objs.size+1) :: cl).lookup y=some c->c≠b:=fun b hb y c h=>by
  rcases clD y c h with ⟨_,e2⟩ | ⟨_,e2⟩
  ·exact fun z=>absurd (below2 b hb) (by rw [<- z,e2];exact Nat.not_lt.mpr (Nat.le_succ _))
  ·exact (exOk b hb).2.1 y c (clS y c e2)
 have okc:(X.inCompC Nc sc x cl s3 H3 fp).Ok:=by
  refine ⟨I3.ok.mod,cn.kind,I3.ok.glob,I3.ok.blt,Nat.le_refl _,injC,hasC,fun y c hf e=>?_,I3.ok.hd,I3.ok.frames,.inl rfl,
   fun b hb=>⟨(exOk b hb).1,exC b hb⟩,fun b o e=>I3.bs b o e,Nat.le_trans I3.ok.bsz I3.sz,fun b o e hb=>?_,fun b hb=>(exOk b hb).2.2,I3.stack,I3.stkFree⟩
  ·have ey:y=x:=of_decide_eq_true hf
   rcases clD y c e with ⟨_,e2⟩ | ⟨n,_⟩
   ·show s3.heap.objs.size<=c
    omega
   ·exact absurd ey n
  obtain ⟨g0,g1,g2,g3,g4,g5⟩:=f2 b hb
  rcases g3 with z | z
  ·exact I3.ok.noex b o e z
  ·exact absurd (Heap.lt_size (I3.ok.bs b o e).1) (Nat.not_lt.mpr z)
 have hlen:σ.length=N.length:=by rw [I3.len,hXN]
 have Ic:Inv (X.inCompC Nc sc x cl s3 H3 fp) [] (σ++[none]) H3 { s3 with heap:=h₁,toks:=s3.toks }:=by
  refine ⟨okc,rfl,I3.bare,Un.kept old,⟨_,hns₁,fun i y v h1 h2 h3=>?_⟩,fun y c e=>?_,I3.hok.fresh (Nat.le_refl _),fun y c e=>?_,fun p hp=>absurd (show p∈([]:List (Addr × Obj)) from hp) (by simp),I3.hok.kept old,?_⟩
  ·have hi:i < σ.length:=by
    by_cases hi:i < σ.length
    ·exact hi
    ·rw [List.getElem?_append_right (Nat.not_lt.mp hi)] at h2
     cases e:i - σ.length with
     | zero=>rw [e] at h2;cases h2
     | succ k=>rw [e] at h2;simp at h2
   rw [List.getElem?_append_left hi] at h2
   have hi':i < N.length:=by rw [<- hlen];exact hi
   obtain ⟨n1,n2,n3⟩:=cn.at hi' h1
   have hf:sc.names.lookup y=some .free:=by
    rcases h3 with z | z
    ·exfalso
     have z':(relabel sc X.env).names.lookup y=some .local:=z
     rw [rl y] at z'
     cases e:sc.names.lookup y with
     | none=>rw [e] at z';simp at z'
     | some k =>
       rw [e] at z'
       cases k with
       | «local»=>exact n1 e
       | cell=>exact n2 e
       | free =>
         simp only [Option.map_some,Option.some.injEq] at z'
         split at z' <;> cases z'
       | _=>simp at z'
    ·rcases isFree y z with f | f
     ·exact f
     ·exact absurd (by rw [f];exact cn.own) n2
   have hN:X.N[i]?=some y:=by rw [hXN];exact n3 hf
   obtain ⟨m,hn,hl⟩:=I3.loc
   have hv:fsc.names.lookup y=some .cell\/fsc.names.lookup y=some .free:=cn.fr (y,.free) (PySem.mem_of_lookup hf) rfl
   have hv':X.env.scope.names.lookup y=some .cell\/X.env.scope.names.lookup y=some .free:=by rw [hE];exact hv
   obtain ⟨u,ru,lk⟩:=hl i y v hN h2 (.inr hv')
   refine ⟨u,ru,.inr ⟨?_,?_⟩⟩
   ·show (relabel sc X.env).names.lookup y=some .cell\/(relabel sc X.env).names.lookup y=some .free
    rw [rl y,hf]
    simp only [Option.map_some,Option.some.injEq]
    split
    ·exact .inl rfl
    ·exact .inr rfl
   ·rcases lk with ⟨kl,_⟩ | ⟨_,c,hc,hcell⟩
    ·exfalso
     have kl':X.env.scope.names.lookup y=some .local:=kl
     rw [kl'] at hv'
     rcases hv' with z | z <;> cases z
    ·obtain ⟨d,hd⟩:=freeOf y hf
     have ed:=clS y d hd
     rw [hc] at ed
     cases ed
     exact ⟨c,clN y c (fun z=>n2 (by rw [z];exact cn.own)) hd,hcell.keeps old⟩
  ·rcases clD y c e with ⟨_,e2⟩ | ⟨_,e2⟩
   ·exact ⟨none,by rw [e2];exact hcell₁⟩
   ·obtain ⟨v,q⟩:=I3.cell y c (clS y c e2)
    exact ⟨v,q.keeps old⟩
  ·rcases clD y c e with ⟨_,e2⟩ | ⟨_,e2⟩
   ·exact I3.hok.fresh (by omega)
   ·exact I3.freeC y c (clS y c e2)
  ·show (σ++[none]).length=Nc.length
   rw [length_append,hlen,cn.len]
   rfl
 have stc:tn 0 ({ s3 with heap:=h₁,toks:=s3.toks }:Shared).heap:=T.keep _ _ _ st2 fun b _ o e=>old b o (old2 b o e)
 have hDf:s2.heap.objs.size ∉ fp:=fun hm=>by
  obtain ⟨o,e,_⟩:=T.obj _ _ st2 _ hm
  exact Nat.lt_irrefl _ (Heap.lt_size e)
 have fpc:∀{pins':List (Addr × Obj)} {H':Hp},pins'=[]->(∀b∈fp,H' b=none)->∀b∈fp,Go (X.inCompC Nc sc x cl s3 H3 fp) pins' H' b:=fun {pins' H'} hp hn b hb=>by
  subst hp
  exact ⟨hn b hb,(exOk b hb).1,(exOk b hb).2.2,.inl hb,exC b hb,fun p hp=>absurd (show p∈([]:List (Addr × Obj)) from hp) (by simp)⟩
 have hg:PG (X.inCompC Nc sc x cl s3 H3 fp) (.Name x px) (Bt σ.length):=AD (X:=X.inCompC Nc sc x cl s3 H3 fp) cn.nd (by show Nc[σ.length]?=some x;rw [hlen];exact cn.last) (.inr ownC) (.inl (decide_eq_true rfl))
 have loop:∀s₄:Shared,s₄={ s3 with heap:=h₁,toks:=s3.toks } ->
  codeAny (model X.prog X.w) X.A (.compLoop (.ListComp elt [⟨.Name x px,iter,ifs,0⟩] sc pos) 0 (.ref it) (.ref s2.heap.objs.size) (compEnvC sc ((x,s3.heap.objs.size+1) :: cl) s3.heap.objs.size X.env))
   (fun r s'=>r=.ok .next/\∃D H',(Value.ref s2.heap.objs.size)=.ref D/\Inv X pins σ H' s'/\Q (.ref D) H'/\OG X pins H' s3.heap.objs.size/\∃m,s'.heap.Ns s3.heap.objs.size m) s₄:=by
  rintro s₄ rfl
  refine codeAny_compLoop_tests (fun n s'=>∃(i:Nat) (o:Option V) (H':Hp) (ys:List V),Inv (X.inCompC Nc sc x cl s3 H3 fp) [] (σ++[o]) H' s'/\tn i s'.heap/\(∀b∈fp,H' b=none)/\W i n ys H') ?_ m0 ⟨0,none,H3,[],Ic,stc,fpFree,w0⟩
  rintro n s' ⟨i,o,H',ys,I',st',fr',w'⟩
  obtain ⟨hDl,tw⟩:=turn i n ys H' w'
  rcases tw with ⟨stop,q⟩ | ⟨go,hz,step⟩
  ·
   refine thn (T.done (X.inCompC Nc sc x cl s3 H3 fp) rfl rfl rfl hc i [] s' _ H' _ I' (fpc rfl fr') st' stop) fun r s5 ⟨hr,I5⟩=>?_
   subst hr
   have Ix:Inv X pins σ H' s5:=I3.call' (ch:=fp) I5.os I5.base I5.hok I5.bare fun b hb=>by
    obtain ⟨g0,g1,g2,g3,g4,g5⟩:=f2 b hb
    exact ⟨g3,g1,g4,g5⟩
   have hCf:H' s3.heap.objs.size=none:=I5.free
   obtain ⟨m,hn,_⟩:=I5.loc
   exact ⟨rfl,s2.heap.objs.size,H',rfl,Ix,q,⟨hCf,fun z=>Nat.lt_irrefl _ (by have:=I3.lt;rw [<- z] at this;exact this),hCnew,hCcell,hCpin⟩,m,hn⟩
  ·
   refine thn (T.item (X.inCompC Nc sc x cl s3 H3 fp) rfl rfl rfl hc i [] s' _ H' _ I' (fpc rfl fr') st' go) fun r s5 ⟨u,hr,h4⟩=>?_
   subst hr
   dsimp only
   have e0:letOwnedTupleGo (.Name x px) (.ref it) u=pure ():=rfl
   have e1:(letOwnedTupleGo (.Name x px) (.ref it) u >>= fun _=>assign (.Name x px) (compEnvC sc ((x,s3.heap.objs.size+1) :: cl) s3.heap.objs.size X.env) u)=assign (.Name x px) (compEnvC sc ((x,s3.heap.objs.size+1) :: cl) s3.heap.objs.size X.env) u:=by rw [e0,pure_bind]
   rw [<- e1]
   refine wpAny_bind (thn h4 fun _ s6 ⟨xv,H5,I5,r5,y5,st5,fr5⟩=>?_)
   have I5':=I5.pinned (fpc rfl fr5) (T.obj _ _ st5)
   have again:∀{H7:Hp} {s7:Shared} {m':Nat} {ys':List V},Inv (X.inCompC Nc sc x cl s3 H3 fp) ([]++Fv fp s6.heap) (σ++[some xv]) H7 s7->m' < n->W (i+1) m' ys' H7 ->
    ∃m,m < n/\∃(i:Nat) (o:Option V) (H':Hp) (ys:List V),Inv (X.inCompC Nc sc x cl s3 H3 fp) [] (σ++[o]) H' s7/\tn i s7.heap/\(∀b∈fp,H' b=none)/\W i m ys H':=fun {H7 s7 m' ys'} I7 hm w7=>by
    refine ⟨m',hm,i+1,some xv,H7,ys',I7.unpinned,T.keep _ _ _ st5 fun b hb o e=>(I7.pin (b,o) (mem_append_right _ (mem_append_right _ (Co hb e)))).1,fun b hb=>?_,w7⟩
    obtain ⟨o',e,d⟩:=T.obj _ _ st5 b hb
    exact (I7.pin (b,o') (mem_append_right _ (mem_append_right _ (Co hb e)))).2.1
   refine Et (hg _ s6 _ H5 xv u (fun σ' H''=>σ'=σ++[some xv]/\H''=H5) I5' r5 ⟨K0,rfl⟩) fun _ s7 ⟨σ7,H7,I7,e7,e7'⟩=>?_
   subst e7
   subst e7'
   refine Et (ht cl s3 H3 fp _ s7 _ _ _ I7 (step xv _ y5)) fun b s8 ⟨H8,I8,q8⟩=>?_
   cases b with
   | false =>
     rw [if_neg Bool.false_ne_true] at q8 ⊢
     obtain ⟨m',hm,w8⟩:=q8
     exact again I8 hm w8
   | true =>
     rw [if_pos rfl] at q8 ⊢
     refine Et (he cl s3 H3 fp _ s8 _ H8 _ I8 q8) fun y s9 ⟨yv,H9,I9,r9,hD9,m',hm,w9⟩=>?_
     refine Et (Bu _ s9 _ H9 (.ref s2.heap.objs.size) [yv] (.ref s2.heap.objs.size) [y] (fun v H=>v=.non/\H=upd H9 s2.heap.objs.size (.lst (ys++[yv]))) I9 rfl (.cons r9 .nil) ⟨_,ys,yv,rfl,rfl,hD9,hz,rfl,rfl⟩) fun _ s10 ⟨v10,H10,I10,r10,e10,e11⟩=>?_
     subst e11
     exact again I10 hm w9
 exact codeAny_compStart_list (loop _ rfl) (T.self _ 0 _ _ _ stc (loop _ rfl))
theorem Nz (I:∀y,(X.env.kindOf y=some .cell\/X.env.kindOf y=some .free)->∃c,X.env.cells.lookup y=some c) (hE:X.env.scope=fsc) (cn:Ht N Nc x sc fsc):∀y∈sc.names,y.2=.free->∃c,X.env.cells.lookup y.1=some c:=fun y hy hf=>by
 refine I y.1 ?_
 show X.env.scope.names.lookup y.1=some .cell\/X.env.scope.names.lookup y.1=some .free
 rw [hE]
 exact cn.fr y hy hf
theorem PK (hE:X.env.scope=fsc) (hXN:X.N=N) (cn:Ht N Nc x sc fsc) (hc:X.calm=true) (hi:PI X (.Name x px) iter wi)
 (ht:∀cl s H ex,EU (X.inCompC Nc sc x cl s H ex) ifs tt) (he:∀cl s H ex,PE (X.inCompC Nc sc x cl s H ex) elt te)
 (hs:∀v,foldedSetIterable iter X.env v=pure v:=by intro _;rfl):PE X (.ListComp elt [⟨.Name x px,iter,ifs,0⟩] sc pos) (KO wi tt te):=by
 intro pins s σ H Q I h
 obtain ⟨cl,hcl,clS,clH⟩:=CI (env:=X.env) (sc:=sc) (Nz I.ok.has hE cn)
 rw [eval_ListComp]
 refine wpAny_comprehension_free (use:=none) rfl hs hcl cn.kind cn.nm (thn (hi pins s σ H _ I h) fun v s1 h1=>thn h1 fun itv s2 h2=>?_)
 obtain ⟨it,fp,tn,J,H2,rfl,I2,T,st2,f2,h2⟩:=h2
 refine thn (Lk (pos:=pos) (iter:=iter) hE hXN cn hc ht he clS clH I2 T st2 f2 h2) fun acc s3 h3=>thn h3 fun cenv s4 h4=>codeAny_mono h4 fun r s' h5=>?_
 obtain ⟨rfl,D,H',rfl,I',q,cloc,m,hn⟩:=h5
 exact ⟨m,hn,fun h' k=>⟨.ref D,H',I'.sameBut cloc k,rfl,q⟩⟩
end
noncomputable def Kx (sc fsc:Scope):Scope:={ sc with names:=sc.names.map fun (n,k)=>if (k == .free && fsc.kind == .function && fsc.names.lookup n == some .cell) then (n,.cell) else (n,k) }
theorem KM {X:Cx} {sc fsc:Scope} (h:X.env.scope=fsc):relabel sc X.env=Kx sc fsc:=by
 subst h
 rfl
section
variable {X:Cx} {elt iter:Expr} {x y:Str} {py pos:Pos} {ifs:List Expr} {sc sc2 fsc:Scope} {Nc Nd:List Str} {wi:TI} {tt:TT} {te:TE} {cl:List (Str × Addr)} {s:Shared} {H:Hp} {ex:List Addr}
theorem Ny (hE:X.env.scope=fsc) (cn:FT Nc Nd y sc2 (Kx sc fsc)) (hc:X.calm=true) (hi:PI (X.inCompC Nc sc x cl s H ex) (.Name y py) iter wi)
 (ht:∀cl' s' H' ex',EU ((X.inCompC Nc sc x cl s H ex).inComp Nd sc2 cl' s' H' ex') ifs tt) (he:∀cl' s' H' ex',PE ((X.inCompC Nc sc x cl s H ex).inComp Nd sc2 cl' s' H' ex') elt te)
 (hs:∀v,foldedSetIterable iter (X.inCompC Nc sc x cl s H ex).env v=pure v:=by intro _;rfl):PE (X.inCompC Nc sc x cl s H ex) (.ListComp elt [⟨.Name y py,iter,ifs,0⟩] sc2 pos) (KO wi tt te) :=
 C7 (X:=X.inCompC Nc sc x cl s H ex) (fsc:=Kx sc fsc) (N:=Nc) (KM hE) rfl cn hc hi ht he hs
theorem GZ (hE:X.env.scope=fsc) (cn:FT Nc Nd y sc2 (Kx sc fsc)) (hc:X.calm=true) (hi:PI (X.inComp Nc sc cl s H ex) (.Name y py) iter wi)
 (ht:∀cl' s' H' ex',EU ((X.inComp Nc sc cl s H ex).inComp Nd sc2 cl' s' H' ex') ifs tt) (he:∀cl' s' H' ex',PE ((X.inComp Nc sc cl s H ex).inComp Nd sc2 cl' s' H' ex') elt te)
 (hs:∀v,foldedSetIterable iter (X.inComp Nc sc cl s H ex).env v=pure v:=by intro _;rfl):PE (X.inComp Nc sc cl s H ex) (.ListComp elt [⟨.Name y py,iter,ifs,0⟩] sc2 pos) (KO wi tt te) :=
 C7 (X:=X.inComp Nc sc cl s H ex) (fsc:=Kx sc fsc) (N:=Nc) (KM hE) rfl cn hc hi ht he hs
end
theorem K7 {X:Cx} {tg e:Expr} {te:TE} (K:PySem.W.Frag) (he:PE X e te) (h:X.K=K:=by rfl):PI X tg e (Rz K te):=by
 subst h
 exact Bd he
end L2
namespace L2
open PySem PySem.W PySem.Spec PyProof.Rows
section
variable {X:Cx} {pins:List (Addr × Obj)} {σ:St} {H:Hp} {s:Shared} {c P:Addr} {pos:Pos} {params:Arguments} {body:Expr} {sc:Scope} {cl:List (Str × Addr)} {q:Str} {M:Model} {A:Around} {E:Value->Shared->Prop} {Q:Value->Shared->Prop}
end
section
variable {X:Cx} {pins:List (Addr × Obj)} {σ:St} {H:Hp} {s:Shared} {params:Arguments} {body:Expr} {sc fsc:Scope} {cl:List (Str × Addr)} {q x:Str} {A:Around} {N Nc:List Str} {f c':Addr} {te:TE} {E:Value->Shared->Prop}
end
section
variable {X:Cx} {pins:List (Addr × Obj)} {σ:St} {H:Hp}
variable {xs:List V} {l f I S:Addr}
end
section
variable {M:Model} {A:Around} {E:Value->Shared->Prop} {s:Shared} {env:Env}
theorem PF {pos:Pos} {T:String} {e:Expr} {kws:List Keyword} {Q:Value->Shared->Prop}
 (h:wpAny M A (spliced (backTo pos (starEach [e] env))) (fun vs z=>wpAny M A (evalAll ((backToKw pos (keywordEach kws env)).map (·.2))) (fun us y=>wpAny M A (call (.builtin T) vs (((backToKw pos (keywordEach kws env)).filterMap (·.1)).zip us)) Q E y) E z) E s)
 (he:backTo pos (starEach [e] env)=(false,eval e env) :: backTo pos (starEach [] env)) (hp:(backTo pos (starEach [e] env)).any (·.1)=false)
 (ha:(backToKw pos (keywordEach kws env)).all (·.1.isSome)=true) (hk:(backToKw pos (keywordEach kws env)).any (·.1.isNone)=false) :
 wpAny M A (callWith pos (.builtin T) [] (backTo pos (starEach [e] env)) (backToKw pos (keywordEach kws env))) Q E s:=by
 unfold callWith
 have y:wpAny M A (evalArgs (.builtin T) true (backTo pos (starEach [e] env)) (backToKw pos (keywordEach kws env))) (fun a z=>wpAny M A (call (.builtin T) ([]++a.pos) a.kw) Q E z) E s:=by
  rw [he] at h ⊢
  exact evalArgs_kwB ha h
 refine wpAny_bind (wpAny_holding (wpAny_mono y (fun a z q=>wpAny_bind (wpAny_standAt ?_)) fun _ _ x=>x))
 simp only [hp,hk,Bool.or_false]
 refine wpAny_bind (wpAny_pure (wpAny_bind ?_))
 exact wpAny_mono q (fun r z hr=>wpAny_bind (wpAny_holding (wpAny_point (wpAny_pure hr)))) fun _ _ x=>x
end
section
variable {X:Cx} {c P:Addr} {e body:Expr} {tl tb:TE} {sc fsc:Scope} {N Nc:List Str} {x:Str} {params:Arguments} {lpos kp p pos:Pos}
end
end L2
namespace L2
open PySem PySem.W PySem.Spec PyProof.Rows
section
variable {prog:Program} {w:World} {A:Around} {E:Value->Shared->Prop} {s:Shared}
end
section
variable {prog:Program} {w:World} {A:Around} {E:Value->Shared->Prop} {s:Shared}
end
section
variable {X:Cx} {e e2:Expr} {te te2:TE} {p p2 p3 pos pos2 pos3 pos4:Pos}
end
end L2
namespace L2
open PySem PySem.W PySem.Spec PyProof.Rows
section
variable {prog:Program} {w:World} {A:Around} {E:Value->Shared->Prop} {s:Shared} {Q:Bool->Shared->Prop}
end
section
variable {X:Cx}
end
end L2
namespace L2
open PySem PySem.Spec PyProof.Rows
theorem JT {K:PySem.W.Frag} {a b:Addr} {xs zs:List V} {tt:TT} {te:TE} {σ:St} {H1:Hp} {Q:Addr->Hp->Prop} {n m:Nat} (hn:n=σ.length) (hm:m=σ.length+1) (hxz:xs.length=zs.length) (hz:xs.length<=sizeLine) (Pv:Addr->Nat->List V->Hp->Prop)
 (h0:∀D,H1 D=none->Pv D 0 [] (upd H1 D (.lst []))) (hD:∀D i ys H,Pv D i ys H->H D=some (.lst ys)/\ys.length<=i) (hl:∀D i ys H,H1 D=none->Pv D i ys H->SqL K H a xs/\SqL K H b zs)
 (hs:∀D i x z T ys H (K1:VK) (K2:Hp->Prop),H1 D=none->xs[i]?=some x->zs[i]?=some z->Pv D i ys H->H T=none->(∀y H5,H5 D=some (.lst ys)->Pv D (i+1) (ys++[y]) (upd H5 D (.lst (ys++[y])))->K1 y H5)->(∀H4,Pv D (i+1) ys H4->K2 H4) ->
  tt (σ++[some x,some z]) (upd H T (.tup [x,z])) fun b H4=>if b=true then te (σ++[some x,some z]) H4 K1 else K2 H4)
 (hd:∀D ys H,H1 D=none->Pv D xs.length ys H->Q D H) :
 ∀D,H1 D=none->∃W:Nat->Nat->List V->Hp->Prop,(∃m,W 0 m [] (upd H1 D (.lst [])))/\∀i k ys H2,W i k ys H2 ->
  H2 D=some (.lst ys)/\(((Itz K a b).stop i H2/\Q D H2)\/((Itz K a b).go i H2/\ys.length < sizeLine/\∀x H3,(Itz K a b).yld i H2 x H3->∀os:St,os.length=2->KW K 2 (Cy (Bt n) (Cy (Bt m) JV)) x (σ++os) H3 fun σ4 H4=>(∃os':St,σ4=σ++os'/\os'.length=2)/\tt σ4 H4 fun b H5=>if b=true then te σ4 H5 fun y H6=>H6 D=some (.lst ys)/\∃m',m' < k/\W (i+1) m' (ys++[y]) (upd H6 D (.lst (ys++[y])))
   else ∃m',m' < k/\W (i+1) m' ys H5)):=by
 intro D hDn
 subst hn hm
 refine ⟨fun i m ys H=>m=xs.length - i/\i<=xs.length/\Pv D i ys H,⟨xs.length,rfl,Nat.zero_le _,h0 D hDn⟩,?_⟩
 rintro i m ys H2 ⟨rfl,hi,p⟩
 obtain ⟨e,l⟩:=hD D i ys H2 p
 obtain ⟨q1,q2⟩:=hl D i ys H2 hDn p
 refine ⟨e,?_⟩
 by_cases hlt:i < xs.length
 ·have hlt':i < zs.length:=by omega
  refine .inr ⟨⟨xs,zs,xs[i],zs[i],q1,q2,by simp [hlt],by simp [hlt']⟩,Nat.lt_of_le_of_lt l (Nat.lt_of_lt_of_le hlt hz),fun x H3 y os ho=>?_⟩
  obtain ⟨T,v,w,rfl,hT,rfl,hy,hw⟩:=y
  have q5:=hs D i v w T ys H2 (fun y H6=>H6 D=some (.lst ys)/\∃m',m' < xs.length - i/\m'=xs.length - (i+1)/\i+1<=xs.length/\Pv D (i+1) (ys++[y]) (upd H6 D (.lst (ys++[y])))) (fun H5=>∃m',m' < xs.length - i/\m'=xs.length - (i+1)/\i+1<=xs.length/\Pv D (i+1) ys H5) hDn (hy xs q1) (hw zs q2) p hT (fun y H5 h5 p5=>⟨h5,xs.length - (i+1),by omega,rfl,hlt,p5⟩) fun H4 p4=>⟨xs.length - (i+1),by omega,rfl,hlt,p4⟩
  match os,ho with
  | [o1,o2],_ =>
    have e2:((σ++[o1,o2]).set σ.length (some v)).set (σ.length+1) (some w)=σ++[some v,some w]:=by
     rw [set_append_right _ _ (Nat.le_refl _),Nat.sub_self,set_append_right _ _ (Nat.le_succ _)]
     rw [show (List.length σ+1) - List.length σ=1 by omega]
     rfl
    refine ⟨T,[v,w],rfl,SqT.of Ab,rfl,v,[w],rfl,w,[],rfl,rfl,?_⟩
    refine ⟨⟨[some v,some w],e2,rfl⟩,?_⟩
    rw [e2]
    exact q5
 ·have ei:i=xs.length:=by omega
  subst ei
  exact .inl ⟨⟨xs,zs,q1,q2,.inl (Nat.le_refl _)⟩,hd D ys H2 hDn p⟩
section
variable {prog:Program} {w:World} {A:Around} {E:Value->Shared->Prop} {s:Shared} {d:Addr} {es:Array DictEntry} {ep:Nat}
theorem Gn {vs:List Value} (lo:(d == sysModules)=false) (hm:CL s.heap d es ep) (hz:es.size < 64) (hh:A.handled=none) (hv:es.toList.map (·.key)=vs) {b:Bool} {R:Value->Shared->Prop}
 (h:∀(h':Heap) (tk:Nat) (a:Addr),(∀b o,s.heap.get? b=some o->h'.get? b=some o/\b≠a)->s.heap.objs.size<=a->h'.get? a=some (seqObj "list" vs.toArray 0) ->
  wpAny (model prog w) A.in1.in1 (Builtin.«list.sort» ⟨[.ref a],[(Str.ofString "reverse",.bool b)]⟩) (fun fin s'=>∃v,fin=.done (.ret v)/\R (.ref a) s') E { s with heap:=h',toks:=tk }) :
 wpAny (model prog w) A (call (.builtin "sorted") [.ref d] [(Str.ofString "reverse",.bool b)]) R E s:=by
 refine call_function_entry_kw kind_sorted plain_sorted entry_sorted (args_sorted_rev _ _) ?_
 unfold Builtin.«sorted»
 refine wpAny_bind (m:=checkCount "sorted" 1 1 _) (wpAny_pure ?_)
 refine wpAny_bind (FL (A:=A.in1) lo hm hh (by rw [sizeLine_eq];omega) fun h' tk hk ge=>?_)
 rw [hv]
 have hl:vs.length < 64:=by rw [<- hv,length_map,Array.length_toList];exact hz
 refine wpAny_bind (wpAny_newList ?_ (by rw [sizeLine_eq];omega))
 have ho:(h'.push (seqObj "list" vs.toArray 0)).get? h'.objs.size=some (seqObj "list" vs.toArray 0):=Heap.get?_push_size _ rfl
 refine wpAny_bind (wpAny_holding (wpAny_call_entry_kw slot_list_sort ⟨_,ho,rfl⟩ entry_list_sort ?_ (args_list_sort_rev _ _)))
 refine wpAny_mono (h _ tk h'.objs.size (fun b o e=>⟨Heap.get?_push_of_some _ (hk b o e),Nat.ne_of_lt (Heap.lt_size (hk b o e))⟩) (Nat.le_of_lt ge) ho) (fun fin s' x=>?_) fun _ _ x=>x
 obtain ⟨v,rfl,q⟩:=x
 exact ⟨_,rfl,wpAny_pure ⟨_,rfl,q⟩⟩
end
section
variable {X:Cx}
noncomputable def Sx (te:TE):TE:=fun σ H Q=>te σ H fun x H1=>∃(d:Addr) (kvs:List (Key × V)) (ns:List Int),x=.ref d/\Rd H1 d (.dK kvs)/\kvs.map (·.1)=ns.map Sum.inl/\ns.length < 64 /\
 ∀(l:Addr) (ms:List Int),ms.Perm ns->ms.Pairwise (·>=·)->H1 l=none->Q (.ref l) (upd H1 l (.lst (ms.map V.int)))
theorem O9 {e:Expr} {te:TE} {p pos kp pc:Pos} {jj} (hc:X.calm=true) (hg:Gl X "sorted") (hm:X.mg "sorted"=none) (he:PE X e te)
 (h1:backTo pos (starEach [e] X.env)=(false,eval e X.env) :: backTo pos (starEach [] X.env):=by rfl) (h2:(backTo pos (starEach [e] X.env)).any (·.1)=false:=by rfl)
 (h3:(backToKw pos (keywordEach [⟨some "reverse",.Constant (.bool true) jj pc,kp⟩] X.env)).all (·.1.isSome)=true:=by rfl) (h4:(backToKw pos (keywordEach [⟨some "reverse",.Constant (.bool true) jj pc,kp⟩] X.env)).any (·.1.isNone)=false:=by rfl)
 (h5:(backToKw pos (keywordEach [⟨some "reverse",.Constant (.bool true) jj pc,kp⟩] X.env)).filterMap (·.1)=[("reverse":Str)]:=by rfl) :
 PE X (.Call (.Name "sorted" p) [e] [⟨some "reverse",.Constant (.bool true) jj pc,kp⟩] pos) (Sx te):=by
 intro pins s σ H Q I h
 refine wpAny_Call_Name_kw (Ea I hg hm boot_sorted ?_ (by decide) (by decide))
 refine PF ?_ h1 h2 h3 h4
 rw [h1]
 refine Calls.spliced_cons (thn (he pins s σ H _ I h) fun u s1 ⟨x,H1,I1,r1,d,kvs,ns,hx,hd,hks,h64,q⟩=>?_)
 subst hx
 cases r1
 refine Calls.spliced_nil ?_
 refine kws_cons (wpAny_Constant_bool (kws_nil ?_))
 rw [h5]
 show wpAny (model X.prog X.w) X.A (call (.builtin "sorted") [.ref d] [(Str.ofString "reverse",.bool true)]) _ _ s1
 obtain ⟨_,lo,vs,kv,o,es,ep,g1,g2,g3,g4,g5,_⟩:=GT I1.hok hd
 have hi:=Kd kv g5 hks
 have hl:=hi.length
 have hes:es.size=ns.length:=by simpa using hl
 refine Gn lo ⟨o,g1,g2,g3⟩ (by omega) (I1.ok.hd hc) rfl fun h' tk a kp ge ho=>?_
 refine list_sort_tree_rev (s:={ s1 with heap:=h',toks:=tk }) ho hi (by rw [hl];exact h64) fun out ms i1 i2 i3=>⟨_,rfl,?_⟩
 obtain ⟨e,he⟩:=sortedHeap_at (out:=out) ho
 have hfr:H1 a=none:=I1.hok.fresh ge
 refine ⟨.ref _,_,I1.laid (t':=tk) (fun b o hb=>?_) ge (show AJ X.prog X.w _ _ _ (.lst (ms.map V.int)) from ⟨?_,out.toList,e,Do i1,he⟩),rfl,q _ ms i2 i3 hfr⟩
 ·obtain ⟨k1,k2⟩:=kp b o hb
  rw [sortedHeap_old k2 (Heap.lt_size k1)]
  exact k1
 ·rw [length_map,i2.length_eq,sizeLine_eq]
  omega
end
abbrev hoI (v d:Addr):HO:=.ext fun h=>h.IsItemsView v d
def FrK (P:Program) (w:World) (d:Addr) (ob:Obj) (kvs:List (Key × V)):Prop :=
 kvs.length<=sizeLine/\(d == sysModules)=false/\∃vs,KV kvs vs/\∃es ep,ob.ExactDict/\ob.data=.dict es ep/\KeysOf (AF P w) es/\Pairs (AF P w) es.toList vs/\(vs.map (·.1)).Nodup
noncomputable def Iti (d:Addr) (ob:Obj) (kvs:List (Key × V)):It :=
 ⟨fun i H=>H d=some (hoF d ob)/\i < kvs.length,fun i H x H'=>∃T k v,x=.ref T/\H T=none/\kvs[i]?=some (k,v)/\H'=upd H T (.tup [kV k,v]),fun i H=>H d=some (hoF d ob)/\i=kvs.length⟩
theorem Qp {P:Program} {w:World} {k:Key} {u:Value} (h:(AF P w).is k u=true):A9 (kV k) u:=by
 rcases AX (show Gm k u=true from h) with ⟨i,t',a,b⟩ | ⟨x,t',a,b⟩
 ·subst a b
  exact ⟨_,rfl⟩
 ·subst a b
  exact ⟨_,rfl⟩
theorem FrK.of {P:Program} {w:World} {H:Hp} {h:Heap} {d:Addr} {kvs:List (Key × V)} (x:AJ P w H h d (.dK kvs)):∃ob,h.get? d=some ob/\FrK P w d ob kvs:=by
 obtain ⟨a,b,vs,c,o,es,ep,e,r⟩:=x
 exact ⟨o,e,a,b,vs,c,es,ep,r⟩
theorem FrK.to {P:Program} {w:World} {H:Hp} {h:Heap} {d:Addr} {ob:Obj} {kvs:List (Key × V)} (x:FrK P w d ob kvs) (e:h.get? d=some ob):AJ P w H h d (.dK kvs):=by
 obtain ⟨a,b,vs,c,es,ep,r⟩:=x
 exact ⟨a,b,vs,c,ob,es,ep,e,r⟩
section
variable {prog:Program} {w:World} {A:Around} {E:Value->Shared->Prop} {s:Shared}
theorem QT {d:Addr} {Q:Value->Shared->Prop} (ty:s.TypeIs (.ref d) "dict") (hd:(d == sysModules)=false)
 (q:Q (.ref s.heap.objs.size) { s with heap:=s.heap.push { cls:=.type "dict_items",data:=.fields #[.ref d] } }):wpAny (model prog w) A (call (.builtin "dict.items") [.ref d]) Q E s:=by
 refine wpAny_call_entry F.slot_dict_items ty F.entry_dict_items ?_ (F.args_dict_items_1 _)
 unfold Builtin.«dict.items»;refine wpAny_bind ?_
 unfold Builtin.Dict.noArgs;refine wpAny_bind (wpAny_notOrdered_dict ty ?_)
 show wpAny _ _ (pure d) _ _ s;refine wpAny_pure ?_
 show wpAny _ _ (Builtin.Dict.showsAll d >>= _) _ _ s;unfold Builtin.Dict.showsAll
 rw [if_neg (by rw [hd];exact Bool.false_ne_true)];refine wpAny_bind (wpAny_pure (wpAny_bind (wpAny_newObj_type (wpAny_pure ⟨_,rfl,q⟩))))
end
section
variable {X:Cx}
theorem OU:MtR X "dict.items" (fun x vs H Q=>∃(d:Addr) (kvs:List (Key × V)),x=.ref d/\vs=[]/\H d=some (.dK kvs)/\∀v,H v=none->Q (.ref v) (upd H v (hoI v d))):=by
 intro pins s σ H x vs v us Q I rx rv h
 obtain ⟨d,kvs,rfl,rfl,e,q⟩:=h
 cases rx
 have hus:=rv.zero
 subst hus
 obtain ⟨_,hd,vs,_,o,es,ep,h1,h2,h3⟩:=(show AJ X.prog X.w H s.heap d (.dK kvs) from I.hok d _ e)
 refine QT ⟨o,h1,h2.1⟩ hd ?_
 refine ⟨.ref s.heap.objs.size,_,I.laid (t':=s.toks) (fun b u z=>Heap.get?_push_of_some _ z) (Nat.le_refl _) ?_,rfl,q _ (I.hok.fresh (Nat.le_refl _))⟩
 refine ⟨⟨_,Heap.get?_push_size _ rfl,rfl,rfl⟩,⟨_,Heap.get?_push_size _ rfl⟩,fun g1 g2 ⟨o,z,r⟩ k=>⟨o,k o z,r⟩⟩
theorem Ln {P:Program} {w:World} {K:PySem.W.Frag} {xs:List Expr} {k:Nat} {pos:Pos} {d it:Addr} {ob:Obj} {kvs:List (Key × V)} {vs:List (Key × Value)} (kv:KV kvs vs) {es:Array DictEntry} {ep:Nat} (fr:ob.ExactDict/\ob.data=.dict es ep/\KeysOf (AF P w) es/\Pairs (AF P w) es.toList vs/\(vs.map (·.1)).Nodup) :
 JJ P w K (.Tuple xs k pos) (Iti d ob kvs) [it] it (fun i h=>i<=kvs.length/\∃ok ov,IsItemIter h it d i vs.length ep ok ov) where
 mem:=by simp
 obj:=fun i h st b hb=>by
  have e:b=it:=by simpa using hb
  subst e
  obtain ⟨_,ok,ov,e⟩:=st
  exact ⟨_,e,fun v z=>by cases (show Data.fields _=Data.cell v from z)⟩
 keep:=fun i h h' ⟨a,ok,ov,e⟩ k=>⟨a,ok,ov,k it (by simp) _ e⟩
 item:=by
  intro X hP hw hK hc i pins s σ H E I hf st hg
  subst hP hw hK
  obtain ⟨hd,hi⟩:=hg
  obtain ⟨_,ok,ov,st⟩:=st
  obtain ⟨p,hp⟩:∃p,kvs[i]?=some p:=⟨_,List.getElem?_eq_getElem hi⟩
  obtain ⟨q,hq,r1,r2⟩:=Hm kv hp
  have lt:it < s.heap.objs.size:=Heap.lt_size st
  refine wpAny_pyNext_items_item st ⟨ob,es,I.held hd,fr⟩ (k:=q.1) (v:=q.2) hq fun key h' hk out nT hsz keep=>⟨_,rfl,?_⟩
  refine wpAny_letOwnedTupleGo_items out fun g2 z2 sb=>?_
  have fr0:H s.heap.objs.size=none:=I.hok.fresh (Nat.le_refl _)
  refine ⟨.ref s.heap.objs.size,upd H s.heap.objs.size (.tup [kV p.1,p.2]),?_,rfl,⟨_,p.1,p.2,rfl,fr0,hp,rfl⟩,⟨by omega,_,_,z2⟩,fun b hb=>?_⟩
  ·refine I.laidTurned (fp:=[it]) (t':=s.toks) (fun c o hc z=>?_) hf (Nat.le_refl _) ?_
   ·have n1:c≠it:=fun e=>hc (by simp [e])
    exact (sb.2 c n1).trans (keep c o n1 z)
   ·exact ⟨by show 2<=sizeLine;decide,[key,q.2],.cons (by rw [r1];exact Qp hk) (.cons r2 .nil),⟨_,(sb.2 _ (Nat.ne_of_gt lt)).trans nT,rfl,_,rfl⟩⟩
  ·have e:b=it:=by simpa using hb
   subst e
   rw [Ap (Nat.ne_of_lt lt)]
   exact (hf b hb).1
 done:=by
  intro X hP hw hK hc i pins s σ H E I hf st hg
  subst hP hw hK
  obtain ⟨hd,hi⟩:=hg
  obtain ⟨_,ok,ov,st⟩:=st
  obtain ⟨f0,f1,f2,f3,f4,f5⟩:=hf it (by simp)
  have hx:vs[i]?=none:=List.getElem?_eq_none (by have:=KV.length kv;omega)
  exact wpAny_pyNext_items_end (I.ok.hd hc) st ⟨ob,es,I.held hd,fr⟩ hx fun h' eb=>⟨rfl,I.turned (t':=s.toks) (fun b o hb e=>eb b o hb e) f0 f1 f3 f4 f5⟩
 self:=fun _ _ _ _ _ st h=>let ⟨_,_,_,e⟩:=st;PySem.W.kcp_self e h
noncomputable def S1 (P:Program) (w:World) (te:TE):TI:=fun σ H R=>te σ H fun x H1=>∃(v d:Addr) (kvs:List (Key × V)),x=.ref v/\H1 v=some (hoI v d)/\H1 d=some (.dK kvs)/\∀ob,FrK P w d ob kvs->R (Iti d ob kvs) (upd H1 d (hoF d ob))
theorem Od {e:Expr} {es:List Expr} {k:Nat} {pt:Pos} {te:TE} (he:PE X e te):PI X (.Tuple es k pt) e (S1 X.prog X.w te):=by
 intro pins s σ H R I h
 refine thn (he pins s σ H _ I h) fun u s1 ⟨x,H1,I1,r1,v,d,kvs,ex,ev,ed,q⟩=>?_
 subst ex
 cases r1
 obtain ⟨vw,_,_⟩:=(show AJ X.prog X.w H1 s1.heap v (hoI v d) from I1.hok v _ ev)
 obtain ⟨ob,eo,f⟩:=FrK.of (show AJ X.prog X.w H1 s1.heap d (.dK kvs) from I1.hok d _ ed)
 obtain ⟨_,_,vs,kv,es',ep,fr⟩:=id f
 refine wpAny_pyIter_items (knd:=AF X.prog X.w) vw ⟨ob,es',eo,fr⟩ ?_
 have I2:Inv X pins σ (upd H1 d (hoF d ob)) s1:=EG (t':=s1.toks) I1 (by rw [ed];exact True.intro) (Heap.SameBut.refl d s1.heap) ⟨ob,eo⟩ ⟨eo,⟨ob,eo⟩,fun _ _ z k=>k _ z⟩
 refine ⟨s1.heap.objs.size,[s1.heap.objs.size],_,_,_,rfl,I2.kept (t':=s1.toks) fun b o e=>Heap.get?_push_of_some _ e,Ln kv fr,⟨Nat.zero_le _,_,_,Heap.get?_push_size _ rfl⟩,fun b hb=>?_,q ob f⟩
 have e:b=s1.heap.objs.size:=by simpa using hb
 subst e
 exact I2.fpOk (Nat.le_refl _) (I2.hok.fresh (Nat.le_refl _))
noncomputable def RN (P:Program) (w:World) (te:TE):TE:=fun σ H Q=>te σ H fun v H'=>∃(d:Addr) (ob:Obj) (kvs:List (Key × V)),H' d=some (hoF d ob)/\FrK P w d ob kvs/\Q v (upd H' d (.dK kvs))
theorem Pd {e:Expr} {te:TE} (he:PE X e te):PE X e (RN X.prog X.w te):=by
 intro pins s σ H Q I h
 refine thn (he pins s σ H _ I h) fun u s1 ⟨x,H1,I1,r1,d,ob,kvs,ed,f,q⟩=>?_
 have eo:=I1.held ed
 exact ⟨x,_,EG (t':=s1.toks) I1 (by rw [ed];exact True.intro) (Heap.SameBut.refl d s1.heap) ⟨ob,eo⟩ (f.to eo),r1,q⟩
end
theorem LV {K:PySem.W.Frag} {d:Addr} {ob:Obj} {kvs:List (Key × V)} {tt:TT} {te:TE} {σ:St} {H1:Hp} {Q:Addr->Hp->Prop} {n m:Nat} (hn:n=σ.length) (hm:m=σ.length+1) (hz:kvs.length<=sizeLine) (Pv:Addr->Nat->List V->Hp->Prop)
 (h0:∀D,H1 D=none->Pv D 0 [] (upd H1 D (.lst []))) (hD:∀D i ys H,Pv D i ys H->H D=some (.lst ys)/\ys.length<=i) (hl:∀D i ys H,H1 D=none->Pv D i ys H->H d=some (hoF d ob))
 (hs:∀D i k v T ys H (K1:VK) (K2:Hp->Prop),H1 D=none->kvs[i]?=some (k,v)->Pv D i ys H->H T=none->(∀y H5,H5 D=some (.lst ys)->Pv D (i+1) (ys++[y]) (upd H5 D (.lst (ys++[y])))->K1 y H5)->(∀H4,Pv D (i+1) ys H4->K2 H4) ->
  tt (σ++[some (kV k),some v]) (upd H T (.tup [kV k,v])) fun b H4=>if b=true then te (σ++[some (kV k),some v]) H4 K1 else K2 H4)
 (hd:∀D ys H,H1 D=none->Pv D kvs.length ys H->Q D H) :
 ∀D,H1 D=none->∃W:Nat->Nat->List V->Hp->Prop,(∃m,W 0 m [] (upd H1 D (.lst [])))/\∀i k ys H2,W i k ys H2 ->
  H2 D=some (.lst ys)/\(((Iti d ob kvs).stop i H2/\Q D H2)\/((Iti d ob kvs).go i H2/\ys.length < sizeLine/\∀x H3,(Iti d ob kvs).yld i H2 x H3->∀os:St,os.length=2->KW K 2 (Cy (Bt n) (Cy (Bt m) JV)) x (σ++os) H3 fun σ4 H4=>(∃os':St,σ4=σ++os'/\os'.length=2)/\tt σ4 H4 fun b H5=>if b=true then te σ4 H5 fun y H6=>H6 D=some (.lst ys)/\∃m',m' < k/\W (i+1) m' (ys++[y]) (upd H6 D (.lst (ys++[y])))
   else ∃m',m' < k/\W (i+1) m' ys H5)):=by
 intro D hDn
 subst hn hm
 refine ⟨fun i m ys H=>m=kvs.length - i/\i<=kvs.length/\Pv D i ys H,⟨kvs.length,rfl,Nat.zero_le _,h0 D hDn⟩,?_⟩
 rintro i m ys H2 ⟨rfl,hi,p⟩
 obtain ⟨e,l⟩:=hD D i ys H2 p
 have q1:=hl D i ys H2 hDn p
 refine ⟨e,?_⟩
 by_cases hlt:i < kvs.length
 ·refine .inr ⟨⟨q1,hlt⟩,Nat.lt_of_le_of_lt l (Nat.lt_of_lt_of_le hlt hz),fun x H3 y os ho=>?_⟩
  obtain ⟨T,k,v,rfl,hT,hy,rfl⟩:=y
  have q5:=hs D i k v T ys H2 (fun y H6=>H6 D=some (.lst ys)/\∃m',m' < kvs.length - i/\m'=kvs.length - (i+1)/\i+1<=kvs.length/\Pv D (i+1) (ys++[y]) (upd H6 D (.lst (ys++[y])))) (fun H5=>∃m',m' < kvs.length - i/\m'=kvs.length - (i+1)/\i+1<=kvs.length/\Pv D (i+1) ys H5) hDn hy p hT (fun y H5 h5 p5=>⟨h5,kvs.length - (i+1),by omega,rfl,hlt,p5⟩) fun H4 p4=>⟨kvs.length - (i+1),by omega,rfl,hlt,p4⟩
  match os,ho with
  | [o1,o2],_ =>
    have e2:((σ++[o1,o2]).set σ.length (some (kV k))).set (σ.length+1) (some v)=σ++[some (kV k),some v]:=by
     rw [set_append_right _ _ (Nat.le_refl _),Nat.sub_self,set_append_right _ _ (Nat.le_succ _)]
     rw [show (List.length σ+1) - List.length σ=1 by omega]
     rfl
    refine ⟨T,[kV k,v],rfl,SqT.of Ab,rfl,kV k,[v],rfl,v,[],rfl,rfl,?_⟩
    refine ⟨⟨[some (kV k),some v],e2,rfl⟩,?_⟩
    rw [e2]
    exact q5
 ·have ei:i=kvs.length:=by omega
  subst ei
  exact .inl ⟨⟨q1,rfl⟩,hd D ys H2 hDn p⟩
end L2
namespace PySem
open Sem (wp)
section
variable {prog:Program} {w:World} {K:Type} [DecidableEq K] (knd:KeyKind prog w K)
inductive B2 (h:Heap):List (List K)->List Value->Prop
 | nil:B2 h [] []
 | cons {k:List K} {a:Addr} {ks:List (List K)} {vs:List Value}:IsTupleKey knd h k a->B2 h ks vs->B2 h (k :: ks) (.ref a :: vs)
noncomputable def AU (h:Heap) (ks:List (List K)) (a:Addr):Prop:=∃o items n,h.get? a=some o/\o.cls=.type "tuple"/\o.data=.seq items n/\B2 knd h ks items.toList
variable {knd}
theorem B2.inj {h:Heap} {x y:List (List K)} {vs:List Value} (hx:B2 knd h x vs) (hy:B2 knd h y vs):x=y:=by
 induction hx generalizing y with
 | nil=>cases hy;rfl
 | cons h1 _ ih =>
   cases hy with
   | cons h2 t2=>rw [h1.inj h2,ih t2]
theorem AU.typeIs {s:Shared} {ks:List (List K)} {a:Addr} (x:AU knd s.heap ks a):s.TypeIs (.ref a) "tuple":=let ⟨o,_,_,ho,hc,_⟩:=x;⟨o,ho,hc⟩
theorem AU.inj {h:Heap} {a:Addr} {x y:List (List K)} (hx:AU knd h x a) (hy:AU knd h y a):x=y:=by
 obtain ⟨o,items,n,ho,_,hd,hi⟩:=hx
 obtain ⟨o',items',n',ho',_,hd',hi'⟩:=hy
 obtain rfl:o=o':=Option.some.inj (ho.symm.trans ho')
 rw [hd] at hd'
 injection hd' with h1 _
 subst h1
 exact hi.inj hi'
theorem B2.keeps {h h':Heap} {ks:List (List K)} {vs:List Value} {d:Addr} {o:Obj} {es ep} (x:B2 knd h ks vs) (ho:h.get? d=some o) (hd:o.data=.dict es ep) (hs:Heap.SameBut d h h'):B2 knd h' ks vs:=by
 induction x with
 | nil=>exact .nil
 | cons h1 _ ih=>exact .cons (h1.keeps ho hd hs) ih
theorem AU.keeps {h h':Heap} {ks:List (List K)} {a d:Addr} {o:Obj} {es ep} (x:AU knd h ks a) (ho:h.get? d=some o) (hd:o.data=.dict es ep) (hs:Heap.SameBut d h h') :
 AU knd h' ks a:=by
 obtain ⟨o',items,n,ho',hc,hd',hi⟩:=x
 have hne:a≠d:=by
  rintro rfl
  obtain rfl:o'=o:=Option.some.inj (ho'.symm.trans ho)
  rw [hd] at hd';exact nomatch hd'
 exact ⟨o',items,n,(hs.2 a hne).trans ho',hc,hd',hi.keeps ho hd hs⟩
noncomputable def Ha (knd:KeyKind prog w K) (ks:List (List K)):Int:=reduceHash (Builtin.Tuple.tupleHashOf (ks.map (tupleKeyHash knd)))
noncomputable def Fu (ks:List (List K)):Nat:=(ks.map fun k=>k.length+1).sum+1
variable {A:Around} {E:Value->Shared->Prop} {s:Shared}
theorem Fr {ks:List (List K)} {a:Addr} {Q:Int->Shared->Prop} (hu:A.units+1 < cLine) (hk:AU knd s.heap ks a) (h:Q (Ha knd ks) { s with toks:=s.toks+Fu ks }) :
 wpAny (model prog w) A (pyHash (.ref a)) Q E s:=by
 have hT:=hk.typeIs
 obtain ⟨o,items,n,ho,_,hd,hi⟩:=hk
 unfold pyHash
 first | unfold pyHashByItsType | skip
 first | refine wpAny_bind (wpAny_cRoomFor_or (.inr (Nat.lt_of_succ_lt hu)) ?_) | skip
 refine wpAny_bind (wpAny_specialOf hT F.slot_tuple_hash.lookup ?_)
 show wpAny _ _ (if (some (Value.builtin "tuple.__hash__") == some Value.none)=true then _ else _) Q E s
 rw [if_neg (by rw [beq_builtin_none];exact Bool.false_ne_true)]
 refine wpAny_bind (wpAny_specialOf hT F.slot_tuple_hash.lookup ?_)
 show wpAny _ _ (callSpecialIfBoundUnlessNone? (.ref a) "__hash__" _ >>= _) Q E s
 refine wpAny_bind (wpAny_callSpecialIfBoundUnlessNone?_slot hT F.slot_tuple_hash (wpAny_call_entry F.slot_tuple_hash hT F.entry_tuple_hash ?_ (F.args_tuple_hash_1 _)))
 show wpAny _ _ (Builtin.Tuple.tupleItemsOf (.ref a) >>= _) _ _ s
 refine wpAny_bind (wpAny_tupleItemsOf ho hd ?_)
 refine wpAny_bind ?_
 rw [<- Array.forIn_toList]
 refine wpAny_forIn_list _
  (fun rest (b:Array Int) s'=>∃done left,ks=done++left/\B2 knd s.heap left rest/\b.toList=done.map (tupleKeyHash knd)/\s'={ s with toks:=s.toks+(done.map fun k=>k.length+1).sum })
  _ ?_ ?_ _ _ ⟨[],ks,rfl,hi,rfl,rfl⟩
 ·rintro x rest b s' ⟨done,left,rfl,hl,hb,rfl⟩
  cases hl with
  | @cons k _ ks' _ h1 hl' =>
    refine wpAny_bind (wpAny_pyHash_tuple (knd:=knd) hu h1 ?_)
    first
     | exact wpAny_pure ⟨done++[k],ks',by simp,hl',by simp [hb],by simp [Nat.add_assoc]⟩
     | exact wpAny_bind (wpAny_pure (wpAny_pure ⟨done++[k],ks',by simp,hl',by simp [hb],by simp [Nat.add_assoc]⟩))
 ·rintro b s' ⟨done,left,rfl,hl,hb,rfl⟩
  cases hl
  rw [append_nil] at h
  show wpAny _ _ (retInt (Builtin.Tuple.tupleHashOf b.toList)) _ _ _
  rw [hb]
  refine wpAny_ret_mkInt ?_
  show wpAny _ _ (if (decide (-(2:Int) ^ 63<=Builtin.Tuple.tupleHashOf (done.map (tupleKeyHash knd))) && decide (Builtin.Tuple.tupleHashOf (done.map (tupleKeyHash knd)) < 2 ^ 63))=true then _ else _) Q E _
  unfold Ha reduceHash Fu at h
  by_cases hr:(decide (-(2:Int) ^ 63<=Builtin.Tuple.tupleHashOf (done.map (tupleKeyHash knd))) && decide (Builtin.Tuple.tupleHashOf (done.map (tupleKeyHash knd)) < 2 ^ 63))=true
  ·rw [if_pos hr]
   rw [if_pos hr] at h
   exact wpAny_pure (by simpa [Nat.add_assoc] using h)
  ·rw [if_neg hr]
   rw [if_neg hr] at h
   exact wpAny_bind (wpAny_rule (wpAny_pure (by simpa [Nat.add_assoc] using h)))
theorem Jz {x y:List (List K)} {a b:Addr} {P:Fin->Shared->Prop} (hu:A.units < cLine) (hx:AU knd s.heap x a) (hy:AU knd s.heap y b) (h:P (.done (.ret (.bool (decide (x=y))))) s) :
 wpAny (model prog w) A (Builtin.«tuple.__eq__» ⟨[.ref a,.ref b],[]⟩) P E s:=by
 have hTb:=hy.typeIs
 obtain ⟨oa,xs,na,hoa,_,hda,hia⟩:=hx
 obtain ⟨ob,ys,nb,hob,_,hdb,hib⟩:=hy
 show wpAny _ _ (isInstance (.ref b) (.type "tuple") >>= _) _ _ s
 refine wpAny_bind (wpAny_isInstance hTb isSubtype_tuple_tuple ?_)
 simp only [Bool.not_true,Bool.false_eq_true,if_false]
 refine wpAny_bind (wpAny_tupleItemsOf hoa hda ?_)
 refine wpAny_bind (wpAny_tupleItemsOf hob hdb ?_)
 refine wpAny_bind ?_
 refine wpAny_forIn_list _
  (fun rest r s'=>r.1=none/\s'=s/\∃x' y' xs' ys',rest=List.zip xs' ys'/\B2 knd s.heap x' xs'/\B2 knd s.heap y' ys'/\decide (x'=y')=decide (x=y)/\(xs'.length == ys'.length)=(xs.size == ys.size))
  _ ?_ ?_ _ _ ⟨rfl,rfl,x,y,xs.toList,ys.toList,rfl,hia,hib,rfl,by simp⟩
 ·rintro ⟨u,v⟩ rest r s' ⟨hr,rfl,x',y',xs',ys',hz,hx',hy',hdec,hlen⟩
  cases hx' with
  | nil=>simp at hz
  | @cons k1 u' x'' xs'' h1 hx'' =>
    cases hy' with
    | nil=>simp at hz
    | @cons k2 v' y'' ys'' h2 hy'' =>
      simp only [zip_cons_cons,List.cons.injEq,Prod.mk.injEq] at hz
      obtain ⟨⟨rfl,rfl⟩,rfl⟩:=hz
      refine wpAny_bind (wpAny_eqBool_tuple (x:=k1) (y:=k2) hu h1 h2 ?_)
      by_cases hk:k1=k2
      ·subst hk
       rw [decide_eq_true rfl]
       simp only [Bool.not_true,Bool.false_eq_true,if_false]
       refine wpAny_pure ⟨rfl,rfl,x'',y'',xs'',ys'',rfl,hx'',hy'',?_,by simpa using hlen⟩
       rw [<- hdec]
       by_cases hxy:x''=y''
       ·simp [hxy]
       ·simp [hxy]
      ·rw [decide_eq_false hk]
       simp only [Bool.not_false,if_true]
       have hf:decide (x=y)=false:=by rw [<- hdec];simp [hk]
       rw [hf] at h
       exact wpAny_bind (wpAny_pure (wpAny_pure (wpAny_pure h)))
 ·rintro ⟨r1,r2⟩ s' ⟨hr,rfl,x',y',xs',ys',hz,hx',hy',hdec,hlen⟩
  simp only at hr
  subst hr
  refine wpAny_pure ?_
  have hfin:(xs.size == ys.size)=decide (x=y):=by
   rw [<- hdec,<- hlen]
   cases hx' with
   | nil =>
     cases hy' with
     | nil=>simp
     | cons _ _=>simp
   | cons _ _ =>
     cases hy' with
     | nil=>simp
     | cons _ _=>simp at hz
  show P (.done (.ret (.bool (xs.size == ys.size)))) s'
  rw [hfin];exact h
theorem Fp {x y:List (List K)} {a b:Addr} {Q:Bool->Shared->Prop} (hu:A.units+1 < cLine) (hx:AU knd s.heap x a) (hy:AU knd s.heap y b) (h:Q (decide (x=y)) s) :
 wpAny (model prog w) A (eqBool (.ref a) (.ref b)) Q E s:=by
 unfold eqBool
 try with_reducible refine wpAny_holding ?_
 show wpAny _ _ (if (Value.ref a == Value.ref b)=true then _ else _) Q E s
 by_cases hab:(Value.ref a == Value.ref b)=true
 ·rw [if_pos hab]
  have e:a=b:=by have:=eq_of_beq hab;injection this
  subst e
  obtain rfl:=hx.inj hy
  exact wpAny_bind (wpAny_rule (wpAny_pure (by simpa using h)))
 ·rw [if_neg hab]
  exact wpAny_bind (wpAny_richCompare_same_room (op:=.Eq) hx.typeIs hy.typeIs F.slot_tuple_eq
   (wpAny_call_entry F.slot_tuple_eq hx.typeIs F.entry_tuple_eq (Jz hu hx hy ⟨_,rfl,(fun e=>nomatch e),wpAny_truthy_bool h⟩) (F.args_tuple_eq_2 _ _)) (Nat.lt_of_succ_lt hu))
theorem HV {ks:List K} {a:Addr} {Q:Bool->Shared->Prop} (n:Nat) (hk:IsTupleKey knd s.heap ks a) (h:Q true s):wpAny (model prog w) A (eqIsQuiet (n+1) (.ref a)) Q E s:=by
 have hT:=hk.typeIs
 obtain ⟨o,items,m,ho,_,hd,hi⟩:=hk
 unfold eqIsQuiet
 refine wpAny_bind (wpAny_specialOf hT F.slot_tuple_eq.lookup ?_)
 show wpAny _ _ (isInstance (.ref a) (.type "tuple") >>= _) _ _ s
 refine wpAny_bind (wpAny_isInstance hT isSubtype_tuple_tuple ?_)
 simp only [Bool.not_true,Bool.false_eq_true,if_false]
 refine wpAny_bind (wpAny_seqItems ho hd ?_)
 refine wpAny_bind ?_
 show wpAny _ _ (forIn items _ _) _ _ s
 rw [<- Array.forIn_toList]
 refine wpAny_forIn_list _ (fun rest r s'=>r.1=none/\s'=s/\∀v∈rest,carriedByValue v=true) _ ?_ ?_ _ _ ⟨rfl,rfl,hi.byValue⟩
 ·rintro v rest r s' ⟨hr,rfl,hall⟩
  rw [eqIsQuiet_byValue _ (hall v mem_cons_self)]
  refine wpAny_bind (wpAny_pure ?_)
  simp only [Bool.not_true,Bool.false_eq_true,if_false]
  exact wpAny_pure ⟨rfl,rfl,fun u hu'=>hall u (mem_cons_of_mem _ hu')⟩
 ·rintro ⟨r1,r2⟩ s' ⟨hr,rfl,_⟩
  simp only at hr
  subst hr
  exact wpAny_pure h
theorem F4 {ks:List (List K)} {a:Addr} {Q:Bool->Shared->Prop} (hk:AU knd s.heap ks a) (h:Q true s):wpAny (model prog w) A (eqIsQuiet 8 (.ref a)) Q E s:=by
 have hT:=hk.typeIs
 obtain ⟨o,items,m,ho,_,hd,hi⟩:=hk
 unfold eqIsQuiet
 refine wpAny_bind (wpAny_specialOf hT F.slot_tuple_eq.lookup ?_)
 show wpAny _ _ (isInstance (.ref a) (.type "tuple") >>= _) _ _ s
 refine wpAny_bind (wpAny_isInstance hT isSubtype_tuple_tuple ?_)
 simp only [Bool.not_true,Bool.false_eq_true,if_false]
 refine wpAny_bind (wpAny_seqItems ho hd ?_)
 refine wpAny_bind ?_
 show wpAny _ _ (forIn items _ _) _ _ s
 rw [<- Array.forIn_toList]
 refine wpAny_forIn_list _ (fun rest r s'=>r.1=none/\s'=s/\∃ks,B2 knd s.heap ks rest) _ ?_ ?_ _ _ ⟨rfl,rfl,ks,hi⟩
 ·rintro v rest r s' ⟨hr,rfl,ks,hall⟩
  cases hall with
  | @cons k _ ks' _ h1 h2 =>
    refine wpAny_bind (HV 6 h1 ?_)
    simp only [Bool.not_true,Bool.false_eq_true,if_false]
    exact wpAny_pure ⟨rfl,rfl,ks',h2⟩
 ·rintro ⟨r1,r2⟩ s' ⟨hr,rfl,_⟩
  simp only at hr
  subst hr
  exact wpAny_pure h
end
noncomputable def HD {prog:Program} {w:World} {K:Type} [DecidableEq K] (knd:KeyKind prog w K):HeapKind prog w (List (List K)) where
 is:=AU knd
 hash:=Ha knd
 draws:=Fu
 room:=fun A=>A.units+1 < cLine
 inj:=fun hx hy=>hx.inj hy
 keeps:=fun x ho hd hs=>x.keeps ho hd hs
 pyHash:=fun hu hk h=>Fr hu hk h
 eqBool:=fun hu hx hy h=>Fp hu hx hy h
 quiet:=fun hk h=>F4 hk h
end PySem
namespace L2
open PySem PySem.Spec PyProof.Rows
noncomputable def F5 (H:Hp) (b:Addr) (kss:List (List Key)):Prop:=∃as:List Addr,H b=some (.tup (as.map V.ref))/\Paired (fun (ks:List Key) (a:Addr)=>H a=some (.tup (ks.map kV))) kss as
abbrev KN (H:Hp):List (List (List Key) × V)->List (List (List Key) × Addr × Value)->Prop:=Paired fun p q=>p.1=q.1/\F5 H q.2.1 p.1/\A9 p.2 q.2.2
noncomputable def NT (P:Program) (w:World) (H:Hp) (a:Addr) (kvs:List (List (List Key) × V)):Prop:=∃ob:Obj,H a=some (hoF a ob)/\kvs.length<=sizeLine/\(a == sysModules)=false /\
 ∃xs,KN H kvs xs/\∃es ep,ob.ExactDict/\ob.data=.dict es ep/\es.toList=xs.map (entryOfKey (HD (AF P w)))/\(xs.map (·.1)).Nodup
theorem F5.tups {H H':Hp} {b:Addr} {kss:List (List Key)} (t:∀c xs,H c=some (.tup xs)->H' c=some (.tup xs)) (k:F5 H b kss):F5 H' b kss:=by
 obtain ⟨as,h1,h2⟩:=k
 exact ⟨as,t _ _ h1,Paired.mapP h2 fun _ _ z=>t _ _ z⟩
theorem F5.same {H H':Hp} {b:Addr} {kss:List (List Key)} (t:Az H H') (k:F5 H b kss):F5 H' b kss:=k.tups fun c xs e=>t c _ e
theorem KN.tups {H H':Hp} {kvs:List (List (List Key) × V)} {xs:List (List (List Key) × Addr × Value)} (t:∀c xs,H c=some (.tup xs)->H' c=some (.tup xs)) (k:KN H kvs xs):KN H' kvs xs :=
 Paired.mapP k fun _ _ z=>⟨z.1,z.2.1.tups t,z.2.2⟩
theorem NT.same {P:Program} {w:World} {H H':Hp} {a:Addr} {kvs:List (List (List Key) × V)} (t:Az H H') (k:NT P w H a kvs):NT P w H' a kvs:=by
 obtain ⟨ob,h1,h2,h3,xs,h4,r⟩:=k
 exact ⟨ob,t _ _ h1,h2,h3,xs,h4.tups fun c xs e=>t c _ e,r⟩
theorem KN.val {H:Hp} {kvs:List (List (List Key) × V)} {xs:List (List (List Key) × Addr × Value)} (r:KN H kvs xs) (k:List (List Key)):Dt (AZ kvs k) ((atKey xs k).map (·.2)):=by
 induction r with
 | nil=>exact True.intro
 | @cons p q ps qs h t ih =>
   obtain ⟨h1,_,h2⟩:=h
   by_cases e:p.1=k
   ·have e':q.1=k:=h1.symm.trans e
    have b:atKey (q :: qs) k=some q.2:=by simp [atKey,List.find?_cons,e']
    rw [B8 e,b];exact h2
   ·have e':¬ q.1=k:=fun z=>e (h1.trans z)
    have b:atKey (q :: qs) k=atKey qs k:=by simp [atKey,List.find?_cons,e']
    rw [B7 e,b];exact ih
theorem KN.repl {H:Hp} {kvs:List (List (List Key) × V)} {xs:List (List (List Key) × Addr × Value)} (r:KN H kvs xs) (k:List (List Key)) {y:V} {u:Value} (ry:A9 y u) :
 KN H (kvs.map fun kv=>if kv.1=k then (kv.1,y) else kv) (xs.map (putAt k u)):=by
 induction r with
 | nil=>exact .nil
 | @cons p q ps qs h t ih =>
   rw [map_cons,map_cons]
   refine .cons ?_ ih
   obtain ⟨h1,h2,h3⟩:=h
   unfold putAt
   by_cases e:p.1=k
   ·rw [if_pos e,if_pos (h1.symm.trans e)];exact ⟨h1,h2,ry⟩
   ·rw [if_neg e,if_neg (fun z=>e (h1.trans z))];exact ⟨h1,h2,h3⟩
theorem KN.put {H:Hp} {kvs:List (List (List Key) × V)} {xs:List (List (List Key) × Addr × Value)} (r:KN H kvs xs) (k:List (List Key)) {b:Addr} {y:V} {u:Value} (hb:F5 H b k) (ry:A9 y u) :
 KN H (BD kvs k y) (storedH xs k b u):=by
 have e:(kvs.any fun kv=>decide (kv.1=k))=(atKey xs k).isSome:=by
  rw [Ce,(r.val k).isSome_eq,Option.isSome_map]
 unfold BD storedH
 rw [e]
 by_cases q:(atKey xs k).isSome=true
 ·rw [if_pos q,if_pos q];exact r.repl k ry
 ·rw [if_neg q,if_neg q];exact Paired.snoc r ⟨rfl,hb,ry⟩
section
variable {P:Program} {w:World} {H:Hp} {h:Heap} {a:Addr}
theorem Mt (ok:HOk P w H h):∀{kss:List (List Key)} {as:List Addr} {its:List Value},Paired (fun (ks:List Key) (a:Addr)=>H a=some (.tup (ks.map kV))) kss as->A5 (as.map V.ref) its->B2 (AF P w) h kss its
 | _,_,_,.nil,r=>by cases r;exact .nil
 | _,_,_,.cons (b:=b) hb t,r=>by
   rw [map_cons] at r
   cases r with
   | cons x y =>
     cases (show _=Value.ref b from x)
     exact .cons (GV ok hb) (Mt ok t y)
theorem G0 {kss:List (List Key)} (ok:HOk P w H h) (e:F5 H a kss):(HD (AF P w)).is h kss a:=by
 obtain ⟨as,e1,e2⟩:=e
 obtain ⟨sz,its,r,o,h1,h2,n,h3⟩:=(show AJ P w H h a (.tup (as.map V.ref)) from ok a _ e1)
 refine ⟨o,its.toArray,n,h1,h2,h3,?_⟩
 rw [show its.toArray.toList=its from by simp]
 exact Mt ok e2 r
theorem OZ {kvs:List (List (List Key) × V)} (ok:HOk P w H h) (e:NT P w H a kvs):∃ob,H a=some (hoF a ob)/\kvs.length<=sizeLine/\(a == sysModules)=false/\∃xs,KN H kvs xs/\h.DictOfH (HD (AF P w)) a xs:=by
 obtain ⟨ob,h0,h1,h2,xs,r,es,ep,h3,h4,h5,h6⟩:=e
 have hg:h.get? a=some ob:=by
  obtain ⟨z,_⟩:=(show AJ P w H h a (hoF a ob) from ok a _ h0)
  exact z
 refine ⟨ob,h0,h1,h2,xs,r,ob,es,ep,hg,h3,h4,h5,fun x hx=>?_,h6⟩
 clear h5 h6 h1
 induction r with
 | nil=>exact nomatch hx
 | @cons p q ps qs hq t ih =>
   rcases mem_cons.mp hx with e | hx
   ·subst e
    exact G0 ok (by rw [<- hq.1];exact hq.2.1)
   ·exact ih hx
end
theorem u2 {n:Nat} (h:n+64 < cLine):n+2 < cLine:=by omega
noncomputable def Sf (P:Program) (w:World):TE:=fun _ H Q=>∀p ob,H p=none->NT P w (upd H p (hoF p ob)) p []->Q (.ref p) (upd H p (hoF p ob))
noncomputable def RM (P:Program) (w:World) (td ty:TE):TE:=fun σ H Q=>td σ H fun x H1=>ty σ H1 fun y H2=>∃a b kvs kss v,x=.ref a/\y=.ref b/\NT P w H2 a kvs/\F5 H2 b kss/\AZ kvs kss=some v/\Q v H2
noncomputable def QE (P:Program) (w:World):R2:=fun y x H Q=>∃a b kvs kss,x=.ref a/\y=.ref b/\NT P w H a kvs/\F5 H b kss/\Q (.bl (!(AZ kvs kss).isSome)) H
noncomputable def RX (P:Program) (w:World) (td ty tv:TE):TS:=fun D σ H=>tv σ H fun v H1=>td σ H1 fun x H2=>ty σ H2 fun y H3=>∃a b kvs kss,x=.ref a/\y=.ref b/\NT P w H3 a kvs/\F5 H3 b kss/\kvs.length < sizeLine/\∀ob,NT P w (upd H3 a (hoF a ob)) a (BD kvs kss v)->D.nx σ (upd H3 a (hoF a ob))
section
variable {X:Cx} {o i e value:Expr} {pos pos' tpos:Pos} {td ty tv:TE}
theorem Pt:PE X (.Dict [] [] pos) (Sf X.prog X.w):=fun pins s σ H Q I h=>by
 have hp:=I.hok.fresh (Nat.le_refl s.heap.objs.size)
 have hg:(s.heap.push { cls:=.type "dict",data:=.dict #[] }).get? s.heap.objs.size=some { cls:=.type "dict",data:=.dict #[] }:=Heap.get?_push_size _ rfl
 exact wpAny_Dict_empty ⟨.ref s.heap.objs.size,_,I.laid (a:=s.heap.objs.size) (o:=hoF s.heap.objs.size { cls:=.type "dict",data:=.dict #[] }) (t':=s.toks) (fun _ _ q=>Heap.get?_push_of_some _ q) (Nat.le_refl _) ⟨hg,⟨_,hg⟩,fun _ _ z k=>k _ z⟩,rfl,
  h _ _ hp ⟨_,Ab,Nat.zero_le _,beq_eq_false_iff_ne.mpr (Ne.symm (Nat.ne_of_lt I.big)),[],.nil,#[],0,⟨rfl,rfl,rfl⟩,rfl,rfl,nodup_nil⟩⟩
theorem Ka (hu:X.A.units+2 < cLine) (ho:PE X o td) (hi:PE X i ty) (hs:R6 i):PE X (.Subscript o i pos) (RM X.prog X.w td ty):=by
 intro pins s σ H Q I h
 refine MD PySem.F.slot_dict_getitem.lookup hs (thn (ho pins s σ H _ I h) fun u s1 ⟨x,H1,I1,rx,q1⟩=>thn (hi pins s1 σ H1 _ I1 q1) fun iv s2 ⟨y,H2,I2,ry,a,b,kvs,kss,v,ex,ey,nt,nk,hv,q2⟩=>?_)
 subst ex ey
 obtain rfl:u=Value.ref a:=rx
 obtain rfl:iv=Value.ref b:=ry
 obtain ⟨ob,h0,z,hd,xs,rel,dd⟩:=OZ I2.hok nt
 refine ⟨dd.typeIs,?_⟩
 obtain ⟨w',hw,rw'⟩:=Dt.some_of (v:=v) (o:=(atKey xs kss).map (·.2)) (by rw [<- hv];exact rel.val kss)
 obtain ⟨p,hp,hp2⟩:=Option.map_eq_some_iff.mp hw
 refine wpAny_getItem_heap (show X.A.in1.units+1 < cLine from hu) (G0 I2.hok nk) dd hp ?_
 rw [hp2]
 exact ⟨v,H2,I2.tok _,rw',q2⟩
theorem Nv (hu:X.A.units+2 < cLine):OpR X (compareOp .NotIn) (QE X.prog X.w):=by
 intro pins s σ H x y v u Q I rx ry h
 obtain ⟨a,b,kvs,kss,rfl,rfl,nt,nk,q2⟩:=h
 obtain rfl:u=Value.ref a:=ry
 obtain rfl:v=Value.ref b:=rx
 obtain ⟨ob,h0,z,hd,xs,rel,dd⟩:=OZ I.hok nt
 refine wpAny_notIn_heap (show X.A.in1.units+1 < cLine from hu) (G0 I.hok nk) hd dd ?_
 have q:=(rel.val kss).isSome_eq
 rw [Option.isSome_map] at q
 rw [<- q]
 exact ⟨.bl (!(AZ kvs kss).isSome),H,I.tok _,rfl,q2⟩
theorem P6 (hu:X.A.units+2 < cLine) (ho:PE X o td) (hi:PE X i ty) (hv:PE X value tv) (hs:swapsWith value (some (.Subscript o i pos')) pos.line X.env=pure false) :
 PS X (.Assign [.Subscript o i pos'] value pos) (RX X.prog X.w td ty tv):=by
 intro pins s σ H D I h
 refine wpAny_Assign_Subscript (thn (hv pins s σ H _ I h) fun r s1 ⟨v,H1,I1,rv,q1⟩=>thn (ho pins s1 σ H1 _ I1 q1) fun u s2 ⟨x,H2,I2,rx,q2⟩=>thn (hi pins s2 σ H2 _ I2 q2) fun iv s3 ⟨y,H3,I3,ry,a,b,kvs,kss,ex,ey,nt,nk,l,q3⟩=>?_) hs
 subst ex ey
 obtain rfl:u=Value.ref a:=rx
 obtain rfl:iv=Value.ref b:=ry
 obtain ⟨ob,h0,z,hd,xs,rel,dd⟩:=OZ I3.hok nt
 have hz:xs.length<=sizeLine:=by rw [<- Paired.length rel];exact z
 have hl:(BD kvs kss v).length<=sizeLine:=by have:=BY kvs kss v;omega
 refine wpAny_setItem_heap (hsz:=hz) (show X.A.in1.units+1 < cLine from hu) (G0 I3.hok nk) dd fun h' dd' hs=>?_
 obtain ⟨q,es,ep,hq,h2,h3,h4,_,h5⟩:=dd'
 have tt:∀c ys,H3 c=some (.tup ys)->(upd H3 a (hoF a q)) c=some (.tup ys):=fun c ys ec=>by
  rw [Ap (BV ec h0 (fun z=>nomatch z))]
  exact ec
 refine ⟨σ,_,EG (ob:=hoF a q) I3 (by rw [h0];exact True.intro) hs ⟨q,hq⟩ ⟨hq,⟨q,hq⟩,fun _ _ z k=>k _ z⟩,q3 q ⟨q,Ab,hl,hd,_,(rel.put kss nk rv).tups tt,es,ep,h2,h3,h4,h5⟩⟩
end
end L2
namespace L2
open PySem PySem.Spec PyProof.Rows
section
variable {prog:Program} {w:World} {A:Around} {E:Value->Shared->Prop} {s:Shared}
end
section
variable {prog:Program} {w:World} {A:Around} {E:Value->Shared->Prop} {s:Shared}
end
section
variable {X:Cx} {pins:List (Addr × Obj)} {σ:St} {H:Hp}
end
section
variable {X:Cx} {e:Expr} {te:TE} {p p2 pos pos2:Pos}
end
end L2
namespace L2
open PySem PySem.Spec PyProof.Rows
section
variable {X:Cx} {pins:List (Addr × Obj)} {σ:St} {H:Hp}
end
end L2
namespace L2
open PySem PySem.Spec PyProof.Rows
end L2
namespace L2
open PySem PySem.W PySem.Spec PyProof.Rows
section
variable {O:KeyOrd} {ky:Nat->O.α} {n:Nat} {cmp:Nat->Nat->(Bool->Shared->Prop)->Shared->Prop} {J:Shared->Prop}
end
end L2
set_option maxHeartbeats 4000000
namespace Law
open PySem L2
noncomputable def MM (K:PySem.W.Frag):Sp:=fun vs H Q _=>∃(p:Addr) (ns:List Int),vs=[.ref p]/\SqL K H p (ns.map V.int)/\ns.length<=63/\∀H',Q (.bl true) H'
def Mo:Sp:=fun vs H Q _=>∃c:Int,vs=[.int c]/\Q (.bl true) H
theorem Af {H:Hp} {p:Addr} (h:H p=none) (o:HO):Az H (upd H p o):=fun b u q=>by rw [Ap (AV q h)];exact q
theorem AW (x:Int) {y:Int} (h:0 < y):0<=x.fmod y/\x.fmod y < y:=⟨Int.fmod_nonneg_of_pos x h,Int.fmod_lt_of_pos x h⟩
theorem QY (x:Int) {y:Int} {n:Nat} (h:0 < y) (k:Sz n y):Sz n (x.fmod y):=by
 have e:=AW x h
 unfold Sz at k ⊢
 omega
noncomputable def A7 (a b:Int):Int:=(Int.gcd a b:Nat)
theorem Qz (a:Int):(if a < 0 then -a else a)=(a.natAbs:Int):=by
 by_cases h:a < 0
 ·rw [if_pos h];omega
 ·rw [if_neg h];omega
theorem PR (a b:Int):Int.gcd (if a < 0 then -a else a) (if b < 0 then -b else b)=Int.gcd a b:=by
 rw [Qz,Qz]
 unfold Int.gcd
 rw [Int.natAbs_natCast,Int.natAbs_natCast]
theorem Kp {x y:Int} (hx:0<=x) (hy:0 < y):Int.gcd y (x.fmod y)=Int.gcd x y:=by
 rw [Int.fmod_eq_emod_of_nonneg x (Int.le_of_lt hy)]
 obtain ⟨m,rfl⟩:=Int.eq_ofNat_of_zero_le hx
 obtain ⟨n,rfl⟩:=Int.eq_ofNat_of_zero_le (Int.le_of_lt hy)
 have e:((m:Int) % (n:Int))=((m % n:Nat):Int):=(Int.natCast_emod m n).symm
 rw [e]
 unfold Int.gcd
 rw [Int.natAbs_natCast,Int.natAbs_natCast,Int.natAbs_natCast]
 rw [Nat.gcd_comm m n,Nat.gcd_rec n m,Nat.gcd_comm]
theorem MV {x y:Int} (hx:0<=x) (hy:0<=y) (h:¬ 0 < y):x=A7 x y:=by
 have e:y=0:=by omega
 subst e
 unfold A7
 rw [Int.gcd_zero]
 omega
theorem KK (a b:Int):0<=A7 a b:=Int.natCast_nonneg _
theorem JA {a b:Int} (h:b≠0):A7 a b≠0:=by
 intro e
 have z:Int.gcd a b=0:=by unfold A7 at e;omega
 exact h (Int.gcd_eq_zero_iff.mp z).2
noncomputable def Dr (t b:Int):Int:=if b < 0 then -(A7 t b) else A7 t b
noncomputable def B4 (t b:Int):Int:=t.fdiv (Dr t b)
noncomputable def B1 (t b:Int):Int:=b.fdiv (Dr t b)
theorem Mh {t b:Int} (h:b≠0):Dr t b≠0:=by
 have e:=JA (a:=t) h
 unfold Dr
 by_cases c:b < 0
 ·rw [if_pos c];omega
 ·rw [if_neg c];exact e
theorem KI {t b:Int} (h:b≠0):0 < B1 t b:=by
 have g0:A7 t b≠0:=JA h
 have gn:=KK t b
 have d:A7 t b ∣ b:=Int.gcd_dvd_right ..
 obtain ⟨k,hk⟩:=d
 unfold B1 Dr
 by_cases c:b < 0
 ·rw [if_pos c]
  have e:b=-(A7 t b)*(-k):=by rw [Int.neg_mul_neg];exact hk
  have e2:b.fdiv (-(A7 t b))=-k:=by
   conv=>lhs;arg 1;rw [e]
   exact Int.mul_fdiv_cancel_left (-k) (by omega)
  rw [e2]
  rcases (by omega:k < 0\/0<=k) with z | z
  ·omega
  ·have:=Int.mul_nonneg gn z
   omega
 ·rw [if_neg c]
  have e2:b.fdiv (A7 t b)=k:=by
   conv=>lhs;arg 1;rw [hk]
   exact Int.mul_fdiv_cancel_left k g0
  rw [e2]
  rcases (by omega:0 < k\/k<=0) with z | z
  ·exact z
  ·have:=Int.mul_nonpos_of_nonneg_of_nonpos gn z
   omega
theorem Of {x y:Int}:Dr x y ∣ x:=by
 have d:A7 x y ∣ x:=Int.gcd_dvd_left ..
 unfold Dr
 by_cases c:y < 0
 ·rw [if_pos c];exact Int.neg_dvd.mpr d
 ·rw [if_neg c];exact d
def N7:Sp:=fun vs H Q _=>∃a b:Int,vs=[.int a,.int b]/\Q (.int (A7 a b)) H
noncomputable def OV:Sp:=fun vs H Q _=>∃t b:Int,vs=[.int t,.int b]/\b≠0/\Sz 13500 t/\Sz 13500 b/\∀(p:Addr) (H':Hp),Az H H'->H' p=some (.tup [.int (B4 t b),.int (B1 t b)])->Q (.ref p) H'
theorem FP {i:Nat} {c:Int} {g:Int->Int->V}:∀(σ:St) (H:Hp) (Q Q':Bool->Hp->Prop),(∀b H1,Q b H1->Q' b H1)->Kv (tOp (rI0 g) (Ng i) (tC (.int c))) σ H Q->Kv (tOp (rI0 g) (Ng i) (tC (.int c))) σ H Q':=by
 rintro σ H Q Q' hq ⟨v,e,i,j,e1,e2,k,ek,h⟩
 exact ⟨v,e,i,j,e1,e2,k,ek,hq _ _ h⟩
def Hid (u v:TS):Prop:=u=v
theorem Ob {t u:TS} {D:EB} {σ:St} {H:Hp} (h:∀v,Hid v u->t { D with nx:=v D } σ H):Tc t u D σ H:=h u rfl
theorem Mf {u v:TS} {D:EB} {σ:St} {H:Hp} (h:Hid u v) (g:v D σ H):u D σ H:=by rw [show u=v from h];exact g
theorem Qk {u v:TS} {D:EB} {r:VK} {b c:St->Hp->Prop} {σ:St} {H:Hp} (h:Hid u v) (g:v D σ H):(EB.mk (u D) r b c).nx σ H:=by show u D σ H;exact Mf h g
noncomputable def bit (m:Int) (i:Nat):Bool:=decide (m / 2 ^ i % 2=1)
noncomputable def BZ:Nat->(Nat->Bool)->Int
 | 0,_=>0
 | n+1,f=>(if f 0=true then 1 else 0)+2*BZ n (fun i=>f (i+1))
theorem Fm (s:Int) (i:Nat):bit (s / 2) i=bit s (i+1):=by
 unfold bit
 rw [Int.ediv_ediv_of_nonneg (by decide:(0:Int)<=2)]
 have e:(2:Int)*2 ^ i=2 ^ (i+1):=by rw [Int.pow_succ,Int.mul_comm]
 rw [e]
theorem Fl (s:Int):bit s 0=decide (s % 2=1):=by
 unfold bit
 rw [Int.pow_zero,Int.ediv_one]
theorem FK:∀n f,0<=BZ n f
 | 0,_=>Int.le_refl _
 | n+1,f=>by
   have:=FK n (fun i=>f (i+1))
   show 0<=(if f 0=true then (1:Int) else 0)+2*BZ n (fun i=>f (i+1))
   split <;> omega
theorem MA:∀n f,BZ n f < 2 ^ n
 | 0,_=>by show (0:Int) < 1;decide
 | n+1,f=>by
   have:=MA n (fun i=>f (i+1))
   show (if f 0=true then (1:Int) else 0)+2*BZ n (fun i=>f (i+1)) < 2 ^ (n+1)
   rw [Int.pow_succ]
   split <;> omega
theorem IB (n f):BZ (n+1) f / 2=BZ n (fun i=>f (i+1)):=by
 show ((if f 0=true then (1:Int) else 0)+2*BZ n (fun i=>f (i+1))) / 2=_
 split <;> omega
theorem GW (n f):(BZ (n+1) f % 2=1)↔f 0=true:=by
 show (((if f 0=true then (1:Int) else 0)+2*BZ n (fun i=>f (i+1))) % 2=1)↔_
 split <;> rename_i h
 ·exact ⟨fun _=>h,fun _=>by omega⟩
 ·exact ⟨fun e=>by omega,fun e=>absurd e h⟩
theorem Eu:∀n {f g:Nat->Bool},(∀i,i < n->f i=g i)->BZ n f=BZ n g
 | 0,_,_,_=>rfl
 | n+1,f,g,h=>by
   show (if f 0=true then (1:Int) else 0)+2*BZ n (fun i=>f (i+1))=(if g 0=true then (1:Int) else 0)+2*BZ n (fun i=>g (i+1))
   rw [h 0 (by omega),Eu n (f:=fun i=>f (i+1)) (g:=fun i=>g (i+1)) fun i hi=>h (i+1) (by omega)]
theorem IE:∀n f,BZ (n+1) f=BZ n f+(if f n=true then 2 ^ n else 0)
 | 0,f=>by
   show (if f 0=true then (1:Int) else 0)+2*0=0+(if f 0=true then (1:Int) else 0)
   split <;> decide
 | n+1,f=>by
   show (if f 0=true then (1:Int) else 0)+2*BZ (n+1) (fun i=>f (i+1))=(if f 0=true then (1:Int) else 0)+2*BZ n (fun i=>f (i+1))+(if f (n+1)=true then 2 ^ (n+1) else 0)
   rw [IE n (fun i=>f (i+1)),Int.pow_succ]
   split <;> split <;> omega
theorem HG:∀n f i,bit (BZ n f) i=(decide (i < n) && f i)
 | 0,f,i=>by
   unfold bit
   show decide ((0:Int) / 2 ^ i % 2=1)=_
   rw [Int.zero_ediv]
   rfl
 | n+1,f,0=>by
   rw [Fl]
   by_cases h:f 0=true
   ·rw [decide_eq_true ((GW n f).mpr h),h];rfl
   ·rw [decide_eq_false (fun e=>h ((GW n f).mp e)),Bool.eq_false_iff.mpr h];rfl
 | n+1,f,i+1=>by
   rw [<- Fm,IB,HG n]
   have:decide (i < n)=decide (i+1 < n+1):=by
    by_cases h:i < n
    ·rw [decide_eq_true h,decide_eq_true (by omega)]
    ·rw [decide_eq_false h,decide_eq_false (by omega)]
   rw [this]
theorem HK:∀n f s,Builtin.bitAnd (BZ n f) s=BZ n (fun i=>f i && bit s i)
 | 0,f,s=>by
   show Builtin.bitAnd 0 s=0
   rw [PyProof.Rows.bitAnd_comm,PyProof.Rows.bitAnd_zero]
 | n+1,f,s=>by
   rw [PySem.W.kbt_halves,IB,HK n]
   show _=(if (f 0 && bit s 0)=true then (1:Int) else 0)+2*BZ n (fun i=>f (i+1) && bit s (i+1))
   have e:BZ n (fun i=>f (i+1) && bit (s / 2) i)=BZ n (fun i=>f (i+1) && bit s (i+1)):=Eu n fun i _=>by rw [Fm]
   rw [e]
   have c:(BZ (n+1) f % 2=1/\s % 2=1)↔(f 0 && bit s 0)=true:=by
    rw [Bool.and_eq_true,GW,Fl,decide_eq_true_eq]
   by_cases h:(f 0 && bit s 0)=true
   ·rw [if_pos h,if_pos (c.mpr h)];omega
   ·rw [if_neg h,if_neg (fun z=>h (c.mp z))];omega
theorem Nf {n:Nat} {f:Nat->Bool} (h:∀i,i < n->f i=false):BZ n f=0:=by
 induction n with
 | zero=>rfl
 | succ n ih =>
   rw [IE,h n (by omega),ih fun i hi=>h i (by omega)]
   rfl
noncomputable def hands (n:Nat) (f:Nat->Bool):List Int:=((List.range n).filter f).map fun i:Nat=>(i:Int)
theorem D5 (n:Nat) (f:Nat->Bool):hands (n+1) f=if f n=true then hands n f++[(n:Int)] else hands n f:=by
 unfold hands
 rw [range_succ,filter_append,map_append]
 by_cases h:f n=true
 ·rw [if_pos h];simp [h]
 ·rw [if_neg h]
  have h':f n=false:=by simpa using h
  simp [h']
theorem BW (n:Nat) (f:Nat->Bool):(hands n f).length<=n:=by
 unfold hands
 rw [length_map]
 exact Nat.le_trans (length_filter_le _ _) (by simp)
theorem Bi {n:Nat} {f:Nat->Bool} {z:Int}:z∈hands n f↔∃i:Nat,i < n/\f i=true/\z=(i:Int):=by
 unfold hands
 rw [mem_map]
 constructor
 ·rintro ⟨i,hi,rfl⟩
  obtain ⟨h1,h2⟩:=mem_filter.mp hi
  exact ⟨i,mem_range.mp h1,h2,rfl⟩
 ·rintro ⟨i,h1,h2,rfl⟩
  exact ⟨i,mem_filter.mpr ⟨mem_range.mpr h1,h2⟩,rfl⟩
theorem N3 {n:Nat} {f:Nat->Bool} (h:hands n f=[]):∀i,i < n->f i=false:=fun i hi=>by
 cases e:f i with
 | false=>rfl
 | true =>
   have:(i:Int)∈hands n f:=Bi.mpr ⟨i,hi,e,rfl⟩
   rw [h] at this
   cases this
noncomputable def ins (x:Int):List Int->List Int
 | []=>[x]
 | y :: r=>if x < y then x :: y :: r else if x=y then y :: r else y :: ins x r
noncomputable def SH (K:PySem.W.Frag):Sp:=fun vs H Q _=>∃(p:Addr) (ns:List Int) (k:Int),vs=[.ref p,.int k]/\SqL K H p (ns.map V.int)/\ns.length<=63/\0<=k/\k<=1000/\∀z:Int,0<=z->z < 10 ^ 40->Q (.int z) H
theorem LK {c:Int} (h0:0<=c) (h:c < 10 ^ 40):Sz 200 c:=AK (by omega) (by omega)
theorem A0 {H H':Hp} {l:Addr} {o:HO} (s:Az H H') (n:H l=none):Az H (upd H' l o):=fun b u e=>by
 rw [Ap (AV e n)]
 exact s b u e
theorem ifT {c:Bool} {A B:Prop} (e:c=true) (h:A):if c=true then A else B:=by rw [if_pos e];exact h
theorem ifF {c:Bool} {A B:Prop} (e:c=false) (h:B):if c=true then A else B:=by rw [if_neg (by rw [e];decide)];exact h
theorem Ra {a b:Int} (h:a≠b):(!decide (V.int a=V.int b))=true:=by rw [decide_eq_false (fun e=>h (V.int.inj e))];rfl
theorem LL {a b:Int} (h:a=b):(!decide (V.int a=V.int b))=false:=by rw [h,decide_eq_true rfl];rfl
theorem KY {a b:Int} (h:a=b):decide (V.int a=V.int b)=true:=by rw [h];exact decide_eq_true rfl
theorem KZ {a b:Int} (h:a≠b):decide (V.int a=V.int b)=false:=decide_eq_false fun e=>h (V.int.inj e)
theorem C2 {ns:List Int} {i:Nat} {x:V} (h:(ns.map V.int)[i]?=some x):∃z,ns[i]?=some z/\x=.int z:=by
 rw [List.getElem?_map] at h
 cases e:ns[i]? with
 | none=>rw [e] at h;cases h
 | some z=>rw [e] at h;exact ⟨z,rfl,(Option.some.inj h).symm⟩
theorem atN {ns:List Int} {i:Nat} {z:Int} (h:ns[i]?=some z):atI (ns.map V.int) (i:Int)=some (.int z):=Cb (by rw [List.getElem?_map,h];rfl)
theorem R0 {n j:Nat} (h:j < n):seqIndex? (j:Int) n=some j:=(IQ (i:=(j:Int)) (by unfold ixN;rw [if_pos (by omega)];simp [h])).1
theorem FH {α β:Type} (f:α->β):∀(l:List α) (k:Nat),(l.map f).eraseIdx k=(l.eraseIdx k).map f
 | [],_=>rfl
 | _ :: _,0=>rfl
 | x :: l,k+1=>by
   show f x :: (l.map f).eraseIdx k=f x :: (l.eraseIdx k).map f
   rw [FH f l k]
theorem Jn {z d:Int} (z0:0<=z) (h:1<=d) (z1:z < 10 ^ 31):0<=z.fdiv d/\z.fdiv d < 10 ^ 31:=by
 rw [Int.fdiv_eq_ediv_of_nonneg z (by omega)]
 exact ⟨Int.ediv_nonneg z0 (by omega),Int.lt_of_le_of_lt (Int.ediv_le_self d z0) z1⟩
theorem F7 {h:Nat} (hh:h < 64):Nk 1 (h:Int):=⟨by omega,by omega,by decide⟩
theorem TB (x:Int):Builtin.bitAnd x 1=x % 2:=PySem.W.kbt_mask x 1
theorem Dh (m:Int) (h:Int):decide (V.int (Builtin.bitAnd (m / 2 ^ h.toNat) 1)=V.int 1)=bit m h.toNat:=by
 unfold bit
 rw [TB]
 by_cases c:m / 2 ^ h.toNat % 2=1
 ·rw [decide_eq_true c,decide_eq_true (congrArg V.int c)]
 ·rw [decide_eq_false c,decide_eq_false fun e=>c (V.int.inj e)]
theorem QO (m:Int) (i:Nat):m / 2 ^ i % 2=if bit m i=true then 1 else 0:=by
 have e:m / 2 ^ i % 2=0\/m / 2 ^ i % 2=1:=by omega
 unfold bit
 rcases e with e | e
 ·rw [e];rfl
 ·rw [e];rfl
theorem MS (m:Int) (h:Nat):Builtin.bitAnd m (Builtin.bitNot (1*2 ^ h))=m - 2 ^ h*(if bit m h=true then 1 else 0):=by
 rw [Int.one_mul,PyProof.Rows.bitAnd_not,PySem.W.kbt_bit,QO]
 cases bit m h <;> simp
def Rg:Sp:=fun vs H Q _=>∃m h:Int,vs=[.int m,.int h]/\0<=h/\Q (.bl (bit m h.toNat)) H
noncomputable def SJ:Sp:=fun vs H Q _=>∃h:Int,vs=[.int h]/\0<=h/\h<=12/\Q (.int (1*2 ^ h.toNat - 1)) H
noncomputable def NE:Sp:=fun vs H Q _=>∃m h:Int,vs=[.int m,.int h]/\0<=h/\h < 12/\Q (.int (Builtin.bitAnd m (Builtin.bitNot (1*2 ^ h.toNat)))) H
noncomputable def Np:Sp:=fun vs H Q _=>∃m:Int,vs=[.int m]/\0<=m/\m < 4096/\∀(p:Addr) (H':Hp),H p=none->Az H H'->H' p=some (.lst ((hands 12 (bit m)).map V.int))->Q (.ref p) H'
noncomputable def Qf:Sp:=fun vs H Q _=>∃c b:Int,vs=[.int c,.int b]/\Sz 200 c/\0<=b/\b<=100/\∀z:Int,0<=z->z < 10 ^ 31->Q (.int z) H
theorem u1 {n:Nat} (h:n+64 < cLine):n+1 < cLine:=by omega
theorem none_of {H H':Hp} {a:Addr} (s:Az H H') (h:H' a=none):H a=none:=by
 cases e:H a with
 | none=>rfl
 | some u=>rw [s _ _ e] at h;cases h
abbrev Ls:=List (Addr × Addr × List Int × Int)
abbrev Ds:=List (List Int × Int)
noncomputable def vls (ls:Ls):List V:=ls.map fun q=>.ref q.1
noncomputable def Ao (ls:Ls):Ds:=ls.map fun q=>(q.2.2.1,q.2.2.2)
noncomputable def Br (H:Hp) (ls:Ls):Prop:=∀q∈ls,H q.1=some (.tup [.ref q.2.1,.int q.2.2.2])/\H q.2.1=some (.tup (q.2.2.1.map V.int))
theorem Br.same {H H':Hp} {ls:Ls} (s:Az H H') (g:Br H ls):Br H' ls:=fun q m=>⟨s _ _ (g q m).1,s _ _ (g q m).2⟩
theorem Br.append {H:Hp} {a b:Ls} (g:Br H a) (k:Br H b):Br H (a++b):=fun q m=>(mem_append.mp m).elim (g q) (k q)
theorem Br.upd {H:Hp} {ls:Ls} {l:Addr} {xs:List V} {o:HO} (e:H l=some (.lst xs)) (g:Br H ls):Br (upd H l o) ls:=fun q m=>by
 refine ⟨?_,?_⟩
 ·rw [Ap (BV (g q m).1 e (fun z=>by cases z))];exact (g q m).1
 ·rw [Ap (BV (g q m).2 e (fun z=>by cases z))];exact (g q m).2
theorem Ff {ls:Ls} {i:Nat} {x:V} (h:(vls ls)[i]?=some x):∃q,ls[i]?=some q/\x=.ref q.1/\q∈ls/\ls.take (i+1)=ls.take i++[q]:=by
 unfold vls at h
 rw [List.getElem?_map] at h
 cases e:ls[i]? with
 | none=>rw [e] at h;cases h
 | some q =>
   rw [e] at h
   refine ⟨q,rfl,(Option.some.inj h).symm,mem_of_getElem? e,?_⟩
   rw [take_succ,e]
   rfl
theorem BI (ls:Ls):(vls ls).length=ls.length:=length_map ..
theorem Lm (a b:Ls):vls (a++b)=vls a++vls b:=map_append ..
theorem DY (a b:Ls):Ao (a++b)=Ao a++Ao b:=map_append ..
theorem JU:∀{a b:List Int},HT.lexLt a b=true->HT.lexLt b a=false
 | [],[],h=>by cases h
 | [],_ :: _,_=>rfl
 | _ :: _,[],h=>by cases h
 | x :: a,y :: b,h=>by
   rw [HT.lexLt_cons] at h ⊢
   by_cases c:x=y
   ·rw [if_pos c] at h
    rw [if_pos c.symm]
    exact JU h
   ·rw [if_neg c] at h
    rw [if_neg (Ne.symm c)]
    have:=of_decide_eq_true h
    exact decide_eq_false (by omega)
theorem Mv:∀{a b:List Int},HT.lexLt b a=false->a≠b->HT.lexLt a b=true
 | [],[],_,n=>absurd rfl n
 | [],_ :: _,_,_=>rfl
 | _ :: _,[],h,_=>by cases h
 | x :: a,y :: b,h,n=>by
   rw [HT.lexLt_cons] at h ⊢
   by_cases c:x=y
   ·rw [if_pos c.symm] at h
    rw [if_pos c]
    exact Mv h fun e=>n (by rw [c,e])
   ·rw [if_neg (Ne.symm c)] at h
    rw [if_neg c]
    have:=of_decide_eq_false h
    exact decide_eq_true (by omega)
noncomputable def tot:Ds->List Int->Int
 | [],_=>0
 | q :: r,ts=>(if q.1=ts then q.2 else 0)+tot r ts
theorem Hu (ts:List Int):∀a b:Ds,tot (a++b) ts=tot a ts+tot b ts
 | [],b=>by show tot b ts=0+tot b ts;omega
 | q :: a,b=>by
   show (if q.1=ts then q.2 else 0)+tot (a++b) ts=(if q.1=ts then q.2 else 0)+tot a ts+tot b ts
   rw [Hu ts a b]
   omega
def Pos (ds:Ds):Prop:=∀q∈ds,1<=q.2
theorem Hg {ts:List Int}:∀{ds:Ds},Pos ds->0<=tot ds ts
 | [],_=>Int.le_refl _
 | q :: r,h=>by
   have h1:=h q (mem_cons_self ..)
   have h2:=Hg (ts:=ts) (ds:=r) fun p m=>h p (mem_cons_of_mem _ m)
   show 0<=(if q.1=ts then q.2 else 0)+tot r ts
   split <;> omega
theorem Gw {ts:List Int}:∀{ds:Ds},ts ∉ ds.map (·.1)->tot ds ts=0
 | [],_=>rfl
 | q :: r,h=>by
   rw [map_cons,mem_cons,not_or] at h
   show (if q.1=ts then q.2 else 0)+tot r ts=0
   rw [if_neg (fun e=>h.1 e.symm),Gw h.2]
   rfl
theorem Lj {ts:List Int}:∀{ds:Ds},Pos ds->ts∈ds.map (·.1)->0 < tot ds ts
 | [],_,m=>nomatch m
 | q :: r,h,m=>by
   have h1:=h q (mem_cons_self ..)
   have hr:Pos r:=fun p m=>h p (mem_cons_of_mem _ m)
   have h2:=Hg (ts:=ts) hr
   show 0 < (if q.1=ts then q.2 else 0)+tot r ts
   by_cases c:q.1=ts
   ·rw [if_pos c];omega
   ·rw [if_neg c]
    rcases mem_cons.mp m with e | e
    ·exact absurd e.symm c
    ·have:=Lj hr e
     omega
structure Ml (ds out:Ds):Prop where
 srt:out.Pairwise (fun x y=>HT.lexLt x.1 y.1=true)
 mem:∀ts n,(ts,n)∈out↔n=tot ds ts/\0 < n
theorem Jv (ts:List Int):(ts.map Sum.inl:List Key).map kV=ts.map V.int:=by rw [map_map];rfl
theorem MG {a b:List Int} (h:(a.map Sum.inl:List Key)=b.map Sum.inl):a=b:=by
 have e:=congrArg (List.map kV) h
 rw [Jv,Jv] at e
 have:∀{a b:List Int},a.map V.int=b.map V.int->a=b:=by
  intro a
  induction a with
  | nil=>intro b h;cases b with | nil=>rfl | cons _ _=>cases h
  | cons x a ih =>
    intro b h
    cases b with
    | nil=>cases h
    | cons y b =>
      injection h with h1 h2
      injection h1 with h1
      rw [h1,ih h2]
 exact this e
theorem IA {α β:Type} {f:α->β}:∀{l:List α},(l.map f).Nodup->l.Nodup
 | [],_=>nodup_nil
 | x :: l,h=>by
   rw [map_cons,nodup_cons] at h
   rw [nodup_cons]
   exact ⟨fun m=>h.1 (mem_map.mpr ⟨x,m,rfl⟩),IA h.2⟩
structure VD (kvs:List (List Key × V)):Prop where
 nd:(kvs.map (·.1)).Nodup
 all:∀q∈kvs,∃(ts:List Int) (n:Int),q=(ts.map Sum.inl,.int n)
theorem Iq {κ:Type} [DecidableEq κ] {kvs:List (κ × V)} {k:κ} {v w:V} (h:AZ kvs k=some w):(BD kvs k v).map (·.1)=kvs.map (·.1):=by
 unfold BD
 rw [Ce,h,if_pos (show (some w).isSome=true from rfl),map_map]
 refine map_congr_left fun q _=>?_
 show (if q.1=k then (q.1,v) else q).1=q.1
 split <;> rfl
theorem VD.put {kvs:List (List Key × V)} (h:VD kvs) (ts:List Int) (n:Int):VD (BD kvs (ts.map Sum.inl) (.int n)):=by
 refine ⟨?_,fun q m=>?_⟩
 ·cases e:AZ kvs (ts.map Sum.inl:List Key) with
  | none=>exact M8 _ h.nd e
  | some w=>rw [Iq e];exact h.nd
 ·unfold BD at m
  split at m
  ·obtain ⟨p,pm,rfl⟩:=mem_map.mp m
   split
   ·rename_i e
    exact ⟨ts,n,by rw [e]⟩
   ·exact h.all p pm
  ·rcases mem_append.mp m with m | m
   ·exact h.all q m
   ·exact ⟨ts,n,mem_singleton.mp m⟩
theorem VD.val {kvs:List (List Key × V)} (h:VD kvs) {k:List Key} {v:V} (e:AZ kvs k=some v):∃n:Int,v=.int n:=by
 unfold AZ at e
 cases c:kvs.find? fun kv=>decide (kv.1=k) with
 | none=>rw [c] at e;cases e
 | some q =>
   rw [c] at e
   obtain ⟨ts,n,rfl⟩:=h.all q (mem_of_find?_eq_some c)
   exact ⟨n,(Option.some.inj e).symm⟩
theorem VD.keys {kvs:List (List Key × V)} (h:VD kvs):∃ks:List (List Int),kvs.map (·.1)=ks.map (List.map Sum.inl)/\ks.length=kvs.length/\ks.Nodup/\∀ts,ts∈ks↔∃n:Int,AZ kvs (ts.map Sum.inl)=some (.int n):=by
 have key:∀{l:List (List Key × V)},(∀q∈l,q∈kvs)->∃ks:List (List Int),l.map (·.1)=ks.map (List.map Sum.inl)/\ks.length=l.length:=by
  intro l
  induction l with
  | nil=>intro _;exact ⟨[],rfl,rfl⟩
  | cons q r ih =>
    intro sub
    obtain ⟨ks,e1,e2⟩:=ih fun p m=>sub p (mem_cons_of_mem _ m)
    obtain ⟨ts,n,eq⟩:=h.all q (sub q (mem_cons_self ..))
    exact ⟨ts :: ks,by rw [map_cons,map_cons,e1,eq],by rw [length_cons,length_cons,e2]⟩
 obtain ⟨ks,e1,e2⟩:=key fun q m=>m
 have mm:∀ts,ts∈ks↔(ts.map Sum.inl:List Key)∈kvs.map (·.1):=fun ts=>by
  rw [e1]
  constructor
  ·intro m;exact mem_map.mpr ⟨ts,m,rfl⟩
  ·intro m
   obtain ⟨us,um,e⟩:=mem_map.mp m
   rw [<- MG e]
   exact um
 refine ⟨ks,e1,e2,?_,fun ts=>⟨fun m=>?_,fun ⟨n,e⟩=>(mm ts).mpr (QD e)⟩⟩
 ·have nd:=h.nd
  rw [e1] at nd
  exact IA nd
 ·cases c:AZ kvs (ts.map Sum.inl:List Key) with
  | none=>exact absurd ((mm ts).mp m) (Hn c)
  | some v =>
    obtain ⟨n,rfl⟩:=h.val c
    exact ⟨n,rfl⟩
structure DictOf (ds:Ds) (kvs:List (List Key × V)):Prop where
 vd:VD kvs
 val:∀ts:List Int,AZ kvs (ts.map Sum.inl)=if ts∈ds.map (·.1) then some (.int (tot ds ts)) else none
theorem DictOf.nil:DictOf [] []:=⟨⟨nodup_nil,fun _ m=>absurd m List.not_mem_nil⟩,fun _=>rfl⟩
noncomputable def O7 (kvs:List (List Key × V)) (ts:List Int):Int:=match AZ kvs (ts.map Sum.inl:List Key) with
 | some (.int n)=>n
 | _=>0
theorem DictOf.put {ds:Ds} {kvs:List (List Key × V)} (h:DictOf ds kvs) (ts:List Int) (n:Int):DictOf (ds++[(ts,n)]) (BD kvs (ts.map Sum.inl) (.int (tot ds ts+n))):=by
 refine ⟨h.vd.put ts _,fun us=>?_⟩
 rw [GO,h.val us,Hu,map_append]
 show (if (us.map Sum.inl:List Key)=ts.map Sum.inl then _ else _)=if us∈ds.map (·.1)++[ts] then some (V.int (tot ds us+((if ts=us then n else 0)+0))) else none
 by_cases c:us=ts
 ·subst c
  rw [if_pos rfl,if_pos (by simp),if_pos rfl]
  rw [Int.add_zero]
 ·rw [if_neg (fun e=>c (MG e)),if_neg (Ne.symm c)]
  by_cases m:us∈ds.map (·.1)
  ·rw [if_pos m,if_pos (by simp;left;simpa using m)]
   rw [Int.add_zero,Int.add_zero]
  ·rw [if_neg m,if_neg (by simp;exact ⟨by simpa using m,c⟩)]
theorem Dq {α:Type} [DecidableEq α]:∀{l p:List α},l.Nodup->(∀x∈l,x∈p)->l.length<=p.length
 | [],_,_,_=>Nat.zero_le _
 | x :: l,p,n,s=>by
   rw [nodup_cons] at n
   have m:=s x (mem_cons_self ..)
   have ih:=Dq (p:=p.erase x) n.2 fun y hy=>(mem_erase_of_ne (fun e:y=x=>n.1 (by rw [<- e];exact hy))).mpr (s y (mem_cons_of_mem _ hy))
   rw [length_erase_of_mem m] at ih
   have:=length_pos_of_mem m
   rw [length_cons]
   omega
theorem DictOf.len {ds:Ds} {kvs:List (List Key × V)} (h:DictOf ds kvs) {p:List (List Int)} (s:∀q∈ds,q.1∈p):kvs.length<=p.length:=by
 obtain ⟨ks,_,e2,nd,mm⟩:=h.vd.keys
 rw [<- e2]
 refine Dq nd fun ts m=>?_
 obtain ⟨n,e⟩:=(mm ts).mp m
 rw [h.val ts] at e
 by_cases c:ts∈ds.map (·.1)
 ·obtain ⟨q,qm,rfl⟩:=mem_map.mp c
  exact s q qm
 ·rw [if_neg c] at e;cases e
theorem DictOf.sheet {ds out:Ds} {kvs:List (List Key × V)} (h:DictOf ds kvs) (p:Pos ds) (srt:out.Pairwise (fun x y=>HT.lexLt x.1 y.1=true)) (mem:∀ts n,(ts,n)∈out↔AZ kvs (ts.map Sum.inl)=some (.int n)/\0 < n):Ml ds out:=by
 refine ⟨srt,fun ts n=>?_⟩
 rw [mem,h.val]
 by_cases c:ts∈ds.map (·.1)
 ·rw [if_pos c]
  constructor
  ·rintro ⟨e,z⟩;injection e with e;injection e with e;exact ⟨e.symm,z⟩
  ·rintro ⟨e,z⟩;exact ⟨by rw [e],z⟩
 ·rw [if_neg c,Gw c]
  constructor
  ·rintro ⟨e,_⟩;cases e
  ·rintro ⟨e,z⟩;omega
theorem PV {ds:Ds} {kvs:List (List Key × V)} (h:DictOf ds kvs) (ts:List Int):(AZ kvs (ts.map Sum.inl:List Key)).getD (.int 0)=.int (tot ds ts):=by
 rw [h.val ts]
 by_cases c:ts∈ds.map (·.1)
 ·rw [if_pos c];rfl
 ·rw [if_neg c,Gw c];rfl
noncomputable def NK:Sp:=fun vs H Q _=>∃(l:Addr) (ls:Ls),vs=[.ref l]/\H l=some (.lst (vls ls))/\Br H ls/\ls.length<=900/\∀H':Hp,Az H H'->Q (.int ((Ao ls).map (·.2)).sum) H'
theorem GM {n:Nat} (h:n<=900):n<=sizeLine:=Nat.le_of_lt (AT (by omega))
theorem DQ {m:Int} {i:Nat} (h0:0<=m) (h:m < 2 ^ i):bit m i=false:=by
 unfold bit
 rw [Int.ediv_eq_zero_of_lt h0 h]
 decide
theorem HJ {m:Int} {k:Nat} (h0:0<=m) (h:m < 2 ^ k):∀d:Nat,hands (k+d) (bit m)=hands k (bit m)
 | 0=>rfl
 | d+1=>by
   have p:(2:Int) ^ k<=2 ^ (k+d):=by
    have q:2 ^ k<=2 ^ (k+d):=Nat.pow_le_pow_right (by decide) (by omega)
    have e1:((2 ^ k:Nat):Int)=(2:Int) ^ k:=by simp
    have e2:((2 ^ (k+d):Nat):Int)=(2:Int) ^ (k+d):=by simp
    omega
   show hands ((k+d)+1) (bit m)=hands k (bit m)
   rw [D5,DQ h0 (by omega),if_neg (by decide),HJ h0 h d]
theorem OL {m:Int} (h0:0<=m) (h:m < 4096):hands (Builtin.Int.intBits m) (bit m)=hands 12 (bit m):=by
 have b:Builtin.Int.intBits m<=12:=intBits_le_iff.mpr (by show m.natAbs < 4096;omega)
 have l:m.natAbs < 2 ^ Builtin.Int.intBits m:=intBits_le_iff.mp (Nat.le_refl _)
 have l':m < (2:Int) ^ Builtin.Int.intBits m:=by
  have e:((2 ^ Builtin.Int.intBits m:Nat):Int)=(2:Int) ^ Builtin.Int.intBits m:=by simp
  omega
 obtain ⟨d,hd⟩:∃d,12=Builtin.Int.intBits m+d:=⟨12 - Builtin.Int.intBits m,by omega⟩
 rw [hd,HJ h0 l' d]
noncomputable def D1 (hs:List Int):Int:=(hs.map fun h=>(1:Int)*2 ^ h.toNat).sum
theorem Jm:∀{hs:List Int} {a n:Nat},hs.Pairwise (· < ·)->(∀h∈hs,(a:Int)<=h/\h < (n:Int))->a<=n->0<=D1 hs/\D1 hs<=2 ^ n - 2 ^ a
 | [],a,n,_,_,l=>by
   have:(2:Int) ^ a<=2 ^ n:=by
    have:=Nat.pow_le_pow_right (show 0 < 2 by decide) l
    exact_mod_cast this
   exact ⟨Int.le_refl _,by show (0:Int)<=_;omega⟩
 | h :: hs,a,n,p,k,l=>by
   rw [pairwise_cons] at p
   obtain ⟨k1,k2⟩:=k h (mem_cons_self ..)
   obtain ⟨j,rfl⟩:∃j:Nat,h=(j:Int):=⟨h.toNat,by omega⟩
   have ih:=Jm (hs:=hs) (a:=j+1) (n:=n) p.2 (fun x m=>⟨by have:=p.1 x m;omega,(k x (mem_cons_of_mem _ m)).2⟩) (by omega)
   show 0<=1*2 ^ (j:Int).toNat+D1 hs/\1*2 ^ (j:Int).toNat+D1 hs<=_
   rw [Int.toNat_natCast,Int.one_mul]
   have e:(2:Int) ^ (j+1)=2 ^ j*2:=Int.pow_succ ..
   have le:(2:Int) ^ a<=2 ^ j:=by
    have:=Nat.pow_le_pow_right (show 0 < 2 by decide) (show a<=j by omega)
    exact_mod_cast this
   have pos:(0:Int) < 2 ^ j:=Int.pow_pos (by decide)
   omega
theorem Qh {hs:List Int} {n:Nat} (p:hs.Pairwise (· < ·)) (k:∀h∈hs,0<=h/\h < (n:Int)) (ne:hs≠[]):0 < D1 hs/\D1 hs < 2 ^ n:=by
 have a:=Jm (a:=0) p k (Nat.zero_le _)
 have e:(2:Int) ^ 0=1:=rfl
 refine ⟨?_,by omega⟩
 cases hs with
 | nil=>exact absurd rfl ne
 | cons h hs =>
   obtain ⟨k1,k2⟩:=k h (mem_cons_self ..)
   rw [pairwise_cons] at p
   have b:=Jm (a:=0) p.2 (fun x m=>k x (mem_cons_of_mem _ m)) (Nat.zero_le _)
   show 0 < 1*2 ^ h.toNat+D1 hs
   have:(0:Int) < 2 ^ h.toNat:=Int.pow_pos (by decide)
   omega
theorem R9 {t:TT} {σ:St} {H:Hp} {Q:Bool->Hp->Prop} (b:Bool) (h:∀R:Bool->Hp->Prop,(∀H',Az H H'->R b H')->t σ H R) (q:∀H',Az H H'->Q b H'):t σ H Q:=h Q q
theorem Qe {t:TT} {σ:St} {H:Hp} {Q:Bool->Hp->Prop} (b:Bool) (h:∀R:Bool->Hp->Prop,R b H->t σ H R) (q:Q b H):t σ H Q:=h Q q
noncomputable def RR:Sp:=fun vs H Q _=>∃(l:Addr) (hs:List Int),vs=[.ref l]/\H l=some (.lst (hs.map V.int))/\hs.length<=100/\(∀h∈hs,0<=h/\h < 64)/\∀H':Hp,Az H H'->Q (.int (D1 hs)) H'
theorem Pi {κ:Type} [DecidableEq κ] {kvs:List (κ × V)} {k:κ} {v:V} {q:κ × V} (h:q∈BD kvs k v):q=(k,v)\/q∈kvs:=by
 unfold BD at h
 split at h
 ·obtain ⟨p,pm,rfl⟩:=mem_map.mp h
  by_cases c:p.1=k
  ·rw [if_pos c,c];exact .inl rfl
  ·rw [if_neg c];exact .inr pm
 ·rcases mem_append.mp h with m | m
  ·exact .inr m
  ·exact .inl (mem_singleton.mp m)
theorem RE {κ:Type} [DecidableEq κ] {kvs:List (κ × V)} {k:κ} {v:V} (h:(kvs.map (·.1)).Nodup):((BD kvs k v).map (·.1)).Nodup:=by
 cases e:AZ kvs k with
 | none=>exact M8 _ h e
 | some w=>rw [Iq e];exact h
theorem KG {κ:Type} [DecidableEq κ] {kvs:List (κ × V)} {k:κ} {v:V} (h:AZ kvs k=some v):(k,v)∈kvs:=by
 unfold AZ at h
 cases c:kvs.find? fun kv=>decide (kv.1=k) with
 | none=>rw [c] at h;cases h
 | some q =>
   rw [c] at h
   have e:q.1=k:=of_decide_eq_true (List.find?_some (p:=fun kv:κ × V=>decide (kv.1=k)) c)
   have f:q.2=v:=Option.some.inj h
   rw [<- e,<- f]
   exact mem_of_find?_eq_some c
noncomputable def KJ (n i:Nat) (w:Int) (hs:List Int):Prop:=hs≠[]/\hs.Pairwise (· < ·)/\∀h∈hs,0<=h/\h < (n:Int)/\(w=1\/w=2->h < (i:Int))
noncomputable def Cl (J:Hp) (l:Addr) (n i:Nat) (w:Int) (kvs:List (Key × V)):Prop:=(kvs.map (·.1)).Nodup/\∀q∈kvs,∃(z:Int) (a:Addr) (hs:List Int),q=(Sum.inl z,.ref a)/\J a=some (.lst (hs.map V.int))/\a≠l/\KJ n i w hs
theorem Cl.same {J J':Hp} {l:Addr} {n i:Nat} {w:Int} {kvs:List (Key × V)} (s:Az J J') (h:Cl J l n i w kvs):Cl J' l n i w kvs:=⟨h.1,fun q m=>by
 obtain ⟨z,a,hs,e,h1,h2,h3⟩:=h.2 q m
 exact ⟨z,a,hs,e,s _ _ h1,h2,h3⟩⟩
theorem Cl.up {J:Hp} {l:Addr} {n i:Nat} {w:Int} {kvs:List (Key × V)} (h:Cl J l n i w kvs):Cl J l n (i+1) w kvs:=⟨h.1,fun q m=>by
 obtain ⟨z,a,hs,e,h1,h2,h3,h4,h5⟩:=h.2 q m
 exact ⟨z,a,hs,e,h1,h2,h3,h4,fun x xm=>⟨(h5 x xm).1,(h5 x xm).2.1,fun k=>by have:=(h5 x xm).2.2 k;omega⟩⟩⟩
theorem Cl.off {J:Hp} {l:Addr} {n i:Nat} {w:Int} {kvs:List (Key × V)} {o:HO} (h:Cl J l n i w kvs):Cl (upd J l o) l n i w kvs:=⟨h.1,fun q m=>by
 obtain ⟨z,a,hs,e,h1,h2,h3⟩:=h.2 q m
 exact ⟨z,a,hs,e,by rw [Ap h2];exact h1,h2,h3⟩⟩
theorem Cl.put {J:Hp} {l d a:Addr} {n i:Nat} {w z:Int} {kvs ks:List (Key × V)} {hs:List Int} (h:Cl J l n i w kvs) (hd:J d=some (.dK ks)) (ha:J a=some (.lst (hs.map V.int))) (al:a≠l) (t:KJ n i w hs):Cl (upd J d (.dK (BD kvs (Sum.inl z) (.ref a)))) l n i w (BD kvs (Sum.inl z) (.ref a)):=by
 have keep:∀{b:Addr} {xs:List V},J b=some (.lst xs)->(upd J d (.dK (BD kvs (Sum.inl z) (.ref a)))) b=some (.lst xs):=fun {b xs} e=>by rw [Ap (BV e hd (fun z=>by cases z))];exact e
 refine ⟨RE h.1,fun q m=>?_⟩
 rcases Pi m with rfl | m
 ·exact ⟨z,a,hs,rfl,keep ha,al,t⟩
 ·obtain ⟨z',a',hs',e,h1,h2,h3⟩:=h.2 q m
  exact ⟨z',a',hs',e,keep h1,h2,h3⟩
theorem Cl.keys {J:Hp} {l:Addr} {n i:Nat} {w:Int} {kvs:List (Key × V)} (h:Cl J l n i w kvs):∃ns:List Int,kvs.map (·.1)=ns.map Sum.inl/\ns.length=kvs.length/\∀z∈ns,∃(a:Addr) (hs:List Int),AZ kvs (Sum.inl z)=some (.ref a)/\J a=some (.lst (hs.map V.int))/\KJ n i w hs:=by
 have key:∀{r:List (Key × V)},(∀q∈r,q∈kvs)->∃ns:List Int,r.map (·.1)=ns.map Sum.inl/\ns.length=r.length:=by
  intro r
  induction r with
  | nil=>intro _;exact ⟨[],rfl,rfl⟩
  | cons q r ih =>
    intro sub
    obtain ⟨ns,e1,e2⟩:=ih fun p m=>sub p (mem_cons_of_mem _ m)
    obtain ⟨z,a,hs,eq,_⟩:=h.2 q (sub q (mem_cons_self ..))
    exact ⟨z :: ns,by rw [map_cons,map_cons,e1,eq],by rw [length_cons,length_cons,e2]⟩
 obtain ⟨ns,e1,e2⟩:=key fun q m=>m
 refine ⟨ns,e1,e2,fun z m=>?_⟩
 have zm:(Sum.inl z:Key)∈kvs.map (·.1):=by rw [e1];exact mem_map.mpr ⟨z,m,rfl⟩
 cases c:AZ kvs (Sum.inl z:Key) with
 | none=>exact absurd zm (Hn c)
 | some v =>
   obtain ⟨z',a,hs,eq,h1,_,h3⟩:=h.2 _ (KG c)
   injection eq with eq1 eq2
   exact ⟨a,hs,by rw [eq2],h1,h3⟩
def OkT (n:Nat) (ts:List Int):Prop:=(∀x∈ts,0 < x/\x < 2 ^ n)/\ts.length<=12
noncomputable def OQ:Sp:=fun vs H Q _=>∃(c:Int) (n:Nat),vs=[.int c,.int (n:Int)]/\Sz 200 c/\1<=n/\n<=12/\∀(t:Addr) (ts:List Int) (H':Hp),H t=none->Az H H'->H' t=some (.tup (ts.map V.int))->OkT n ts->Q (.ref t) H'
noncomputable def L9:Sp:=fun vs H Q _=>∃c m:Int,vs=[.int c,.int m]/\Sz 200 c/\1<=m/\m<=10 ^ 10/\∀z:Int,1<=z->z<=m->Q (.int z) H
structure Drawn (n:Nat) (most:Int) (ds:Ds):Prop where
 srt:ds.Pairwise (fun x y=>HT.lexLt x.1 y.1=true)
 ok:∀q∈ds,OkT n q.1/\1<=q.2/\q.2<=64*most
 len:ds.length<=13
 pos:1<=ds.length
noncomputable def NL (K:PySem.W.Frag):Sp:=fun vs H Q _=>∃(p:Addr) (ns:List Int) (k:Int) (n m:Nat) (most:Int),vs=[.ref p,.int k,.int (n:Int),.int (m:Int),.int most]/\SqL K H p (ns.map V.int)/\ns.length<=63/\0<=k/\k<=100/\1<=n/\n<=12/\1<=m/\m<=12/\1<=most/\most<=10 ^ 9 /\
 ∀(l:Addr) (ls:Ls) (H':Hp),H l=none->Az H H'->H' l=some (.lst (vls ls))->Br H' ls->Drawn n most (Ao ls)->Q (.ref l) H'
theorem K5 {most:Int} {ts:List Int}:∀{ds:Ds},(∀q∈ds,1<=q.2/\q.2<=most)->0<=most->tot ds ts<=(ds.length:Int)*most
 | [],_,m=>by show (0:Int)<=0*most;omega
 | q :: r,h,m=>by
   have h1:=h q (mem_cons_self ..)
   have h2:=K5 (ts:=ts) (fun p k=>h p (mem_cons_of_mem _ k)) m
   show (if q.1=ts then q.2 else 0)+tot r ts<=((r.length+1:Nat):Int)*most
   rw [show ((r.length+1:Nat):Int)*most=(r.length:Int)*most+most from by rw [Int.natCast_add,Int.add_mul];omega]
   split <;> omega
theorem Ml.drawn {n:Nat} {most:Int} {ds out:Ds} {p:List (List Int)} (h:Ml ds out) (po:Pos ds) (sub:∀q∈ds,q.1∈p) (ok:∀t∈p,OkT n t) (l13:p.length<=13) (ne:ds≠[]) (b:∀ts,tot ds ts<=64*most):Drawn n most out:=by
 have key:∀q∈out,q.1∈ds.map (·.1):=fun q m=>by
  have:=(h.mem q.1 q.2).mp m
  by_cases c:q.1∈ds.map (·.1)
  ·exact c
  ·rw [Gw c] at this
   omega
 refine ⟨h.srt,fun q m=>?_,?_,?_⟩
 ·obtain ⟨d,dm,de⟩:=mem_map.mp (key q m)
  have a:=(h.mem q.1 q.2).mp m
  exact ⟨ok _ (by rw [<- de];exact sub d dm),by omega,by rw [a.1];exact b _⟩
 ·have nd:(out.map (·.1)).Nodup:=pairwise_map.mpr (h.srt.imp fun h e=>by
   rw [e] at h
   have:=JU h
   rw [h] at this
   cases this)
  have:=Dq (p:=p) nd (fun t m=>by
   obtain ⟨q,qm,rfl⟩:=mem_map.mp m
   obtain ⟨d,dm,de⟩:=mem_map.mp (key q qm)
   rw [<- de]
   exact sub d dm)
  rw [length_map] at this
  omega
 ·obtain ⟨d,r,rfl⟩:=exists_cons_of_ne_nil ne
  have t:=Lj (ts:=d.1) po (by rw [map_cons];exact mem_cons_self ..)
  exact length_pos_of_mem ((h.mem d.1 _).mpr ⟨rfl,t⟩)
noncomputable def Df (ps:List (Int × Int)):List (Key × V):=ps.map fun q=>(Sum.inl q.1,V.int q.2)
noncomputable def Fb (ps:List (Int × Int)) (b z:Int):List (Int × Int):=if (ps.any fun q=>decide (q.1=b))=true then ps.map (fun q=>if q.1=b then (q.1,z) else q) else ps++[(b,z)]
noncomputable def E5 (ps:List (Int × Int)) (b:Int):Option Int:=(ps.find? fun q=>decide (q.1=b)).map (·.2)
theorem PZ (ps:List (Int × Int)) (b:Int):((Df ps).any fun kv=>decide (kv.1=Sum.inl b))=ps.any fun q=>decide (q.1=b):=by
 unfold Df
 rw [any_map]
 congr 1
 funext q
 show decide ((Sum.inl q.1:Key)=Sum.inl b)=decide (q.1=b)
 exact decide_eq_decide.mpr ⟨fun e=>Sum.inl.inj e,fun e=>by rw [e]⟩
theorem QR (ps:List (Int × Int)) (b z:Int):BD (Df ps) (Sum.inl b) (.int z)=Df (Fb ps b z):=by
 unfold BD Fb
 rw [PZ]
 split
 ·unfold Df
  rw [map_map,map_map]
  refine map_congr_left fun q _=>?_
  show (if (Sum.inl q.1:Key)=Sum.inl b then _ else _)=_
  by_cases c:q.1=b
  ·rw [if_pos (by rw [c])]
   show _=((fun q:Int × Int=>((Sum.inl q.1:Key),V.int q.2)) (if q.1=b then (q.1,z) else q))
   rw [if_pos c]
  ·rw [if_neg (fun e=>c (Sum.inl.inj e))]
   show _=((fun q:Int × Int=>((Sum.inl q.1:Key),V.int q.2)) (if q.1=b then (q.1,z) else q))
   rw [if_neg c]
 ·unfold Df
  rw [map_append]
  rfl
theorem M7:∀(ps:List (Int × Int)) (b:Int),AZ (Df ps) (Sum.inl b)=(E5 ps b).map V.int
 | [],b=>rfl
 | q :: r,b=>by
   have ih:=M7 r b
   unfold AZ E5 Df at ih ⊢
   rw [map_cons,List.find?_cons,List.find?_cons]
   by_cases c:q.1=b
   ·rw [decide_eq_true c,decide_eq_true (show (Sum.inl q.1:Key)=Sum.inl b from by rw [c])]
    rfl
   ·rw [decide_eq_false c,decide_eq_false (show ¬ (Sum.inl q.1:Key)=Sum.inl b from fun e=>c (Sum.inl.inj e))]
    exact ih
noncomputable def Gs (φ:Int->Int) (ps:List (Int × Int)):Int:=(ps.map fun q=>q.2*φ q.1).sum
theorem Cs (φ:Int->Int) (q:Int × Int) (r:List (Int × Int)):Gs φ (q :: r)=q.2*φ q.1+Gs φ r:=by unfold Gs;rw [map_cons,sum_cons]
theorem Gd (φ:Int->Int):∀a b:List (Int × Int),Gs φ (a++b)=Gs φ a+Gs φ b
 | [],b=>(Int.zero_add _).symm
 | q :: r,b=>by rw [cons_append,Cs,Cs,Gd φ r b,Int.add_assoc]
theorem IC (φ:Int->Int) (b z:Int):∀{ps:List (Int × Int)},b ∉ ps.map (·.1)->Gs φ (ps.map fun q=>if q.1=b then (q.1,z) else q)=Gs φ ps
 | [],_=>rfl
 | q :: r,h=>by
   rw [map_cons,mem_cons,not_or] at h
   rw [map_cons,if_neg (fun e=>h.1 e.symm),Cs,Cs,IC φ b z h.2]
theorem Ou (φ:Int->Int) (b x:Int):∀{ps:List (Int × Int)},(ps.map (·.1)).Nodup->Gs φ (Fb ps b ((E5 ps b).getD 0+x))=Gs φ ps+x*φ b:=by
 intro ps nd
 unfold Fb
 by_cases c:(ps.any fun q=>decide (q.1=b))=true
 ·rw [if_pos c]
  induction ps with
  | nil=>cases c
  | cons q r ih =>
    rw [map_cons,nodup_cons] at nd
    rw [map_cons,Cs,Cs]
    by_cases e:q.1=b
    ·have v:E5 (q :: r) b=some q.2:=by unfold E5;rw [List.find?_cons,decide_eq_true e];rfl
     rw [v,if_pos e,IC φ b _ (by rw [<- e];exact nd.1)]
     show (q.2+x)*φ q.1+_=_
     rw [Int.add_mul,e]
     omega
    ·have v:E5 (q :: r) b=E5 r b:=by unfold E5;rw [List.find?_cons,decide_eq_false e]
     rw [v,if_neg e]
     rw [any_cons,decide_eq_false e,Bool.false_or] at c
     rw [ih nd.2 c]
     omega
 ·rw [if_neg c]
  have v:E5 ps b=none:=by
   unfold E5
   rw [List.find?_eq_none.mpr fun q m=>?_]
   ·rfl
   ·intro z
    exact c (any_eq_true.mpr ⟨q,m,z⟩)
  rw [v,Gd,Cs]
  show _+((0+x)*φ b+0)=_
  rw [Int.zero_add,Int.add_zero]
theorem FF {ps:List (Int × Int)} {b z:Int}:(Fb ps b z).map (·.1)=if (ps.any fun q=>decide (q.1=b))=true then ps.map (·.1) else ps.map (·.1)++[b]:=by
 unfold Fb
 split
 ·rw [map_map]
  refine map_congr_left fun q _=>?_
  show (if q.1=b then (q.1,z) else q).1=q.1
  split <;> rfl
 ·rw [map_append];rfl
theorem Ql {ps:List (Int × Int)} {b z:Int} (nd:(ps.map (·.1)).Nodup):((Fb ps b z).map (·.1)).Nodup:=by
 rw [FF]
 split
 ·exact nd
 ·rename_i c
  refine nodup_append.mpr ⟨nd,nodup_cons.mpr ⟨(fun m=>nomatch m),nodup_nil⟩,fun x m y k e=>?_⟩
  rw [mem_singleton.mp k] at e
  obtain ⟨q,qm,rfl⟩:=mem_map.mp m
  exact c (any_eq_true.mpr ⟨q,qm,decide_eq_true e⟩)
theorem Eb {ps:List (Int × Int)} {b z:Int} {q:Int × Int} (m:q∈Fb ps b z):q∈ps\/q=(b,z):=by
 unfold Fb at m
 split at m
 ·obtain ⟨p,pm,rfl⟩:=mem_map.mp m
  by_cases c:p.1=b
  ·rw [if_pos c,c];exact .inr rfl
  ·rw [if_neg c];exact .inl pm
 ·rcases mem_append.mp m with m | m
  ·exact .inl m
  ·exact .inr (mem_singleton.mp m)
theorem O2 {ps:List (Int × Int)} {b z x:Int} (m:x∈ps.map (·.1)):x∈(Fb ps b z).map (·.1):=by
 rw [FF]
 split
 ·exact m
 ·exact mem_append_left _ m
theorem OY {ps:List (Int × Int)} {b z:Int}:b∈(Fb ps b z).map (·.1):=by
 rw [FF]
 split
 ·rename_i c
  obtain ⟨q,m,e⟩:=any_eq_true.mp c
  exact mem_map.mpr ⟨q,m,of_decide_eq_true e⟩
 ·exact mem_append_right _ (mem_singleton.mpr rfl)
theorem QQ (o:Option Int):(o.map V.int).getD (.int 0)=.int (o.getD 0):=by cases o <;> rfl
theorem PN (ps:List (Int × Int)) (b z:Int):(Fb ps b z).length<=ps.length+1:=by
 unfold Fb
 split
 ·rw [length_map];exact Nat.le_succ _
 ·rw [length_append];exact Nat.le_refl _
theorem P9 {ps:List (Int × Int)} {b v:Int} (e:E5 ps b=some v):(b,v)∈ps:=by
 unfold E5 at e
 obtain ⟨q,hq,rfl⟩:=Option.map_eq_some_iff.mp e
 have:=List.find?_some hq
 have c:q.1=b:=of_decide_eq_true this
 rw [<- c]
 exact mem_of_find?_eq_some hq
abbrev Wz:=List (Int × Int × Int)
noncomputable def Dg (φ:Int->Int) (zs:Wz):Int:=(zs.map fun z=>if z.2.1=0 then 0 else z.1*z.2.1*φ z.2.2).sum
theorem Iy (φ:Int->Int) (zs:Wz) (z:Int × Int × Int):Dg φ (zs++[z])=Dg φ zs+if z.2.1=0 then 0 else z.1*z.2.1*φ z.2.2:=by
 unfold Dg
 rw [map_append,sum_append]
 show _+((if z.2.1=0 then 0 else z.1*z.2.1*φ z.2.2)+0)=_
 rw [Int.add_zero]
noncomputable def CH (c b:Int):Int:=if c.fmod b≠0 then c*b.fdiv (A7 c b) else c
theorem Nn {c b:Int} (c0:0 < c) (b0:0 < b):c ∣ CH c b/\b ∣ CH c b/\0 < CH c b:=by
 unfold CH
 split
 ·have g0:(0:Int) < A7 c b:=by
   unfold A7
   have:0 < Int.gcd c b:=Int.gcd_pos_of_ne_zero_left _ (Int.ne_of_gt c0)
   exact_mod_cast this
  obtain ⟨x,hx⟩:A7 c b ∣ b:=Int.gcd_dvd_right ..
  obtain ⟨y,hy⟩:A7 c b ∣ c:=Int.gcd_dvd_left ..
  generalize A7 c b=g at g0 hx hy ⊢
  have e:b.fdiv g=x:=by
   rw [Int.fdiv_eq_ediv_of_nonneg b (Int.le_of_lt g0),hx]
   exact Int.mul_ediv_cancel_left _ (Int.ne_of_gt g0)
  have x0:0 < x:=by
   rcases Int.lt_trichotomy x 0 with h | h | h
   ·have:=Int.mul_neg_of_pos_of_neg g0 h;omega
   ·rw [h,Int.mul_zero] at hx;omega
   ·exact h
  rw [e]
  refine ⟨⟨x,rfl⟩,⟨y,?_⟩,Int.mul_pos c0 x0⟩
  rw [hy,hx]
  ac_rfl
 ·rename_i h
  have h':c.fmod b=0:=Classical.byContradiction h
  refine ⟨⟨1,(Int.mul_one _).symm⟩,?_,c0⟩
  rw [Int.fmod_eq_emod_of_nonneg c (Int.le_of_lt b0)] at h'
  exact Int.dvd_of_emod_eq_zero h'
abbrev Fq:=Addr × Int × Int
noncomputable def fqv (fs:List Fq):List V:=fs.map fun f=>.ref f.1
def FqG (H:Hp) (f:Fq):Prop:=H f.1=some (.tup [.int f.2.1,.int f.2.2])
theorem FqG.same {H H':Hp} {f:Fq} (e:Az H H') (g:FqG H f):FqG H' f:=e _ _ g
structure FqB (m:Nat) (f:Fq):Prop where
 b0:0 < f.2.2
 t0:0<=f.2.1
 szt:Sz m f.2.1
 szb:Sz m f.2.2
noncomputable def Cr (ls:Ls) (fs:List Fq):Wz:=(ls.zip fs).map fun p=>(p.1.2.2.2,p.2.2.1,p.2.2.2)
structure Td (m:Nat) (ps:List (Int × Int)):Prop where
 b0:∀q∈ps,0 < q.1
 szb:∀q∈ps,Sz m q.1
noncomputable def S4 (m:Nat):Sp:=fun vs H Q _=>∃(f:Fq) (n:Nat),vs=[.ref f.1,.int (n:Int)]/\FqG H f/\FqB m f/\1<=n/\n<=12 /\
 ∀(T:Addr) (H':Hp),H T=none->Az H H'->H' T=some (.tup [.int (f.2.1.fdiv (A7 f.2.1 n)),.int (f.2.2*(n:Int).fdiv (A7 f.2.1 n))])->Q (.ref T) H'
theorem Ll {n:Nat}:∀{xs:List Int},(∀x∈xs,Sz n x)->Sz (n+xs.length) xs.sum
 | [],_=>by show (0:Int).natAbs < _;exact Nat.pow_pos (by decide)
 | x :: r,h=>by
   rw [sum_cons,length_cons]
   exact ((h x (mem_cons_self ..)).add (Ll fun y m=>h y (mem_cons_of_mem _ m))).mono (by omega)
theorem Sa {ps:List (Int × Int)} {i:Nat} {k:Key} {v:V} (h:(Df ps)[i]?=some (k,v)):∃q,ps[i]?=some q/\k=Sum.inl q.1/\v=.int q.2:=by
 unfold Df at h
 rw [List.getElem?_map] at h
 obtain ⟨q,hq,e⟩:=Option.map_eq_some_iff.mp h
 injection e with e1 e2
 exact ⟨q,hq,e1.symm,e2.symm⟩
theorem Mg (ps:List (Int × Int)):(Df ps).length=ps.length:=length_map ..
noncomputable def AO:List Int->Int->Int
 | [],_=>0
 | t :: ts,s=>if Builtin.bitAnd t s=0 then AO ts s else Builtin.bitAnd t s
theorem GG {n i:Nat} (h:i < n):ixN n (i:Int)=some i:=by
 unfold ixN
 rw [if_pos (by omega)]
 simp [h]
noncomputable def Su (K:PySem.W.Frag):Sp:=fun vs H Q _=>∃(p:Addr) (ts:List Int) (s:Int),vs=[.ref p,.int s]/\SqT K H p (ts.map V.int)/\Q (.int (AO ts s)) H
noncomputable def Bf (fr:Int × Int) (n:Nat):Int × Int:=(fr.1.fdiv (A7 fr.1 n),fr.2*(n:Int).fdiv (A7 fr.1 n))
noncomputable def Kz (wh:List Int) (fr:Int × Int) (ks:List (Int × Int)):List (Int × Int):=if wh=[] then ks++[fr] else wh.foldl (fun r x=>r.set x.toNat (Bf fr wh.length)) (ks++[(0,1)])
noncomputable def Aw (ts:List Int) (s:Int):List Int:=hands 12 (bit (AO ts s))
noncomputable def LZ (m:Nat):Sp:=fun vs H Q _=>∃(sp kl:Addr) (h:Nat) (ts:List Int) (fr:Fq) (ks:List Fq) (s:Int),vs=[.ref sp,.ref fr.1,.ref kl,.int s]/\H sp=some (.tup (ts.map V.int))/\FqG H fr/\FqB m fr/\H kl=some (.lst (fqv ks))/\(∀f∈ks,FqG H f)/\ks.length=h/\h<=12/\0<=AO ts s/\AO ts s < 2 ^ h/\(∀x∈Aw ts s,0<=x/\x < h)/\(Aw ts s).length<=12 /\
 ∀(r:Addr) (fs:List Fq) (H':Hp),H r=none->Az H H'->H' r=some (.lst (fqv fs))->(∀f∈fs,FqG H' f)->fs.map (·.2)=Kz (Aw ts s) fr.2 (ks.map (·.2))->Q (.ref r) H'
theorem FqG.upd {H:Hp} {f:Fq} {a:Addr} {xs:List V} {o:HO} (g:FqG H f) (e:H a=some (.lst xs)):FqG (L2.upd H a o) f:=by
 show (L2.upd H a o) f.1=_
 rw [Ap (BV g e (fun z=>by cases z))]
 exact g
theorem Gx (fs:List Fq) (i:Nat) (f:Fq):(fqv fs).set i (.ref f.1)=fqv (fs.set i f):=by unfold fqv;rw [map_set]
theorem F2 {α:Type} (x:α):∀(wh:List Int) (r:List α),(wh.foldl (fun r y=>r.set y.toNat x) r).length=r.length
 | [],_=>rfl
 | y :: w,r=>by rw [foldl_cons,F2 x w,length_set]
abbrev Sh:=Addr × Fq × Addr × List Fq
noncomputable def shv (xs:List Sh):List V:=xs.map fun x=>.ref x.1
structure ShG (H:Hp) (x:Sh):Prop where
 t:H x.1=some (.tup [.ref x.2.1.1,.ref x.2.2.1])
 f:FqG H x.2.1
 l:H x.2.2.1=some (.lst (fqv x.2.2.2))
 k:∀f∈x.2.2.2,FqG H f
theorem ShG.same {H H':Hp} {x:Sh} (e:Az H H') (g:ShG H x):ShG H' x:=⟨e _ _ g.t,g.f.same e,e _ _ g.l,fun f m=>(g.k f m).same e⟩
abbrev Rw:=Addr × List Fq
noncomputable def rwv (rs:List Rw):List V:=rs.map fun r=>.ref r.1
def RwG (H:Hp) (r:Rw):Prop:=H r.1=some (.lst (fqv r.2))/\∀f∈r.2,FqG H f
theorem RwG.same {H H':Hp} {r:Rw} (e:Az H H') (g:RwG H r):RwG H' r:=⟨e _ _ g.1,fun f m=>(g.2 f m).same e⟩
noncomputable def Py (h:Nat) (s:Int) (ts:List Int):Prop:=0<=AO ts s/\AO ts s < 2 ^ h/\(∀x∈Aw ts s,0<=x/\x < h)/\(Aw ts s).length<=12
noncomputable def Jq (s:Int) (ls:Ls) (xs:List Sh):List (List (Int × Int)):=(ls.zip xs).map fun p=>Kz (Aw p.1.2.2.1 s) p.2.2.1.2 (p.2.2.2.2.map (·.2))
noncomputable def Rj (m:Nat):Sp:=fun vs H Q _=>∃(l st:Addr) (h:Nat) (ls:Ls) (xs:List Sh) (s:Int),vs=[.ref l,.ref st,.int s]/\H l=some (.lst (vls ls))/\Br H ls/\H st=some (.lst (shv xs))/\(∀x∈xs,ShG H x/\FqB m x.2.1/\x.2.2.2.length=h)/\ls.length=xs.length/\ls.length<=60/\h<=12/\(∀q∈ls,Py h s q.2.2.1) /\
 ∀(r:Addr) (rs:List Rw) (H':Hp),H r=none->Az H H'->H' r=some (.lst (rwv rs))->(∀x∈rs,RwG H' x/\H x.1=none)->(rs.map fun x=>x.2.map (·.2))=Jq s ls xs->Q (.ref r) H'
noncomputable def C5 (rs:List Rw) (j:Nat):List Fq:=rs.map fun r=>r.2.getD j (0,0,1)
theorem Pc {fs:List Fq} {j:Nat} (h:j < fs.length):fs[j]?=some (fs.getD j (0,0,1)):=by rw [getD_eq_getElem?_getD,List.getElem?_eq_getElem h];rfl
noncomputable def Rc:Sp:=fun vs H Q _=>∃(l:Addr) (h:Nat) (ls:Ls),vs=[.ref l,.int (h:Int)]/\H l=some (.lst (vls ls))/\ls.length<=60/\h<=12 /\
 ∀(a:Addr) (xs:List Sh) (H':Hp),H a=none->Az H H'->H' a=some (.lst (shv xs))->(∀x∈xs,ShG H' x/\x.2.1.2=(1,1)/\x.2.2.2.map (·.2)=List.replicate h (0,1)/\H x.2.2.1=none/\x.2.2.1≠a)->(xs.map fun x=>x.2.2.1).Nodup->xs.length=ls.length->Q (.ref a) H'
theorem ShG.upd {H:Hp} {x:Sh} {a:Addr} {ys:List V} {o:HO} (g:ShG H x) (e:H a=some (.lst ys)) (ne:x.2.2.1≠a):ShG (L2.upd H a o) x:=by
 refine ⟨?_,g.f.upd e,?_,fun f m=>(g.k f m).upd e⟩
 ·rw [Ap (BV g.t e (fun z=>by cases z))];exact g.t
 ·rw [Ap ne];exact g.l
noncomputable def OM:Sp:=fun vs H Q _=>∃f:Fq,vs=[.ref f.1]/\FqG H f/\0<=f.2.1/\0 < f.2.2/\A7 f.2.1 f.2.2=1/\Q (.bl true) H
noncomputable def C0 (x y:Int × Int):Int × Int:=if y.1=0 then x else if x.2=y.2 then (x.1+y.1,x.2) else (x.1*y.2+y.1*x.2,x.2*y.2)
theorem KD {i:Nat} {n:Int}:∀(σ:St) (H:Hp) (Q Q':Bool->Hp->Prop),(∀b H1,Q b H1->Q' b H1)->Kv (tOp rNe (Ng i) (tC (V.int n))) σ H Q->Kv (tOp rNe (Ng i) (tC (V.int n))) σ H Q':=fun _ _ _ _ f ⟨x,hx,sc,k,e,q⟩=>⟨x,hx,sc,k,e,f _ _ q⟩
def Qs:Sp:=fun vs H Q _=>∃a b:Int,vs=[.int a,.int b]/\0<=a/\0<=b/\Q (.int (A7 a b)) H
theorem GH:∀(n:Nat) {t:Int},0<=t->t < 2 ^ n->t=BZ n (bit t)
 | 0,t,h0,h1=>by
   have:(2:Int) ^ 0=1:=rfl
   show t=0
   omega
 | n+1,t,h0,h1=>by
   have e:(2:Int) ^ (n+1)=2 ^ n*2:=Int.pow_succ ..
   have ih:=GH n (t:=t / 2) (by omega) (by omega)
   show t=(if bit t 0=true then 1 else 0)+2*BZ n (fun i=>bit t (i+1))
   rw [show BZ n (fun i=>bit t (i+1))=BZ n (bit (t / 2)) from Eu n fun i _=>(Fm t i).symm,<- ih,Fl]
   by_cases c:t % 2=1
   ·rw [if_pos (decide_eq_true c)];omega
   ·rw [if_neg (by rw [decide_eq_false c];decide)];omega
theorem Lo {n:Nat} {t s:Int} (h0:0<=t) (h1:t < 2 ^ n):0<=Builtin.bitAnd t s/\Builtin.bitAnd t s < 2 ^ n:=by
 rw [GH n h0 h1,HK]
 exact ⟨FK ..,MA ..⟩
theorem DB {n:Nat} {s:Int}:∀{ts:List Int},(∀t∈ts,0 < t/\t < 2 ^ n)->0<=AO ts s/\AO ts s < 2 ^ n
 | [],_=>⟨Int.le_refl _,Int.pow_pos (by decide)⟩
 | t :: r,h=>by
   have a:=h t (mem_cons_self ..)
   have b:=DB (s:=s) (ts:=r) fun x m=>h x (mem_cons_of_mem _ m)
   show 0<=(if Builtin.bitAnd t s=0 then AO r s else Builtin.bitAnd t s)/\(if Builtin.bitAnd t s=0 then AO r s else Builtin.bitAnd t s) < 2 ^ n
   split
   ·exact b
   ·exact Lo (by omega) a.2
theorem Jf {h:Nat} {ts:List Int} {s:Int} (ok:OkT h ts):Py h s ts:=by
 obtain ⟨a,b⟩:=DB (s:=s) ok.1
 refine ⟨a,b,fun x m=>?_,BW ..⟩
 obtain ⟨i,i12,e,rfl⟩:=Bi.mp m
 refine ⟨by omega,?_⟩
 rcases (by omega:i < h\/h<=i) with c | c
 ·omega
 ·have:(2:Int) ^ h<=2 ^ i:=by
   have:=Nat.pow_le_pow_right (show 0 < 2 by decide) c
   exact_mod_cast this
  rw [DQ a (by omega)] at e
  cases e
noncomputable def Nh (K:PySem.W.Frag):Sp:=fun vs H Q _=>∃(p:Addr) (ts:List Int) (s:Int) (h:Nat),vs=[.ref p,.int s]/\SqT K H p (ts.map V.int)/\OkT h ts/\Q (.int (AO ts s)) H
noncomputable def bc:Nat->Int->Int
 | 0,_=>0
 | n+1,m=>m % 2+bc n (m / 2)
theorem ON:∀n,bc n 0=0
 | 0=>rfl
 | n+1=>by show (0:Int) % 2+bc n (0 / 2)=0;rw [show (0:Int) / 2=0 from rfl,ON n];rfl
theorem Me:∀(n:Nat) {m:Int},0<=m->m < 2 ^ n->bc (n+1) m=bc n m
 | 0,m,h0,h1=>by
   have:(2:Int) ^ 0=1:=rfl
   obtain rfl:m=0:=by omega
   rfl
 | n+1,m,h0,h1=>by
   have e:(2:Int) ^ (n+1)=2 ^ n*2:=Int.pow_succ ..
   show m % 2+bc (n+1) (m / 2)=m % 2+bc n (m / 2)
   rw [Me n (by omega) (by omega)]
theorem Pa:∀(n:Nat) (m:Int),((hands n (bit m)).length:Int)=bc n m
 | 0,_=>rfl
 | n+1,m=>by
   have ih:=Pa n (m / 2)
   show _=m % 2+bc n (m / 2)
   rw [<- ih]
   unfold hands
   rw [length_map,length_map,range_succ_eq_map,filter_cons,filter_map]
   have e:((List.range n).filter (bit m ∘ Nat.succ))=(List.range n).filter (bit (m / 2)):=filter_congr fun i _=>(Fm m i).symm
   rw [e,Fl]
   by_cases c:m % 2=1
   ·rw [if_pos (decide_eq_true c),length_cons,length_map,c]
    push_cast
    omega
   ·rw [if_neg (by rw [decide_eq_false c];decide),length_map]
    omega
noncomputable def Ps:Sp:=fun vs H Q _=>∃m:Int,vs=[.int m]/\0<=m/\m < 4096/\Q (.int ((hands 12 (bit m)).length:Int)) H
theorem IJ {t b:Int} (h:b≠0):∃d,d≠0/\t=B4 t b*d/\b=B1 t b*d/\d.natAbs=Int.gcd t b:=by
 have n:=Mh (t:=t) h
 obtain ⟨k,hk⟩:=Of (x:=t) (y:=b)
 have d2:Dr t b ∣ b:=by
  have d:A7 t b ∣ b:=Int.gcd_dvd_right ..
  unfold Dr
  by_cases c:b < 0
  ·rw [if_pos c];exact Int.neg_dvd.mpr d
  ·rw [if_neg c];exact d
 obtain ⟨l,hl⟩:=d2
 refine ⟨Dr t b,n,?_,?_,?_⟩
 ·unfold B4
  conv=>rhs;arg 1;arg 1;rw [hk]
  rw [Int.mul_fdiv_cancel_left k n,Int.mul_comm]
  exact hk
 ·unfold B1
  conv=>rhs;arg 1;arg 1;rw [hl]
  rw [Int.mul_fdiv_cancel_left l n,Int.mul_comm]
  exact hl
 ·unfold Dr A7
  by_cases c:b < 0
  ·rw [if_pos c,Int.natAbs_neg,Int.natAbs_natCast]
  ·rw [if_neg c,Int.natAbs_natCast]
theorem QV {t b:Int} (h:b≠0):A7 (B4 t b) (B1 t b)=1:=by
 obtain ⟨d,d0,e1,e2,e3⟩:=IJ (t:=t) h
 generalize B4 t b=x at *
 generalize B1 t b=y at *
 rw [e1,e2,Int.gcd_mul_right] at e3
 have dp:0 < d.natAbs:=by omega
 have z:Int.gcd x y=1:=by
  have f:Int.gcd x y*d.natAbs=1*d.natAbs:=by rw [Nat.one_mul];exact e3.symm
  exact Nat.eq_of_mul_eq_mul_right dp f
 unfold A7
 rw [z]
 rfl
theorem Fg {v d:Int} (h:0 < d):∃g,0 < g/\v=B4 v d*g/\d=B1 v d*g:=by
 obtain ⟨g,g0,e1,e2,_⟩:=IJ (t:=v) (b:=d) (by omega)
 have lb:=KI (t:=v) (b:=d) (by omega)
 refine ⟨g,?_,e1,e2⟩
 rcases (by omega:0 < g\/g<=0) with h' | h'
 ·exact h'
 ·have:=Int.mul_nonpos_of_nonneg_of_nonpos (Int.le_of_lt lb) h'
  omega
theorem Hc {t b:Int} {n:Nat} (t0:0<=t) (b0:0 < b) (n1:1<=n) (g1:A7 t b=1):0<=(Bf (t,b) n).1/\0 < (Bf (t,b) n).2/\A7 (Bf (t,b) n).1 (Bf (t,b) n).2=1/\(Bf (t,b) n).1*(b*n)=t*(Bf (t,b) n).2:=by
 obtain ⟨tn,rfl⟩:=Int.eq_ofNat_of_zero_le t0
 obtain ⟨bn,rfl⟩:=Int.eq_ofNat_of_zero_le (Int.le_of_lt b0)
 have gp:0 < Nat.gcd tn n:=Nat.gcd_pos_of_pos_right _ n1
 have cop:Nat.Coprime tn bn:=by
  have:((Nat.gcd tn bn:Nat):Int)=1:=g1
  exact_mod_cast this
 obtain ⟨t',ht⟩:=Nat.gcd_dvd_left tn n
 obtain ⟨n',hn⟩:=Nat.gcd_dvd_right tn n
 have ht':tn / Nat.gcd tn n=t':=Nat.div_eq_of_eq_mul_right gp ht
 have hn':n / Nat.gcd tn n=n':=Nat.div_eq_of_eq_mul_right gp hn
 have e:Bf ((tn:Int),(bn:Int)) n=((t':Int),((bn*n':Nat):Int)):=by
  unfold Bf
  show (((tn:Int).fdiv ((Nat.gcd tn n:Nat):Int)),(bn:Int)*((n:Int).fdiv ((Nat.gcd tn n:Nat):Int)))=_
  rw [Int.fdiv_eq_ediv_of_nonneg _ (Int.natCast_nonneg _),Int.fdiv_eq_ediv_of_nonneg _ (Int.natCast_nonneg _)]
  show (((tn / Nat.gcd tn n:Nat):Int),(bn:Int)*((n / Nat.gcd tn n:Nat):Int))=_
  rw [ht',hn']
  push_cast
  rfl
 have n0:0 < n':=Nat.pos_of_ne_zero fun z=>by rw [z,Nat.mul_zero] at hn;omega
 have bp:0 < bn:=by omega
 rw [e]
 refine ⟨Int.natCast_nonneg _,by have:=Nat.mul_pos bp n0;show (0:Int) < ((bn*n':Nat):Int);omega,?_,?_⟩
 ·have c1:Nat.Coprime t' bn:=Nat.Coprime.coprime_dvd_left ⟨Nat.gcd tn n,by rw [Nat.mul_comm];exact ht⟩ cop
  have c2:Nat.Coprime t' n':=by rw [<- ht',<- hn'];exact Nat.coprime_div_gcd_div_gcd gp
  have:Nat.gcd t' (bn*n')=1:=Nat.Coprime.mul_right c1 c2
  show ((Nat.gcd t' (bn*n'):Nat):Int)=1
  rw [this]
  rfl
 ·show (t':Int)*((bn:Int)*(n:Int))=(tn:Int)*((bn*n':Nat):Int)
  have:t'*(bn*n)=tn*(bn*n'):=by
   generalize Nat.gcd tn n=g at ht hn
   rw [hn,ht]
   ac_rfl
  exact_mod_cast this
noncomputable def JE (h:Nat) (m:Int) (fr:Int × Int) (ks:List (Int × Int)):List (Int × Int):=if m=0 then ks++[fr] else (List.range h).foldl (fun r j=>if bit m j=true then r.set j (fr.1,fr.2*((hands 12 (bit m)).length:Int)) else r) (ks++[(0,1)])
def Lay (k:Nat) (d:PyData):Prop:=d.canLay0=true/\d.depth<=k
mutual
theorem LG:∀d:PyData,d.canLay0=true->PyData.eqv d d=true
 | .none,_=>rfl
 | .bool b,_=>by show (b == b)=true;exact beq_self_eq_true b
 | .int i,_=>by show (i == i)=true;exact beq_self_eq_true i
 | .str x,_=>by show (x == x)=true;exact beq_self_eq_true x
 | .list xs,h=>eqv_mes xs h
 | .tuple xs,h=>eqv_mes xs h
 | .dict _,h=>nomatch h
theorem eqv_mes:∀xs:List PyData,PyData.canLayAll0 xs=true->PyData.eqvAll xs xs=true
 | [],_=>rfl
 | x :: xs,h=>by
   have h':(PyData.canLay0 x && PyData.canLayAll0 xs)=true:=h
   rw [Bool.and_eq_true] at h'
   show (PyData.eqv x x && PyData.eqvAll xs xs)=true
   rw [LG x h'.1,eqv_mes xs h'.2]
   rfl
end
theorem Fd {k:Nat}:∀{xs:List PyData},(∀x∈xs,Lay k x)->PyData.canLayAll0 xs=true/\PyData.depthAll xs<=k
 | [],_=>⟨rfl,Nat.zero_le _⟩
 | x :: xs,h=>by
   obtain ⟨a,b⟩:=Fd (xs:=xs) fun y m=>h y (mem_cons_of_mem _ m)
   obtain ⟨c,d⟩:=h x (mem_cons_self ..)
   refine ⟨?_,?_⟩
   ·show (PyData.canLay0 x && PyData.canLayAll0 xs)=true
    rw [a,c];rfl
   ·show max (PyData.depth x) (PyData.depthAll xs)<=k
    omega
theorem DL {k:Nat} {xs:List PyData} (h:∀x∈xs,Lay k x):Lay (k+1) (.list xs):=⟨(Fd h).1,Nat.succ_le_succ (Fd h).2⟩
theorem EL {k:Nat} {xs:List PyData} (h:∀x∈xs,Lay k x):Lay (k+1) (.tuple xs):=⟨(Fd h).1,Nat.succ_le_succ (Fd h).2⟩
theorem Gz (k:Nat) (i:Int):Lay k (.int i):=⟨rfl,Nat.zero_le _⟩
theorem Lay.mono {k n:Nat} {d:PyData} (h:Lay k d) (kn:k<=n):Lay n d:=⟨h.1,Nat.le_trans h.2 kn⟩
theorem Ek {α:Type} {k:Nat} {f:α->PyData} (h:∀x,Lay k (f x)) (xs:List α):∀d∈xs.map f,Lay k d:=fun d m=>by
 obtain ⟨x,_,rfl⟩:=mem_map.mp m
 exact h x
theorem lay_ints (k:Nat) (ns:List Int):∀d∈ns.map PyData.int,Lay k d:=Ek (fun i=>Gz k i) ns
theorem JX {k:Nat} {a b:PyData} (ha:Lay k a) (hb:Lay k b):Lay (k+1) (.tuple [a,b]):=EL fun x m=>by
 rcases mem_cons.mp m with rfl | m
 ·exact ha
 ·rw [mem_singleton.mp m];exact hb
theorem Lay.shaped {k:Nat} {d:PyData} (h:Lay k d) (k64:k<=64):SeqAt.shaped d=true:=by
 unfold SeqAt.shaped
 rw [h.1,decide_eq_true (Nat.le_trans h.2 k64)]
 rfl
theorem Lay.eqv {k:Nat} {d:PyData} (h:Lay k d):PyData.eqv d d=true:=LG d h.1
theorem DU {α:Type} {K:PySem.W.Frag} {H:Hp} {v:α->V} {d:α->PyData}:∀{xs:List α},(∀x∈xs,Rep K H (v x) (d x))->Reps K H (xs.map v) (xs.map d)
 | [],_=>.nil
 | x :: xs,h=>.cons (h x (mem_cons_self ..)) (DU fun y m=>h y (mem_cons_of_mem _ m))
def DI (L:List Addr) (H J:Hp):Prop:=∀b u,H b=some u->b ∉ L->J b=some u
theorem DI.refl (L:List Addr) (H:Hp):DI L H H:=fun _ _ e _=>e
theorem DI.same {L:List Addr} {H J J':Hp} (o:DI L H J) (s:Az J J'):DI L H J':=fun _ _ e n=>s _ _ (o _ _ e n)
theorem DI.upd {L:List Addr} {H J:Hp} {a:Addr} {x:HO} (o:DI L H J) (m:a∈L):DI L H (upd J a x):=fun b u e n=>by
 rw [Ap (fun z=>n (by rw [z];exact m))]
 exact o b u e n
theorem DI.tup {L:List Addr} {H J:Hp} {b:Addr} {xs:List V} (o:DI L H J) (ll:∀a∈L,∃ys,H a=some (.lst ys)) (e:H b=some (.tup xs)):J b=some (.tup xs):=o b _ e fun m=>by
 obtain ⟨ys,h⟩:=ll b m
 rw [e] at h
 cases h
structure LU (m:Nat) (v:Int × Int):Prop where
 t0:0<=v.1
 b0:0 < v.2
 g:A7 v.1 v.2=1
 szt:Sz m v.1
 szb:Sz m v.2
theorem EW {α β:Type} (c:α) (P:β->Bool) (g:β->Nat):∀(wh:List β) (r:List α) (j:Nat),(wh.foldl (fun r x=>if P x=true then r.set (g x) c else r) r)[j]?=if j < r.length/\(∃x∈wh,P x=true/\g x=j) then some c else r[j]?
 | [],r,j=>by
   rw [if_neg (fun z=>by obtain ⟨_,x,m,_⟩:=z;exact nomatch m)]
   rfl
 | y :: w,r,j=>by
   rw [foldl_cons,EW c P g w]
   have ll:(if P y=true then r.set (g y) c else r).length=r.length:=by
    split
    ·rw [length_set]
    ·rfl
   rw [ll]
   by_cases a:j < r.length/\∃x∈w,P x=true/\g x=j
   ·rw [if_pos a,if_pos ⟨a.1,by obtain ⟨x,m,e⟩:=a.2;exact ⟨x,mem_cons_of_mem _ m,e⟩⟩]
   ·rw [if_neg a]
    by_cases b:j < r.length/\(P y=true/\g y=j)
    ·rw [if_pos b.2.1,if_pos ⟨b.1,y,mem_cons_self ..,b.2⟩,b.2.2,List.getElem?_set_self b.1]
    ·have nb:¬ (j < r.length/\∃x∈y :: w,P x=true/\g x=j):=fun z=>by
      obtain ⟨z1,x,m,z2⟩:=z
      rcases mem_cons.mp m with rfl | m
      ·exact b ⟨z1,z2⟩
      ·exact a ⟨z1,x,m,z2⟩
     rw [if_neg nb]
     by_cases p:P y=true
     ·rw [if_pos p]
      by_cases e:g y=j
      ·have:¬ j < r.length:=fun z=>b ⟨z,p,e⟩
       rw [List.getElem?_eq_none (by rw [length_set];omega),List.getElem?_eq_none (by omega)]
      ·rw [List.getElem?_set_ne e]
     ·rw [if_neg p]
theorem Gh {m:Int} (h0:0<=m) (h1:m < 4096) (e:hands 12 (bit m)=[]):m=0:=by
 rw [GH 12 h0 (by show m < 4096;exact h1)]
 exact Nf (N3 e)
theorem Q6 (h:Nat) (m:Int) (fr:Int × Int) (ks:List (Int × Int)):(JE h m fr ks).length=ks.length+1:=by
 unfold JE
 split
 ·rw [length_append];rfl
 ·have:∀(is:List Nat) (c:Int × Int) (r:List (Int × Int)),(is.foldl (fun r j=>if bit m j=true then r.set j c else r) r).length=r.length:=by
   intro is c
   induction is with
   | nil=>intro r;rfl
   | cons i is ih =>
     intro r
     rw [foldl_cons,ih]
     split
     ·rw [length_set]
     ·rfl
  rw [this,length_append]
  rfl
theorem L5 {a b c d:Int} (b0:0 < b) (d0:0 < d) (a0:0<=a) (c0:0<=c) (g1:A7 a b=1) (g2:A7 c d=1) (e:a*d=c*b):a=c/\b=d:=by
 obtain ⟨a,rfl⟩:=Int.eq_ofNat_of_zero_le a0
 obtain ⟨c,rfl⟩:=Int.eq_ofNat_of_zero_le c0
 obtain ⟨b,rfl⟩:=Int.eq_ofNat_of_zero_le (Int.le_of_lt b0)
 obtain ⟨d,rfl⟩:=Int.eq_ofNat_of_zero_le (Int.le_of_lt d0)
 have c1:Nat.Coprime a b:=by have:((Nat.gcd a b:Nat):Int)=1:=g1;exact_mod_cast this
 have c2:Nat.Coprime c d:=by have:((Nat.gcd c d:Nat):Int)=1:=g2;exact_mod_cast this
 have e':a*d=c*b:=by exact_mod_cast e
 have k1:b ∣ d:=c1.symm.dvd_of_dvd_mul_left (by rw [e'];exact Nat.dvd_mul_left _ _)
 have k2:d ∣ b:=c2.symm.dvd_of_dvd_mul_left (by rw [<- e'];exact Nat.dvd_mul_left _ _)
 have bd:b=d:=Nat.dvd_antisymm k1 k2
 subst bd
 have:a=c:=Nat.eq_of_mul_eq_mul_right (by omega) e'
 exact ⟨by rw [this],rfl⟩
theorem MB (D:Int) (d0:0 < D):∀{zs:Wz},(∀z∈zs,0 < z.2.2/\0<=z.1/\0<=z.2.1)->0<=Dg (fun b=>D.fdiv b) zs
 | [],_=>Int.le_refl _
 | z :: r,h=>by
   have ih:=MB D d0 (zs:=r) fun x m=>h x (mem_cons_of_mem _ m)
   obtain ⟨a,b,c⟩:=h z (mem_cons_self ..)
   show 0<=(if z.2.1=0 then 0 else z.1*z.2.1*D.fdiv z.2.2)+Dg (fun b=>D.fdiv b) r
   split
   ·omega
   ·have:0<=D.fdiv z.2.2:=by rw [Int.fdiv_eq_ediv_of_nonneg D (Int.le_of_lt a)];exact Int.ediv_nonneg (Int.le_of_lt d0) (Int.le_of_lt a)
    have:=Int.mul_nonneg (Int.mul_nonneg b c) this
    omega
theorem J8 {S D:Int} (s0:0<=S) (D0:0 < D):0<=B4 S D/\0 < B1 S D/\A7 (B4 S D) (B1 S D)=1:=by
 obtain ⟨g,g0,h1,h2⟩:=Fg (v:=S) D0
 refine ⟨?_,KI (by omega),QV (by omega)⟩
 rcases (by omega:0<=B4 S D\/B4 S D < 0) with h | h
 ·exact h
 ·have:=Int.mul_neg_of_neg_of_pos h g0
  omega
abbrev Vs:=(Int × Int) × List (Int × Int)
noncomputable def shV (x:Sh):Vs:=(x.2.1.2,x.2.2.2.map (·.2))
noncomputable def fD (v:Int × Int):PyData:=.tuple [.int v.1,.int v.2]
noncomputable def Sc (r:List (Int × Int)):PyData:=.list (r.map fD)
theorem R4 (v:Int × Int):Lay 1 (fD v):=JX (Gz 0 _) (Gz 0 _)
theorem QL (v:List (Int × Int)):Lay 2 (Sc v):=DL (Ek R4 _)
section
variable {K:PySem.W.Frag} {H:Hp}
theorem SU {f:Fq} (g:FqG H f):Rep K H (.ref f.1) (fD f.2):=.tup (SqT.of g) (.cons (.int _) (.cons (.int _) .nil))
theorem Pl {fs:List Fq} (g:∀f∈fs,FqG H f):Reps K H (fqv fs) ((fs.map (·.2)).map fD):=by
 rw [map_map]
 exact DU fun f m=>SU (g f m)
theorem QU {rs:List Rw} (g:∀x∈rs,RwG H x):Reps K H (rwv rs) ((rs.map fun x=>x.2.map (·.2)).map Sc):=by
 rw [map_map]
 exact DU fun r m=>.lst (SqL.of (g r m).1) (Pl (g r m).2)
end
theorem Oz (n:Nat) (t:Addr):(List.replicate n [V.ref t]).flatten=fqv (List.replicate n (t,0,1)):=by
 unfold fqv
 rw [map_replicate]
 induction n with
 | zero=>rfl
 | succ n ih=>rw [replicate_succ,flatten_cons,ih,replicate_succ];rfl
theorem Qc {m:Nat} {t b:Int} (t0:0<=t) (b0:0 < b) (szt:Sz m t) (szb:Sz m b):LU m (B4 t b,B1 t b):=by
 have e1:B4 t b=t.fdiv (A7 t b):=by unfold B4 Dr;rw [if_neg (by omega)]
 have e2:B1 t b=b.fdiv (A7 t b):=by unfold B1 Dr;rw [if_neg (by omega)]
 obtain ⟨k1,k2,k3⟩:=J8 t0 b0
 exact ⟨k1,k2,k3,by show Sz m (B4 t b);rw [e1];exact szt.fdiv,by show Sz m (B1 t b);rw [e2];exact szb.fdiv⟩
theorem BU {fs:List Fq} {j:Nat} {f:Fq} (e:fs[j]?=some f):atI (fqv fs) (j:Int)=some (.ref f.1):=Cb (by unfold fqv;rw [List.getElem?_map,e];rfl)
theorem FB {fs:List Rw} {j:Nat} {f:Rw} (e:fs[j]?=some f):atI (rwv fs) (j:Int)=some (.ref f.1):=Cb (by unfold rwv;rw [List.getElem?_map,e];rfl)
theorem P4 {fs:Ls} {j:Nat} {f:Addr × Addr × List Int × Int} (e:fs[j]?=some f):atI (vls fs) (j:Int)=some (.ref f.1):=Cb (by unfold vls;rw [List.getElem?_map,e];rfl)
section
variable {L:List Addr} {H J:Hp}
end
theorem OF (s:Int) (ls:Ls) (xs:List Sh):Jq s ls xs=(ls.zip (xs.map shV)).map fun p=>Kz (Aw p.1.2.2.1 s) p.2.1 p.2.2:=by
 unfold Jq
 rw [zip_map_right,map_map]
 rfl
noncomputable def lnD (q:Addr × Addr × List Int × Int):PyData:=.tuple [.tuple (q.2.2.1.map .int),.int q.2.2.2]
theorem Si (q:Addr × Addr × List Int × Int):Lay 2 (lnD q):=JX (EL (lay_ints 0 _)) (Gz 1 _)
theorem Ei (ls:Ls):Lay 3 (.list (ls.map lnD)):=DL (Ek Si ls)
theorem GD {K:PySem.W.Frag} {H:Hp} {ls:Ls} (g:Br H ls):Reps K H (vls ls) (ls.map lnD):=DU fun q m=>.tup (SqT.of (g q m).1) (.cons (.tup (SqT.of (g q m).2) (.ints _)) (.cons (.int _) .nil))
theorem De {X:Cx} (K:PySem.W.Frag) (hK:X.K=K:=by rfl):C6 X (.type "list") (fun xs H Q=>∃p ys,xs=[.ref p]/\(SqL K H p ys\/SqT K H p ys)/\∀l,H l=none->Q (.ref l) (upd H l (.lst ys))):=by
 subst hK
 exact BF
def Q2 (v w:Int × Int):Prop:=v.1*w.2=w.1*v.2
def L2' (v w:Int × Int):Prop:=v.1*w.2<=w.1*v.2
theorem Q2.low {a b:Int} (b0:0 < b):Q2 (B4 a b,B1 a b) (a,b):=by
 obtain ⟨g,g0,e1,e2⟩:=Fg (v:=a) b0
 show B4 a b*b=a*B1 a b
 generalize B4 a b=x at *
 generalize B1 a b=y at *
 rw [e1,e2]
 ac_rfl
theorem L2'.trans {u v w:Int × Int} (v0:0 < v.2) (u0:0<=u.2) (w0:0<=w.2) (h:L2' u v) (k:L2' v w):L2' u w:=by
 unfold L2' at *
 have a:=Int.mul_le_mul_of_nonneg_right h w0
 have b:=Int.mul_le_mul_of_nonneg_right k u0
 have:u.1*w.2*v.2<=w.1*u.2*v.2:=by
  rw [show u.1*w.2*v.2=u.1*v.2*w.2 from by ac_rfl,show w.1*u.2*v.2=w.1*v.2*u.2 from by ac_rfl]
  refine Int.le_trans a ?_
  rw [show v.1*u.2*w.2=v.1*w.2*u.2 from by ac_rfl]
  exact b
 exact Int.le_of_mul_le_mul_right this v0
theorem L2'.of {v w:Int × Int} (h:Q2 v w):L2' v w:=Int.le_of_eq h
noncomputable def Dp (v:Int × Int) (q:Int):Int × Int:=if q*v.2 < v.1*1 then (B4 (q*v.2) (1*v.1),B1 (q*v.2) (1*v.1)) else (1,1)
noncomputable def Bh (s p:Int × Int):Int × Int:=(B4 (s.1*p.1) (s.2*p.2),B1 (s.1*p.1) (s.2*p.2))
noncomputable def Eo (f g:Int × Int):Int × Int:=(B4 (f.1*g.2 - g.1*f.2) (f.2*g.2),B1 (f.1*g.2 - g.1*f.2) (f.2*g.2))
structure Ro (m:Nat) (p:Int × Int):Prop where
 t0:0<=p.1
 b0:0 < p.2
 le:p.1<=p.2
 szt:Sz m p.1
 szb:Sz m p.2
noncomputable def Jp (K:PySem.W.Frag) (f g:Int->Int->Int->Int->Int):Sp:=fun vs H Q _=>∃(p r:Addr) (t b u c:Int),vs=[.ref p,.ref r]/\H p=some (.tup [.int t,.int b])/\H r=some (.tup [.int u,.int c])/\g t b u c≠0/\Sz 6600 t/\Sz 6600 b/\Sz 6600 u/\Sz 6600 c /\
 ∀(z:Addr) (H':Hp),Az H H'->FqG H' (z,B4 (f t b u c) (g t b u c),B1 (f t b u c) (g t b u c))->Q (.ref z) H'
noncomputable def Nl:Sp:=fun vs H Q _=>∃(p r:Addr) (t b u c:Int),vs=[.ref p,.ref r]/\H p=some (.tup [.int t,.int b])/\H r=some (.tup [.int u,.int c])/\Sz 9000 t/\Sz 9000 b/\Sz 9000 u/\Sz 9000 c/\Q (.bl (decide (t*c < u*b))) H
noncomputable def OS:Sp:=fun vs H Q _=>∃m:Int,vs=[.int m]/\0<=m/\m < 4096/\∀H':Hp,Az H H'->Q (.int ((hands 12 (bit m)).length:Nat)) H'
noncomputable def BM (ts:List Int) (s:Int) (hd:Nat) (fr:Int × Int):Int × Int:=if bit (AO ts s) hd=true then Bf fr (Aw ts s).length else (0,1)
noncomputable def ND (m:Nat):Sp:=fun vs H Q _=>∃(sp:Addr) (h hd:Nat) (ts:List Int) (fr:Fq) (s:Int),vs=[.ref sp,.ref fr.1,.int s,.int (hd:Int)]/\H sp=some (.tup (ts.map V.int))/\FqG H fr/\FqB m fr/\h<=12/\hd < h/\Py h s ts/\∀(a:Addr) (H':Hp),Az H H'->FqG H' (a,BM ts s hd fr.2)->Q (.ref a) H'
noncomputable def NW:Sp:=fun vs H Q _=>∃(f:Fq) (q:Int),vs=[.ref f.1,.int q]/\FqG H f/\0 < f.2.2/\1<=q/\Sz 1900 q/\Sz 6400 f.2.1/\Sz 6400 f.2.2/\∀(a:Addr) (H':Hp),Az H H'->FqG H' (a,Dp f.2 q)->Q (.ref a) H'
noncomputable def Mb:Sp:=fun vs H Q _=>∃(kl:Addr) (hd:Nat) (ks:List Fq) (g:Fq),vs=[.ref kl,.int (hd:Int),.ref g.1]/\H kl=some (.lst (fqv ks))/\(∀f∈ks,FqG H f)/\FqG H g/\hd < ks.length/\ks.length<=12/\∀(l:Addr) (H':Hp),H l=none->Az H H'->H' l=some (.lst (fqv (ks.set hd g)))->Q (.ref l) H'
noncomputable def Ip (hd:Nat) (sh part:Int × Int) (v:Vs):Vs:=(Eo v.1 (Bh sh part),v.2.set hd (Bh sh part))
noncomputable def B5 (ls:Ls) (xs:List Sh) (s:Int) (hd:Nat):List (Int × Int):=(ls.zip xs).map fun p=>BM p.1.2.2.1 s hd p.2.2.1.2
noncomputable def nk (f s:Int × Int):List (List Key):=[[Sum.inl f.1,Sum.inl f.2],[Sum.inl s.1,Sum.inl s.2]]
theorem RD {f s g r:Int × Int} (e:nk f s=nk g r):f=g/\s=r:=by
 unfold nk at e
 injection e with e1 e2
 injection e2 with e3 _
 injection e1 with a1 a2
 injection a2 with a3 _
 injection e3 with b1 b2
 injection b2 with b3 _
 exact ⟨Prod.ext (Sum.inl.inj a1) (Sum.inl.inj a3),Prod.ext (Sum.inl.inj b1) (Sum.inl.inj b3)⟩
theorem QG {H:Hp} {a:Addr} {f s:Fq} (e:H a=some (.tup [.ref f.1,.ref s.1])) (gf:FqG H f) (gs:FqG H s):F5 H a (nk f.2 s.2):=⟨[f.1,s.1],e,.cons gf (.cons gs .nil)⟩
noncomputable def RIn (part:Int × Int) (J:Hp) (kvs:List (List (List Key) × V)):Prop:=∀k v,AZ kvs k=some v->∃(f s:Int × Int) (t g r:Addr),k=nk f s/\v=.ref t/\J t=some (.tup [.ref g,.ref r])/\FqG J (g,Bh s part)/\FqG J (r,Eo f (Bh s part))
theorem RIn.tups {part:Int × Int} {J J':Hp} {kvs:List (List (List Key) × V)} (h:RIn part J kvs) (t:∀b xs,J b=some (.tup xs)->J' b=some (.tup xs)):RIn part J' kvs:=fun k v e=>by
 obtain ⟨f,s,t1,g,r,a1,a2,a3,a4,a5⟩:=h k v e
 exact ⟨f,s,t1,g,r,a1,a2,t _ _ a3,t _ _ a4,t _ _ a5⟩
theorem RIn.same {part:Int × Int} {J J':Hp} {kvs:List (List (List Key) × V)} (h:RIn part J kvs) (t:Az J J'):RIn part J' kvs:=h.tups fun b xs e=>t b _ e
theorem RIn.put {part f s:Int × Int} {J:Hp} {kvs:List (List (List Key) × V)} {t g r:Addr} (h:RIn part J kvs) (e:J t=some (.tup [.ref g,.ref r])) (eg:FqG J (g,Bh s part)) (er:FqG J (r,Eo f (Bh s part))):RIn part J (BD kvs (nk f s) (.ref t)):=fun k v z=>by
 rw [GO] at z
 split at z
 ·rename_i c
  exact ⟨f,s,t,g,r,c,(Option.some.inj z).symm,e,eg,er⟩
 ·exact h k v z
def L8 (d:Addr) (H J:Hp):Prop:=∀b u,H b=some u->b≠d->J b=some u
theorem L8.tup {d:Addr} {H J:Hp} {ob:Obj} (o:L8 d H J) (e:H d=some (hoF d ob)):∀b xs,H b=some (.tup xs)->J b=some (.tup xs):=fun b xs h=>o b _ h (BV h e (fun z=>by cases z))
theorem L8.lst {d:Addr} {H J:Hp} {ob:Obj} (o:L8 d H J) (e:H d=some (hoF d ob)):∀b xs,H b=some (.lst xs)->J b=some (.lst xs):=fun b xs h=>o b _ h (BV h e (fun z=>by cases z))
theorem L8.sh {d:Addr} {H J:Hp} {ob:Obj} {x:Sh} (o:L8 d H J) (e:H d=some (hoF d ob)) (g:ShG H x):ShG J x:=⟨o.tup e _ _ g.t,o.tup e _ _ g.f,o.lst e _ _ g.l,fun f m=>o.tup e _ _ (g.k f m)⟩
noncomputable def pr (r:Rat):Int × Int:=(r.num,(r.den:Int))
noncomputable def vq (v:Int × Int):Rat:=(v.1:Rat) / (v.2:Rat)
theorem AR (r:Rat):0 < (pr r).2:=by have:=r.den_pos;show (0:Int) < (r.den:Int);omega
theorem FI (r:Rat):A7 (pr r).1 (pr r).2=1:=by
 show ((Int.gcd r.num (r.den:Int):Nat):Int)=1
 have:Int.gcd r.num (r.den:Int)=1:=r.reduced
 rw [this]
 rfl
theorem DP {r:Rat} (h:0<=r):0<=(pr r).1:=Rat.num_nonneg.mpr h
theorem BB (r:Rat):vq (pr r)=r:=by
 unfold vq pr
 show ((r.num:Int):Rat) / (((r.den:Nat):Int):Rat)=r
 rw [<- Rat.divInt_eq_div]
 exact Rat.num_divInt_den r
theorem Ck {v:Int × Int} (h:0 < v.2):(v.2:Rat)≠0:=by
 intro e
 have:=Rat.intCast_inj.mp (show (v.2:Rat)=((0:Int):Rat) from e)
 omega
theorem Mw {v w:Int × Int} (v0:0 < v.2) (w0:0 < w.2):Q2 v w↔vq v=vq w:=by
 have a:=Ck v0
 have b:=Ck w0
 unfold Q2 vq
 constructor
 ·intro h
  have h':(v.1:Rat)*(w.2:Rat)=(w.1:Rat)*(v.2:Rat):=by
   rw [<- Rat.intCast_mul,<- Rat.intCast_mul,h]
  grind
 ·intro h
  have h':(v.1:Rat)*(w.2:Rat)=(w.1:Rat)*(v.2:Rat):=by grind
  rw [<- Rat.intCast_mul,<- Rat.intCast_mul] at h'
  exact Rat.intCast_inj.mp h'
theorem SZ {v:Int × Int} (t0:0<=v.1) (b0:0 < v.2):0<=vq v:=by
 unfold vq
 rw [<- Rat.divInt_eq_div]
 exact Rat.divInt_nonneg t0 (Int.le_of_lt b0)
theorem Ry {v:Int × Int} (t0:0<=v.1) (b0:0 < v.2) (g:A7 v.1 v.2=1):v=pr (vq v):=by
 have e:Q2 v (pr (vq v)):=(Mw b0 (AR _)).mpr (BB _).symm
 obtain ⟨x,y⟩:=L5 b0 (AR (vq v)) t0 (DP (SZ t0 b0)) g (FI _) e
 exact Prod.ext x y
theorem Hb {a b:Int} (a0:0<=a) (b0:0 < b):(B4 a b,B1 a b)=pr ((a:Rat) / (b:Rat)):=by
 obtain ⟨k1,k2,k3⟩:=J8 a0 b0
 have e:=Ry (v:=(B4 a b,B1 a b)) k1 k2 k3
 rw [e]
 congr 1
 exact (Mw (v:=(B4 a b,B1 a b)) (w:=(a,b)) k2 b0).mp (Q2.low b0)
theorem MW {r:Rat} {n:Nat} (r0:0<=r) (n1:1<=n):Bf (pr r) n=pr (r / (n:Rat)):=by
 obtain ⟨e1,e2,e3,e4⟩:=Hc (t:=(pr r).1) (b:=(pr r).2) (DP r0) (AR r) n1 (FI r)
 have e:=Ry (v:=Bf (pr r) n) e1 e2 e3
 rw [e]
 congr 1
 have hn:0 < (pr r).2*(n:Int):=Int.mul_pos (AR r) (by omega)
 rw [(Mw (v:=Bf (pr r) n) (w:=((pr r).1,(pr r).2*(n:Int))) e2 hn).mp e4]
 have hr:=BB r
 have hb:=Ck (AR r)
 unfold vq at hr ⊢
 rw [Rat.intCast_mul]
 have hn':((n:Int):Rat)≠0:=by
  intro z
  have:=Rat.intCast_inj.mp (show ((n:Int):Rat)=((0:Int):Rat) from z)
  omega
 have hc:((n:Int):Rat)=(n:Rat):=rfl
 rw [<- hc]
 grind
theorem Pk {n:Nat} (h:1<=n):(n:Rat)≠0:=by
 intro z
 have:=Rat.natCast_inj.mp (show (n:Rat)=((0:Nat):Rat) from z)
 omega
def Ba (M:Int) (r:Rat):Prop:=∃k:Int,r*(M:Rat)=(k:Rat)
theorem Ba.dvd {M:Int} {r:Rat} (h:Ba M r):(pr r).2 ∣ M:=by
 obtain ⟨k,e⟩:=h
 have hr:=BB r
 have hb:=Ck (AR r)
 unfold vq at hr
 have e2:((pr r).1:Rat)*(M:Rat)=(k:Rat)*((pr r).2:Rat):=by grind
 rw [<- Rat.intCast_mul,<- Rat.intCast_mul] at e2
 have e3:(pr r).1*M=k*(pr r).2:=Rat.intCast_inj.mp e2
 have c:Int.gcd (pr r).2 (pr r).1=1:=by rw [Int.gcd_comm];exact r.reduced
 have:(pr r).2 ∣ (pr r).1*M:=⟨k,by rw [e3,Int.mul_comm]⟩
 have n1:=Int.natAbs_dvd_natAbs.mpr this
 rw [Int.natAbs_mul] at n1
 exact Int.natAbs_dvd_natAbs.mp (Nat.Coprime.dvd_of_dvd_mul_left (show Nat.Coprime (pr r).2.natAbs (pr r).1.natAbs from c) n1)
theorem Ba.sub {M:Int} {r s:Rat} (h:Ba M r) (k:Ba M s):Ba M (r - s):=by
 obtain ⟨a,e⟩:=h
 obtain ⟨b,f⟩:=k
 exact ⟨a - b,by rw [Rat.intCast_sub];grind⟩
theorem Ba.add {M:Int} {r s:Rat} (h:Ba M r) (k:Ba M s):Ba M (r+s):=by
 obtain ⟨a,e⟩:=h
 obtain ⟨b,f⟩:=k
 exact ⟨a+b,by rw [Rat.intCast_add];grind⟩
theorem Ba.more {M:Int} (n:Int) {r:Rat} (h:Ba M r):Ba (M*n) r:=by
 obtain ⟨a,e⟩:=h
 exact ⟨a*n,by rw [Rat.intCast_mul,Rat.intCast_mul];grind⟩
theorem Ba.div {M:Int} {n:Nat} {c:Int} {r:Rat} (h:Ba M r) (n1:1<=n):Ba (M*((n:Int)*c)) (r / (n:Rat)):=by
 obtain ⟨a,e⟩:=h
 have hn:=Pk n1
 refine ⟨a*c,?_⟩
 rw [Rat.intCast_mul,Rat.intCast_mul,Rat.intCast_mul,show (((n:Nat):Int):Rat)=(n:Rat) from rfl]
 grind
theorem Ba.times {M:Int} {r:Rat} (n:Int) (h:Ba M r):Ba M ((n:Rat)*r):=by
 obtain ⟨a,e⟩:=h
 exact ⟨n*a,by rw [Rat.intCast_mul];grind⟩
theorem Ba.zero (M:Int):Ba M 0:=⟨0,by rw [Rat.zero_mul];rfl⟩
theorem Ba.one (M:Int):Ba M 1:=⟨M,Rat.one_mul _⟩
theorem DA {b M:Int} {m:Nat} (h:b ∣ M) (M0:0 < M) (z:Sz m M):Sz m b:=by
 obtain ⟨k,e⟩:=h
 have hk:k≠0:=fun z=>by rw [z,Int.mul_zero] at e;omega
 have:b.natAbs<=M.natAbs:=by
  rw [e,Int.natAbs_mul]
  exact Nat.le_mul_of_pos_right _ (by omega)
 exact Nat.lt_of_le_of_lt this z
theorem Qm {c b M:Int} (c0:0 < c) (b0:0 < b) (hc:c ∣ M) (hb:b ∣ M):CH c b ∣ M:=by
 unfold CH
 split
 ·have g0:(0:Int) < A7 c b:=by
   unfold A7
   have:0 < Int.gcd c b:=Int.gcd_pos_of_ne_zero_left _ (Int.ne_of_gt c0)
   exact_mod_cast this
  have e:c*b.fdiv (A7 c b)=((Nat.lcm c.natAbs b.natAbs:Nat):Int):=by
   obtain ⟨cn,rfl⟩:=Int.eq_ofNat_of_zero_le (Int.le_of_lt c0)
   obtain ⟨bn,rfl⟩:=Int.eq_ofNat_of_zero_le (Int.le_of_lt b0)
   show (cn:Int)*(bn:Int).fdiv ((Nat.gcd cn bn:Nat):Int)=((Nat.lcm cn bn:Nat):Int)
   rw [Int.fdiv_eq_ediv_of_nonneg _ (Int.natCast_nonneg _)]
   show ((cn:Nat):Int)*((bn / Nat.gcd cn bn:Nat):Int)=_
   have:cn*(bn / Nat.gcd cn bn)=Nat.lcm cn bn:=by
    unfold Nat.lcm
    rw [Nat.mul_div_assoc _ (Nat.gcd_dvd_right cn bn)]
   exact_mod_cast this
  rw [e]
  exact Int.ofNat_dvd_left.mpr (Nat.lcm_dvd (Int.natAbs_dvd_natAbs.mpr hc) (Int.natAbs_dvd_natAbs.mpr hb))
 ·exact hc
structure FqM (M:Int) (v:Int × Int):Prop where
 t0:0<=v.1
 b0:0 < v.2
 le:v.1<=v.2
 dv:v.2 ∣ M
theorem FqM.szb {M:Int} {v:Int × Int} {m:Nat} (h:FqM M v) (M0:0 < M) (z:Sz m M):Sz m v.2:=DA h.dv M0 z
theorem FqM.szt {M:Int} {v:Int × Int} {m:Nat} (h:FqM M v) (M0:0 < M) (z:Sz m M):Sz m v.1:=by
 have:=h.szb M0 z
 have a:=h.t0
 have b:=h.le
 unfold Sz at *
 omega
theorem FqM.fq {M:Int} {f:Fq} {m:Nat} (h:FqM M f.2) (M0:0 < M) (z:Sz m M):FqB m f:=⟨h.b0,h.t0,h.szt M0 z,h.szb M0 z⟩
noncomputable def Kt (ls:Ls):Int:=(ls.map fun q=>q.2.2.2).sum
theorem MQ (D:Int) (d0:0 < D):∀{ls:Ls} {fs:List Fq},(∀q∈ls,0<=q.2.2.2)->(∀f∈fs,0<=f.2.1/\f.2.1<=f.2.2/\0 < f.2.2)->(∀z∈Cr ls fs,z.2.1≠0->z.2.2 ∣ D)->Dg (fun b=>D.fdiv b) (Cr ls fs)<=Kt ls*D
 | [],fs,_,_,_=>by
   show (0:Int)<=0*D
   omega
 | q :: r,[],h,_,_=>by
   show (0:Int)<=Kt (q :: r)*D
   have:0<=Kt (q :: r):=by
    unfold Kt
    have:∀l:Ls,(∀q∈l,0<=q.2.2.2)->0<=(l.map fun q=>q.2.2.2).sum:=by
     intro l
     induction l with
     | nil=>intro _;exact Int.le_refl _
     | cons a b ih =>
       intro k
       rw [map_cons,sum_cons]
       have:=k a (mem_cons_self ..)
       have:=ih fun q m=>k q (mem_cons_of_mem _ m)
       omega
    exact this _ h
   exact Int.mul_nonneg this (Int.le_of_lt d0)
 | q :: r,f :: fs,h,hf,hd=>by
   have ih:=MQ D d0 (ls:=r) (fs:=fs) (fun x m=>h x (mem_cons_of_mem _ m)) (fun x m=>hf x (mem_cons_of_mem _ m)) (fun z m=>hd z (mem_cons_of_mem _ m))
   have n0:=h q (mem_cons_self ..)
   obtain ⟨t0,tb,b0⟩:=hf f (mem_cons_self ..)
   show (if f.2.1=0 then 0 else q.2.2.2*f.2.1*D.fdiv f.2.2)+Dg (fun b=>D.fdiv b) (Cr r fs)<=(q.2.2.2+Kt r)*D
   rw [Int.add_mul]
   have:(if f.2.1=0 then 0 else q.2.2.2*f.2.1*D.fdiv f.2.2)<=q.2.2.2*D:=by
    split
    ·exact Int.mul_nonneg n0 (Int.le_of_lt d0)
    ·rename_i c
     obtain ⟨e,he⟩:=hd (q.2.2.2,f.2.1,f.2.2) (mem_cons_self ..) c
     have he':D=f.2.2*e:=he
     have de:D.fdiv f.2.2=e:=by
      rw [Int.fdiv_eq_ediv_of_nonneg D (Int.le_of_lt b0),he']
      exact Int.mul_ediv_cancel_left _ (Int.ne_of_gt b0)
     have e0:0<=e:=by
      rcases (by omega:0<=e\/e < 0) with k | k
      ·exact k
      ·have:=Int.mul_neg_of_pos_of_neg b0 k;omega
     rw [de,he',Int.mul_assoc]
     exact Int.mul_le_mul_of_nonneg_left (Int.mul_le_mul_of_nonneg_right tb e0) n0
   omega
structure WM (M:Int) (ls:Ls) (fs:List Fq) (v:Int × Int):Prop where
 ex:∃D:Int,0 < D/\(∀z∈Cr ls fs,z.2.1≠0->z.2.2 ∣ D)/\v=(B4 (Dg (fun b=>D.fdiv b) (Cr ls fs)) D,B1 (Dg (fun b=>D.fdiv b) (Cr ls fs)) D)
 dv:v.2 ∣ M
noncomputable def N8:Sp:=fun vs H Q _=>∃(d:Addr) (ps:List (Int × Int)) (M:Int),vs=[.ref d]/\H d=some (.dK (Df ps))/\(∀q∈ps,0 < q.1/\q.1 ∣ M)/\0 < M/\Sz 4500 M/\ps.length<=60 /\
 ∀(D:Int) (H':Hp),Az H H'->0 < D->(∀q∈ps,q.1 ∣ D)->D ∣ M->Q (.int D) H'
noncomputable def Pq:Sp:=fun vs H Q _=>∃(l sl:Addr) (ls:Ls) (fs:List Fq) (M:Int),vs=[.ref l,.ref sl]/\H l=some (.lst (vls ls))/\Br H ls/\H sl=some (.lst (fqv fs))/\(∀f∈fs,FqG H f/\FqM M f.2)/\0 < M/\Sz 4500 M/\ls.length=fs.length/\ls.length<=60/\(∀q∈ls,0<=q.2.2.2/\Sz 64 q.2.2.2) /\
 ∀(T:Addr) (v:Int × Int) (H':Hp),Az H H'->WM M ls fs v->FqG H' (T,v)->Q (.ref T) H'
noncomputable def Lx:Sp:=fun vs H Q _=>∃(l rl:Addr) (h:Nat) (ls:Ls) (rs:List Rw) (M:Int),vs=[.ref l,.ref rl,.int (h:Int)]/\H l=some (.lst (vls ls))/\Br H ls/\H rl=some (.lst (rwv rs))/\(∀x∈rs,RwG H x/\x.2.length=h+1/\∀f∈x.2,FqM M f.2)/\0 < M/\Sz 4500 M/\ls.length=rs.length/\ls.length<=60/\h<=12/\(∀q∈ls,0<=q.2.2.2/\Sz 64 q.2.2.2) /\
 ∀(a:Addr) (fs:List Fq) (H':Hp),H a=none->Az H H'->H' a=some (.lst (fqv fs))->(∀f∈fs,FqG H' f)->fs.length=h+1->(∀j f,fs[j]?=some f->WM M ls (C5 rs j) f.2)->Q (.ref a) H'
noncomputable def Ct (ts:List Int) (s:Int) (hd:Nat) (r:Rat):Rat:=if bit (AO ts s) hd=true then r / ((Aw ts s).length:Rat) else 0
noncomputable def CT (t:Rat) (q:Int):Rat:=if (q:Rat) < t then (q:Rat) / t else 1
abbrev Sr:=Rat × List Rat
noncomputable def Dk (x:Sr):Vs:=(pr x.1,x.2.map pr)
noncomputable def EJ (hd:Nat) (sh part:Rat) (x:Sr):Sr:=(x.1 - sh*part,x.2.set hd (sh*part))
noncomputable def Qu:Sp:=fun vs H Q _=>∃(l st:Addr) (h hd:Nat) (ls:Ls) (xs:List Sh) (s q M:Int),vs=[.ref l,.ref st,.int s,.int (hd:Int),.int q]/\H l=some (.lst (vls ls))/\Br H ls/\H st=some (.lst (shv xs))/\(∀x∈xs,ShG H x/\FqM M x.2.1.2/\A7 x.2.1.2.1 x.2.1.2.2=1/\x.2.2.2.length=h)/\0 < M/\Sz 2210 M/\ls.length=xs.length/\ls.length<=60/\h<=12/\hd < h/\1<=q/\Sz 64 q/\(∀p∈ls,Py h s p.2.2.1/\0<=p.2.2.2/\Sz 64 p.2.2.2) /\
 ∀(a:Addr) (ys:List Sh) (fs:List Fq) (v:Int × Int) (H':Hp),H a=none->Az H H'->H' a=some (.lst (shv ys))->(∀y∈ys,ShG H' y/\H y.2.2.1=none/\y.2.2.1≠a)->(ys.map fun y=>y.2.2.1).Nodup->fs.map (·.2)=B5 ls xs s hd->WM (M*27720) ls fs v->ys.map shV=(xs.zip (B5 ls xs s hd)).map (fun p=>Ip hd p.2 (Dp v q) (shV p.1))->Q (.ref a) H'
theorem Jj {n:Nat} (h1:1<=n) (h2:n<=12):∃c:Int,(27720:Int)=(n:Int)*c:=by
 have k:∀n:Fin 12,(27720:Int)=((n.1+1:Nat):Int)*(27720 / ((n.1+1:Nat):Int)):=by decide
 have e:n - 1+1=n:=Nat.sub_add_cancel h1
 have:=k ⟨n - 1,by omega⟩
 rw [e] at this
 exact ⟨_,this⟩
theorem S5 {M:Int} {f:Int × Int} {n:Nat} (n1:1<=n) (n12:n<=12) (fm:FqM M f) (g:A7 f.1 f.2=1):FqM (M*27720) (Bf f n)/\A7 (Bf f n).1 (Bf f n).2=1:=by
 obtain ⟨e1,e2,e3,e4⟩:=Hc (t:=f.1) (b:=f.2) fm.t0 fm.b0 n1 g
 have e1':0<=(Bf f n).1:=e1
 have e2':0 < (Bf f n).2:=e2
 have e4':(Bf f n).1*(f.2*n)=f.1*(Bf f n).2:=e4
 refine ⟨⟨e1,e2,?_,?_⟩,e3⟩
 ·have k1:(Bf f n).1*(f.2*n)<=(Bf f n).2*(f.2*n):=by
   rw [e4',Int.mul_comm]
   refine Int.mul_le_mul_of_nonneg_left ?_ (Int.le_of_lt e2')
   have:=Int.mul_le_mul_of_nonneg_left (show (1:Int)<=n by omega) (Int.le_of_lt fm.b0)
   have:=fm.le
   omega
  exact Int.le_of_mul_le_mul_right k1 (Int.mul_pos fm.b0 (by omega))
 ·obtain ⟨c,hc⟩:=Jj n1 n12
  rw [hc]
  show f.2*(n:Int).fdiv (A7 f.1 n) ∣ M*((n:Int)*c)
  refine Int.mul_dvd_mul fm.dv ?_
  refine Int.dvd_trans ?_ ⟨c,rfl⟩
  obtain ⟨d,hd⟩:A7 f.1 n ∣ (n:Int):=Int.gcd_dvd_right ..
  have g0:(0:Int) < A7 f.1 n:=by
   unfold A7
   have:0 < Int.gcd f.1 (n:Int):=Int.gcd_pos_of_ne_zero_right _ (by omega)
   omega
  generalize A7 f.1 n=gg at *
  refine ⟨gg,?_⟩
  have:(n:Int).fdiv gg=d:=by
   rw [Int.fdiv_eq_ediv_of_nonneg _ (Int.le_of_lt g0),hd]
   exact Int.mul_ediv_cancel_left _ (Int.ne_of_gt g0)
  rw [this,Int.mul_comm]
  exact hd
theorem Md {M:Int} {ts:List Int} {s:Int} {hd:Nat} {fr:Int × Int} (hd12:hd < 12) (M0:0 < M) (fm:FqM M fr) (g:A7 fr.1 fr.2=1):FqM (M*27720) (BM ts s hd fr)/\A7 (BM ts s hd fr).1 (BM ts s hd fr).2=1/\L2' (BM ts s hd fr) fr:=by
 unfold BM
 split
 ·rename_i c
  have n12:(Aw ts s).length<=12:=BW ..
  have n1:1<=(Aw ts s).length:=length_pos_of_mem (Bi.mpr ⟨hd,hd12,c,rfl⟩:((hd:Nat):Int)∈Aw ts s)
  generalize (Aw ts s).length=n at n1 n12 ⊢
  obtain ⟨a,b⟩:=S5 n1 n12 fm g
  obtain ⟨e1,e2,e3,e4⟩:=Hc (t:=fr.1) (b:=fr.2) fm.t0 fm.b0 n1 g
  refine ⟨a,b,?_⟩
  have e5:(Bf fr n).1*(fr.2*n)=fr.1*(Bf fr n).2:=e4
  show (Bf fr n).1*fr.2<=fr.1*(Bf fr n).2
  rw [<- e5,<- Int.mul_assoc]
  have k:0<=(Bf fr n).1*fr.2:=Int.mul_nonneg e1 (Int.le_of_lt fm.b0)
  have:=Int.mul_le_mul_of_nonneg_left (show (1:Int)<=n by omega) k
  omega
 ·refine ⟨⟨by decide,by decide,by decide,Int.one_dvd _⟩,rfl,?_⟩
  show (0:Int)*fr.2<=fr.1*1
  have:=fm.t0
  omega
theorem RU {v:Int × Int} {q:Int} {m n:Nat} (b0:0 < v.2) (q1:1<=q) (szt:Sz m v.1):Ro (m+1) (Dp v q):=by
 unfold Dp
 split
 ·rename_i c
  rw [Int.mul_one] at c
  have qv:0 < q*v.2:=Int.mul_pos (by omega) b0
  have v0:0 < 1*v.1:=by omega
  obtain ⟨k1,k2,k3⟩:=J8 (S:=q*v.2) (D:=1*v.1) (by omega) v0
  obtain ⟨g,g0,e1,e2⟩:=Fg (v:=q*v.2) v0
  have le:B4 (q*v.2) (1*v.1)<=B1 (q*v.2) (1*v.1):=by
   refine Int.le_of_mul_le_mul_right ?_ g0
   rw [<- e1,<- e2]
   omega
  have zb:Sz m (B1 (q*v.2) (1*v.1)):=DA (M:=v.1) ⟨g,by rw [<- e2];omega⟩ (by omega) szt
  refine ⟨k1,k2,le,?_,zb.mono (by omega)⟩
  refine Sz.mono (m:=m) ?_ (by omega)
  unfold Sz at *
  show (B4 (q*v.2) (1*v.1)).natAbs < _
  omega
 ·exact ⟨by decide,by decide,by decide,(AK (by decide) (by decide):Sz 1 (1:Int)).mono (by omega),(AK (by decide) (by decide):Sz 1 (1:Int)).mono (by omega)⟩
theorem PU {a b:Nat} {s p:Int × Int} (s0:0<=s.1) (b0:0 < s.2) (z1:Sz a s.1) (z2:Sz a s.2) (pr:Ro b p):LU (a+b) (Bh s p)/\L2' (Bh s p) s:=by
 have bb:=Int.mul_pos b0 pr.b0
 have lo:LU (a+b) (Bh s p):=Qc (Int.mul_nonneg s0 pr.t0) bb (z1.mul pr.szt) (z2.mul pr.szb)
 refine ⟨lo,?_⟩
 refine L2'.trans (v:=(s.1*p.1,s.2*p.2)) bb (Int.le_of_lt lo.b0) (Int.le_of_lt b0) (L2'.of (Q2.low bb)) ?_
 show s.1*p.1*s.2<=s.1*(s.2*p.2)
 rw [show s.1*p.1*s.2=s.1*s.2*p.1 from by ac_rfl,<- Int.mul_assoc]
 exact Int.mul_le_mul_of_nonneg_left pr.le (Int.mul_nonneg s0 (Int.le_of_lt b0))
theorem R3 {M:Int} {ls:Ls} {fs:List Fq} {v:Int × Int} {m:Nat} (w:WM M ls fs v) (M0:0 < M) (Mz:Sz m M) (hn:∀q∈ls,0<=q.2.2.2/\Sz 64 q.2.2.2) (hf:∀f∈fs,FqM M f.2) (l60:ls.length<=60):0<=v.1/\0 < v.2/\A7 v.1 v.2=1/\Sz m v.2/\v.1<=Kt ls*v.2/\Sz (m+124) v.1:=by
 obtain ⟨⟨D,D0,Dd,e⟩,dv⟩:=w
 have nn:=MB D D0 (zs:=Cr ls fs) (fun z zm=>by
  obtain ⟨p,pm,rfl⟩:=mem_map.mp zm
  obtain ⟨a,b⟩:=of_mem_zip pm
  exact ⟨(hf _ b).b0,(hn _ a).1,(hf _ b).t0⟩)
 have le:=MQ D D0 (ls:=ls) (fs:=fs) (fun q m=>(hn q m).1) (fun f m=>⟨(hf f m).t0,(hf f m).le,(hf f m).b0⟩) Dd
 generalize Dg (fun b=>D.fdiv b) (Cr ls fs)=Z at *
 obtain ⟨k1,k2,k3⟩:=J8 nn D0
 obtain ⟨g,g0,e1,e2⟩:=Fg (v:=Z) D0
 subst e
 have vb:B4 Z D<=Kt ls*B1 Z D:=by
  refine Int.le_of_mul_le_mul_right ?_ g0
  rw [Int.mul_assoc,<- e1,<- e2]
  exact le
 have zb:Sz m (B1 Z D):=DA dv M0 Mz
 have nz:Sz 124 (Kt ls):=(Ll (n:=64) fun x m=>by
  obtain ⟨q,qm,rfl⟩:=mem_map.mp m
  exact (hn q qm).2).mono (by rw [length_map];omega)
 refine ⟨k1,k2,k3,zb,vb,?_⟩
 have:=(nz.mul zb).mono (show 124+m<=m+124 by omega)
 unfold Sz at *
 show (B4 Z D).natAbs < _
 generalize 2 ^ (m+124)=X at *
 omega
noncomputable def off (H:Hp) (D:Addr):Hp:=fun b=>if b=D then none else H b
theorem Oj (H:Hp) (D:Addr):Az (off H D) H:=fun b o e=>by
 unfold off at e
 split at e
 ·cases e
 ·exact e
theorem Js {H:Hp} {D b:Addr} {o:HO} (e:H b=some o) (n:b≠D):off H D b=some o:=by
 unfold off
 rw [if_neg n]
 exact e
theorem OP {H:Hp} {D:Addr}:off H D D=none:=by unfold off;rw [if_pos rfl]
theorem Ef {H H':Hp} {D:Addr} {o:HO} (s:Az (off H D) H'):Az (off H D) (upd H' D o):=fun b u e=>by
 rw [Ap (fun z=>by rw [z,OP] at e;cases e)]
 exact s _ _ e
theorem RL {H0 H:Hp} {D:Addr} (s:Az H0 H) (n:H0 D=none):Az H0 (off H D):=fun b o e=>Js (s _ _ e) fun z=>by rw [z,n] at e;cases e
theorem Q0 {H:Hp} {D:Addr} {o:HO}:off (upd H D o) D=off H D:=funext fun b=>by
 unfold off
 by_cases c:b=D
 ·rw [if_pos c,if_pos c]
 ·rw [if_neg c,if_neg c,Ap c]
noncomputable def ups (n:Nat):List Int:=(List.range n).map fun i:Nat=>(i:Int)
theorem Qa (n:Nat):(ups n).Pairwise (·<=·):=pairwise_map.mpr (pairwise_lt_range.imp fun h=>by omega)
theorem R5 (n:Nat):(ups n).map V.int=(List.range n).map fun i:Nat=>V.int (i:Int):=by unfold ups;rw [map_map];rfl
theorem Jc (n:Nat):(ups n).length=n:=by unfold ups;rw [length_map,length_range]
theorem Sl {ms ns:List Int} {n:Nat} (p:ms.Perm ns) (s:ms.Pairwise (·<=·)) (h:ns.Perm (ups n)):ms=ups n:=(p.trans h).eq_of_pairwise (fun a b _ _ x y=>Int.le_antisymm x y) s (Qa n)
def Rb:Sp:=fun vs H Q _=>∃n:Int,vs=[.int n]/\1<=n/\n<=12/\Q (.bl true) H
def Q7:Sp:=fun vs H Q _=>∃n:Int,vs=[.int n]/\1<=n/\n<=60/\Q (.bl true) H
noncomputable def Sv (K:PySem.W.Frag):Sp:=fun vs H Q _=>∃(l:Addr) (ns:List Int) (n:Nat),vs=[.ref l,.int (n:Int)]/\H l=some (.lst (ns.map V.int))/\ns.Perm (ups n)/\n<=12/\∀H':Hp,Az H H'->Q (.bl true) H'
abbrev fsW (h s:Int) (l:Addr):List (Str × V):=[("hands",.int h),("seats",.int s),("lots",.ref l)]
theorem SG (x:V):CM "hands" x []=([("hands",x)]:List (Str × V)):=rfl
theorem SV (x y:V):CM "seats" y [("hands",x)]=([("hands",x),("seats",y)]:List (Str × V)):=by
 unfold CM;rw [if_neg (by decide)];rfl
theorem SF (x y z:V):CM "lots" z [("hands",x),("seats",y)]=([("hands",x),("seats",y),("lots",z)]:List (Str × V)):=by
 unfold CM;rw [if_neg (by decide)];unfold CM;rw [if_neg (by decide)];rfl
theorem Fj {n:Nat} {x:Int}:x∈ups n↔0<=x/\x < n:=by
 unfold ups
 rw [mem_map]
 constructor
 ·rintro ⟨i,m,rfl⟩
  have:=mem_range.mp m
  omega
 ·rintro ⟨h0,h1⟩
  exact ⟨x.toNat,mem_range.mpr (by omega),by omega⟩
theorem GN {m:Int} (h:0<=m) (i:Nat):bit m i=m.toNat.testBit i:=by
 obtain ⟨n,rfl⟩:∃n:Nat,m=(n:Int):=⟨m.toNat,by omega⟩
 rw [Int.toNat_natCast,Nat.testBit_eq_decide_div_mod_eq]
 unfold bit
 congr 1
 apply propext
 constructor
 ·intro z
  have:((n / 2 ^ i % 2:Nat):Int)=1:=by push_cast;exact z
  omega
 ·intro z
  have:((n / 2 ^ i % 2:Nat):Int)=1:=by rw [z];rfl
  push_cast at this
  exact this
theorem Oh {x h j:Nat} (c:x.testBit h=false):(2 ^ h+x).testBit j=(x.testBit j || decide (j=h)):=by
 rcases Nat.lt_trichotomy j h with l | l | l
 ·rw [Nat.testBit_two_pow_add_gt l,decide_eq_false (by omega),Bool.or_false]
 ·rw [l,Nat.testBit_two_pow_add_eq,c,decide_eq_true rfl];rfl
 ·rw [decide_eq_false (by omega),Bool.or_false]
  have q:(2 ^ h+x) / 2 ^ (h+1)=x / 2 ^ (h+1):=by
   rw [Nat.testBit_eq_decide_div_mod_eq] at c
   have c:=of_decide_eq_false c
   have p:0 < 2 ^ h:=Nat.two_pow_pos h
   rw [Nat.pow_succ,<- Nat.div_div_eq_div_mul,<- Nat.div_div_eq_div_mul,Nat.add_div_left _ p]
   omega
  have d:∀y:Nat,y.testBit j=(y / 2 ^ (h+1)).testBit (j - (h+1)):=fun y=>by
   rw [Nat.testBit_div_two_pow]
   congr 1
   omega
  rw [d,d x,q]
theorem Pf {m:Int} (h0:0<=m) (h j:Nat):0<=m - 2 ^ h*(if bit m h=true then 1 else 0)/\bit (m - 2 ^ h*(if bit m h=true then 1 else 0)) j=(bit m j && decide (j≠h)):=by
 by_cases c:bit m h=true
 ·rw [if_pos c,Int.mul_one]
  obtain ⟨n,rfl⟩:∃n:Nat,m=(n:Int):=⟨m.toNat,by omega⟩
  have ct:=c
  rw [GN h0,Int.toNat_natCast] at ct
  have le:2 ^ h<=n:=Nat.ge_two_pow_of_testBit ct
  obtain ⟨x,rfl⟩:∃x,n=2 ^ h+x:=⟨n - 2 ^ h,by omega⟩
  have cx:x.testBit h=false:=by
   rw [Nat.testBit_two_pow_add_eq] at ct
   simpa using ct
  have e:((2 ^ h+x:Nat):Int) - 2 ^ h=(x:Int):=by push_cast;omega
  rw [e]
  refine ⟨by omega,?_⟩
  rw [GN (by omega),GN (by omega),Int.toNat_natCast,Int.toNat_natCast,Oh cx]
  by_cases z:j=h
  ·subst z;rw [cx];simp
  ·simp [z]
 ·rw [if_neg c,Int.mul_zero,Int.sub_zero]
  refine ⟨h0,?_⟩
  by_cases z:j=h
  ·subst z;simp at c;rw [c];rfl
  ·simp [z]
noncomputable def IsS (C:Addr) (H:Hp) (a:Addr) (h s:Int) (xs:List Int):Prop:=∃dx l,H a=some (.ins C dx (fsW h s l))/\H l=some (.lst (xs.map V.int))
theorem IsS.same {C:Addr} {H H':Hp} {a:Addr} {h s:Int} {xs:List Int} (e:Az H H') (k:IsS C H a h s xs):IsS C H' a h s xs:=by
 obtain ⟨dx,l,k1,k2⟩:=k
 exact ⟨dx,l,e _ _ k1,e _ _ k2⟩
noncomputable def Q8 (C:Addr):Sp:=fun vs H Q _=>∃(a:Addr) (h s:Int) (xs:List Int) (n:Int),vs=[.ref a,.int n]/\IsS C H a h s xs/\1<=s/\s<=6/\Q (.int (n.fdiv (s+1)+1)) H
inductive Dd
 | seat (h:Nat)
 | out (h:Nat)
 | rest
 | fin
 deriving DecidableEq
noncomputable def Dd.word:Dd->Str
 | .seat _=>"seat"
 | .out _=>"out"
 | .rest=>"rest"
 | .fin=>"end"
noncomputable def Dd.who:Dd->V
 | .seat h=>.int (h:Int)
 | .out h=>.int (h:Int)
 | .rest=>.non
 | .fin=>.non
noncomputable def at0 (su:List Rat) (x:Int):Rat:=su.getD x.toNat 0
noncomputable def A6 (xs:List Int) (m:Int):List Int:=xs.filter fun x=>bit m x.toNat
noncomputable def DG (su:List Rat) (zs:List Int):Int:=zs.foldl (fun b x=>if at0 su b < at0 su x then x else b) (zs.getD 0 0)
noncomputable def E4 (su:List Rat) (zs:List Int):Int:=zs.foldl (fun b x=>if at0 su b < at0 su x then b else x) (zs.getD 0 0)
noncomputable def Db (xs:List Int) (su:List Rat) (m:Int) (pl:Nat) (q:Int):Dd :=
 if (hands 12 (bit m)).length<=pl then .rest else if pl=0 then .fin else
  if at0 su (DG su (A6 xs m)) < (q:Rat) then .out (E4 su (A6 xs m)).toNat else .seat (DG su (A6 xs m)).toNat
abbrev Lq:=List (List Int × Int)
noncomputable def BC (wh:List Int) (x:Sr):List Rat:=if wh=[] then x.2++[x.1] else wh.foldl (fun r y=>r.set y.toNat (x.1 / (wh.length:Rat))) (x.2++[0])
noncomputable def AE (ds:Lq) (st:List Sr) (m:Int):List (List Rat):=(ds.zip st).map fun p=>BC (Aw p.1.1 m) p.2
noncomputable def Bs (ds:Lq) (rs:List Rat):Rat:=((ds.zip rs).map fun p=>(p.1.2:Rat)*p.2).sum
noncomputable def Bc (ds:Lq) (rows:List (List Rat)) (h:Nat):List Rat:=(List.range (h+1)).map fun j=>Bs ds (rows.map fun r=>r.getD j 0)
noncomputable def AA (ds:Lq) (st:List Sr) (m:Int) (hd:Nat):List Rat:=(ds.zip st).map fun p=>Ct p.1.1 m hd p.2.1
noncomputable def Bw (ds:Lq) (st:List Sr) (m:Int) (hd:Nat) (q:Int):List Sr:=(st.zip (AA ds st m hd)).map fun p=>EJ hd p.2 (CT (Bs ds (AA ds st m hd)) q) p.1
noncomputable def Qy (ds:Lq) (st:List Sr) (m:Int) (q:Int):Dd->List Sr
 | .seat hd=>Bw ds st m hd q
 | _=>st
abbrev Rnd:=List (List Rat) × List Rat × Dd
noncomputable def C1 (ds:Lq) (h:Nat) (xs:List Int) (q:Int) (st:List Sr) (m:Int) (pl:Nat):Rnd :=
 (AE ds st m,Bc ds (AE ds st m) h,Db xs (Bc ds (AE ds st m) h) m pl q)
noncomputable def Bb (ds:Lq) (h:Nat) (xs:List Int) (q:Int):Nat->List Sr->Int->Nat->List Rnd
 | 0,_,_,_=>[]
 | n+1,st,m,pl=>C1 ds h xs q st m pl :: match (C1 ds h xs q st m pl).2.2 with
   | .seat hd=>Bb ds h xs q n (Bw ds st m hd q) (m - 2 ^ hd) (pl - 1)
   | .out hd=>Bb ds h xs q n st (m - 2 ^ hd) pl
   | _=>[]
noncomputable def CK (n h:Nat):List Sr:=List.replicate n (1,List.replicate h 0)
noncomputable def AG (ds:Lq):Int:=(ds.map (·.2)).sum
noncomputable def Bz (ds:Lq) (h:Nat) (xs:List Int) (s:Nat):List Rnd:=Bb ds h xs ((AG ds).fdiv ((s:Int)+1)+1) (h+1) (CK ds.length h) (2 ^ h - 1) s
theorem HB (r s:Rat):((pr r).1*(pr s).2 < (pr s).1*(pr r).2)↔r < s:=by
 unfold pr
 exact (Rat.lt_iff r s).symm
theorem NV {r:Rat} (h:r<=1):(pr r).1<=(pr r).2:=by
 have:=(Rat.le_iff r 1).mp h
 show r.num<=(r.den:Int)
 have e1:(1:Rat).num=1:=rfl
 have e2:(1:Rat).den=1:=rfl
 rw [e1,e2] at this
 simpa using this
theorem Tr (q:Int):pr (q:Rat)=(q,1):=rfl
theorem Fc:pr 0=(0,1):=rfl
theorem OR:pr 1=(1,1):=rfl
theorem Qo {t:Rat} {q:Int} (t0:0<=t) (q1:1<=q):Dp (pr t) q=pr (CT t q):=by
 unfold Dp CT
 have key:(q*(pr t).2 < (pr t).1*1)↔(q:Rat) < t:=HB (q:Rat) t
 by_cases c:(q:Rat) < t
 ·rw [if_pos c,if_pos (key.mpr c)]
  have b0:=AR t
  have k:=key.mpr c
  have qb:0 < q*(pr t).2:=Int.mul_pos (by omega) b0
  rw [Hb (by omega) (by omega)]
  congr 1
  have hr:=BB t
  have hb:=Ck b0
  have hq:((pr t).1:Rat)≠0:=by
   intro z
   have:=Rat.intCast_inj.mp (show (((pr t).1:Int):Rat)=((0:Int):Rat) from z)
   omega
  unfold vq at hr
  rw [Rat.intCast_mul,Rat.intCast_mul,show ((1:Int):Rat)=1 from rfl]
  grind
 ·rw [if_neg c,if_neg (fun z=>c (key.mp z)),OR]
theorem O5 {s p:Rat} (s0:0<=s) (p0:0<=p):Bh (pr s) (pr p)=pr (s*p):=by
 unfold Bh
 rw [Hb (Int.mul_nonneg (DP s0) (DP p0)) (Int.mul_pos (AR s) (AR p))]
 congr 1
 have h1:=BB s
 have h2:=BB p
 have b1:=Ck (AR s)
 have b2:=Ck (AR p)
 unfold vq at h1 h2
 rw [Rat.intCast_mul,Rat.intCast_mul]
 grind
theorem Qg {f g:Rat} (h:g<=f):Eo (pr f) (pr g)=pr (f - g):=by
 unfold Eo
 have le:=(Rat.le_iff g f).mp h
 have le':(pr g).1*(pr f).2<=(pr f).1*(pr g).2:=le
 rw [Hb (by omega) (Int.mul_pos (AR f) (AR g))]
 congr 1
 have h1:=BB f
 have h2:=BB g
 have b1:=Ck (AR f)
 have b2:=Ck (AR g)
 unfold vq at h1 h2
 rw [Rat.intCast_sub,Rat.intCast_mul,Rat.intCast_mul,Rat.intCast_mul]
 grind
theorem NS {ts:List Int} {s:Int} {hd:Nat} {r:Rat} (r0:0<=r) (hd12:hd < 12):BM ts s hd (pr r)=pr (Ct ts s hd r):=by
 unfold BM Ct
 by_cases c:bit (AO ts s) hd=true
 ·rw [if_pos c,if_pos c]
  exact MW r0 (length_pos_of_mem (Bi.mpr ⟨hd,hd12,c,rfl⟩:((hd:Nat):Int)∈Aw ts s))
 ·rw [if_neg c,if_neg c,Fc]
theorem OK {r:Rat} {n:Nat} (r0:0<=r) (n1:1<=n):0<=r / (n:Rat)/\r / (n:Rat)<=r:=by
 have hn:(1:Rat)<=(n:Rat):=by
  have:=Rat.natCast_le_natCast.mpr n1
  exact this
 constructor
 ·rw [Rat.div_def]
  exact Rat.mul_nonneg r0 (Rat.le_of_lt (Rat.inv_pos.mpr (by grind)))
 ·rcases (Rat.le_total:r / (n:Rat)<=r\/r<=r / (n:Rat)) with h | h
  ·exact h
  ·have e:r / (n:Rat)*(n:Rat)=r:=Rat.div_mul_cancel (Pk n1)
   have k:=Rat.mul_le_mul_of_nonneg_right hn (show 0<=r / (n:Rat) by grind)
   grind
theorem Dv {ts:List Int} {s:Int} {hd:Nat} {r:Rat} (r0:0<=r) (hd12:hd < 12):0<=Ct ts s hd r/\Ct ts s hd r<=r:=by
 unfold Ct
 split
 ·rename_i c
  exact OK r0 (length_pos_of_mem (Bi.mpr ⟨hd,hd12,c,rfl⟩:((hd:Nat):Int)∈Aw ts s))
 ·exact ⟨Rat.le_refl,r0⟩
theorem MN {t:Rat} {q:Int} (q1:1<=q):0<=CT t q/\CT t q<=1:=by
 have hq:(1:Rat)<=(q:Rat):=by
  have:=Rat.intCast_le_intCast.mpr q1
  exact this
 unfold CT
 split
 ·rename_i c
  have t0:(0:Rat) < t:=by grind
  have e:(q:Rat) / t*t=(q:Rat):=Rat.div_mul_cancel (by grind)
  constructor
  ·rw [Rat.div_def]
   exact Rat.mul_nonneg (by grind) (Rat.le_of_lt (Rat.inv_pos.mpr t0))
  ·rcases (Rat.le_total:(q:Rat) / t<=1\/1<=(q:Rat) / t) with h | h
   ·exact h
   ·have k:=Rat.mul_le_mul_of_nonneg_right h (Rat.le_of_lt t0)
    grind
 ·exact ⟨by decide,Rat.le_refl⟩
theorem IW {s p:Rat} (s0:0<=s) (p1:p<=1) (p0:0<=p):0<=s*p/\s*p<=s:=by
 refine ⟨Rat.mul_nonneg s0 p0,?_⟩
 have:=Rat.mul_le_mul_of_nonneg_left p1 s0
 grind
theorem QF {x:Sr} {sh p:Rat} {hd:Nat} (s0:0<=sh) (sx:sh<=x.1) (p0:0<=p) (p1:p<=1):Ip hd (pr sh) (pr p) (Dk x)=Dk (EJ hd sh p x):=by
 have m:=IW s0 p1 p0
 unfold Ip Dk EJ
 rw [O5 s0 p0]
 show (Eo (pr x.1) (pr (sh*p)),(x.2.map pr).set hd (pr (sh*p)))=(pr (x.1 - sh*p),(x.2.set hd (sh*p)).map pr)
 rw [Qg (by grind),map_set]
theorem S6 {wh:List Int} {x:Sr} (x0:0<=x.1):Kz wh (pr x.1) (x.2.map pr)=(BC wh x).map pr:=by
 unfold Kz BC
 by_cases c:wh=[]
 ·rw [if_pos c,if_pos c,map_append]
  rfl
 ·rw [if_neg c,if_neg c]
  have n1:1<=wh.length:=length_pos_iff.mpr c
  rw [MW x0 n1]
  have:∀(ys:List Int) (l:List Rat) (z:Rat),(ys.foldl (fun r y=>r.set y.toNat z) l).map pr=ys.foldl (fun r y=>r.set y.toNat (pr z)) (l.map pr):=by
   intro ys
   induction ys with
   | nil=>intro l z;rfl
   | cons y ys ih =>
     intro l z
     rw [foldl_cons,foldl_cons,ih,map_set]
  rw [this,map_append]
  rfl
theorem MP (D:Int):∀{ls:Ls} {fs:List Fq} {rs:List Rat},fs.map (·.2)=rs.map pr->(∀z∈Cr ls fs,z.2.1≠0->z.2.2 ∣ D)->((Dg (fun b=>D.fdiv b) (Cr ls fs):Int):Rat)=(D:Rat)*Bs (Ao ls) rs
 | [],fs,rs,_,_=>by
   show ((0:Int):Rat)=(D:Rat)*0
   rw [Rat.mul_zero]
   rfl
 | q :: r,fs,rs,e,hd=>by
   cases fs with
   | nil =>
     cases rs with
     | nil =>
       show ((0:Int):Rat)=(D:Rat)*0
       rw [Rat.mul_zero]
       rfl
     | cons a b=>cases e
   | cons f fs =>
     cases rs with
     | nil=>cases e
     | cons a b =>
       rw [map_cons,map_cons] at e
       injection e with e1 e2
       have ih:=MP D (ls:=r) (fs:=fs) (rs:=b) e2 (fun z m=>hd z (mem_cons_of_mem _ m))
       show (((if f.2.1=0 then 0 else q.2.2.2*f.2.1*D.fdiv f.2.2)+Dg (fun b=>D.fdiv b) (Cr r fs):Int):Rat)=(D:Rat)*((q.2.2.2:Rat)*a+Bs (Ao r) b)
       rw [Rat.intCast_add,ih]
       have va:=BB a
       have vb:=Ck (AR a)
       unfold vq at va
       have f1:f.2.1=(pr a).1:=congrArg Prod.fst e1
       have f2:f.2.2=(pr a).2:=congrArg Prod.snd e1
       have b0:=AR a
       by_cases c:f.2.1=0
       ·rw [if_pos c]
        rw [<- f1,c] at va
        have:a=0:=by
         rw [<- va,Rat.div_def,show ((0:Int):Rat)=0 from rfl,Rat.zero_mul]
        rw [this,show ((0:Int):Rat)=0 from rfl]
        grind
       ·rw [if_neg c]
        obtain ⟨k,hk⟩:=hd (q.2.2.2,f.2.1,f.2.2) (mem_cons_self ..) c
        have hk':D=f.2.2*k:=hk
        have de:D.fdiv f.2.2=k:=by
         rw [Int.fdiv_eq_ediv_of_nonneg D (by omega),hk']
         exact Int.mul_ediv_cancel_left _ (by omega)
        rw [de,hk',Rat.intCast_mul,Rat.intCast_mul,Rat.intCast_mul,f1,f2]
        grind
theorem EH:∀{ds:Lq} {rs:List Rat},(∀q∈ds,0<=q.2)->(∀r∈rs,0<=r)->0<=Bs ds rs
 | [],rs,_,_=>Rat.le_refl
 | q :: d,[],_,_=>Rat.le_refl
 | q :: d,r :: rs,h,k=>by
   have ih:=EH (ds:=d) (rs:=rs) (fun x m=>h x (mem_cons_of_mem _ m)) (fun x m=>k x (mem_cons_of_mem _ m))
   show 0<=(q.2:Rat)*r+Bs d rs
   have:=Rat.mul_nonneg (Rat.intCast_nonneg.mpr (h q (mem_cons_self ..))) (k r (mem_cons_self ..))
   grind
theorem Rs {M:Int} {ls:Ls} {fs:List Fq} {rs:List Rat} {v:Int × Int} (w:WM M ls fs v) (e:fs.map (·.2)=rs.map pr) (hn:∀q∈Ao ls,0<=q.2) (hr:∀r∈rs,0<=r):v=pr (Bs (Ao ls) rs):=by
 obtain ⟨⟨D,D0,Dd,ev⟩,_⟩:=w
 have k:=MP D e Dd
 have nn:=EH hn hr
 have d0:(0:Rat) < (D:Rat):=by
  have:=Rat.intCast_lt_intCast.mpr D0
  exact this
 have S0:0<=Dg (fun b=>D.fdiv b) (Cr ls fs):=by
  apply Rat.intCast_nonneg.mp
  rw [k]
  exact Rat.mul_nonneg (Rat.le_of_lt d0) nn
 rw [ev,Hb S0 D0,k]
 congr 1
 grind
theorem RI {s:Int} {ls:Ls} {xs:List Sh} {st:List Sr} (e:xs.map shV=st.map Dk) (h0:∀x∈st,0<=x.1):Jq s ls xs=(AE (Ao ls) st s).map fun r=>r.map pr:=by
 rw [OF,e]
 unfold AE Ao
 rw [zip_map_left,map_map,map_map]
 have:ls.zip (st.map Dk)=(ls.zip st).map (Prod.map id Dk):=by rw [zip_map_right]
 rw [this,map_map]
 refine map_congr_left fun p m=>?_
 obtain ⟨_,b⟩:=of_mem_zip m
 exact S6 (h0 _ b)
theorem IL {s:Int} {hd:Nat} {ls:Ls} {xs:List Sh} {st:List Sr} (hd12:hd < 12) (e:xs.map shV=st.map Dk) (h0:∀x∈st,0<=x.1):B5 ls xs s hd=(AA (Ao ls) st s hd).map pr:=by
 have k:B5 ls xs s hd=(ls.zip (xs.map shV)).map fun p=>BM p.1.2.2.1 s hd p.2.1:=by
  unfold B5
  rw [zip_map_right,map_map]
  rfl
 rw [k,e]
 unfold AA Ao
 rw [zip_map_left,map_map,map_map]
 have:ls.zip (st.map Dk)=(ls.zip st).map (Prod.map id Dk):=by rw [zip_map_right]
 rw [this,map_map]
 refine map_congr_left fun p m=>?_
 obtain ⟨_,b⟩:=of_mem_zip m
 exact NS (h0 _ b) hd12
theorem QS {s q:Int} {hd:Nat} {ls:Ls} {xs:List Sh} {st:List Sr} (hd12:hd < 12) (q1:1<=q) (e:xs.map shV=st.map Dk) (h0:∀x∈st,0<=x.1) (hn:∀q∈Ao ls,0<=q.2):(xs.zip (B5 ls xs s hd)).map (fun p=>Ip hd p.2 (Dp (pr (Bs (Ao ls) (AA (Ao ls) st s hd))) q) (shV p.1))=(Bw (Ao ls) st s hd q).map Dk:=by
 rw [IL hd12 e h0]
 have k:∀(ss:List Rat) (f:Int × Int->Vs->Vs),(xs.zip (ss.map pr)).map (fun p=>f p.2 (shV p.1))=(st.zip ss).map fun p=>f (pr p.2) (Dk p.1):=fun ss f=>by
  have:(xs.zip (ss.map pr)).map (fun p=>f p.2 (shV p.1))=((xs.map shV).zip (ss.map pr)).map fun p=>f p.2 p.1:=by
   rw [zip_map_left,map_map]
   rfl
  rw [this,e,zip_map,map_map]
  rfl
 have sn:∀r∈AA (Ao ls) st s hd,0<=r:=fun r m=>by
  obtain ⟨p,pm,rfl⟩:=mem_map.mp m
  exact (Dv (h0 _ (of_mem_zip pm).2) hd12).1
 rw [k _ fun a b=>Ip hd a (Dp (pr (Bs (Ao ls) (AA (Ao ls) st s hd))) q) b,Qo (EH hn sn) q1]
 unfold Bw
 rw [map_map]
 have pn:=MN (t:=Bs (Ao ls) (AA (Ao ls) st s hd)) q1
 generalize CT (Bs (Ao ls) (AA (Ao ls) st s hd)) q=part at pn ⊢
 refine map_congr_left fun p m=>?_
 obtain ⟨i,hi⟩:=mem_iff_getElem?.mp m
 obtain ⟨p1,p2⟩:=List.getElem?_zip_eq_some.mp hi
 unfold AA at p2
 rw [List.getElem?_map] at p2
 obtain ⟨z,hz,ez⟩:=Option.map_eq_some_iff.mp p2
 obtain ⟨z1,z2⟩:=List.getElem?_zip_eq_some.mp hz
 have zx:z.2=p.1:=Option.some.inj (z2.symm.trans p1)
 have sh:=Dv (ts:=z.1.1) (s:=s) (h0 _ (mem_of_getElem? z2)) hd12
 rw [ez,zx] at sh
 exact QF sh.1 sh.2 pn.1 pn.2
structure StI (M:Int) (h:Nat) (st:List Sr):Prop where
 free:∀x∈st,0<=x.1/\x.1<=1/\Ba M x.1
 kept:∀x∈st,∀k∈x.2,0<=k/\k<=1/\Ba M k
 len:∀x∈st,x.2.length=h
theorem IG {M:Int} {ts:List Int} {s:Int} {hd:Nat} {r:Rat} (i:Ba M r) (hd12:hd < 12):Ba (M*27720) (Ct ts s hd r):=by
 unfold Ct
 split
 ·rename_i c
  have n1:=length_pos_of_mem (Bi.mpr ⟨hd,hd12,c,rfl⟩:((hd:Nat):Int)∈Aw ts s)
  obtain ⟨k,e⟩:=Jj n1 (BW ..)
  rw [e]
  exact i.div n1
 ·exact Ba.zero _
theorem Fw {M:Int}:∀{ds:Lq} {rs:List Rat},(∀r∈rs,Ba M r)->Ba M (Bs ds rs)
 | [],rs,_=>Ba.zero _
 | q :: d,[],_=>Ba.zero _
 | q :: d,r :: rs,k=>Ba.add (Ba.times q.2 (k r (mem_cons_self ..))) (Fw (ds:=d) (rs:=rs) fun x m=>k x (mem_cons_of_mem _ m))
theorem StI.next {M c:Int} {h hd:Nat} {st:List Sr} {ds:Lq} {s q:Int} (i:StI M h st) (hd12:hd < 12) (q1:1<=q) (hc:(q:Rat) < Bs ds (AA ds st s hd)->c=(pr (Bs ds (AA ds st s hd))).1):StI (M*27720*c) h (Bw ds st s hd q):=by
 have hq:(1:Rat)<=(q:Rat):=Rat.intCast_le_intCast.mpr q1
 generalize hT:Bs ds (AA ds st s hd)=T at hc
 have pn:=MN (t:=T) q1
 have key:∀p∈st.zip (AA ds st s hd),p.1∈st/\0<=p.2/\p.2<=p.1.1/\Ba (M*27720) p.2:=fun p m=>by
  obtain ⟨j,hj⟩:=mem_iff_getElem?.mp m
  obtain ⟨p1,p2⟩:=List.getElem?_zip_eq_some.mp hj
  unfold AA at p2
  rw [List.getElem?_map] at p2
  obtain ⟨z,hz,ez⟩:=Option.map_eq_some_iff.mp p2
  obtain ⟨z1,z2⟩:=List.getElem?_zip_eq_some.mp hz
  have zx:z.2=p.1:=Option.some.inj (z2.symm.trans p1)
  have zm:=mem_of_getElem? p1
  obtain ⟨f0,f1,f2⟩:=i.free _ zm
  rw [<- ez,zx]
  exact ⟨zm,(Dv f0 hd12).1,(Dv f0 hd12).2,IG f2 hd12⟩
 have giv:∀sh:Rat,Ba (M*27720) sh->Ba (M*27720*c) (sh*CT T q):=fun sh hs=>by
  unfold CT
  split
  ·rename_i cc
   rw [hc cc]
   obtain ⟨k,e⟩:=hs
   refine ⟨k*q*(pr T).2,?_⟩
   have hr:=BB T
   have hb:=Ck (AR T)
   unfold vq at hr
   have hT0:T≠0:=by grind
   rw [Rat.intCast_mul,Rat.intCast_mul,Rat.intCast_mul]
   grind
  ·rw [Rat.mul_one]
   exact hs.more _
 have part:=pn
 generalize hP:CT T q=P at part giv
 have nx:Bw ds st s hd q=(st.zip (AA ds st s hd)).map fun p=>EJ hd p.2 P p.1:=by
  unfold Bw
  rw [hT,hP]
 rw [nx]
 have m2:∀r,Ba M r->Ba (M*27720*c) r:=fun r hr=>(hr.more _).more _
 refine ⟨fun x m=>?_,fun x m k km=>?_,fun x m=>?_⟩
 ·obtain ⟨p,pm,rfl⟩:=mem_map.mp m
  obtain ⟨a,b,c,d⟩:=key p pm
  obtain ⟨f0,f1,f2⟩:=i.free _ a
  have ml:=IW b part.2 part.1
  unfold EJ
  refine ⟨by show 0<=p.1.1 - p.2*P;grind,by show p.1.1 - p.2*P<=1;grind,Ba.sub (m2 _ f2) (giv _ d)⟩
 ·obtain ⟨p,pm,rfl⟩:=mem_map.mp m
  obtain ⟨a,b,c,d⟩:=key p pm
  obtain ⟨f0,f1,f2⟩:=i.free _ a
  have ml:=IW b part.2 part.1
  rcases mem_or_eq_of_mem_set (show k∈p.1.2.set hd (p.2*P) from km) with km | rfl
  ·obtain ⟨k0,k1,k2⟩:=i.kept _ a _ km
   exact ⟨k0,k1,m2 _ k2⟩
  ·exact ⟨ml.1,by grind,giv _ d⟩
 ·obtain ⟨p,pm,rfl⟩:=mem_map.mp m
  show (p.1.2.set hd (p.2*P)).length=h
  rw [length_set]
  exact i.len _ (key p pm).1
theorem LN {M:Int} {r:Rat} (h0:0<=r) (h1:r<=1) (i:Ba M r):FqM M (pr r):=⟨DP h0,AR r,NV h1,i.dvd⟩
theorem IH {α:Type} {z:α}:∀{ys:List Int} {l:List α} {x:α},x∈ys.foldl (fun r y=>r.set y.toNat z) l->x∈l\/x=z
 | [],l,x,m=>.inl m
 | y :: ys,l,x,m=>by
   rw [foldl_cons] at m
   rcases IH m with m | m
   ·exact mem_or_eq_of_mem_set m
   ·exact .inr m
theorem GF {M:Int} {h:Nat} {st:List Sr} {ds:Lq} {s:Int} (i:StI M h st):∀r∈AE ds st s,r.length=h+1/\∀z∈r,0<=z/\z<=1/\Ba (M*27720) z:=fun r m=>by
 obtain ⟨p,pm,rfl⟩:=mem_map.mp m
 have xm:=(of_mem_zip pm).2
 obtain ⟨f0,f1,f2⟩:=i.free _ xm
 have n12:(Aw p.1.1 s).length<=12:=BW ..
 unfold BC
 split
 ·refine ⟨by rw [length_append,i.len _ xm];rfl,fun z zm=>?_⟩
  rcases mem_append.mp zm with zm | zm
  ·obtain ⟨a,b,c⟩:=i.kept _ xm _ zm
   exact ⟨a,b,c.more _⟩
  ·rw [mem_singleton.mp zm]
   exact ⟨f0,f1,f2.more _⟩
 ·rename_i c
  have n1:1<=(Aw p.1.1 s).length:=length_pos_iff.mpr c
  refine ⟨by rw [F2,length_append,i.len _ xm];rfl,fun z zm=>?_⟩
  rcases IH zm with zm | rfl
  ·rcases mem_append.mp zm with zm | zm
   ·obtain ⟨a,b,c⟩:=i.kept _ xm _ zm
    exact ⟨a,b,c.more _⟩
   ·rw [mem_singleton.mp zm]
    exact ⟨Rat.le_refl,by decide,Ba.zero _⟩
  ·obtain ⟨a,b⟩:=OK f0 n1
   obtain ⟨k,e⟩:=Jj n1 n12
   exact ⟨a,by grind,by rw [e];exact f2.div n1⟩
theorem JY (n h:Nat):StI 1 h (CK n h):=by
 refine ⟨fun x m=>?_,fun x m k km=>?_,fun x m=>?_⟩
 ·rw [eq_of_mem_replicate m]
  exact ⟨(by decide:(0:Rat)<=1),Rat.le_refl,Ba.one _⟩
 ·rw [eq_of_mem_replicate m] at km
  rw [eq_of_mem_replicate km]
  exact ⟨Rat.le_refl,by decide,Ba.zero _⟩
 ·rw [eq_of_mem_replicate m]
  exact length_replicate ..
theorem Kq {su:List Rat} {zs:List Int} (h:zs≠[]):DG su zs∈zs:=by
 unfold DG
 have:∀(ys:List Int) (b:Int),b∈zs->(∀y∈ys,y∈zs)->ys.foldl (fun b x=>if at0 su b < at0 su x then x else b) b∈zs:=by
  intro ys
  induction ys with
  | nil=>intro b hb _;exact hb
  | cons y ys ih =>
    intro b hb hy
    rw [foldl_cons]
    refine ih _ ?_ (fun z m=>hy z (mem_cons_of_mem _ m))
    split
    ·exact hy y (mem_cons_self ..)
    ·exact hb
 refine this zs _ ?_ (fun _ m=>m)
 cases zs with
 | nil=>exact absurd rfl h
 | cons a b=>exact mem_cons_self ..
theorem Im {su:List Rat} {zs:List Int} (h:zs≠[]):E4 su zs∈zs:=by
 unfold E4
 have:∀(ys:List Int) (b:Int),b∈zs->(∀y∈ys,y∈zs)->ys.foldl (fun b x=>if at0 su b < at0 su x then b else x) b∈zs:=by
  intro ys
  induction ys with
  | nil=>intro b hb _;exact hb
  | cons y ys ih =>
    intro b hb hy
    rw [foldl_cons]
    refine ih _ ?_ (fun z m=>hy z (mem_cons_of_mem _ m))
    split
    ·exact hb
    ·exact hy y (mem_cons_self ..)
 refine this zs _ ?_ (fun _ m=>m)
 cases zs with
 | nil=>exact absurd rfl h
 | cons a b=>exact mem_cons_self ..
noncomputable def mB:Nat->Nat
 | 0=>1
 | k+1=>2*mB k+70
theorem Rm:∀{k:Nat},k<=5->mB k<=2210:=fun {k} h=>by
 rcases (by omega:k=0\/k=1\/k=2\/k=3\/k=4\/k=5) with rfl | rfl | rfl | rfl | rfl | rfl <;> decide
theorem Sm:∀{k:Nat},k<=6->mB k<=4480:=fun {k} h=>by
 rcases (by omega:k<=5\/k=6) with h | rfl
 ·exact Nat.le_trans (Rm h) (by decide)
 ·decide
theorem DO:∀{ds:Lq} {rs:List Rat},(∀q∈ds,0<=q.2)->(∀r∈rs,0<=r/\r<=1)->Bs ds rs<=((AG ds:Int):Rat)
 | [],rs,_,_=>Rat.le_refl
 | q :: d,[],h,_=>by
   show (0:Rat)<=((q.2+AG d:Int):Rat)
   have ih:=DO (ds:=d) (rs:=[]) (fun x m=>h x (mem_cons_of_mem _ m)) (fun _ m=>absurd m List.not_mem_nil)
   have e:Bs d []=0:=by unfold Bs;rw [zip_nil_right];rfl
   rw [e] at ih
   have k:(0:Rat)<=(q.2:Rat):=Rat.intCast_nonneg.mpr (h q (mem_cons_self ..))
   rw [Rat.intCast_add]
   grind
 | q :: d,r :: rs,h,k=>by
   have ih:=DO (ds:=d) (rs:=rs) (fun x m=>h x (mem_cons_of_mem _ m)) (fun x m=>k x (mem_cons_of_mem _ m))
   show (q.2:Rat)*r+Bs d rs<=((q.2+AG d:Int):Rat)
   have n0:(0:Rat)<=(q.2:Rat):=Rat.intCast_nonneg.mpr (h q (mem_cons_self ..))
   have:=Rat.mul_le_mul_of_nonneg_left (k r (mem_cons_self ..)).2 n0
   rw [Rat.intCast_add]
   grind
theorem Px {t:Rat} {n:Int} (h:t<=(n:Rat)):(pr t).1<=n*(pr t).2:=by
 have:=(Rat.le_iff t (n:Rat)).mp h
 have e1:((n:Int):Rat).num=n:=rfl
 have e2:((n:Int):Rat).den=1:=rfl
 rw [e1,e2] at this
 show t.num<=n*(t.den:Int)
 simpa using this
theorem StI.step {M:Int} {h hd k:Nat} {st:List Sr} {ds:Lq} {s q:Int} (i:StI M h st) (M0:0 < M) (Mz:Sz (mB k) M) (hd12:hd < 12) (q1:1<=q) (hn:∀p∈ds,0<=p.2) (N:AG ds < 2 ^ 40):∃M',0 < M'/\Sz (mB (k+1)) M'/\StI M' h (Bw ds st s hd q):=by
 have hq:(1:Rat)<=(q:Rat):=Rat.intCast_le_intCast.mpr q1
 have sh:∀r∈AA ds st s hd,0<=r/\r<=1/\Ba (M*27720) r:=fun r m=>by
  obtain ⟨p,pm,rfl⟩:=mem_map.mp m
  obtain ⟨f0,f1,f2⟩:=i.free _ (of_mem_zip pm).2
  have:=Dv (ts:=p.1.1) (s:=s) f0 hd12
  exact ⟨this.1,by grind,IG f2 hd12⟩
 have le:=DO hn (fun r m=>⟨(sh r m).1,(sh r m).2.1⟩)
 have iT:Ba (M*27720) (Bs ds (AA ds st s hd)):=Fw fun r m=>(sh r m).2.2
 have nx:=fun c hc=>StI.next (c:=c) (hd:=hd) (ds:=ds) (s:=s) (q:=q) i hd12 q1 hc
 generalize Bs ds (AA ds st s hd)=T at le iT nx
 have Mz1:Sz (mB k+15) (M*27720):=Mz.mul (AK (by decide) (by decide):Sz 15 (27720:Int))
 have M1:0 < M*27720:=by omega
 by_cases c:(q:Rat) < T
 ·have t0:(0:Rat) < T:=by grind
  have n0:0 < (pr T).1:=by
   have z:=(Rat.lt_iff 0 T).mp t0
   have e1:(0:Rat).num=0:=rfl
   have e2:(0:Rat).den=1:=rfl
   rw [e1,e2] at z
   show 0 < T.num
   simpa using z
  refine ⟨M*27720*(pr T).1,Int.mul_pos M1 n0,?_,nx _ fun _=>rfl⟩
  have nl:=Px le
  have bz:Sz (mB k+15) (pr T).2:=DA iT.dvd M1 Mz1
  have tz:Sz (40+(mB k+15)) (pr T).1:=by
   have b0:=AR T
   have n00:0<=AG ds:=by
    rcases (by omega:0<=AG ds\/AG ds < 0) with z | z
    ·exact z
    ·have:=Int.mul_neg_of_neg_of_pos z b0
     omega
   have nz:Sz 40 (AG ds):=AK (by omega) (by exact_mod_cast N)
   have:=nz.mul bz
   unfold Sz at *
   generalize 2 ^ (40+(mB k+15))=X at *
   omega
  exact (Mz1.mul tz).mono (by show _<=2*mB k+70;omega)
 ·refine ⟨M*27720*1,by omega,?_,nx 1 fun z=>absurd z c⟩
  rw [Int.mul_one]
  exact Mz1.mono (by show _<=2*mB k+70;omega)
theorem Lu {xs:List Int} {su:List Rat} {m q:Int} {pl hd:Nat} (hx:∀x∈xs,0<=x) (hb:∀j,bit m j=true->(j:Int)∈xs) (h:Db xs su m pl q=.seat hd\/Db xs su m pl q=.out hd):bit m hd=true/\1<=pl:=by
 unfold Db at h
 by_cases c1:(hands 12 (bit m)).length<=pl
 ·rw [if_pos c1] at h
  rcases h with h | h <;> cases h
 rw [if_neg c1] at h
 by_cases c2:pl=0
 ·rw [if_pos c2] at h
  rcases h with h | h <;> cases h
 rw [if_neg c2] at h
 have ne:A6 xs m≠[]:=fun e=>by
  have:hands 12 (bit m)≠[]:=fun z=>by rw [z] at c1;exact c1 (Nat.zero_le _)
  obtain ⟨z,zm⟩:=exists_mem_of_ne_nil _ this
  obtain ⟨j,j12,bj,rfl⟩:=Bi.mp zm
  have:(j:Int)∈A6 xs m:=mem_filter.mpr ⟨hb j bj,by rw [Int.toNat_natCast];exact bj⟩
  rw [e] at this
  exact nomatch this
 have bm:=mem_filter.mp (Kq (su:=su) ne)
 have wm:=mem_filter.mp (Im (su:=su) ne)
 refine ⟨?_,by omega⟩
 split at h
 ·rcases h with h | h
  ·cases h
  ·injection h with e
   rw [<- e]
   exact wm.2
 ·rcases h with h | h
  ·injection h with e
   rw [<- e]
   exact bm.2
  ·cases h
theorem He {m:Int} (m0:0<=m) {hd:Nat} (b:bit m hd=true) (hd12:hd < 12):0<=m - 2 ^ hd/\(∀j,bit (m - 2 ^ hd) j=(bit m j && decide (j≠hd)))/\(hands 12 (bit (m - 2 ^ hd))).length < (hands 12 (bit m)).length:=by
 have k:=fun j=>Pf m0 hd j
 rw [if_pos b,Int.mul_one] at k
 refine ⟨(k 0).1,fun j=>(k j).2,?_⟩
 have sub:∀n,(hands n (bit (m - 2 ^ hd))).length+(if hd < n then 1 else 0)=(hands n (bit m)).length:=by
  intro n
  induction n with
  | zero=>rfl
  | succ n ih =>
    rw [D5,D5,(k n).2]
    by_cases e:n=hd
    ·subst e
     rw [b,decide_eq_false (fun z=>z rfl),if_pos (show n < n+1 by omega)]
     rw [if_neg (by omega)] at ih
     rw [if_neg (by decide),if_pos rfl,length_append]
     show _=_+1
     omega
    ·rw [decide_eq_true e,Bool.and_true]
     have hl:(if hd < n+1 then 1 else 0)=(if hd < n then 1 else 0):=by
      by_cases c:hd < n
      ·rw [if_pos c,if_pos (by omega)]
      ·rw [if_neg c,if_neg (by omega)]
     rw [hl]
     split
     ·rw [length_append,length_append];omega
     ·exact ih
 have:=sub 12
 rw [if_pos hd12] at this
 omega
theorem JP {h:Nat} (h12:h<=12):(hands 12 (bit ((2:Int) ^ h - 1))).length=h :=
 (by decide:∀h:Fin 13,(hands 12 (bit ((2:Int) ^ h.1 - 1))).length=h.1) ⟨h,Nat.lt_succ_of_le h12⟩
structure SuG (H:Hp) (l:Addr) (fs:List Fq) (su:List Rat):Prop where
 l:H l=some (.lst (fqv fs))
 g:∀f∈fs,FqG H f
 v:fs.map (·.2)=su.map pr
 z:∀r∈su,Sz 9000 (pr r).1/\Sz 9000 (pr r).2
theorem SuG.same {H H':Hp} {l:Addr} {fs:List Fq} {su:List Rat} (s:Az H H') (g:SuG H l fs su):SuG H' l fs su:=⟨s _ _ g.l,fun f m=>(g.g f m).same s,g.v,g.z⟩
theorem SuG.len {H:Hp} {l:Addr} {fs:List Fq} {su:List Rat} (g:SuG H l fs su):fs.length=su.length:=by
 have:=congrArg List.length g.v
 rw [length_map,length_map] at this
 exact this
theorem SuG.at {H:Hp} {l:Addr} {fs:List Fq} {su:List Rat} (g:SuG H l fs su) {x:Int} (x0:0<=x) (x1:x.toNat < su.length):∃a,atI (fqv fs) x=some (.ref a)/\FqG H (a,pr (at0 su x))/\Sz 9000 (pr (at0 su x)).1/\Sz 9000 (pr (at0 su x)).2:=by
 obtain ⟨j,rfl⟩:∃j:Nat,x=(j:Int):=⟨x.toNat,by omega⟩
 rw [Int.toNat_natCast] at x1
 obtain ⟨f,hf⟩:∃f,fs[j]?=some f:=⟨_,List.getElem?_eq_getElem (by rw [g.len];exact x1)⟩
 have e:(fs.map (·.2))[j]?=(su.map pr)[j]?:=by rw [g.v]
 rw [List.getElem?_map,List.getElem?_map,hf,List.getElem?_eq_getElem x1] at e
 have e2:f.2=pr su[j]:=Option.some.inj e
 have e3:at0 su (j:Int)=su[j]:=by
  unfold at0
  rw [Int.toNat_natCast,getD_eq_getElem?_getD,List.getElem?_eq_getElem x1]
  rfl
 rw [e3]
 refine ⟨f.1,BU hf,?_,g.z _ (getElem_mem x1)⟩
 rw [<- e2]
 exact g.g f (mem_of_getElem? hf)
noncomputable def Tn (C:Addr):Sp:=fun vs H Q _=>∃(a:Addr) (h s:Int) (xs:List Int) (m:Int),vs=[.ref a,.int m]/\IsS C H a h s xs/\(∀x∈xs,0<=x)/\xs.length<=12/\∀(l:Addr) (H':Hp),Az H H'->H' l=some (.lst ((A6 xs m).map V.int))->Q (.ref l) H'
noncomputable def Oa (C:Addr) (f:List Rat->List Int->Int):Sp:=fun vs H Q _=>∃(a l:Addr) (h s:Int) (xs:List Int) (m:Int) (fs:List Fq) (su:List Rat),vs=[.ref a,.ref l,.int m]/\IsS C H a h s xs/\SuG H l fs su/\(∀x∈xs,0<=x/\x.toNat < su.length)/\xs.length<=12/\A6 xs m≠[]/\∀H',Az H H'->Q (.int (f su (A6 xs m))) H'
noncomputable def Qb (C:Addr):Sp:=fun vs H Q _=>∃(a l:Addr) (h s:Int) (xs:List Int) (m q:Int) (pl:Nat) (fs:List Fq) (su:List Rat),vs=[.ref a,.ref l,.int m,.int (pl:Int),.int q]/\IsS C H a h s xs/\SuG H l fs su/\(∀x∈xs,0<=x/\x.toNat < su.length)/\xs.length<=12/\0<=m/\m < 4096/\(∀j,bit m j=true->(j:Int)∈xs)/\Sz 64 q /\
 ∀(t:Addr) (H':Hp),H t=none->Az H H'->H' t=some (.tup [.str (Db xs su m pl q).word,(Db xs su m pl q).who])->Q (.ref t) H'
abbrev Rq:=Addr × (Addr × List Rw) × (Addr × List Fq) × (Addr × Dd)
noncomputable def rqs (ps:List Rq):List V:=ps.map fun r=>.ref r.1
structure RqG (H:Hp) (r:Rq):Prop where
 t:H r.1=some (.tup [.ref r.2.1.1,.ref r.2.2.1.1,.ref r.2.2.2.1])
 rl:H r.2.1.1=some (.lst (rwv r.2.1.2))
 rg:∀x∈r.2.1.2,RwG H x
 sl:H r.2.2.1.1=some (.lst (fqv r.2.2.1.2))
 sg:∀f∈r.2.2.1.2,FqG H f
 d:H r.2.2.2.1=some (.tup [.str r.2.2.2.2.word,r.2.2.2.2.who])
theorem RqG.same {H H':Hp} {r:Rq} (s:Az H H') (g:RqG H r):RqG H' r:=⟨s _ _ g.t,s _ _ g.rl,fun x m=>(g.rg x m).same s,s _ _ g.sl,fun f m=>(g.sg f m).same s,s _ _ g.d⟩
abbrev Rv:=List (List (Int × Int)) × List (Int × Int) × Dd
noncomputable def rqV (r:Rq):Rv:=(r.2.1.2.map fun x=>x.2.map (·.2),r.2.2.1.2.map (·.2),r.2.2.2.2)
noncomputable def DJ (x:Rnd):Rv:=(x.1.map fun r=>r.map pr,x.2.1.map pr,x.2.2)
theorem KS:∀(σ:St) (H:Hp) (Q Q':Bool->Hp->Prop),(∀b H1,Q b H1->Q' b H1)->tB (tC (V.bl true)) σ H Q->tB (tC (V.bl true)) σ H Q':=fun _ _ _ _ f ⟨c,e,q⟩=>⟨c,e,f _ _ q⟩
def JQ (p:Addr) (r:Rq):Prop:=r.2.1.1≠p/\r.2.2.1.1≠p/\∀x∈r.2.1.2,x.1≠p
theorem RqG.upd {H:Hp} {r:Rq} {p:Addr} {ys:List V} {o:HO} (g:RqG H r) (e:H p=some (.lst ys)) (n:JQ p r):RqG (L2.upd H p o) r:=by
 have tup:∀c cs,H c=some (.tup cs)->(L2.upd H p o) c=some (.tup cs):=fun c cs ec=>by rw [Ap (BV ec e (fun z=>by cases z))];exact ec
 refine ⟨tup _ _ g.t,by rw [Ap n.1];exact g.rl,fun x m=>⟨by rw [Ap (n.2.2 x m)];exact (g.rg x m).1,fun f fm=>tup _ _ ((g.rg x m).2 f fm)⟩,by rw [Ap n.2.1];exact g.sl,fun f m=>tup _ _ (g.sg f m),tup _ _ g.d⟩
noncomputable def L4:Sp:=fun vs H Q _=>∃(l st dt:Addr) (h:Nat) (ls:Ls) (xs:List Sh) (rs:List Sr) (s q M:Int) (d:Dd),vs=[.ref l,.ref st,.int s,.ref dt,.int q]/\H dt=some (.tup [.str d.word,d.who])/\(∀hd,d=.seat hd->hd < h/\Sz 2210 M)/\H l=some (.lst (vls ls))/\Br H ls/\H st=some (.lst (shv xs))/\(∀x∈xs,ShG H x)/\xs.map shV=rs.map Dk/\StI M h rs/\0 < M/\ls.length=xs.length/\ls.length<=60/\h<=12/\1<=q/\Sz 64 q/\(∀p∈ls,Py h s p.2.2.1/\0<=p.2.2.2/\Sz 64 p.2.2.2) /\
 ∀(a:Addr) (ys:List Sh) (H':Hp),Az H H'->H' a=some (.lst (shv ys))->(∀y∈ys,ShG H' y/\(H y.2.2.1=none\/∃x∈xs,x.2.2.1=y.2.2.1))->(H a=none\/a=st)->ys.map shV=(Qy (Ao ls) rs s q d).map Dk->Q (.ref a) H'
def Ge (B:Hp) (r:Rq):Prop:=B r.2.1.1=none/\B r.2.2.1.1=none/\∀x∈r.2.1.2,B x.1=none
def Apt (a b:Rq):Prop:=∃G:Hp,RqG G a/\Ge G b
noncomputable def Nt (C:Addr):Sp:=fun vs H Q _=>∃(a l:Addr) (h s:Nat) (xs:List Int) (ls:Ls),vs=[.ref a,.ref l]/\IsS C H a (h:Int) (s:Int) xs/\1<=h/\h<=12/\1<=s/\s<=6/\xs.Perm (ups h)/\H l=some (.lst (vls ls))/\Br H ls/\(∀q∈ls,OkT h q.2.2.1/\0<=q.2.2.2/\Sz 64 q.2.2.2)/\ls.length<=60/\AG (Ao ls) < 2 ^ 40 /\
 ∀(p:Addr) (ps:List Rq) (H':Hp),H p=none->Az H H'->H' p=some (.lst (rqs ps))->(∀r∈ps,RqG H' r/\JQ p r/\Ge H r)->ps.Pairwise Apt->ps.map rqV=(Bz (Ao ls) h xs s).map DJ->Q (.ref p) H'
noncomputable def ddD (w:Str) (x:PyData):PyData:=.tuple [.str w,x]
noncomputable def Dd.data:Dd->PyData
 | .seat h=>.int (h:Int)
 | .out h=>.int (h:Int)
 | .rest=>.none
 | .fin=>.none
theorem GQ {K:PySem.W.Frag} {H:Hp} {a:Addr} {d:Dd} (e:H a=some (.tup [.str d.word,d.who])):Rep K H (.ref a) (ddD d.word d.data):=by
 refine .tup (SqT.of e) (.cons (.str _) (.cons ?_ .nil))
 cases d
 ·exact .int _
 ·exact .int _
 ·exact .non
 ·exact .non
theorem GA {w:Str} {x:PyData} (h:PyData.strOk w=true) (hx:x.canLay0=true/\x.depth=0):SeqAt.shaped (ddD w x)=true:=by
 unfold SeqAt.shaped
 rw [Bool.and_eq_true]
 refine ⟨?_,decide_eq_true ?_⟩
 ·show (PyData.strOk w && (x.canLay0 && true))=true
  rw [h,hx.1]
  rfl
 ·show max 0 (max x.depth 0)+1<=64
  rw [hx.2]
  decide
theorem Dw (d:Dd):SeqAt.shaped (ddD d.word d.data)=true:=by
 cases d
 ·exact GA (w:="seat") (by decide +kernel) ⟨rfl,rfl⟩
 ·exact GA (w:="out") (by decide +kernel) ⟨rfl,rfl⟩
 ·exact GA (w:="rest") (by decide +kernel) ⟨rfl,rfl⟩
 ·exact GA (w:="end") (by decide +kernel) ⟨rfl,rfl⟩
theorem CD (ds:Lq) (h:Nat) (xs:List Int) (q:Int):∀(n:Nat) (st:List Sr) (m:Int) (pl:Nat),(Bb ds h xs q n st m pl).length<=n/\(1<=n->Bb ds h xs q n st m pl≠[])
 | 0,_,_,_=>⟨Nat.le_refl _,fun z=>absurd z (by decide)⟩
 | n+1,st,m,pl=>by
   refine ⟨?_,fun _ z=>by unfold Bb at z;cases z⟩
   unfold Bb
   rw [length_cons]
   refine Nat.succ_le_succ ?_
   split
   ·exact (CD ds h xs q n _ _ _).1
   ·exact (CD ds h xs q n _ _ _).1
   ·exact Nat.zero_le _
theorem Qv (j:Nat):bit 0 j=false:=DQ (Int.le_refl _) (Int.pow_pos (by decide))
theorem QA {h:Nat} {t s:Int} (t0:0<=t) (t1:t < 2 ^ h) {j:Nat} (hj:j < h):bit (Builtin.bitAnd t s) j=(bit t j && bit s j):=by
 rw [GH h t0 t1,HK,HG,decide_eq_true hj,Bool.true_and,HG,decide_eq_true hj,Bool.true_and]
def Okk (h:Nat) (ts:List Int):Prop:=∀t∈ts,0 < t/\t < 2 ^ h
theorem JK {l:List Rat} {j:Nat} {x:Rat}:(l++[x]).getD j 0=if j < l.length then l.getD j 0 else if j=l.length then x else 0:=by
 rw [getD_eq_getElem?_getD,getD_eq_getElem?_getD]
 by_cases c:j < l.length
 ·rw [if_pos c,List.getElem?_append_left c]
 ·rw [if_neg c,List.getElem?_append_right (by omega)]
  by_cases d:j=l.length
  ·rw [if_pos d,d,Nat.sub_self];rfl
  ·rw [if_neg d,List.getElem?_eq_none (by show 1<=_;omega)];rfl
theorem QB {wh:List Int} {x:Sr} {h j:Nat} (l:x.2.length=h) (win:∀y∈wh,∃i:Nat,y=(i:Int)/\i < h) (hj:j < h+1):(BC wh x).getD j 0=if wh=[] then (if j < h then x.2.getD j 0 else x.1) else if (j:Int)∈wh then x.1 / (wh.length:Rat) else if j < h then x.2.getD j 0 else 0:=by
 unfold BC
 by_cases c:wh=[]
 ·rw [if_pos c,if_pos c,JK,l]
  by_cases d:j < h
  ·rw [if_pos d,if_pos d]
  ·rw [if_neg d,if_neg d,if_pos (by omega)]
 ·rw [if_neg c,if_neg c]
  have f:=EW (x.1 / (wh.length:Rat)) (fun _:Int=>true) (fun y=>y.toNat) wh (x.2++[0]) j
  have f':(wh.foldl (fun r y=>r.set y.toNat (x.1 / (wh.length:Rat))) (x.2++[0]))[j]?=_:=f
  rw [getD_eq_getElem?_getD,f']
  have ll:(x.2++[(0:Rat)]).length=h+1:=by rw [length_append,l];rfl
  by_cases d:(j:Int)∈wh
  ·rw [if_pos d,if_pos ⟨by rw [ll];exact hj,(j:Int),d,rfl,by omega⟩]
   rfl
  ·rw [if_neg d,if_neg (fun z=>by
    obtain ⟨_,y,ym,_,e⟩:=z
    obtain ⟨i,rfl,_⟩:=win y ym
    have:i=j:=by omega
    rw [this] at ym
    exact d ym),<- getD_eq_getElem?_getD,JK,l]
   by_cases g:j < h
   ·rw [if_pos g,if_pos g]
   ·rw [if_neg g,if_neg g,if_pos (by omega)]
section
variable {h:Nat} {π:Nat->Nat} {m m':Int} {φ φ':List Int->Sr}
end
section
variable {h:Nat} {π:Nat->Nat} {m m':Int}
end
noncomputable def P8:Sp:=fun vs H Q _=>∃c h:Int,vs=[.int c,.int h]/\Sz 200 c/\1<=h/\h<=12/\∀(l:Addr) (ns:List Int) (H':Hp),Az H H'->H' l=some (.lst (ns.map V.int))->ns.Perm (ups h.toNat)->Q (.ref l) H'
theorem Ks:∀{b:List Int} {k:Nat} {y:Int},b[k]?=some y->(y :: b.eraseIdx k).Perm b
 | x :: b,0,y,h=>by
   have:x=y:=Option.some.inj h
   rw [this]
   exact List.Perm.refl _
 | x :: b,k+1,y,h=>by
   show (y :: x :: b.eraseIdx k).Perm (x :: b)
   exact (List.Perm.swap x y _).trans ((Ks (b:=b) (k:=k) h).cons x)
theorem Jg {a b c:List Int} {k:Nat} {y:Int} (h:b[k]?=some y) (p:(a++b).Perm c):(a++[y]++b.eraseIdx k).Perm c:=by
 rw [append_assoc]
 exact (List.Perm.append_left a (Ks h)).trans p
theorem MO {most:Int}:∀{ds:Lq},(∀q∈ds,1<=q.2/\q.2<=64*most)->most<=10 ^ 9->0<=AG ds/\AG ds<=ds.length*(64*10 ^ 9)
 | [],_,_=>⟨Int.le_refl _,Int.le_refl _⟩
 | q :: d,h,m=>by
   have a:=h q (mem_cons_self ..)
   have b:=MO (ds:=d) (fun x k=>h x (mem_cons_of_mem _ k)) m
   show 0<=q.2+AG d/\q.2+AG d<=((d.length+1:Nat):Int)*(64*10 ^ 9)
   have e:((d.length+1:Nat):Int)*(64*10 ^ 9)=(d.length:Int)*(64*10 ^ 9)+64*10 ^ 9:=by rw [Int.natCast_add,Int.add_mul];rfl
   rw [e]
   omega
noncomputable def Lr (K:PySem.W.Frag):Sp:=fun vs H Q _=>∃(a C dx:Addr) (h s:Nat) (lv:V) (ns:List Int),vs=[.ref a,.int (h:Int),.int (s:Int),lv]/\H a=some (.ins C dx [])/\Cls K C/\BR K C "hands"/\BR K C "seats"/\BR K C "lots" /\
 1<=h/\h<=12/\1<=s/\s<=60/\((lv=.non/\ns=ups h)\/∃l,lv=.ref l/\H l=some (.lst (ns.map V.int))/\ns.Perm (ups h)) /\
 ∀(l':Addr) (H':Hp),l'≠a->H l'=none->Az (off H a) H'->H' a=some (.ins C dx (fsW (h:Int) (s:Int) l'))->H' l'=some (.lst (ns.map V.int))->Q .non H'
noncomputable def N5 (K:PySem.W.Frag):Sp:=fun vs H Q _=>∃(a C dx:Addr) (h s:Nat) (lv:V) (ns:List Int),vs=[.ref a,.int (h:Int),.int (s:Int),lv]/\H a=some (.ins C dx [])/\Cls K C/\BR K C "hands"/\BR K C "seats"/\BR K C "lots"/\1<=h/\h<=12/\1<=s/\s<=6/\((lv=.non/\ns=ups h)\/∃l,lv=.ref l/\H l=some (.lst (ns.map V.int))/\ns.Perm (ups h)) /\
 ∀(l':Addr) (H':Hp),Az (off H a) H'->H' a=some (.ins C dx (fsW (h:Int) (s:Int) l'))->H' l'=some (.lst (ns.map V.int))->Q .non H'
theorem Pr {ps:List Rq} {i:Nat} {r:Rq} (h:ps[i]?=some r):atI (rqs ps) (i:Int)=some (.ref r.1):=Cb (by unfold rqs;rw [List.getElem?_map,h];rfl)
theorem Lv {d:PyData} (h:SeqAt.shaped d=true):PyData.eqv d d=true:=LG d (by unfold SeqAt.shaped at h;exact (Bool.and_eq_true_iff.mp h).1)
theorem RG {fs:List Fq} {su:List Rat} {j:Nat} (e:fs.map (·.2)=su.map pr) (hj:j < su.length):∃f,fs[j]?=some f/\f.2=pr (su.getD j 0):=by
 have l:fs.length=su.length:=by
  have:=congrArg List.length e
  rw [length_map,length_map] at this
  exact this
 refine ⟨fs[j]'(by omega),List.getElem?_eq_getElem (by omega),?_⟩
 have k:(fs.map (·.2))[j]?=(su.map pr)[j]?:=by rw [e]
 rw [List.getElem?_map,List.getElem?_map,List.getElem?_eq_getElem (by omega),List.getElem?_eq_getElem hj] at k
 rw [getD_eq_getElem?_getD,List.getElem?_eq_getElem hj]
 exact Option.some.inj k
noncomputable def roD (v:Rv):PyData:=.tuple [.list (v.1.map Sc),.list (v.2.1.map fD),ddD v.2.2.word v.2.2.data]
theorem Pz (d:Dd):Lay 3 (ddD d.word d.data):=by
 refine ⟨?_,?_⟩
 ·have h:=Dw d
  unfold SeqAt.shaped at h
  exact (Bool.and_eq_true_iff.mp h).1
 ·cases d <;> exact Nat.le_of_ble_eq_true rfl
theorem R8 (v:Rv):Lay 4 (roD v):=EL fun x m=>by
 rcases mem_cons.mp m with rfl | m
 ·exact DL (Ek QL _)
 rcases mem_cons.mp m with rfl | m
 ·exact (DL (Ek R4 _)).mono (by decide)
 rw [mem_singleton.mp m]
 exact Pz _
theorem Ec (vs:List Rv):Lay 5 (.list (vs.map roD)):=DL (Ek R8 _)
theorem Gv {K:PySem.W.Frag} {H:Hp} {p:Addr} {ps:List Rq} (e:H p=some (.lst (rqs ps))) (g:∀r∈ps,RqG H r):Rep K H (.ref p) (.list ((ps.map rqV).map roD)):=by
 rw [map_map]
 exact .lst (SqL.of e) (DU fun r m=>.tup (SqT.of (g r m).t) (.cons (.lst (SqL.of (g r m).rl) (QU (g r m).rg)) (.cons (.lst (SqL.of (g r m).sl) (Pl (g r m).sg)) (.cons (GQ (g r m).d) .nil))))
noncomputable def cnt:Nat->(Nat->Bool)->Nat
 | 0,_=>0
 | n+1,f=>cnt n f+(if f n=true then 1 else 0)
noncomputable def IN (g:Nat->Rat):Nat->(Nat->Bool)->Rat
 | 0,_=>0
 | n+1,f=>IN g n f+(if f n=true then g n else 0)
theorem Ja:∀{n h:Nat} {f:Nat->Bool},h<=n->(∀j,h<=j->f j=false)->cnt n f=cnt h f
 | 0,h,_,le,_=>by rw [show h=0 by omega]
 | n+1,h,f,le,z=>by
   by_cases c:h=n+1
   ·rw [c]
   ·show cnt n f+_=_
    rw [Ja (n:=n) (by omega) z,z n (by omega)]
    rfl
theorem Ee:∀(n:Nat) (f:Nat->Bool),(hands n f).length=cnt n f
 | 0,_=>rfl
 | n+1,f=>by
   have ih:=Ee n f
   unfold hands at ih ⊢
   rw [range_succ,filter_append,map_append,length_append,ih]
   show _=cnt n f+_
   congr 1
   rw [filter_cons]
   cases f n <;> rfl
theorem RJ {n:Nat} (h:0 < n):(n:Rat)≠0:=by exact_mod_cast (show n≠0 by omega)
theorem Dc {h:Nat} {a:Int} (a0:0<=a) (a1:a < 2 ^ h) {j:Nat} (b:bit a j=true):j < h:=by
 rcases (by omega:j < h\/h<=j) with c | c
 ·exact c
 ·have:(2:Int) ^ h<=2 ^ j:=by
   have:=Nat.pow_le_pow_right (show 0 < 2 by decide) c
   exact_mod_cast this
  rw [DQ a0 (by omega)] at b
  cases b
section
variable {ds:Lq} {h:Nat} {C m:Int} {φ:List Int->Sr} {q:Int}
theorem KH (h12:h<=12) {ts:List Int} (ok:Okk h ts):(∀y∈Aw ts m,∃i:Nat,y=(i:Int)/\i < h)/\(∀j,j < h->(((j:Nat):Int)∈Aw ts m↔bit (AO ts m) j=true))/\(Aw ts m).length=cnt h (bit (AO ts m)):=by
 have li:=DB (s:=m) ok
 unfold Aw
 refine ⟨fun y k=>?_,fun j hj=>?_,?_⟩
 ·obtain ⟨i,_,b,e⟩:=Bi.mp k
  exact ⟨i,e,Dc li.1 li.2 b⟩
 ·rw [Bi]
  constructor
  ·rintro ⟨i,_,b,e⟩
   rw [show j=i by omega]
   exact b
  ·intro b
   exact ⟨j,by omega,b,rfl⟩
 ·rw [Ee]
  refine Ja h12 fun j hj=>?_
  cases c:bit (AO ts m) j with
  | false=>rfl
  | true=>have:=Dc li.1 li.2 c;omega
variable {N:Rat} {k sg a:Nat}
end
theorem JS {xs:List Int} {su:List Rat} {m q:Int} {pl hd:Nat} (e:Db xs su m pl q=.seat hd):(q:Rat)<=su.getD hd 0:=by
 unfold Db at e
 by_cases c1:(hands 12 (bit m)).length<=pl
 ·rw [if_pos c1] at e;cases e
 rw [if_neg c1] at e
 by_cases c2:pl=0
 ·rw [if_pos c2] at e;cases e
 rw [if_neg c2] at e
 split at e
 ·cases e
 ·rename_i c3
  injection e with e
  unfold at0 at c3
  rw [e] at c3
  exact Rat.not_lt.mp c3
theorem EA {h:Nat} {m:Int}:∀{ts:List Int},Okk h ts->∀{j:Nat},bit (AO ts m) j=true->bit m j=true
 | [],_,j,b=>by rw [show AO [] m=0 from rfl,Qv] at b;cases b
 | t :: r,ok,j,b=>by
   have ht:=ok t (mem_cons_self ..)
   unfold AO at b
   by_cases c:Builtin.bitAnd t m=0
   ·rw [if_pos c] at b
    exact EA (ts:=r) (fun x k=>ok x (mem_cons_of_mem _ k)) b
   ·rw [if_neg c] at b
    have a:=Lo (s:=m) (Int.le_of_lt ht.1) ht.2
    have hj:=Dc a.1 a.2 b
    rw [QA (Int.le_of_lt ht.1) ht.2 hj] at b
    exact (Bool.and_eq_true_iff.mp b).2
theorem K6:∀(l:List Rat) (x:Rat),(l++[x]).sum=l.sum+x
 | [],x=>by show x+0=0+x;grind
 | y :: l,x=>by rw [cons_append,sum_cons,sum_cons,K6 l x];grind
theorem OD {wh:List Int} {x:Sr}:(BC wh x).length=x.2.length+1:=by
 unfold BC
 split
 ·rw [length_append];rfl
 ·rw [F2,length_append];rfl
section
variable {ds:Lq} {h:Nat} {m:Int} {φ:List Int->Sr} {q:Int} {mt:List (Nat × Bool)}
end
theorem Jo {x y:Int × Int} (x0:0 < x.2) (y0:0 < y.2):vq (C0 x y)=vq x+vq y/\0 < (C0 x y).2:=by
 have hx:=Ck x0
 have hy:=Ck y0
 unfold C0
 by_cases c:y.1=0
 ·rw [if_pos c]
  refine ⟨?_,x0⟩
  have z:vq y=0:=by unfold vq;rw [c,show ((0:Int):Rat)=0 from rfl];grind
  rw [z]
  grind
 ·rw [if_neg c]
  by_cases c2:x.2=y.2
  ·rw [if_pos c2]
   refine ⟨?_,x0⟩
   unfold vq
   show ((x.1+y.1:Int):Rat) / (x.2:Rat)=_
   rw [Rat.intCast_add,<- c2]
   grind
  ·rw [if_neg c2]
   refine ⟨?_,Int.mul_pos x0 y0⟩
   unfold vq
   show ((x.1*y.2+y.1*x.2:Int):Rat) / ((x.2*y.2:Int):Rat)=_
   rw [Rat.intCast_add,Rat.intCast_mul,Rat.intCast_mul,Rat.intCast_mul]
   grind
def Fy (v:Rat):Prop:=0<=v/\Sz 1300 (pr v).1/\Sz 1300 (pr v).2
theorem RP:∀{k:Nat},k<=4->mB k<=1080:=fun {k} h=>by
 rcases (by omega:k=0\/k=1\/k=2\/k=3\/k=4) with rfl | rfl | rfl | rfl | rfl <;> decide
theorem Rr {M:Int} {z:Rat} (M0:0 < M) (Mz:Sz 1080 M) (h0:0<=z) (h1:z<=1) (i:Ba (M*27720) z):Fy z:=by
 have M1:0 < M*27720:=by omega
 have Mz1:Sz 1100 (M*27720):=(Mz.mul (AK (by decide) (by decide):Sz 15 (27720:Int))).mono (by decide)
 have bz:Sz 1100 (pr z).2:=DA i.dvd M1 Mz1
 have l:=NV h1
 have b0:=AR z
 have t0:=DP h0
 refine ⟨h0,?_,bz.mono (by decide)⟩
 have tz:Sz 1100 (pr z).1:=by
  unfold Sz at *
  generalize 2 ^ 1100=X at *
  omega
 exact tz.mono (by decide)
theorem Oe {M:Int} {h:Nat} {st:List Sr} {ds:Lq} {m:Int} (si:StI M h st) (M0:0 < M) (Mz:Sz 1080 M) (hn:∀p∈ds,0<=p.2) (N:AG ds < 2 ^ 40):∀v∈Bc ds (AE ds st m) h,0<=v/\Sz 1300 (pr v).1/\Sz 1300 (pr v).2:=fun v k=>by
 obtain ⟨j,_,rfl⟩:=mem_map.mp k
 have col:∀r∈(AE ds st m).map fun r=>r.getD j 0,0<=r/\r<=1/\Ba (M*27720) r:=fun r k=>by
  obtain ⟨y,ym,rfl⟩:=mem_map.mp k
  obtain ⟨yl,yz⟩:=GF (ds:=ds) (s:=m) si y ym
  rw [getD_eq_getElem?_getD]
  cases e:y[j]? with
  | none=>exact ⟨Rat.le_refl,by decide,Ba.zero _⟩
  | some z=>exact yz z (mem_of_getElem? e)
 have nn:=EH hn (fun r k=>(col r k).1)
 have le:=DO hn (fun r k=>⟨(col r k).1,(col r k).2.1⟩)
 have iT:Ba (M*27720) (Bs ds ((AE ds st m).map fun r=>r.getD j 0)):=Fw fun r m=>(col r m).2.2
 generalize Bs ds ((AE ds st m).map fun r=>r.getD j 0)=T at nn le iT ⊢
 have M1:0 < M*27720:=by omega
 have Mz1:Sz 1100 (M*27720):=(Mz.mul (AK (by decide) (by decide):Sz 15 (27720:Int))).mono (by decide)
 have bz:Sz 1100 (pr T).2:=DA iT.dvd M1 Mz1
 have nl:=Px le
 have b0:=AR T
 have t0:=DP nn
 have n00:0<=AG ds:=by
  rcases (by omega:0<=AG ds\/AG ds < 0) with z | z
  ·exact z
  ·have:=Int.mul_neg_of_neg_of_pos z b0
   omega
 have nz:Sz 40 (AG ds):=AK (by omega) (by exact_mod_cast N)
 have tz:Sz (40+1100) (pr T).1:=by
  have:=nz.mul bz
  unfold Sz at *
  generalize 2 ^ (40+1100)=X at *
  omega
 exact ⟨nn,tz.mono (by decide),bz.mono (by decide)⟩
structure FoS (h:Nat) (m:Int) (st:List Sr):Prop where
 len:∀x∈st,x.2.length=h
 fr:∀x∈st,Fy x.1
 kf:∀x∈st,∀k∈x.2,Fy k
 zero:∀x∈st,∀j,bit m j=true->x.2.getD j 0=0
def Fo (ds:Lq) (h:Nat) (xs:List Int) (q:Int):List Sr->Int->Nat->List Rnd->Prop
 | _,_,_,[]=>False
 | st,m,pl,r :: rs=>FoS h m st/\st.length=ds.length/\0<=m/\m < 2 ^ h/\r=C1 ds h xs q st m pl/\(∀w∈r.1,w.length=h+1/\∀v∈w,Fy v)/\(r.2.1.length=h+1/\∀v∈r.2.1,Fy v) /\
   match r.2.2 with
   | .seat hd=>hd < h/\bit m hd=true/\1<=pl/\Fo ds h xs q (Bw ds st m hd q) (m - 2 ^ hd) (pl - 1) rs
   | .out hd=>hd < h/\bit m hd=true/\1<=pl/\Fo ds h xs q st (m - 2 ^ hd) pl rs
   | _=>rs=[]
theorem Rp {M:Int} {z:Rat} (M0:0 < M) (Mz:Sz 1080 M) (h0:0<=z) (h1:z<=1) (i:Ba M z):Fy z:=Rr M0 Mz h0 h1 (i.more 27720)
theorem Nw {ds:Lq} {h:Nat} {st:List Sr} {m q:Int} {hd:Nat} (sl:∀x∈st,x.2.length=h) (z:∀x∈st,∀j,bit m j=true->x.2.getD j 0=0) (hb:∀j,bit (m - 2 ^ hd) j=(bit m j && decide (j≠hd))):∀x∈Bw ds st m hd q,∀j,bit (m - 2 ^ hd) j=true->x.2.getD j 0=0:=fun x xm j b=>by
 obtain ⟨p,pm,rfl⟩:=mem_map.mp xm
 have xm:=(of_mem_zip pm).1
 rw [hb j] at b
 obtain ⟨b1,b2⟩:=Bool.and_eq_true_iff.mp b
 have ne:=of_decide_eq_true b2
 show (p.1.2.set hd _).getD j 0=0
 rw [getD_eq_getElem?_getD,List.getElem?_set_ne (fun e=>ne e.symm),<- getD_eq_getElem?_getD]
 exact z _ xm j b1
theorem Kl {ds:Lq} {st:List Sr} {m q:Int} {hd:Nat} (sl:st.length=ds.length):(Bw ds st m hd q).length=ds.length:=by
 unfold Bw AA
 rw [length_map,length_zip,length_map,length_zip,sl,Nat.min_self,Nat.min_self]
theorem rounds_fo {ds:Lq} {h s:Nat} {xs:List Int} {q:Int} (hn:∀p∈ds,0<=p.2) (N:AG ds < 2 ^ 40) (q1:1<=q) (h12:h<=12) (s4:s<=4) (hx:∀x∈xs,0<=x/\x < h) (hxa:∀j:Nat,j < h->(j:Int)∈xs):∀(n:Nat) (st:List Sr) (m:Int) (pl:Nat) (M:Int),StI M h st->st.length=ds.length->(∀x∈st,∀j,bit m j=true->x.2.getD j 0=0)->0 < M->Sz (mB (s - pl)) M->pl<=s->0<=m->m < 2 ^ h->(hands 12 (bit m)).length < n ->
 Fo ds h xs q st m pl (Bb ds h xs q n st m pl)
 | 0,_,_,_,_,_,_,_,_,_,_,_,_,l=>absurd l (Nat.not_lt_zero _)
 | n+1,st,m,pl,M,si,sl,zr,M0,Mz,ps,m0,m1,hl=>by
   have hbm:∀j,bit m j=true->(j:Int)∈xs:=fun j b=>hxa j (Dc m0 m1 b)
   have Mz4:Sz 1080 M:=Mz.mono (RP (by omega))
   refine ⟨⟨si.len,fun x k=>?_,fun x k y ky=>?_,zr⟩,sl,m0,m1,rfl,fun w wm=>?_,⟨by unfold C1 Bc;rw [length_map,length_range],Oe si M0 Mz4 hn N⟩,?_⟩
   ·obtain ⟨a,b,c⟩:=si.free x k
    exact Rp M0 Mz4 a b c
   ·obtain ⟨a,b,c⟩:=si.kept x k y ky
    exact Rp M0 Mz4 a b c
   ·obtain ⟨l,z⟩:=GF si w wm
    refine ⟨l,fun v vm=>?_⟩
    obtain ⟨a,b,c⟩:=z v vm
    exact Rr M0 Mz4 a b c
   have step:∀hd,(Db xs (Bc ds (AE ds st m) h) m pl q=.seat hd\/Db xs (Bc ds (AE ds st m) h) m pl q=.out hd)->bit m hd=true/\1<=pl/\hd < h/\0<=m - 2 ^ hd/\m - 2 ^ hd < 2 ^ h/\(hands 12 (bit (m - 2 ^ hd))).length < n/\(∀j,bit (m - 2 ^ hd) j=(bit m j && decide (j≠hd))):=fun hd c=>by
    obtain ⟨bh,p1⟩:=Lu (fun x k=>(hx x k).1) hbm c
    have hh:=Dc m0 m1 bh
    obtain ⟨a0,a1,a2⟩:=He m0 bh (by omega)
    have p1':(0:Int) < 2 ^ hd:=Int.pow_pos (by decide)
    exact ⟨bh,p1,hh,a0,by omega,by omega,a1⟩
   show (match Db xs (Bc ds (AE ds st m) h) m pl q with
    | .seat hd=>hd < h/\bit m hd=true/\1<=pl/\Fo ds h xs q (Bw ds st m hd q) (m - 2 ^ hd) (pl - 1) (match Db xs (Bc ds (AE ds st m) h) m pl q with
      | .seat hd=>Bb ds h xs q n (Bw ds st m hd q) (m - 2 ^ hd) (pl - 1)
      | .out hd=>Bb ds h xs q n st (m - 2 ^ hd) pl
      | _=>[])
    | .out hd=>hd < h/\bit m hd=true/\1<=pl/\Fo ds h xs q st (m - 2 ^ hd) pl (match Db xs (Bc ds (AE ds st m) h) m pl q with
      | .seat hd=>Bb ds h xs q n (Bw ds st m hd q) (m - 2 ^ hd) (pl - 1)
      | .out hd=>Bb ds h xs q n st (m - 2 ^ hd) pl
      | _=>[])
    | _=>(match Db xs (Bc ds (AE ds st m) h) m pl q with
      | .seat hd=>Bb ds h xs q n (Bw ds st m hd q) (m - 2 ^ hd) (pl - 1)
      | .out hd=>Bb ds h xs q n st (m - 2 ^ hd) pl
      | _=>[])=[])
   cases e:Db xs (Bc ds (AE ds st m) h) m pl q with
   | rest=>rfl
   | fin=>rfl
   | seat hd =>
     obtain ⟨bh,p1,hh,a0,a1,ln,hb⟩:=step hd (.inl e)
     obtain ⟨M2,M20,Mz2,si2⟩:=si.step (k:=s - pl) (ds:=ds) (s:=m) (q:=q) M0 Mz (show hd < 12 by omega) q1 hn N
     refine ⟨hh,bh,p1,?_⟩
     exact rounds_fo hn N q1 h12 s4 hx hxa n _ _ _ M2 si2 (Kl sl) (Nw si.len zr hb) M20 (by rw [show s - (pl - 1)=s - pl+1 from by omega];exact Mz2) (by omega) a0 a1 ln
   | out hd =>
     obtain ⟨bh,p1,hh,a0,a1,ln,hb⟩:=step hd (.inr e)
     refine ⟨hh,bh,p1,?_⟩
     exact rounds_fo hn N q1 h12 s4 hx hxa n _ _ _ M si sl (fun x k j b=>zr x k j (by rw [hb j] at b;exact (Bool.and_eq_true_iff.mp b).1)) M0 Mz ps a0 a1 ln
theorem Ph {ds:Lq} {h s:Nat} {xs:List Int} (hn:∀p∈ds,0<=p.2) (n0:0<=AG ds) (N:AG ds < 2 ^ 40) (h12:h<=12) (s4:s<=4) (hx:∀x∈xs,0<=x/\x < h) (hxa:∀j:Nat,j < h->(j:Int)∈xs) :
 Fo ds h xs ((AG ds).fdiv ((s:Int)+1)+1) (CK ds.length h) (2 ^ h - 1) s (Bz ds h xs s)/\1<=(AG ds).fdiv ((s:Int)+1)+1:=by
 have p20:(0:Int) < 2 ^ h:=Int.pow_pos (by decide)
 have q1:1<=(AG ds).fdiv ((s:Int)+1)+1:=by
  rw [Int.fdiv_eq_ediv_of_nonneg _ (show (0:Int)<=(s:Int)+1 by omega)]
  have:=Int.ediv_nonneg n0 (show (0:Int)<=(s:Int)+1 by omega)
  omega
 have hl:(hands 12 (bit ((2:Int) ^ h - 1))).length < h+1:=by rw [JP h12];omega
 refine ⟨?_,q1⟩
 unfold Bz
 refine rounds_fo hn N q1 h12 s4 hx hxa (h+1) _ _ s 1 (JY ds.length h) (by unfold CK;rw [length_replicate]) (fun x k j _=>?_) (by decide) (by rw [Nat.sub_self];exact (AK (by decide) (by decide):Sz 1 (1:Int))) (Nat.le_refl _) (by omega) (by omega) hl
 rw [eq_of_mem_replicate k]
 show (List.replicate h (0:Rat)).getD j 0=0
 rw [getD_eq_getElem?_getD,List.getElem?_replicate]
 split <;> rfl
section
variable {h:Nat} {m:Int} {ts:List Int} {x:Sr}
theorem Hw (h12:h<=12) (ok:Okk h ts) (xl:x.2.length=h) (zero:∀j,bit m j=true->x.2.getD j 0=0) {j:Nat} (hj:j < h+1):(BC (Aw ts m) x).getD j 0=(if j < h then x.2.getD j 0 else if Aw ts m=[] then x.1 else 0)+if bit (AO ts m) j=true then x.1 / ((Aw ts m).length:Rat) else 0:=by
 obtain ⟨w1,w2,w3⟩:=KH (m:=m) h12 ok
 have li:=DB (s:=m) ok
 rw [QB xl w1 hj]
 by_cases c:Aw ts m=[]
 ·rw [if_pos c,if_pos c]
  have:¬ bit (AO ts m) j=true:=fun b=>by
   have:=(w2 j (Dc li.1 li.2 b)).mpr b
   rw [c] at this
   exact nomatch this
  rw [if_neg this]
  grind
 ·rw [if_neg c,if_neg c]
  by_cases b:bit (AO ts m) j=true
  ·have jh:=Dc li.1 li.2 b
   rw [if_pos ((w2 j jh).mpr b),if_pos b,if_pos jh,zero j (EA ok b)]
   grind
  ·have nm:¬ (j:Int)∈Aw ts m:=fun k=>by
    obtain ⟨i,e,ih⟩:=w1 _ k
    have e':j=i:=by omega
    subst e'
    exact b ((w2 j ih).mp k)
   rw [if_neg nm,if_neg b]
   grind
theorem Pb (h12:h<=12) (ok:Okk h ts) (xl:x.2.length=h) (zero:∀j,bit m j=true->x.2.getD j 0=0) {hd:Nat} (hh:hd < h) (b:bit m hd=true):(BC (Aw ts m) x).getD hd 0=Ct ts m hd x.1:=by
 rw [Hw h12 ok xl zero (by omega),if_pos hh,zero hd b,Rat.zero_add]
 rfl
theorem K8 {g:Nat->Rat} {c:Rat} {f e:Nat->Bool}:∀n,(∀j,j < n->e j=true->f j=true)->(∀j,j < n->f j=true->g j=if e j=true then c else 0)->IN g n f=c*(cnt n e:Rat)
 | 0,_,_=>by show (0:Rat)=c*((0:Nat):Rat);grind
 | n+1,h1,h2=>by
   have ih:=K8 n (fun j hj=>h1 j (by omega)) (fun j hj=>h2 j (by omega))
   show IN g n f+(if f n=true then g n else 0)=c*((cnt n e+(if e n=true then 1 else 0):Nat):Rat)
   rw [ih]
   by_cases b:e n=true
   ·rw [if_pos (h1 n (by omega) b),h2 n (by omega) (h1 n (by omega) b),if_pos b,if_pos b,Rat.natCast_add]
    show _=c*((cnt n e:Rat)+1)
    grind
   ·rw [if_neg b,Nat.add_zero]
    by_cases d:f n=true
    ·rw [if_pos d,h2 n (by omega) d,if_neg b]
     grind
    ·rw [if_neg d]
     grind
theorem JR (h12:h<=12) (ok:Okk h ts) (xl:x.2.length=h) (zero:∀j,bit m j=true->x.2.getD j 0=0):(BC (Aw ts m) x).getD h 0+IN (fun j=>(BC (Aw ts m) x).getD j 0) h (bit m)=x.1:=by
 obtain ⟨w1,w2,w3⟩:=KH (m:=m) h12 ok
 have li:=DB (s:=m) ok
 have nb:¬ bit (AO ts m) h=true:=fun b=>by have:=Dc li.1 li.2 b;omega
 rw [Hw h12 ok xl zero (by omega),if_neg (Nat.lt_irrefl h),if_neg nb,K8 (c:=x.1 / ((Aw ts m).length:Rat)) (e:=bit (AO ts m)) h (fun j _ b=>EA ok b) (fun j hj b=>by
  rw [Hw h12 ok xl zero (by omega),if_pos hj,zero j b,Rat.zero_add]),<- w3]
 by_cases c:Aw ts m=[]
 ·rw [if_pos c,c]
  show x.1+0+_*((0:Nat):Rat)=x.1
  grind
 ·rw [if_neg c]
  have l0:((Aw ts m).length:Rat)≠0:=RJ (Nat.pos_of_ne_zero fun e=>c (length_eq_zero_iff.mp e))
  rw [Rat.div_mul_cancel l0]
  grind
end
theorem HI {ds:Lq} {h:Nat} {st:List Sr} {m:Int} {hd:Nat} (h12:h<=12) (okd:∀p∈ds,Okk h p.1) (F:FoS h m st) (hh:hd < h) (b:bit m hd=true):(Bc ds (AE ds st m) h).getD hd 0=Bs ds (AA ds st m hd):=by
 unfold Bc
 rw [getD_eq_getElem?_getD,List.getElem?_map,List.getElem?_range (by omega)]
 show Bs ds _=_
 congr 1
 unfold AE AA
 rw [map_map]
 refine map_congr_left fun p pm=>?_
 obtain ⟨a,c⟩:=of_mem_zip pm
 exact Pb h12 (okd _ a) (F.len _ c) (F.zero _ c) hh b
theorem Ot {ds:Lq} {st:List Sr} {m q:Int} {hd i:Nat} {p:List Int × Int} {x:Sr} (hp:ds[i]?=some p) (hx:st[i]?=some x):(Bw ds st m hd q)[i]?=some (EJ hd (Ct p.1 m hd x.1) (CT (Bs ds (AA ds st m hd)) q) x):=by
 unfold Bw
 have e:(AA ds st m hd)[i]?=some (Ct p.1 m hd x.1):=by
  unfold AA
  rw [List.getElem?_map,show (ds.zip st)[i]?=some (p,x) from List.getElem?_zip_eq_some.mpr ⟨hp,hx⟩]
  rfl
 rw [List.getElem?_map,show (st.zip (AA ds st m hd))[i]?=some (x,Ct p.1 m hd x.1) from List.getElem?_zip_eq_some.mpr ⟨hx,e⟩]
 rfl
noncomputable def CF (m q:Int) (d:Dd) (t:Rat) (w:List Rat) (j:Nat):Rat:=if bit m j=true then (if d=.seat j then w.getD j 0*(q:Rat) / t else 0) else w.getD j 0
noncomputable def CC (m q:Int) (d:Dd) (t:Rat) (w:List Rat) (n:Nat) (f:Rat):Rat:=f+IN (fun j=>w.getD j 0 - (if d=.seat j then w.getD j 0*(q:Rat) / t else 0)) n (bit m)
theorem Sb {t:Rat} {q:Int} (q1:1<=q) (le:(q:Rat)<=t) (s:Rat):s*CT t q=s*(q:Rat) / t:=by
 have hq:(1:Rat)<=(q:Rat):=by
  have:=Rat.intCast_le_intCast.mpr q1
  exact this
 unfold CT
 by_cases c:(q:Rat) < t
 ·rw [if_pos c,Rat.div_def,Rat.div_def,Rat.mul_assoc]
 ·rw [if_neg c]
  have e:t=(q:Rat):=by grind
  rw [e]
  have:(q:Rat)≠0:=by grind
  grind
theorem La {g k:Nat->Rat} {hd:Nat} {f:Nat->Bool}:∀n,(∀j,j≠hd->k j=0)->f hd=true->IN (fun j=>g j - k j) n f=IN g n f - if hd < n then k hd else 0
 | 0,_,_=>by show (0:Rat)=0 - _;rw [if_neg (Nat.not_lt_zero _)];grind
 | n+1,h1,h2=>by
   have ih:=La (g:=g) (k:=k) n h1 h2
   show IN (fun j=>g j - k j) n f+(if f n=true then g n - k n else 0)=IN g n f+(if f n=true then g n else 0) - _
   rw [ih]
   by_cases e:n=hd
   ·subst e
    rw [if_pos h2,if_pos h2,if_neg (Nat.lt_irrefl _),if_pos (Nat.lt_succ_self _)]
    grind
   ·rw [h1 n e,show (if hd < n+1 then k hd else (0:Rat))=if hd < n then k hd else 0 from by
     by_cases c:hd < n
     ·rw [if_pos c,if_pos (by omega)]
     ·rw [if_neg c,if_neg (by omega)]]
    split <;> grind
theorem HE {l k:List Rat} (hl:l.length=k.length) (h:∀j,j < l.length->l.getD j 0=k.getD j 0):l=k:=by
 refine ext_getElem hl fun j h1 h2=>?_
 have:=h j h1
 rw [getD_eq_getElem?_getD,getD_eq_getElem?_getD,List.getElem?_eq_getElem h1,List.getElem?_eq_getElem h2] at this
 exact this
theorem KF {h:Nat} {m q:Int} {ts:List Int} {x:Sr} {hd:Nat} {t:Rat} (h12:h<=12) (ok:Okk h ts) (xl:x.2.length=h) (zero:∀j,bit m j=true->x.2.getD j 0=0) (hh:hd < h) (b:bit m hd=true) (q1:1<=q) (le:(q:Rat)<=t) :
 ((CC m q (.seat hd) t (BC (Aw ts m) x) h ((BC (Aw ts m) x).getD h 0)),(List.range h).map (CF m q (.seat hd) t (BC (Aw ts m) x)))=EJ hd (Ct ts m hd x.1) (CT t q) x:=by
 have rs:=Pb h12 ok xl zero hh b
 have rf:=JR h12 ok xl zero
 have li:=DB (s:=m) ok
 unfold EJ
 rw [Sb q1 le]
 refine Prod.ext ?_ ?_
 ·show CC _ _ _ _ _ _ _=_
  unfold CC
  rw [La (g:=fun j=>(BC (Aw ts m) x).getD j 0) (k:=fun j=>if (Dd.seat hd)=.seat j then (BC (Aw ts m) x).getD j 0*(q:Rat) / t else 0) (hd:=hd) h (fun j ne=>if_neg (fun e=>ne (Dd.seat.inj e).symm)) b,if_pos hh,if_pos rfl,rs]
  dsimp only
  grind
 ·refine HE (by rw [length_map,length_range,length_set,xl]) fun j hj=>?_
  rw [length_map,length_range] at hj
  rw [getD_eq_getElem?_getD,List.getElem?_map,List.getElem?_range hj,getD_eq_getElem?_getD]
  show CF m q (.seat hd) t (BC (Aw ts m) x) j=_
  unfold CF
  by_cases e:hd=j
  ·subst e
   rw [if_pos b,if_pos rfl,List.getElem?_set_self (by omega),rs]
   rfl
  ·rw [List.getElem?_set_ne e,<- getD_eq_getElem?_getD]
   by_cases c:bit m j=true
   ·rw [if_pos c,if_neg (fun z=>e (Dd.seat.inj z)),zero j c]
   ·rw [if_neg c,Hw h12 ok xl zero (by omega),if_pos hj,if_neg (fun z=>c (EA ok z))]
    grind
theorem L3 {h:Nat} {m q:Int} {ts:List Int} {x:Sr} {hd:Nat} {t:Rat} (h12:h<=12) (ok:Okk h ts) (xl:x.2.length=h) (zero:∀j,bit m j=true->x.2.getD j 0=0) :
 ((CC m q (.out hd) t (BC (Aw ts m) x) h ((BC (Aw ts m) x).getD h 0)),(List.range h).map (CF m q (.out hd) t (BC (Aw ts m) x)))=x:=by
 have rf:=JR h12 ok xl zero
 refine Prod.ext ?_ ?_
 ·show CC _ _ _ _ _ _ _=_
  unfold CC
  rw [show (fun j=>(BC (Aw ts m) x).getD j 0 - (if (Dd.out hd)=.seat j then (BC (Aw ts m) x).getD j 0*(q:Rat) / t else 0))=fun j=>(BC (Aw ts m) x).getD j 0 from funext fun j=>by rw [if_neg (fun z=>by cases z)];grind]
  exact rf
 ·refine HE (by rw [length_map,length_range,xl]) fun j hj=>?_
  rw [length_map,length_range] at hj
  rw [getD_eq_getElem?_getD,List.getElem?_map,List.getElem?_range hj]
  show CF m q (.out hd) t (BC (Aw ts m) x) j=_
  unfold CF
  by_cases c:bit m j=true
  ·rw [if_pos c,if_neg (fun z=>by cases z),zero j c]
  ·rw [if_neg c,Hw h12 ok xl zero (by omega),if_pos hj,if_neg (fun z=>c (EA ok z))]
   grind
abbrev Du:=Addr × (Addr × List Fq) × Fq
noncomputable def duv (xs:List Du):List V:=xs.map fun x=>.ref x.1
structure DuG (H:Hp) (x:Du):Prop where
 t:H x.1=some (.tup [.ref x.2.1.1,.ref x.2.2.1])
 l:H x.2.1.1=some (.lst (fqv x.2.1.2))
 k:∀f∈x.2.1.2,FqG H f
 f:FqG H x.2.2
theorem DuG.same {H H':Hp} {x:Du} (s:Az H H') (g:DuG H x):DuG H' x:=⟨s _ _ g.t,s _ _ g.l,fun f m=>(g.k f m).same s,g.f.same s⟩
structure DuV (x:Du) (y:Sr):Prop where
 f:x.2.2.2=pr y.1
 k:(x.2.1.2.map fun f=>vq f.2)=y.2
 z:∀f∈x.2.1.2,0 < f.2.2/\Sz 14000 f.2.1/\Sz 14000 f.2.2
noncomputable def Ma:Sp:=fun vs H Q _=>∃(sp kl:Addr) (h:Nat) (ts:List Int) (fr:Fq) (ks:List Fq) (s:Int),vs=[.ref sp,.ref kl,.ref fr.1,.int s]/\H sp=some (.tup (ts.map V.int))/\OkT h ts/\FqG H fr/\Sz 5000 fr.2.2/\H kl=some (.lst (fqv ks))/\(∀f∈ks,FqG H f)/\ks.length=h/\h<=12 /\
 ∀(r:Addr) (fs:List Fq) (H':Hp),H r=none->Az H H'->H' r=some (.lst (fqv fs))->(∀f∈fs,FqG H' f)->fs.map (·.2)=JE h (AO ts s) fr.2 (ks.map (·.2))->Q (.ref r) H'
theorem Qt {h:Nat} {m:Int} {fr:Int × Int} {ks:List (Int × Int)} {d:Int × Int} (md:d∈JE h m fr ks):d∈ks\/d=fr\/d=(0,1)\/(m≠0/\d=(fr.1,fr.2*((hands 12 (bit m)).length:Int))):=by
 unfold JE at md
 split at md
 ·rcases mem_append.mp md with k | k
  ·exact .inl k
  ·exact .inr (.inl (mem_singleton.mp k))
 ·rename_i mz
  obtain ⟨j,e⟩:=mem_iff_getElem?.mp md
  rw [EW (fr.1,fr.2*((hands 12 (bit m)).length:Int)) (fun i:Nat=>bit m i) (fun x=>x) (List.range h) (ks++[(0,1)]) j] at e
  split at e
  ·exact .inr (.inr (.inr ⟨mz,(Option.some.inj e).symm⟩))
  ·rcases mem_append.mp (mem_of_getElem? e) with k | k
   ·exact .inl k
   ·exact .inr (.inr (.inl (mem_singleton.mp k)))
theorem RO {h:Nat} {ts:List Int} {s:Int} {fr:Int × Int} {ks:List (Int × Int)} (ok:Okk h ts) (h12:h<=12) (kl:ks.length=h) (b0:0 < fr.2):(JE h (AO ts s) fr ks).map vq=BC (Aw ts s) (vq fr,ks.map vq):=by
 obtain ⟨l0,l1⟩:=DB (s:=s) ok
 have p12:(2:Int) ^ h<=4096:=by
  have:=Nat.pow_le_pow_right (show 0 < 2 by decide) h12
  exact_mod_cast this
 unfold JE BC Aw
 by_cases c:AO ts s=0
 ·rw [c,if_pos (show hands 12 (bit 0)=[] from by decide),if_pos rfl,map_append]
  rfl
 ·have cn:hands 12 (bit (AO ts s))≠[]:=fun e=>c (Gh l0 (by omega) e)
  rw [if_neg cn,if_neg c]
  generalize hm:AO ts s=m at *
  have n1:1<=(hands 12 (bit m)).length:=length_pos_iff.mpr cn
  refine ext_getElem? fun j=>?_
  have f1:=EW (vq fr / ((hands 12 (bit m)).length:Rat)) (fun _:Int=>true) (fun x=>x.toNat) (hands 12 (bit m)) (ks.map vq++[0]) j
  have f2:=EW (fr.1,fr.2*((hands 12 (bit m)).length:Int)) (fun i:Nat=>bit m i) (fun x=>x) (List.range h) (ks++[(0,1)]) j
  have ll:(ks++[((0:Int),(1:Int))]).length=h+1:=by rw [length_append,kl];rfl
  have ll1:(ks.map vq++[(0:Rat)]).length=h+1:=by rw [length_append,length_map,kl];rfl
  rw [ll] at f2
  rw [ll1] at f1
  have key:(∃x∈hands 12 (bit m),true=true/\x.toNat=j)↔∃x∈List.range h,bit m x=true/\x=j:=by
   constructor
   ·rintro ⟨x,xm,_,e⟩
    obtain ⟨i,i12,b,rfl⟩:=Bi.mp xm
    have:i=j:=by omega
    subst this
    exact ⟨i,mem_range.mpr (Dc l0 l1 b),b,rfl⟩
   ·rintro ⟨x,xm,b,rfl⟩
    exact ⟨(x:Int),Bi.mpr ⟨x,by have:=mem_range.mp xm;omega,b,rfl⟩,rfl,by omega⟩
  rw [List.getElem?_map,f2]
  refine Eq.trans ?_ f1.symm
  by_cases k:j < h+1/\∃x∈List.range h,bit m x=true/\x=j
  ·rw [if_pos k,if_pos ⟨k.1,key.mpr k.2⟩]
   show some (vq _)=some _
   congr 1
   generalize (hands 12 (bit m)).length=n at n1 ⊢
   have nz:=Pk n1
   have hb:=Ck b0
   unfold vq
   show (fr.1:Rat) / ((fr.2*(n:Int):Int):Rat)=_
   rw [Rat.intCast_mul,show (((n:Nat):Int):Rat)=(n:Rat) from rfl]
   grind
  ·rw [if_neg k,if_neg (fun z=>k ⟨z.1,key.mp z.2⟩),<- List.getElem?_map,map_append,show [((0:Int),(1:Int))].map vq=[(0:Rat)] from by show [vq (0,1)]=_;rw [<- Fc,BB]]
theorem Ke {x y:Int × Int} (x0:0 < x.2) (y0:0 < y.2) (e:vq x=vq y):x.1*y.2=y.1*x.2:=(Mw x0 y0).mpr e
theorem Sj {h:Nat} {ts:List Int} (ok:OkT h ts):Okk h ts:=ok.1
noncomputable def NO:Sp:=fun vs H Q _=>∃f g:Fq,vs=[.ref f.1,.ref g.1]/\FqG H f/\FqG H g/\Sz 70000 f.2.1/\Sz 70000 f.2.2/\Sz 70000 g.2.1/\Sz 70000 g.2.2/\Q (.bl (decide (f.2.1*g.2.2=g.2.1*f.2.2))) H
noncomputable def NF:Sp:=fun vs H Q _=>∃f g:Fq,vs=[.ref f.1,.ref g.1]/\FqG H f/\FqG H g/\Sz 90000 f.2.1/\Sz 90000 f.2.2/\Sz 14000 g.2.1/\Sz 14000 g.2.2/\∀(a:Addr) (H':Hp),Az H H'->FqG H' (a,C0 f.2 g.2)->Q (.ref a) H'
structure Hs (rs:List Rw) (R:List (List Rat)) (h:Nat):Prop where
 v:(rs.map fun x=>x.2.map (·.2))=R.map fun r=>r.map pr
 l:∀w∈R,w.length=h+1/\∀v∈w,Fy v
theorem Hs.len {rs:List Rw} {R:List (List Rat)} {h:Nat} (g:Hs rs R h):rs.length=R.length:=by
 have:=congrArg List.length g.v
 rw [length_map,length_map] at this
 exact this
theorem Hs.get {rs:List Rw} {R:List (List Rat)} {h i:Nat} (g:Hs rs R h) {r:Rw} (hr:rs[i]?=some r):∃w,R[i]?=some w/\r.2.map (·.2)=w.map pr/\w.length=h+1/\(∀v∈w,Fy v)/\r.2.length=h+1:=by
 have k:(rs.map fun x=>x.2.map (·.2))[i]?=(R.map fun r=>r.map pr)[i]?:=by rw [g.v]
 rw [List.getElem?_map,List.getElem?_map,hr] at k
 obtain ⟨w,hw,z⟩:=Option.map_eq_some_iff.mp k.symm
 obtain ⟨a,b⟩:=g.l w (mem_of_getElem? hw)
 refine ⟨w,hw,z.symm,a,b,?_⟩
 have:=congrArg List.length z
 rw [length_map,length_map] at this
 omega
theorem E2 {fs:List Fq} {w:List Rat} {j:Nat} (e:fs.map (·.2)=w.map pr) (hj:j < w.length):∃f,fs[j]?=some f/\f.2=pr (w.getD j 0):=RG e hj
theorem CA {w:List Rat} {j:Nat} (hj:j < w.length):w.getD j 0∈w:=by
 rw [getD_eq_getElem?_getD,List.getElem?_eq_getElem hj]
 exact getElem_mem hj
theorem Pg {xs:List Du} {i:Nat} {x:Du} (e:xs[i]?=some x):atI (duv xs) (i:Int)=some (.ref x.1):=Cb (by unfold duv;rw [List.getElem?_map,e];rfl)
noncomputable def Ig:Sp:=fun vs H Q _=>∃(rl l dl:Addr) (h:Nat) (rs:List Rw) (ls:Ls) (xs:List Du) (st:List Sr) (s:Int),vs=[.ref rl,.ref l,.ref dl,.int s]/\H rl=some (.lst (rwv rs))/\(∀x∈rs,RwG H x)/\H l=some (.lst (vls ls))/\Br H ls/\(∀q∈ls,OkT h q.2.2.1)/\H dl=some (.lst (duv xs))/\(∀x∈xs,DuG H x)/\(∀(i:Nat) x y,xs[i]?=some x->st[i]?=some y->DuV x y)/\xs.length=ls.length/\st.length=ls.length/\FoS h s st/\Hs rs (AE (Ao ls) st s) h/\ls.length<=60/\h<=12/\∀H',Az H H'->Q (.bl true) H'
theorem F6 {x y:Int × Int} {n g:Nat} (h1:Sz n x.1) (h2:Sz n x.2) (h3:Sz g y.1) (h4:Sz g y.2):Sz (n+g+2) (C0 x y).1/\Sz (n+g+2) (C0 x y).2:=by
 unfold C0
 by_cases c:y.1=0
 ·rw [if_pos c];exact ⟨h1.mono (by omega),h2.mono (by omega)⟩
 ·rw [if_neg c]
  by_cases c2:x.2=y.2
  ·rw [if_pos c2];exact ⟨((h1.mono (n:=n+g) (by omega)).add (h3.mono (n:=n+g) (by omega))).mono (by omega),h2.mono (by omega)⟩
  ·rw [if_neg c2];exact ⟨((h1.mul h4).add ((h3.mul h2).mono (n:=n+g) (by omega))).mono (by omega),(h2.mul h4).mono (by omega)⟩
theorem Pj {v:Rat} {n:Int}:vq ((pr v).1*n,(pr v).2)=(n:Rat)*v:=by
 have h1:=BB v
 have h2:=Ck (AR v)
 unfold vq at h1 ⊢
 show (((pr v).1*n:Int):Rat) / _=_
 rw [Rat.intCast_mul]
 grind
noncomputable def Ld (ds:Lq) (R:List (List Rat)) (j:Nat):List Rat:=(ds.zip (R.map fun r=>r.getD j 0)).map fun p=>(p.1.2:Rat)*p.2
theorem QH {ls:Ls} {R:List (List Rat)} {j k:Nat} {q0:Addr × Addr × List Int × Int} {w:List Rat} (hq:ls[k]?=some q0) (hw:R[k]?=some w):(Ld (Ao ls) R j)[k]?=some ((q0.2.2.2:Rat)*w.getD j 0):=by
 unfold Ld
 have hd:(Ao ls)[k]?=some (q0.2.2.1,q0.2.2.2):=by unfold Ao;rw [List.getElem?_map,hq];rfl
 rw [List.getElem?_map,show ((Ao ls).zip (R.map fun r=>r.getD j 0))[k]?=some ((q0.2.2.1,q0.2.2.2),w.getD j 0) from List.getElem?_zip_eq_some.mpr ⟨hd,by rw [List.getElem?_map,hw];rfl⟩]
 rfl
noncomputable def HR:Sp:=fun vs H Q _=>∃(al l rl:Addr) (h:Nat) (fs:List Fq) (ls:Ls) (rs:List Rw) (R:List (List Rat)),vs=[.ref al,.ref l,.ref rl,.int (h:Int)]/\H al=some (.lst (fqv fs))/\(∀f∈fs,FqG H f)/\fs.map (·.2)=(Bc (Ao ls) R h).map pr/\(∀v∈Bc (Ao ls) R h,Fy v)/\H l=some (.lst (vls ls))/\Br H ls/\(∀q∈ls,0<=q.2.2.2/\Sz 64 q.2.2.2)/\H rl=some (.lst (rwv rs))/\(∀x∈rs,RwG H x)/\Hs rs R h/\ls.length=rs.length/\ls.length<=13/\h<=12/\∀H',Az H H'->Q (.bl true) H'
theorem PC {xs:List Int} {h:Nat} {m:Int} (p:xs.Perm (ups h)) (h12:h<=12) (m0:0<=m) (m1:m < 2 ^ h):(A6 xs m).length=(hands 12 (bit m)).length:=by
 have hi:∀j,h<=j->bit m j=false:=fun j hj=>by
  cases c:bit m j with
  | false=>rfl
  | true=>have:=Dc m0 m1 c;omega
 rw [Ee,Ja h12 hi]
 have a:=Ee h (bit m)
 unfold hands at a
 rw [length_map] at a
 rw [<- a]
 unfold A6
 rw [(p.filter _).length_eq]
 unfold ups
 rw [filter_map,length_map]
 rfl
noncomputable def QW:Sp:=fun vs H Q _=>∃(l lo:Addr) (h:Nat) (xs:List Int) (m q:Int) (pl:Nat) (fs:List Fq) (su:List Rat),vs=[.ref l,.int m,.int (pl:Int),.int q,.ref lo]/\SuG H l fs su/\su.length=h+1/\H lo=some (.lst (xs.map V.int))/\xs.Perm (ups h)/\h<=12/\0<=m/\m < 2 ^ h/\Sz 64 q/\∀(t:Addr) (H':Hp),Az H H'->H' t=some (.tup [.str (Db xs su m pl q).word,(Db xs su m pl q).who])->Q (.ref t) H'
noncomputable def NI:Sp:=fun vs H Q _=>∃(t:Addr) (d:Dd),vs=[.ref t]/\H t=some (.tup [.str d.word,d.who])/\Q (.bl true) H
theorem Tb (r s:Rat):((pr r).1*(pr s).2<=(pr s).1*(pr r).2)↔¬ s < r:=by
 rw [<- HB s r]
 omega
theorem Tw (r:Rat) (q:Int):(q*(pr r).2<=(pr r).1)↔¬ r < (q:Rat):=by
 have:=HB r (q:Rat)
 rw [Tr] at this
 rw [<- this]
 show _↔¬ (pr r).1*1 < q*(pr r).2
 omega
theorem CV {K:PySem.W.Frag}:PySem.W.kitOne K (.type "str") (.type "str")=some true:=by
 show (if ((Value.type "str") == (Value.type "str"))=true then some true else (if PySem.W.kitMeta "str"=true then (PySem.fastBuiltinMro "str").map (·.contains (Value.type "str")) else none))=some true
 decide +kernel
noncomputable def sB (d:Dd) (i:Nat):Nat:=match d with
 | .seat j=>if j < i then 2670 else 0
 | _=>0
theorem Rl (d:Dd) (i:Nat):sB d i<=2670:=by
 cases d <;> simp only [sB]
 ·split <;> omega
 all_goals omega
theorem Qn {d:Dd} {i:Nat} (h:d≠.seat i):sB d (i+1)=sB d i:=by
 cases d with
 | seat j =>
   have:j≠i:=fun e=>h (by rw [e])
   show (if j < i+1 then 2670 else 0)=if j < i then 2670 else 0
   by_cases c:j < i
   ·rw [if_pos c,if_pos (by omega)]
   ·rw [if_neg c,if_neg (by omega)]
 | out j=>rfl
 | rest=>rfl
 | fin=>rfl
theorem QX (d:Dd) (i:Nat):sB d i<=sB d (i+1):=by
 cases d with
 | seat j =>
   show (if j < i then 2670 else 0)<=if j < i+1 then 2670 else 0
   by_cases c:j < i
   ·rw [if_pos c,if_pos (by omega)];exact Nat.le_refl _
   ·rw [if_neg c];exact Nat.zero_le _
 | out j=>exact Nat.le_refl _
 | rest=>exact Nat.le_refl _
 | fin=>exact Nat.le_refl _
theorem Re {v t:Rat} {q:Int} (t0:0 < t):vq ((pr v).1*q*(pr t).2,(pr v).2*(pr t).1)=v*(q:Rat) / t/\0 < (pr v).2*(pr t).1:=by
 have c0:0 < (pr t).1:=by
  have n:=DP (Rat.le_of_lt t0)
  rcases (by omega:(pr t).1=0\/0 < (pr t).1) with z | z
  ·have e:=BB t
   unfold vq at e
   rw [z,show ((0:Int):Rat)=0 from rfl] at e
   grind
  ·exact z
 have h1:=BB v
 have h2:=BB t
 have b:=Ck (AR v)
 have d:=Ck (AR t)
 have c:((pr t).1:Rat)≠0:=by
  intro z
  have:=Rat.intCast_inj.mp (show (((pr t).1:Int):Rat)=((0:Int):Rat) from z)
  omega
 refine ⟨?_,Int.mul_pos (AR v) c0⟩
 have tn:t≠0:=by grind
 unfold vq at h1 h2 ⊢
 show (((pr v).1*q*(pr t).2:Int):Rat) / (((pr v).2*(pr t).1:Int):Rat)=_
 rw [Rat.intCast_mul,Rat.intCast_mul,Rat.intCast_mul]
 generalize ((pr v).1:Rat)=a at *
 generalize ((pr v).2:Rat)=e at *
 generalize ((pr t).1:Rat)=f at *
 generalize ((pr t).2:Rat)=g at *
 subst h1 h2
 grind
theorem RF {x y:Int}:vq (0 - x,y)=- vq (x,y):=by
 unfold vq
 show (((0 - x:Int)):Rat) / _=_
 rw [Rat.intCast_sub,show ((0:Int):Rat)=0 from rfl]
 grind
theorem RS {v:Int × Int} (b0:0 < v.2) (h:0<=vq v):0<=v.1:=by
 have e:(v.1:Rat)=vq v*(v.2:Rat):=by unfold vq;rw [Rat.div_mul_cancel (Ck b0)]
 have p:(0:Rat)<=(v.2:Rat):=by
  have:=Rat.intCast_le_intCast.mpr (Int.le_of_lt b0)
  exact this
 have k:((0:Int):Rat)<=(v.1:Rat):=by rw [e];exact Rat.mul_nonneg h p
 exact Rat.intCast_le_intCast.mp k
theorem PP {i:Nat}:sB (.seat i) i=0/\sB (.seat i) (i+1)=2670:=by
 constructor
 ·show (if i < i then 2670 else 0)=0
  rw [if_neg (Nat.lt_irrefl _)]
 ·show (if i < i+1 then 2670 else 0)=2670
  rw [if_pos (Nat.lt_succ_self _)]
theorem NJ (d:Dd) (h:Nat):PyData.eqv (ddD d.word d.data) (ddD "seat" (.int (h:Int)))=decide (d=.seat h):=by
 cases d with
 | seat g =>
   show ((("seat":Str) == "seat") && (((g:Int) == (h:Int)) && true))=_
   rw [show (("seat":Str) == "seat")=true from by decide +kernel,Bool.true_and,Bool.and_true]
   by_cases c:h=g
   ·subst c;rw [decide_eq_true rfl];exact beq_self_eq_true _
   ·rw [decide_eq_false (fun e=>c (by injection e with e;exact e.symm))]
    exact beq_eq_false_iff_ne.mpr (by omega)
 | out g =>
   rw [decide_eq_false (fun e=>nomatch e)]
   show ((("out":Str) == "seat") && (((g:Int) == (h:Int)) && true))=false
   rw [show (("out":Str) == "seat")=false from by decide +kernel,Bool.false_and]
 | rest =>
   rw [decide_eq_false (fun e=>nomatch e)]
   show ((("rest":Str) == "seat") && (false && true))=false
   rw [show (("rest":Str) == "seat")=false from by decide +kernel,Bool.false_and]
 | fin =>
   rw [decide_eq_false (fun e=>nomatch e)]
   show ((("end":Str) == "seat") && (false && true))=false
   rw [show (("end":Str) == "seat")=false from by decide +kernel,Bool.false_and]
noncomputable def LF:Sp:=fun vs H Q _=>∃(r dt:Addr) (h:Nat) (w:List Rat) (fs:List Fq) (m q:Int) (d:Dd) (t:Rat) (ta:Fq),vs=[.ref r,.int m,.ref dt,.ref ta.1,.int q]/\H r=some (.lst (fqv fs))/\(∀f∈fs,FqG H f)/\fs.map (·.2)=w.map pr/\w.length=h+1/\(∀v∈w,Fy v)/\H dt=some (.tup [.str d.word,d.who])/\FqG H ta/\ta.2=pr t/\Fy t/\(∀j,d=.seat j->0 < t)/\h<=5/\Sz 64 q/\0<=CC m q d t w h (w.getD h 0) /\
 ∀(x:Du) (H':Hp),H x.2.1.1=none->Az H H'->DuG H' x->x.2.2.2=pr (CC m q d t w h (w.getD h 0))->(x.2.1.2.map fun f=>vq f.2)=(List.range h).map (CF m q d t w)->(∀f∈x.2.1.2,0 < f.2.2/\Sz 14000 f.2.1/\Sz 14000 f.2.2)->Q (.ref x.1) H'
noncomputable def LQ:Sp:=fun vs H Q _=>∃(p sh lo:Addr) (h s:Nat) (ps:List Rq) (ls:Ls) (xs:List Int),vs=[.ref p,.ref sh,.int (h:Int),.int (s:Int),.ref lo]/\H p=some (.lst (rqs ps))/\(∀r∈ps,RqG H r)/\ps.map rqV=(Bz (Ao ls) h xs s).map DJ/\H sh=some (.lst (vls ls))/\Br H ls/\(∀q∈ls,OkT h q.2.2.1/\0<=q.2.2.2/\Sz 64 q.2.2.2)/\ls.length<=13/\0<=AG (Ao ls)/\AG (Ao ls) < 2 ^ 40/\H lo=some (.lst (xs.map V.int))/\xs.Perm (ups h)/\1<=h/\h<=5/\s<=4/\(Bz (Ao ls) h xs s).length<=900/\∀H',Az H H'->Q (.bl true) H'
structure DuS (J:Hp) (D:Addr) (dus:List Du) (st:List Sr):Prop where
 l:J D=some (.lst (duv dus))
 g:∀x∈dus,DuG J x
 v:∀(i:Nat) x y,dus[i]?=some x->st[i]?=some y->DuV x y
theorem KA {xs:List V} {j:Nat}:HU xs (some (j:Int)) none=xs.drop j:=by
 unfold HU
 rw [HT.sIx_none,HT.sIx_nat]
 by_cases h:j<=xs.length
 ·rw [Nat.min_eq_left h]
  exact take_of_length_le (by rw [length_drop];exact Nat.le_refl _)
 ·rw [Nat.min_eq_right (by omega),drop_of_length_le (Nat.le_refl _),drop_of_length_le (by omega)]
  exact take_nil
theorem Io {B:Int} (B0:0<=B):∀{ds:Lq},(∀q∈ds,0<=q.2/\q.2<=B)->0<=AG ds/\AG ds<=(ds.length:Int)*B
 | [],_=>⟨Int.le_refl _,by show (0:Int)<=((0:Nat):Int)*B;omega⟩
 | x :: ds,h=>by
   obtain ⟨a,b⟩:=Io B0 (ds:=ds) fun q m=>h q (mem_cons_of_mem _ m)
   obtain ⟨c,d⟩:=h x (mem_cons_self ..)
   have e:AG (x :: ds)=x.2+AG ds:=by unfold AG;rw [map_cons,sum_cons]
   rw [e,length_cons,show ((ds.length+1:Nat):Int)=(ds.length:Int)+1 from by omega,Int.add_mul,Int.one_mul]
   omega
theorem PX {ds:Lq} {h:Nat} {st:List Sr} {m q:Int} {hd:Nat} (sl:∀x∈st,x.2.length=h):∀x∈Bw ds st m hd q,x.2.length=h:=fun x k=>by
 unfold Bw at k
 obtain ⟨y,ym,rfl⟩:=mem_map.mp k
 unfold EJ
 dsimp only
 rw [length_set]
 exact sl _ (of_mem_zip ym).1
theorem JC (ds:Lq) (h:Nat) (xs:List Int) (q:Int):∀(n:Nat) (st:List Sr) (m:Int) (pl:Nat),(∀x∈st,x.2.length=h)->∀x∈Bb ds h xs q n st m pl,x.1.length<=ds.length/\x.2.1.length=h+1/\∀w∈x.1,w.length=h+1
 | 0,_,_,_,_,_,k=>nomatch k
 | n+1,st,m,pl,sl,x,k=>by
   unfold Bb at k
   rcases mem_cons.mp k with rfl | k
   ·unfold C1 Bc
    dsimp only
    refine ⟨?_,by rw [length_map,length_range],fun w k=>?_⟩
    ·unfold AE
     rw [length_map,length_zip]
     exact Nat.min_le_left _ _
    ·unfold AE at k
     obtain ⟨y,ym,rfl⟩:=mem_map.mp k
     rw [OD,sl _ (of_mem_zip ym).2]
   ·split at k
    ·exact JC ds h xs q n _ _ _ (PX sl) x k
    ·exact JC ds h xs q n _ _ _ sl x k
    ·exact nomatch k
theorem RqG.offs {L:List Addr} {H J:Hp} {r:Rq} (g:RqG H r) (o:DI L H J) (ll:∀a∈L,∃ys,H a=some (.lst ys)) (n:r.2.1.1 ∉ L/\r.2.2.1.1 ∉ L/\∀x∈r.2.1.2,x.1 ∉ L):RqG J r :=
 ⟨o.tup ll g.t,o _ _ g.rl n.1,fun x m=>⟨o _ _ (g.rg x m).1 (n.2.2 x m),fun f fm=>o.tup ll ((g.rg x m).2 f fm)⟩,o _ _ g.sl n.2.1,fun f m=>o.tup ll (g.sg f m),o.tup ll g.d⟩
noncomputable def chg (pa:Addr) (r:Rq):List Addr:=pa :: r.2.1.1 :: r.2.2.1.1 :: r.2.1.2.map (·.1)
theorem IS {pa c:Addr} {r:Rq} (m:c∈chg pa r):c=pa\/c=r.2.1.1\/c=r.2.2.1.1\/∃x∈r.2.1.2,x.1=c:=by
 rcases mem_cons.mp m with m | m
 ·exact .inl m
 rcases mem_cons.mp m with m | m
 ·exact .inr (.inl m)
 rcases mem_cons.mp m with m | m
 ·exact .inr (.inr (.inl m))
 exact .inr (.inr (.inr (mem_map.mp m)))
theorem Ms {H:Hp} {pa:Addr} {r:Rq} {ys:List V} (e:H pa=some (.lst ys)) (g:RqG H r):∀a∈chg pa r,∃ys,H a=some (.lst ys):=fun a m=>by
 rcases IS m with rfl | rfl | rfl | ⟨x,xm,rfl⟩
 ·exact ⟨_,e⟩
 ·exact ⟨_,g.rl⟩
 ·exact ⟨_,g.sl⟩
 ·exact ⟨_,(g.rg x xm).1⟩
theorem MX {B:Hp} {L:List Addr} {r:Rq} (ll:∀a∈L,∃ys,B a=some (.lst ys)) (f:Ge B r):r.2.1.1 ∉ L/\r.2.2.1.1 ∉ L/\∀x∈r.2.1.2,x.1 ∉ L:=by
 have n:∀b,B b=none->b ∉ L:=fun b e m=>by
  obtain ⟨ys,z⟩:=ll b m
  rw [e] at z
  cases z
 exact ⟨n _ f.1,n _ f.2.1,fun x m=>n _ (f.2.2 x m)⟩
theorem NM {pa:Addr} {r0 r:Rq} (a:Apt r0 r) (w:JQ pa r):r.2.1.1 ∉ chg pa r0/\r.2.2.1.1 ∉ chg pa r0/\∀x∈r.2.1.2,x.1 ∉ chg pa r0:=by
 obtain ⟨G,g,f⟩:=a
 have n:∀b,G b=none->b≠pa->b ∉ chg pa r0:=fun b e np m=>by
  rcases IS m with rfl | rfl | rfl | ⟨x,xm,rfl⟩
  ·exact np rfl
  ·rw [g.rl] at e;cases e
  ·rw [g.sl] at e;cases e
  ·rw [(g.rg x xm).1] at e;cases e
 exact ⟨n _ f.1 w.1,n _ f.2.1 w.2.1,fun x m=>n _ (f.2.2 x m) (w.2.2 x m)⟩
theorem Nx {B H J:Hp} {pa:Addr} {r:Rq} (s:Az B H) (o:DI (chg pa r) H J) (bp:B pa=none) (f:Ge B r):Az B J:=fun b u e=>o b u (s _ _ e) fun m=>by
 rcases IS m with rfl | rfl | rfl | ⟨x,xm,rfl⟩
 ·rw [bp] at e;cases e
 ·rw [f.1] at e;cases e
 ·rw [f.2.1] at e;cases e
 ·rw [f.2.2 x xm] at e;cases e
theorem O1 {H:Hp} {r:Rq} (g:RqG H r) (ne:r.2.2.1.2≠[]):(∀x∈r.2.1.2,r.2.1.1≠x.1)/\r.2.1.1≠r.2.2.1.1:=by
 have key:∀(fs:List Fq),(∀f∈fs,FqG H f)->∀x∈r.2.1.2,V.ref x.1∈fqv fs->False:=fun fs gf x xm k=>by
  unfold fqv at k
  obtain ⟨f,fm,e⟩:=mem_map.mp k
  have e':f.1=x.1:=V.ref.inj e
  have h1:=gf f fm
  unfold FqG at h1
  rw [e',(g.rg x xm).1] at h1
  cases h1
 refine ⟨fun x xm z=>?_,fun z=>?_⟩
 ·have h1:=(g.rg x xm).1
  rw [<- z,g.rl] at h1
  injection h1 with h1
  injection h1 with h1
  exact key x.2 (g.rg x xm).2 x xm (by rw [<- h1];exact mem_map.mpr ⟨x,xm,rfl⟩)
 ·have h1:=g.sl
  rw [<- z,g.rl] at h1
  injection h1 with h1
  injection h1 with h1
  obtain ⟨f,fs,ef⟩:=exists_cons_of_ne_nil ne
  have fm:V.ref f.1∈rwv r.2.1.2:=by rw [h1];exact mem_map.mpr ⟨f,by rw [ef];exact mem_cons_self ..,rfl⟩
  unfold rwv at fm
  obtain ⟨x,xm,e⟩:=mem_map.mp fm
  exact key r.2.2.1.2 g.sg x xm (by rw [<- h1];exact mem_map.mpr ⟨x,xm,rfl⟩)
theorem Ru {x0 x1:Int} (P:Int->Prop) (i:Int) (i0:0<=i) (i1:i < 2) (h0:P x0) (h1:P x1):∃v,atI [V.int x0,V.int x1] i=some (.int v)/\P v:=by
 rcases (by omega:i=0\/i=1) with rfl | rfl
 ·exact ⟨x0,rfl,h0⟩
 ·exact ⟨x1,rfl,h1⟩
def top (i:Nat):Stmt:=PySem.Challenge.pw_pollproof_k45_rounds_follow.main.body.getD i (.Pass ⟨0,0,0,0⟩)
abbrev JN:Stmt:=top 6
abbrev M6:Stmt:=top 7
abbrev Iv:Stmt:=top 8
abbrev FA:Stmt:=top 10
abbrev Hk:Stmt:=top 12
abbrev ID:Stmt:=top 13
abbrev NU:Stmt:=top 15
abbrev Mx:Stmt:=top 21
abbrev G9:Stmt:=top 23
abbrev FS:Stmt:=top 32
abbrev DD:Stmt:=top 36
abbrev HF:Stmt:=top 48
abbrev FW:Stmt:=top 49
abbrev Ev:Stmt:=top 51
abbrev EO:Stmt:=top 53
abbrev FN:Stmt:=top 55
abbrev Em:Stmt:=top 56
abbrev FX:Stmt:=top 58
abbrev Gc:Stmt:=top 59
abbrev FO:Stmt:=top 60
abbrev GR:Stmt:=top 61
abbrev FE:Stmt:=top 66
abbrev En:Stmt:=CP (top 46) 1
abbrev OJ:Stmt:=top 9
abbrev Hz:Stmt:=top 17
abbrev Gg:Stmt:=top 24
abbrev DE:Stmt:=top 27
abbrev FY:Stmt:=top 40
abbrev Gj:Stmt:=top 41
abbrev Es:Stmt:=top 42
abbrev Hf:Stmt:=top 50
abbrev Ew:Stmt:=top 52
abbrev CY:Stmt:=top 57
abbrev El:Stmt:=top 62
abbrev Fi:Stmt:=top 63
abbrev FM:Stmt:=top 67
abbrev Bq:Stmt:=CP (top 46) 2
abbrev MI:Stmt:=top 18
abbrev MC:Stmt:=top 19
abbrev JH:Stmt:=top 20
abbrev Gk:Stmt:=top 25
abbrev F3:Stmt:=top 28
abbrev GJ:Stmt:=top 30
abbrev CW:Stmt:=top 54
abbrev Dj:Stmt:=top 64
abbrev Dn:Stmt:=top 65
abbrev Hr:Stmt:=CP (top 43) 0
abbrev Di:Stmt:=CP (top 46) 3
abbrev DZ:Stmt:=CP (top 46) 4
abbrev J7:Stmt:=top 26
abbrev Eh:Stmt:=top 29
abbrev FV:Stmt:=top 31
abbrev Ci:Stmt:=top 68
abbrev EZ:Stmt:=CP (top 46) 0
abbrev Dx:Stmt:=CP (top 46) 5
abbrev Fx:Stmt:=top 33
abbrev DX:Stmt:=top 34
abbrev DF:Stmt:=CP (top 46) 6
abbrev Ky:Stmt:=top 69
theorem N6:Ar ["hands"] ["hands"] (Ah JN):=⟨rfl,rfl,rfl,by decide +kernel,rfl,by decide +kernel,by decide +kernel⟩
theorem PL:Ar ["mask","hand"] ["mask","hand"] (Ah M6):=⟨rfl,rfl,rfl,by decide +kernel,rfl,by decide +kernel,by decide +kernel⟩
theorem LA:Ar ["mask","hand"] ["mask","hand"] (Ah Iv):=⟨rfl,rfl,rfl,by decide +kernel,rfl,by decide +kernel,by decide +kernel⟩
theorem LC:Ar ["mask"] ["mask"] (Ah FA):=⟨rfl,rfl,rfl,by decide +kernel,rfl,by decide +kernel,by decide +kernel⟩
theorem KE:Ar ["thing"] ["thing"] (Ah Hk):=⟨rfl,rfl,rfl,by decide +kernel,rfl,by decide +kernel,by decide +kernel⟩
theorem Cv:Ar ["one","other","great","small","rest"] ["one","other"] (Ah ID):=⟨rfl,rfl,rfl,by decide +kernel,rfl,by decide +kernel,by decide +kernel⟩
theorem MT:Ar ["slip","standing","tier"] ["slip","standing"] (Ah NU):=⟨rfl,rfl,rfl,by decide +kernel,rfl,by decide +kernel,by decide +kernel⟩
theorem Oq:Ar ["one","other"] ["one","other"] (Ah Mx):=⟨rfl,rfl,rfl,by decide +kernel,rfl,by decide +kernel,by decide +kernel⟩
theorem PH:Ar ["sheet","hands"] ["sheet","hands"] (Ah G9):=⟨rfl,rfl,rfl,by decide +kernel,rfl,by decide +kernel,by decide +kernel⟩
theorem EX:Ar ["kept","hand","given","new"] ["kept","hand","given"] (Ah FS):=⟨rfl,rfl,rfl,by decide +kernel,rfl,by decide +kernel,by decide +kernel⟩
theorem HY:Ar ["sheet"] ["sheet"] (Ah DD):=⟨rfl,rfl,rfl,by decide +kernel,rfl,by decide +kernel,by decide +kernel⟩
theorem DV:Ar ["_law_script","_law_k","_law_number_here"] ["_law_script","_law_k"] (Ah HF):=⟨rfl,rfl,rfl,by decide +kernel,rfl,by decide +kernel,by decide +kernel⟩
theorem EC:Ar ["_law_cell_here","_law_by","_law_step"] ["_law_cell_here","_law_by"] (Ah FW):=⟨rfl,rfl,rfl,by decide +kernel,rfl,by decide +kernel,by decide +kernel⟩
theorem KB:Ar ["_law_some"] ["_law_some"] (Ah Ev):=⟨rfl,rfl,rfl,by decide +kernel,rfl,by decide +kernel,by decide +kernel⟩
theorem Ih:Ar ["_law_cell_here","_law_most"] ["_law_cell_here","_law_most"] (Ah EO):=⟨rfl,rfl,rfl,by decide +kernel,rfl,by decide +kernel,by decide +kernel⟩
theorem JG:Ar ["_law_found"] ["_law_found"] (Ah FN):=⟨rfl,rfl,rfl,by decide +kernel,rfl,by decide +kernel,by decide +kernel⟩
theorem DS:Ar ["_law_one","_law_other"] ["_law_one","_law_other"] (Ah Em):=⟨rfl,rfl,rfl,by decide +kernel,rfl,by decide +kernel,by decide +kernel⟩
theorem J0:Ar ["_law_one","_law_other"] ["_law_one","_law_other"] (Ah FX):=⟨rfl,rfl,rfl,by decide +kernel,rfl,by decide +kernel,by decide +kernel⟩
theorem Jd:Ar ["_law_one","_law_other"] ["_law_one","_law_other"] (Ah Gc):=⟨rfl,rfl,rfl,by decide +kernel,rfl,by decide +kernel,by decide +kernel⟩
theorem EQ:Ar ["_law_slip_here","_law_standing","_law_tier"] ["_law_slip_here","_law_standing"] (Ah FO):=⟨rfl,rfl,rfl,by decide +kernel,rfl,by decide +kernel,by decide +kernel⟩
theorem CS:Ar ["_law_mask_here","_law_many_here"] ["_law_mask_here"] (Ah GR):=⟨rfl,rfl,rfl,by decide +kernel,rfl,by decide +kernel,by decide +kernel⟩
theorem BS:Ar ["_law_sums","_law_standing","_law_places","_law_quota","_law_lots_here","_law_some","_law_most","_law_fewest","_law_hand"] ["_law_sums","_law_standing","_law_places","_law_quota","_law_lots_here"] (Ah FE):=⟨rfl,rfl,rfl,by decide +kernel,rfl,by decide +kernel,by decide +kernel⟩
theorem Hl:Ar ["self","ballots"] ["self","ballots"] (Ah En):=⟨rfl,rfl,rfl,by decide +kernel,rfl,by decide +kernel,by decide +kernel⟩
theorem Qi:Ar ["mask"] ["mask"] (Ah OJ):=⟨rfl,rfl,rfl,by decide +kernel,rfl,by decide +kernel,by decide +kernel⟩
theorem DK:Ar ["top","bottom","common"] ["top","bottom"] (Ah Hz):=⟨rfl,rfl,rfl,by decide +kernel,rfl,by decide +kernel,by decide +kernel⟩
theorem EM:Ar ["free","many","common"] ["free","many"] (Ah Gg):=⟨rfl,rfl,rfl,by decide +kernel,rfl,by decide +kernel,by decide +kernel⟩
theorem BG:Ar ["bottoms","common","bottom"] ["bottoms"] (Ah DE):=⟨rfl,rfl,rfl,by decide +kernel,rfl,by decide +kernel,by decide +kernel⟩
theorem IV:Ar ["thing"] ["thing"] (Ah FY):=⟨rfl,rfl,rfl,by decide +kernel,rfl,by decide +kernel,by decide +kernel⟩
theorem JB:Ar ["thing"] ["thing"] (Ah Gj):=⟨rfl,rfl,rfl,by decide +kernel,rfl,by decide +kernel,by decide +kernel⟩
theorem K9:Ar ["thing","hands"] ["thing","hands"] (Ah Es):=⟨rfl,rfl,rfl,by decide +kernel,rfl,by decide +kernel,by decide +kernel⟩
theorem BE:Ar ["_law_cell_here","_law_hands","_law_number_here","_law_left","_law_lots_here","_law_k","_law_lot"] ["_law_cell_here","_law_hands"] (Ah Hf):=⟨rfl,rfl,rfl,by decide +kernel,rfl,by decide +kernel,by decide +kernel⟩
theorem AY:Ar ["_law_cell_here","_law_hands","_law_number_here","_law_way","_law_many_here","_law_left","_law_tiers","_law_k","_law_base","_law_lot"] ["_law_cell_here","_law_hands"] (Ah Ew):=⟨rfl,rfl,rfl,by decide +kernel,rfl,by decide +kernel,by decide +kernel⟩
theorem Ey:Ar ["_law_found"] ["_law_found"] (Ah CY):=⟨rfl,rfl,rfl,by decide +kernel,rfl,by decide +kernel,by decide +kernel⟩
theorem Cj:Ar ["_law_slip_here","_law_kept","_law_free","_law_standing","_law_where_here","_law_due_here","_law_hand"] ["_law_slip_here","_law_kept","_law_free","_law_standing"] (Ah El):=⟨rfl,rfl,rfl,by decide +kernel,rfl,by decide +kernel,by decide +kernel⟩
theorem AM:Ar ["_law_row","_law_standing","_law_deed","_law_tally","_law_quota","_law_free","_law_kept","_law_hand","_law_stays","_law_by"] ["_law_row","_law_standing","_law_deed","_law_tally","_law_quota"] (Ah Fi):=⟨rfl,rfl,rfl,by decide +kernel,rfl,by decide +kernel,by decide +kernel⟩
theorem Je:Ar ["_law_deed"] ["_law_deed"] (Ah FM):=⟨rfl,rfl,rfl,by decide +kernel,rfl,by decide +kernel,by decide +kernel⟩
theorem CN:Ar ["self","standing"] ["self","standing"] (Ah Bq):=⟨rfl,rfl,rfl,by decide +kernel,rfl,by decide +kernel,by decide +kernel⟩
theorem Og:Ar ["one","other"] ["one","other"] (Ah MI):=⟨rfl,rfl,rfl,by decide +kernel,rfl,by decide +kernel,by decide +kernel⟩
theorem Po:Ar ["one","other"] ["one","other"] (Ah MC):=⟨rfl,rfl,rfl,by decide +kernel,rfl,by decide +kernel,by decide +kernel⟩
theorem Na:Ar ["one","other"] ["one","other"] (Ah JH):=⟨rfl,rfl,rfl,by decide +kernel,rfl,by decide +kernel,by decide +kernel⟩
theorem Ch:Ar ["slip","free","kept","standing","row","where","part","hand"] ["slip","free","kept","standing"] (Ah Gk):=⟨rfl,rfl,rfl,by decide +kernel,rfl,by decide +kernel,by decide +kernel⟩
theorem CJ:Ar ["sheet","shares","tops","line","share","common"] ["sheet","shares"] (Ah F3):=⟨rfl,rfl,rfl,by decide +kernel,rfl,by decide +kernel,by decide +kernel⟩
theorem Gf:Ar ["slip","free","standing","hand","where"] ["slip","free","standing","hand"] (Ah GJ):=⟨rfl,rfl,rfl,by decide +kernel,rfl,by decide +kernel,by decide +kernel⟩
theorem Cf:Ar ["_law_script","_law_at","_law_hands","_law_lines","_law_most","_law_slips","_law_many_here","_law_k","_law_slip_here"] ["_law_script","_law_at","_law_hands","_law_lines","_law_most"] (Ah CW):=⟨rfl,rfl,rfl,by decide +kernel,rfl,by decide +kernel,by decide +kernel⟩
theorem BA:Ar ["_law_rows","_law_sheet_here","_law_dues","_law_standing","_law_k","_law_due_here","_law_at"] ["_law_rows","_law_sheet_here","_law_dues","_law_standing"] (Ah Dj):=⟨rfl,rfl,rfl,by decide +kernel,rfl,by decide +kernel,by decide +kernel⟩
theorem Bp:Ar ["_law_sums","_law_sheet_here","_law_rows","_law_hands","_law_at","_law_due_here","_law_k"] ["_law_sums","_law_sheet_here","_law_rows","_law_hands"] (Ah Dn):=⟨rfl,rfl,rfl,by decide +kernel,rfl,by decide +kernel,by decide +kernel⟩
theorem KQ:Ar ["self","hands","seats","lots"] ["self","hands","seats","lots"] (Ah Hr):=⟨rfl,rfl,rfl,by decide +kernel,rfl,by decide +kernel,by decide +kernel⟩
theorem Bm:Ar ["self","sums","standing","by_lots","best","hand"] ["self","sums","standing"] (Ah Di):=⟨rfl,rfl,rfl,by decide +kernel,rfl,by decide +kernel,by decide +kernel⟩
theorem B6:Ar ["self","sums","standing","by_lots","worst","hand"] ["self","sums","standing"] (Ah DZ):=⟨rfl,rfl,rfl,by decide +kernel,rfl,by decide +kernel,by decide +kernel⟩
theorem Ox:Ar ["sheet","state","standing"] ["sheet","state","standing"] (Ah J7):=⟨rfl,rfl,rfl,by decide +kernel,rfl,by decide +kernel,by decide +kernel⟩
theorem Lp:Ar ["sheet","rows","hands"] ["sheet","rows","hands"] (Ah Eh):=⟨rfl,rfl,rfl,by decide +kernel,rfl,by decide +kernel,by decide +kernel⟩
theorem Jy:Ar ["tally","quota"] ["tally","quota"] (Ah FV):=⟨rfl,rfl,rfl,by decide +kernel,rfl,by decide +kernel,by decide +kernel⟩
theorem AC:Ar ["_law_paper","_law_sheet_here","_law_hands","_law_seats","_law_lots_here","_law_quota","_law_standing","_law_places","_law_dues","_law_k","_law_rows","_law_sums","_law_deed"] ["_law_paper","_law_sheet_here","_law_hands","_law_seats","_law_lots_here"] (Ah Ci):=⟨rfl,rfl,rfl,by decide +kernel,rfl,by decide +kernel,by decide +kernel⟩
theorem HW:Ar ["self","hands","seats","lots"] ["self","hands","seats","lots"] (Ah EZ):=⟨rfl,rfl,rfl,by decide +kernel,rfl,by decide +kernel,by decide +kernel⟩
theorem CU:Ar ["self","sums","standing","places","quota","best"] ["self","sums","standing","places","quota"] (Ah Dx):=⟨rfl,rfl,rfl,by decide +kernel,rfl,by decide +kernel,by decide +kernel⟩
theorem B3:Ar ["sheet","state","standing","hand","quota","shares","part","reckoned","behind","one","share","asked","given"] ["sheet","state","standing","hand","quota"] (Ah Fx):=⟨rfl,rfl,rfl,by decide +kernel,rfl,by decide +kernel,by decide +kernel⟩
theorem Gp:Ar ["sheet","state","standing","deed","quota"] ["sheet","state","standing","deed","quota"] (Ah DX):=⟨rfl,rfl,rfl,by decide +kernel,rfl,by decide +kernel,by decide +kernel⟩
theorem A4:Ar ["self","sheet","quota","state","standing","places","rounds","rows","sums","deed"] ["self","sheet"] (Ah DF):=⟨rfl,rfl,rfl,by decide +kernel,rfl,by decide +kernel,by decide +kernel⟩
theorem Cu:Ar ["_law_script","_law_hands","_law_seats","_law_lots_here","_law_most","_law_sheet_here","_law_way","_law_lent","_law_paper","_law_kept","_law_row","_law_more"] ["_law_script"] (Ah Ky):=⟨rfl,rfl,rfl,by decide +kernel,rfl,by decide +kernel,by decide +kernel⟩
set_option genInjectivity false in
set_option genSizeOf false in
structure Ads where
 f_all_of:Addr
 d_all_of:FuncData
 f_holds:Addr
 d_holds:FuncData
 f_without:Addr
 d_without:FuncData
 f_members:Addr
 d_members:FuncData
 f_is_whole:Addr
 d_is_whole:FuncData
 f_divisor:Addr
 d_divisor:FuncData
 f_lies:Addr
 d_lies:FuncData
 f_under:Addr
 d_under:FuncData
 f_begin:Addr
 d_begin:FuncData
 f_with_kept:Addr
 d_with_kept:FuncData
 f_ballots_in:Addr
 d_ballots_in:FuncData
 f_law_cell:Addr
 d_law_cell:FuncData
 f_law_mixed:Addr
 d_law_mixed:FuncData
 f_law_mask:Addr
 d_law_mask:FuncData
 f_law_number:Addr
 d_law_number:FuncData
 f_law_whole:Addr
 d_law_whole:FuncData
 f_law_divisor:Addr
 d_law_divisor:FuncData
 f_law_added:Addr
 d_law_added:FuncData
 f_law_worth:Addr
 d_law_worth:FuncData
 f_law_where:Addr
 d_law_where:FuncData
 f_law_many:Addr
 d_law_many:FuncData
 f_law_due:Addr
 d_law_due:FuncData
 f_Seats_quota:Addr
 d_Seats_quota:FuncData
 f_size:Addr
 d_size:FuncData
 f_fraction:Addr
 d_fraction:FuncData
 f_even_part:Addr
 d_even_part:FuncData
 f_common_bottom:Addr
 d_common_bottom:FuncData
 f_are_hands:Addr
 d_are_hands:FuncData
 f_are_seats:Addr
 d_are_seats:FuncData
 f_are_lots:Addr
 d_are_lots:FuncData
 f_law_lots:Addr
 d_law_lots:FuncData
 f_law_slip:Addr
 d_law_slip:FuncData
 f_law_is_fraction:Addr
 d_law_is_fraction:FuncData
 f_law_row_due:Addr
 d_law_row_due:FuncData
 f_law_behind:Addr
 d_law_behind:FuncData
 f_law_kinds:Addr
 d_law_kinds:FuncData
 f_Seats_standing_by_lots:Addr
 d_Seats_standing_by_lots:FuncData
 f_minus:Addr
 d_minus:FuncData
 f_times:Addr
 d_times:FuncData
 f_parted:Addr
 d_parted:FuncData
 f_table_row:Addr
 d_table_row:FuncData
 f_weighed:Addr
 d_weighed:FuncData
 f_share_at:Addr
 d_share_at:FuncData
 f_law_sheet:Addr
 d_law_sheet:FuncData
 f_law_rows_right:Addr
 d_law_rows_right:FuncData
 f_law_sums_right:Addr
 d_law_sums_right:FuncData
 f_Way_init:Addr
 d_Way_init:FuncData
 f_Seats_greatest:Addr
 d_Seats_greatest:FuncData
 f_Seats_lowest:Addr
 d_Seats_lowest:FuncData
 f_table:Addr
 d_table:FuncData
 f_tallies:Addr
 d_tallies:FuncData
 f_part_kept:Addr
 d_part_kept:FuncData
 f_law_walked:Addr
 d_law_walked:FuncData
 f_Seats_init:Addr
 d_Seats_init:FuncData
 f_Seats_deed_due:Addr
 d_Seats_deed_due:FuncData
 f_kept_by:Addr
 d_kept_by:FuncData
 f_state_behind:Addr
 d_state_behind:FuncData
 f_Seats_counted:Addr
 d_Seats_counted:FuncData
 f_law:Addr
 d_law:FuncData
 c_Way:Addr
 c_Seats:Addr
 t_MOST_HANDS:Tok
 t_MOST_SEATS:Tok
 t_MOST_PLACES:Tok
structure Tx (K:PySem.W.Frag) (mg:Str->Option Value) (a:Ads):Prop where
 m_all_of:mg "all_of"=some (.ref a.f_all_of)
 m_holds:mg "holds"=some (.ref a.f_holds)
 m_without:mg "without"=some (.ref a.f_without)
 m_members:mg "members"=some (.ref a.f_members)
 m_is_whole:mg "is_whole"=some (.ref a.f_is_whole)
 m_divisor:mg "divisor"=some (.ref a.f_divisor)
 m_lies:mg "lies"=some (.ref a.f_lies)
 m_under:mg "under"=some (.ref a.f_under)
 m_begin:mg "begin"=some (.ref a.f_begin)
 m_with_kept:mg "with_kept"=some (.ref a.f_with_kept)
 m_ballots_in:mg "ballots_in"=some (.ref a.f_ballots_in)
 m_law_cell:mg "_law_cell"=some (.ref a.f_law_cell)
 m_law_mixed:mg "_law_mixed"=some (.ref a.f_law_mixed)
 m_law_mask:mg "_law_mask"=some (.ref a.f_law_mask)
 m_law_number:mg "_law_number"=some (.ref a.f_law_number)
 m_law_whole:mg "_law_whole"=some (.ref a.f_law_whole)
 m_law_divisor:mg "_law_divisor"=some (.ref a.f_law_divisor)
 m_law_added:mg "_law_added"=some (.ref a.f_law_added)
 m_law_worth:mg "_law_worth"=some (.ref a.f_law_worth)
 m_law_where:mg "_law_where"=some (.ref a.f_law_where)
 m_law_many:mg "_law_many"=some (.ref a.f_law_many)
 m_law_due:mg "_law_due"=some (.ref a.f_law_due)
 m_size:mg "size"=some (.ref a.f_size)
 m_fraction:mg "fraction"=some (.ref a.f_fraction)
 m_even_part:mg "even_part"=some (.ref a.f_even_part)
 m_common_bottom:mg "common_bottom"=some (.ref a.f_common_bottom)
 m_are_hands:mg "are_hands"=some (.ref a.f_are_hands)
 m_are_seats:mg "are_seats"=some (.ref a.f_are_seats)
 m_are_lots:mg "are_lots"=some (.ref a.f_are_lots)
 m_law_lots:mg "_law_lots"=some (.ref a.f_law_lots)
 m_law_slip:mg "_law_slip"=some (.ref a.f_law_slip)
 m_law_is_fraction:mg "_law_is_fraction"=some (.ref a.f_law_is_fraction)
 m_law_row_due:mg "_law_row_due"=some (.ref a.f_law_row_due)
 m_law_behind:mg "_law_behind"=some (.ref a.f_law_behind)
 m_law_kinds:mg "_law_kinds"=some (.ref a.f_law_kinds)
 m_minus:mg "minus"=some (.ref a.f_minus)
 m_times:mg "times"=some (.ref a.f_times)
 m_parted:mg "parted"=some (.ref a.f_parted)
 m_table_row:mg "table_row"=some (.ref a.f_table_row)
 m_weighed:mg "weighed"=some (.ref a.f_weighed)
 m_share_at:mg "share_at"=some (.ref a.f_share_at)
 m_law_sheet:mg "_law_sheet"=some (.ref a.f_law_sheet)
 m_law_rows_right:mg "_law_rows_right"=some (.ref a.f_law_rows_right)
 m_law_sums_right:mg "_law_sums_right"=some (.ref a.f_law_sums_right)
 m_table:mg "table"=some (.ref a.f_table)
 m_tallies:mg "tallies"=some (.ref a.f_tallies)
 m_part_kept:mg "part_kept"=some (.ref a.f_part_kept)
 m_law_walked:mg "_law_walked"=some (.ref a.f_law_walked)
 m_kept_by:mg "kept_by"=some (.ref a.f_kept_by)
 m_state_behind:mg "state_behind"=some (.ref a.f_state_behind)
 m_law:mg "law"=some (.ref a.f_law)
 z_abs:mg "abs"=none
 z_all:mg "all"=none
 z_bool:mg "bool"=none
 z_int:mg "int"=none
 z_isinstance:mg "isinstance"=none
 z_len:mg "len"=none
 z_list:mg "list"=none
 z_max:mg "max"=none
 z_min:mg "min"=none
 z_range:mg "range"=none
 z_sorted:mg "sorted"=none
 z_str:mg "str"=none
 z_sum:mg "sum"=none
 z_tuple:mg "tuple"=none
 z_zip:mg "zip"=none
 k_MOST_HANDS:mg "MOST_HANDS"=some (.int 12 a.t_MOST_HANDS)
 k_MOST_SEATS:mg "MOST_SEATS"=some (.int 60 a.t_MOST_SEATS)
 k_MOST_PLACES:mg "MOST_PLACES"=some (.int 6 a.t_MOST_PLACES)
 m_Way:mg "Way"=some (.ref a.c_Way)
 cl_Way:Cls K a.c_Way
 cf_Way_init__:CFn K a.c_Way "__init__" a.f_Way_init
 m_Seats:mg "Seats"=some (.ref a.c_Seats)
 cl_Seats:Cls K a.c_Seats
 mk_Seats:Mk K a.c_Seats a.f_Seats_init
 me_Seats_quota:JI K a.c_Seats "quota" a.f_Seats_quota
 me_Seats_standing_by_lots:JI K a.c_Seats "standing_by_lots" a.f_Seats_standing_by_lots
 me_Seats_greatest:JI K a.c_Seats "greatest" a.f_Seats_greatest
 me_Seats_lowest:JI K a.c_Seats "lowest" a.f_Seats_lowest
 me_Seats_deed_due:JI K a.c_Seats "deed_due" a.f_Seats_deed_due
 me_Seats_counted:JI K a.c_Seats "counted" a.f_Seats_counted
 na_Seats_hands:BR K a.c_Seats "hands"
 na_Seats_seats:BR K a.c_Seats "seats"
 na_Seats_lots:BR K a.c_Seats "lots"
 F_all_of:Fun K "all_of" "all_of" JN a.f_all_of a.d_all_of
 b_all_of:A1 K a.d_all_of ["hands"] []
 F_holds:Fun K "holds" "holds" M6 a.f_holds a.d_holds
 b_holds:A1 K a.d_holds ["mask","hand"] []
 F_without:Fun K "without" "without" Iv a.f_without a.d_without
 b_without:A1 K a.d_without ["mask","hand"] []
 F_members:Fun K "members" "members" FA a.f_members a.d_members
 b_members:A1 K a.d_members ["mask"] []
 F_is_whole:Fun K "is_whole" "is_whole" Hk a.f_is_whole a.d_is_whole
 b_is_whole:A1 K a.d_is_whole ["thing"] []
 F_divisor:Fun K "divisor" "divisor" ID a.f_divisor a.d_divisor
 b_divisor:A1 K a.d_divisor ["one","other"] []
 F_lies:Fun K "lies" "lies" NU a.f_lies a.d_lies
 b_lies:A1 K a.d_lies ["slip","standing"] []
 F_under:Fun K "under" "under" Mx a.f_under a.d_under
 b_under:A1 K a.d_under ["one","other"] []
 F_begin:Fun K "begin" "begin" G9 a.f_begin a.d_begin
 b_begin:A1 K a.d_begin ["sheet","hands"] []
 F_with_kept:Fun K "with_kept" "with_kept" FS a.f_with_kept a.d_with_kept
 b_with_kept:A1 K a.d_with_kept ["kept","hand","given"] []
 F_ballots_in:Fun K "ballots_in" "ballots_in" DD a.f_ballots_in a.d_ballots_in
 b_ballots_in:A1 K a.d_ballots_in ["sheet"] []
 F_law_cell:Fun K "_law_cell" "_law_cell" HF a.f_law_cell a.d_law_cell
 b_law_cell:A1 K a.d_law_cell ["_law_script","_law_k"] []
 F_law_mixed:Fun K "_law_mixed" "_law_mixed" FW a.f_law_mixed a.d_law_mixed
 b_law_mixed:A1 K a.d_law_mixed ["_law_cell_here","_law_by"] []
 F_law_mask:Fun K "_law_mask" "_law_mask" Ev a.f_law_mask a.d_law_mask
 b_law_mask:A1 K a.d_law_mask ["_law_some"] []
 F_law_number:Fun K "_law_number" "_law_number" EO a.f_law_number a.d_law_number
 b_law_number:A1 K a.d_law_number ["_law_cell_here","_law_most"] []
 F_law_whole:Fun K "_law_whole" "_law_whole" FN a.f_law_whole a.d_law_whole
 b_law_whole:A1 K a.d_law_whole ["_law_found"] []
 F_law_divisor:Fun K "_law_divisor" "_law_divisor" Em a.f_law_divisor a.d_law_divisor
 b_law_divisor:A1 K a.d_law_divisor ["_law_one","_law_other"] []
 F_law_added:Fun K "_law_added" "_law_added" FX a.f_law_added a.d_law_added
 b_law_added:A1 K a.d_law_added ["_law_one","_law_other"] []
 F_law_worth:Fun K "_law_worth" "_law_worth" Gc a.f_law_worth a.d_law_worth
 b_law_worth:A1 K a.d_law_worth ["_law_one","_law_other"] []
 F_law_where:Fun K "_law_where" "_law_where" FO a.f_law_where a.d_law_where
 b_law_where:A1 K a.d_law_where ["_law_slip_here","_law_standing"] []
 F_law_many:Fun K "_law_many" "_law_many" GR a.f_law_many a.d_law_many
 b_law_many:A1 K a.d_law_many ["_law_mask_here"] []
 F_law_due:Fun K "_law_due" "_law_due" FE a.f_law_due a.d_law_due
 b_law_due:A1 K a.d_law_due ["_law_sums","_law_standing","_law_places","_law_quota","_law_lots_here"] []
 F_Seats_quota:Fun K "quota" "Seats.quota" En a.f_Seats_quota a.d_Seats_quota
 b_Seats_quota:A1 K a.d_Seats_quota ["self","ballots"] []
 F_size:Fun K "size" "size" OJ a.f_size a.d_size
 b_size:A1 K a.d_size ["mask"] []
 F_fraction:Fun K "fraction" "fraction" Hz a.f_fraction a.d_fraction
 b_fraction:A1 K a.d_fraction ["top","bottom"] []
 F_even_part:Fun K "even_part" "even_part" Gg a.f_even_part a.d_even_part
 b_even_part:A1 K a.d_even_part ["free","many"] []
 F_common_bottom:Fun K "common_bottom" "common_bottom" DE a.f_common_bottom a.d_common_bottom
 b_common_bottom:A1 K a.d_common_bottom ["bottoms"] []
 F_are_hands:Fun K "are_hands" "are_hands" FY a.f_are_hands a.d_are_hands
 b_are_hands:A1 K a.d_are_hands ["thing"] []
 F_are_seats:Fun K "are_seats" "are_seats" Gj a.f_are_seats a.d_are_seats
 b_are_seats:A1 K a.d_are_seats ["thing"] []
 F_are_lots:Fun K "are_lots" "are_lots" Es a.f_are_lots a.d_are_lots
 b_are_lots:A1 K a.d_are_lots ["thing","hands"] []
 F_law_lots:Fun K "_law_lots" "_law_lots" Hf a.f_law_lots a.d_law_lots
 b_law_lots:A1 K a.d_law_lots ["_law_cell_here","_law_hands"] []
 F_law_slip:Fun K "_law_slip" "_law_slip" Ew a.f_law_slip a.d_law_slip
 b_law_slip:A1 K a.d_law_slip ["_law_cell_here","_law_hands"] []
 F_law_is_fraction:Fun K "_law_is_fraction" "_law_is_fraction" CY a.f_law_is_fraction a.d_law_is_fraction
 b_law_is_fraction:A1 K a.d_law_is_fraction ["_law_found"] []
 F_law_row_due:Fun K "_law_row_due" "_law_row_due" El a.f_law_row_due a.d_law_row_due
 b_law_row_due:A1 K a.d_law_row_due ["_law_slip_here","_law_kept","_law_free","_law_standing"] []
 F_law_behind:Fun K "_law_behind" "_law_behind" Fi a.f_law_behind a.d_law_behind
 b_law_behind:A1 K a.d_law_behind ["_law_row","_law_standing","_law_deed","_law_tally","_law_quota"] []
 F_law_kinds:Fun K "_law_kinds" "_law_kinds" FM a.f_law_kinds a.d_law_kinds
 b_law_kinds:A1 K a.d_law_kinds ["_law_deed"] []
 F_Seats_standing_by_lots:Fun K "standing_by_lots" "Seats.standing_by_lots" Bq a.f_Seats_standing_by_lots a.d_Seats_standing_by_lots
 b_Seats_standing_by_lots:A1 K a.d_Seats_standing_by_lots ["self","standing"] []
 F_minus:Fun K "minus" "minus" MI a.f_minus a.d_minus
 b_minus:A1 K a.d_minus ["one","other"] []
 F_times:Fun K "times" "times" MC a.f_times a.d_times
 b_times:A1 K a.d_times ["one","other"] []
 F_parted:Fun K "parted" "parted" JH a.f_parted a.d_parted
 b_parted:A1 K a.d_parted ["one","other"] []
 F_table_row:Fun K "table_row" "table_row" Gk a.f_table_row a.d_table_row
 b_table_row:A1 K a.d_table_row ["slip","free","kept","standing"] []
 F_weighed:Fun K "weighed" "weighed" F3 a.f_weighed a.d_weighed
 b_weighed:A1 K a.d_weighed ["sheet","shares"] []
 F_share_at:Fun K "share_at" "share_at" GJ a.f_share_at a.d_share_at
 b_share_at:A1 K a.d_share_at ["slip","free","standing","hand"] []
 F_law_sheet:Fun K "_law_sheet" "_law_sheet" CW a.f_law_sheet a.d_law_sheet
 b_law_sheet:A1 K a.d_law_sheet ["_law_script","_law_at","_law_hands","_law_lines","_law_most"] []
 F_law_rows_right:Fun K "_law_rows_right" "_law_rows_right" Dj a.f_law_rows_right a.d_law_rows_right
 b_law_rows_right:A1 K a.d_law_rows_right ["_law_rows","_law_sheet_here","_law_dues","_law_standing"] []
 F_law_sums_right:Fun K "_law_sums_right" "_law_sums_right" Dn a.f_law_sums_right a.d_law_sums_right
 b_law_sums_right:A1 K a.d_law_sums_right ["_law_sums","_law_sheet_here","_law_rows","_law_hands"] []
 F_Way_init:OB K "__init__" "Way.__init__" Hr a.f_Way_init a.d_Way_init
 b_Way_init:A1 K a.d_Way_init ["self","hands","seats","lots"] []
 F_Seats_greatest:Fun K "greatest" "Seats.greatest" Di a.f_Seats_greatest a.d_Seats_greatest
 b_Seats_greatest:A1 K a.d_Seats_greatest ["self","sums","standing"] []
 F_Seats_lowest:Fun K "lowest" "Seats.lowest" DZ a.f_Seats_lowest a.d_Seats_lowest
 b_Seats_lowest:A1 K a.d_Seats_lowest ["self","sums","standing"] []
 F_table:Fun K "table" "table" J7 a.f_table a.d_table
 b_table:A1 K a.d_table ["sheet","state","standing"] []
 F_tallies:Fun K "tallies" "tallies" Eh a.f_tallies a.d_tallies
 b_tallies:A1 K a.d_tallies ["sheet","rows","hands"] []
 F_part_kept:Fun K "part_kept" "part_kept" FV a.f_part_kept a.d_part_kept
 b_part_kept:A1 K a.d_part_kept ["tally","quota"] []
 F_law_walked:Fun K "_law_walked" "_law_walked" Ci a.f_law_walked a.d_law_walked
 b_law_walked:A1 K a.d_law_walked ["_law_paper","_law_sheet_here","_law_hands","_law_seats","_law_lots_here"] []
 F_Seats_init:OB K "__init__" "Seats.__init__" EZ a.f_Seats_init a.d_Seats_init
 b_Seats_init:A1 K a.d_Seats_init ["self","hands","seats","lots"] []
 F_Seats_deed_due:Fun K "deed_due" "Seats.deed_due" Dx a.f_Seats_deed_due a.d_Seats_deed_due
 b_Seats_deed_due:A1 K a.d_Seats_deed_due ["self","sums","standing","places","quota"] []
 F_kept_by:Fun K "kept_by" "kept_by" Fx a.f_kept_by a.d_kept_by
 b_kept_by:A1 K a.d_kept_by ["sheet","state","standing","hand","quota"] []
 F_state_behind:Fun K "state_behind" "state_behind" DX a.f_state_behind a.d_state_behind
 b_state_behind:A1 K a.d_state_behind ["sheet","state","standing","deed","quota"] []
 F_Seats_counted:Fun K "counted" "Seats.counted" DF a.f_Seats_counted a.d_Seats_counted
 b_Seats_counted:A1 K a.d_Seats_counted ["self","sheet"] []
 F_law:Fun K "law" "law" Ky a.f_law a.d_law
local macro_rules | `(tactic| trivial)=>`(tactic| refine Sz.neg (by trivial))
local macro_rules | `(tactic| trivial)=>`(tactic| refine Sz.fdiv (by trivial))
local macro_rules | `(tactic| trivial)=>`(tactic| refine Sz.sub (by trivial) (by trivial))
local macro_rules | `(tactic| trivial)=>`(tactic| refine Sz.add (by trivial) (by trivial))
local macro_rules | `(tactic| trivial)=>`(tactic| refine Sz.mul (by trivial) (by trivial))
local macro_rules | `(tactic| trivial)=>`(tactic| exact QY _ (by first | decide | decide +kernel) (szd 200))
local macro_rules | `(tactic| trivial)=>`(tactic| first | assumption | exact szd 64 | exact szd 200 | exact szd 1000)
local macro_rules | `(tactic| and_intros)=>`(tactic| (repeat (first | refine ⟨_,rfl,?_⟩ | refine ⟨_,_,rfl,rfl,?_⟩ | refine ⟨rfl,?_⟩ | refine ⟨(by show (_:Int)≠0;first | decide | decide +kernel),?_⟩ | refine ⟨⟨(by show (_:Int)≠0;decide),szd 9000⟩,?_⟩ | refine ⟨(by show Nk _ _;exact ⟨by decide,by decide,by decide⟩),?_⟩ | refine ⟨(by show MK _ _;refine ⟨_,_,(by trivial),(by trivial),?_⟩;decide +kernel),?_⟩ | refine ⟨_,_,_,_,rfl,rfl,SqL.of (by assumption),(by rfl),?_⟩ | refine ⟨_,_,_,_,rfl,rfl,SqT.of (by assumption),(by rfl),?_⟩ | refine ⟨_,_,rfl,.inl (SqL.of (by assumption)),?_⟩ | refine ⟨_,_,rfl,.inr (SqT.of (by assumption)),?_⟩)))
local macro_rules | `(tactic| subst_eqs)=>`(tactic| (repeat (first | with_reducible refine Ob fun _ _=>?_ | refine ⟨_,rfl,?_⟩ | refine ⟨_,_,rfl,rfl,?_⟩ | refine ⟨rfl,?_⟩ | refine ⟨(by show (_:Int)≠0;first | decide | decide +kernel),?_⟩ | refine ⟨⟨(by show (_:Int)≠0;decide),szd 9000⟩,?_⟩ | refine ⟨(by show Nk _ _;exact ⟨by decide,by decide,by decide⟩),?_⟩ | refine ⟨(by show MK _ _;refine ⟨_,_,(by trivial),(by trivial),?_⟩;decide +kernel),?_⟩ | refine ⟨_,_,_,_,rfl,rfl,SqL.of (by assumption),(by rfl),?_⟩ | refine ⟨_,_,_,_,rfl,rfl,SqT.of (by assumption),(by rfl),?_⟩ | refine ⟨_,_,rfl,.inl (SqL.of (by assumption)),?_⟩ | refine ⟨_,_,rfl,.inr (SqT.of (by assumption)),?_⟩ | refine Qk (by assumption) ?_ | refine Mf (by assumption) ?_)))
section
variable {P:Program} {w:World} {K:PySem.W.Frag} {mg:Str->Option Value} {base:Heap} {ad:Ads}
theorem NR (T:Tx K mg ad):A8 P w K mg base CX0 1 ad.f_all_of ad.d_all_of ["hands"] SJ:=by
 refine T.F_all_of.ok N6 (fun vs H Q E h=>?_) (fun cdv A outer s H vs Q E hr h=>?_)
 ·obtain ⟨h,rfl,_⟩:=h
  rfl
 obtain ⟨h,rfl,h0,h1,q⟩:=h
 refine ⟨_,(@Ag _ _ _ (@An _ _ _ _ (@Aj _ _ _ _ _ _ _ _ C9 (@Aj _ _ _ _ _ _ _ _ Hd Ac (pv 0)) Ac))),?_⟩
 exact ⟨_,rfl,_,_,rfl,rfl,⟨h0,by omega,by decide⟩,_,_,rfl,rfl,q⟩
theorem KR (T:Tx K mg ad):A8 P w K mg base CX0 1 ad.f_holds ad.d_holds ["mask","hand"] Rg:=by
 refine T.F_holds.ok PL (fun vs H Q E h=>?_) (fun cdv A outer s H vs Q E hr h=>?_)
 ·obtain ⟨m,h,rfl,_⟩:=h
  rfl
 obtain ⟨m,h,rfl,h0,q⟩:=h
 refine ⟨_,(@Ag _ _ _ (@An _ _ _ _ (@BP _ _ _ _ _ _ _ _ BX (@Aj _ _ _ _ _ _ _ _ Da (@Aj _ _ _ _ _ _ _ _ Hx (pv 0) (pv 1)) Ac) Ac (Ay _)))),?_⟩
 refine ⟨_,rfl,_,rfl,_,_,rfl,rfl,h0,_,_,rfl,rfl,rfl,?_⟩
 show Q (.bl (decide (V.int (Builtin.bitAnd (m / 2 ^ h.toNat) 1)=V.int 1))) H
 rw [Dh]
 exact q
theorem LD (T:Tx K mg ad):A8 P w K mg base CX0 1 ad.f_without ad.d_without ["mask","hand"] NE:=by
 refine T.F_without.ok LA (fun vs H Q E h=>?_) (fun cdv A outer s H vs Q E hr h=>?_)
 ·obtain ⟨m,h,rfl,_⟩:=h
  rfl
 obtain ⟨m,h,rfl,h0,h1,q⟩:=h
 refine ⟨_,(@Ag _ _ _ (@An _ _ _ _ (@Aj _ _ _ _ _ _ _ _ Da (pv 0) (@Rn _ _ _ _ _ _ So (@Aj _ _ _ _ _ _ _ _ Hd Ac (pv 1)))))),?_⟩
 exact ⟨_,rfl,_,rfl,_,_,rfl,rfl,⟨h0,by omega,by decide⟩,_,rfl,_,_,rfl,rfl,q⟩
theorem Hh (T:Tx K mg ad):A8 P w K mg base CX0 1 ad.f_members ad.d_members ["mask"] Np:=by
 refine T.F_members.ok LC (fun vs H Q E h=>?_) (fun cdv A outer s H vs Q E hr h=>?_)
 ·obtain ⟨m,rfl,_⟩:=h
  rfl
 obtain ⟨m,rfl,m0,m1,q⟩:=h
 refine ⟨_,(@Ag _ _ _ (@An _ _ _ _ (C7 (fsc:=Ah FA) (N:=["mask"]) (Nc:=["mask","hand"]) rfl rfl ⟨rfl,by decide +kernel,by decide +kernel,rfl,by decide +kernel,rfl,by decide +kernel,rfl,by decide +kernel⟩ rfl (Be rfl T.z_range (@Aa _ _ _ _ _ (Lg PySem.F.plainAttrs_int PySem.F.slot_int_bit_length PySem.F.type_int_bit_length QZ (pv 0)) Ad (by rfl))) (fun _ _ _ _=>(IY (@Ax _ _ _ _ _ _ _ _ BX (@Aj _ _ _ _ _ _ _ _ Da (@Aj _ _ _ _ _ _ _ _ Hx (pv 0) (pv 1)) Ac) Ac (Ay _)))) (fun _ _ _ _=>(pv 1))))),?_⟩
 have hb:(Builtin.Int.intBits m)<=12:=intBits_le_iff.mpr (by show m.natAbs < 4096;omega)
 refine ⟨_,rfl,rfl,m,rfl,rfl,_,rfl,by omega,by omega,?_⟩
 have en:((Builtin.Int.intBits m:Nat):Int).toNat=Builtin.Int.intBits m:=by omega
 rw [en]
 refine D9 (AL (by omega)) (fun D i ys H'=>ys=(hands i (bit m)).map V.int/\H'=upd H D (.lst ys)) (fun D hD=>⟨rfl,rfl⟩) (fun D i ys H' hq_=>by obtain ⟨e1,e2⟩:=hq_;rw [e2,e1];exact ⟨Ab,by rw [length_map];exact BW i (bit m)⟩) ?_ ?_
 ·rintro D i ys H' K1 K2 hD hi ⟨e1,rfl⟩ k1 k2
  have ei:(0+(i:Int)).toNat=i:=by omega
  refine ⟨_,rfl,_,rfl,_,_,rfl,rfl,(by show (0:Int)<=0+(i:Int);omega),_,_,rfl,rfl,rfl,_,rfl,?_⟩
  dsimp only
  rw [show decide (V.int (Builtin.bitAnd (m / 2 ^ (0+(i:Int)).toNat) 1)=V.int 1)=bit m i from by rw [Dh,ei]]
  have ms:=D5 i (bit m)
  cases e:bit m i with
  | true =>
    rw [e,if_pos rfl] at ms
    refine Qr ⟨_,rfl,?_⟩
    refine k1 _ _ Ab ⟨?_,by rw [CZ]⟩
    rw [ms,map_append,e1,Int.zero_add]
    rfl
  | false =>
    rw [e,if_neg (by decide)] at ms
    refine Ri ?_
    exact k2 _ ⟨by rw [ms];exact e1,rfl⟩
 ·rintro D ys H' hD ⟨rfl,rfl⟩
  refine q D _ hD (Af hD _) ?_
  rw [Ab,OL m0 m1]
theorem Cz (T:Tx K mg ad):A8 P w K mg base CX0 1 ad.f_is_whole ad.d_is_whole ["thing"] Mo:=by
 refine T.F_is_whole.ok KE (fun vs H Q E h=>?_) (fun cdv A outer s H vs Q E hr h=>?_)
 ·obtain ⟨c,rfl,_⟩:=h
  rfl
 obtain ⟨c,rfl,q⟩:=h
 refine ⟨_,(@Ag _ _ _ (@An _ _ _ _ (@E1 _ _ _ _ _ _ _ (@Aq _ _ _ _ _ _ _ _ _ Bx (by rfl) T.z_isinstance PyProof.Rows.boot_isinstance (@Aa _ _ _ _ _ (pv 0) (@Aa _ _ _ _ _ (BH (v:=.ty "int") rfl T.z_int PyProof.Rows.boot_int rfl) Ad (by rfl)) (by rfl)) (by decide) (by decide) (by rfl) (by rfl)) (@DM _ _ _ _ _ (@OC _ _ _ _ (@Aq _ _ _ _ _ _ _ _ _ Bx (by rfl) T.z_isinstance PyProof.Rows.boot_isinstance (@Aa _ _ _ _ _ (pv 0) (@Aa _ _ _ _ _ (BH (v:=.ty "bool") rfl T.z_bool PyProof.Rows.boot_bool rfl) Ad (by rfl)) (by rfl)) (by decide) (by decide) (by rfl) (by rfl))))))),?_⟩
 refine ⟨_,rfl,_,_,_,_,rfl,BO.int c,FR,_,rfl,?_⟩
 refine Qr ?_
 exact ⟨_,rfl,_,_,_,_,rfl,BO.int c,Fh,_,rfl,q⟩
theorem E3 (T:Tx K mg ad):A8 P w K mg base CX0 1 ad.f_divisor ad.d_divisor ["one","other"] N7:=by
 refine T.F_divisor.ok Cv (fun vs H Q E h=>?_) (fun cdv A outer s H vs Q E hr h=>?_)
 ·obtain ⟨a,b,rfl,_⟩:=h
  rfl
 obtain ⟨a,b,rfl,q⟩:=h
 refine ⟨_,(@Ae _ _ _ _ _ (@Am _ _ (2) _ _ _ _ Cv.nd rfl (Or.inl rfl) (@Aq _ _ _ _ _ _ _ _ _ GX (by rfl) T.z_abs PyProof.Rows.boot_abs (@Aa _ _ _ _ _ (pv 0) Ad (by rfl)) (by decide) (by decide) (by rfl) (by rfl)) (by rfl) (by first | exact .inl rfl | exact .inr rfl | assumption)) (@Ae _ _ _ _ _ (@Am _ _ (3) _ _ _ _ Cv.nd rfl (Or.inl rfl) (@Aq _ _ _ _ _ _ _ _ _ GX (by rfl) T.z_abs PyProof.Rows.boot_abs (@Aa _ _ _ _ _ (pv 1) Ad (by rfl)) (by decide) (by decide) (by rfl) (by rfl)) (by rfl) (by first | exact .inl rfl | exact .inr rfl | assumption)) (@Ae _ _ _ _ _ (E8 PassesOwn.never (@Ax _ _ _ _ _ _ _ _ FZ (pv 3) Ac (Ay _)) (@Ae _ _ _ _ _ (@Am _ _ (4) _ _ _ _ Cv.nd rfl (Or.inl rfl) (@Aj _ _ _ _ _ _ _ _ AN (pv 2) (pv 3)) (by rfl) (by first | exact .inl rfl | exact .inr rfl | assumption)) (@Ae _ _ _ _ _ (@Am _ _ (2) _ _ _ _ Cv.nd rfl (Or.inl rfl) (pv 3) (by rfl) (by first | exact .inl rfl | exact .inr rfl | assumption)) (@Ag _ _ _ (@Am _ _ (3) _ _ _ _ Cv.nd rfl (Or.inl rfl) (pv 4) (by rfl) (by first | exact .inl rfl | exact .inr rfl | assumption)))))) (@Ag _ _ _ (@An _ _ _ _ (pv 2)))))),?_⟩
 refine ⟨_,rfl,_,rfl,?_⟩
 refine ⟨_,rfl,_,rfl,?_⟩
 refine ED (fun σ' H'=>∃(x y:Int) (v:Option V),σ'=[some (.int a),some (.int b),some (.int x),some (.int y),v]/\H'=H/\0<=x/\0<=y/\Int.gcd x y=Int.gcd a b) (fun σ' _=>match σ' with | [_,_,_,some (.int y),_]=>y.toNat | _=>0) ⟨_,_,_,rfl,rfl,?_,?_,PR a b⟩ ?_ FP
 ·rw [Qz];omega
 ·rw [Qz];omega
 rintro σ1 H1 ⟨x,y,v,rfl,rfl,x0,y0,g⟩
 refine ⟨_,rfl,_,_,rfl,rfl,_,rfl,?_⟩
 refine OI (fun c=>?_) (fun c=>?_)
 ·have c':0 < y:=of_decide_eq_true c
  have m:=AW x c'
  refine ⟨_,rfl,_,rfl,_,_,rfl,rfl,Int.ne_of_gt c',?_⟩
  refine ⟨_,rfl,?_⟩
  refine ⟨_,rfl,?_⟩
  refine ⟨⟨y,x.fmod y,_,rfl,rfl,y0,m.1,(Kp x0 c').trans g⟩,?_⟩
  show (x.fmod y).toNat < y.toNat
  omega
 ·have c':¬ 0 < y:=fun e=>c (decide_eq_true e)
  refine ⟨_,rfl,?_⟩
  have e:=MV x0 y0 c'
  have e2:A7 x y=A7 a b:=by unfold A7;rw [g]
  rw [e,e2]
  exact q
theorem MH (T:Tx K mg ad):A8 P w K mg base CX0 1 ad.f_lies ad.d_lies ["slip","standing"] (Su K):=by
 refine T.F_lies.ok MT (fun vs H Q E h=>?_) (fun cdv A outer s H vs Q E hr h=>?_)
 ·obtain ⟨p,ts,st,rfl,_⟩:=h
  rfl
 obtain ⟨p,ts,st,rfl,hT,q⟩:=h
 refine ⟨_,(@Ae _ _ _ _ _ (By PassesOwn.never rfl (PD (pv 0)) (AD (i:=2) MT.nd rfl (Or.inl rfl)) (@Ag _ _ _ (@AB _ _ _ _ _ _ _ _ (@Ax _ _ _ _ _ _ _ _ Er (@Aj _ _ _ _ _ _ _ _ Da (pv 2) (pv 1)) Ac (Ay _)) (@Ag _ _ _ (@An _ _ _ _ (@Aj _ _ _ _ _ _ _ _ Da (pv 2) (pv 1)))) Av))) (@Ag _ _ _ (@An _ _ _ _ Ac))),?_⟩
 refine ⟨_,rfl,p,rfl,⟨_,hT⟩,Mr (xs:=ts.map V.int) (fun i σ' H'=>∃v,σ'=[some (.ref p),some (.int st),v]/\H'=H/\AO (ts.drop i) st=AO ts st) ⟨none,rfl,rfl,rfl⟩ (fun i σ' H' _ hq_=>by obtain ⟨v,_,e2,_⟩:=hq_;rw [e2];exact hT) ?_ ?_⟩
 ·rintro i x σ' H' hx ⟨v,rfl,rfl,e⟩
  obtain ⟨t,ht,rfl⟩:=C2 hx
  have ed:ts.drop i=t :: ts.drop (i+1):=by
   obtain ⟨hlt,e⟩:=List.getElem?_eq_some_iff.mp ht
   rw [drop_eq_getElem_cons hlt,e]
  rw [ed] at e
  have e':(if Builtin.bitAnd t st=0 then AO (ts.drop (i+1)) st else Builtin.bitAnd t st)=AO ts st:=e
  and_intros
  by_cases z:Builtin.bitAnd t st=0
  ·rw [if_pos z] at e'
   exact ifF (LL z) ⟨_,rfl,rfl,e'⟩
  ·rw [if_neg z] at e'
   refine ifT (Ra z) ⟨_,rfl,_,rfl,_,_,rfl,rfl,?_⟩
   show Q (V.int (Builtin.bitAnd t st)) H'
   rw [e']
   exact q
 ·rintro σ' H' ⟨v,rfl,rfl,e⟩
  rw [length_map,drop_of_length_le (Nat.le_refl _)] at e
  have e':(0:Int)=AO ts st:=e
  show Q (V.int 0) H'
  rw [e']
  exact q
theorem EK (T:Tx K mg ad):A8 P w K mg base CX0 1 ad.f_under ad.d_under ["one","other"] Nl:=by
 refine T.F_under.ok Oq (fun vs H Q E h=>?_) (fun cdv A outer s H vs Q E hr h=>?_)
 ·obtain ⟨p,r,t,b,u,c,rfl,_⟩:=h
  rfl
 obtain ⟨p,r,t,b,u,c,rfl,h1,h2,st,sb,su,sc,q⟩:=h
 refine ⟨_,(@Ag _ _ _ (@An _ _ _ _ (@BP _ _ _ _ _ _ _ _ MU (@Aj _ _ _ _ _ _ _ _ A3 (@Ai _ _ _ _ _ _ _ Al (pv 0) Ac (fun _ _=>rfl)) (@Ai _ _ _ _ _ _ _ Al (pv 1) Ac (fun _ _=>rfl))) (@Aj _ _ _ _ _ _ _ _ A3 (@Ai _ _ _ _ _ _ _ Al (pv 1) Ac (fun _ _=>rfl)) (@Ai _ _ _ _ _ _ _ Al (pv 0) Ac (fun _ _=>rfl))) (Ay _)))),?_⟩
 and_intros
 exact q
theorem Oc (T:Tx K mg ad):A8 P w K mg base CX0 1 ad.f_begin ad.d_begin ["sheet","hands"] Rc:=by
 refine T.F_begin.ok PH (fun vs H Q E h=>?_) (fun cdv A outer s H vs Q E hr h=>?_)
 ·obtain ⟨l,h,ls,rfl,_⟩:=h
  rfl
 obtain ⟨l,h,ls,rfl,hl,l60,h12,q⟩:=h
 refine ⟨_,(@Ag _ _ _ (@An _ _ _ _ (C7 (fsc:=Ah G9) (N:=["sheet","hands"]) (Nc:=["sheet","hands","line"]) rfl rfl ⟨rfl,by decide +kernel,by decide +kernel,rfl,by decide +kernel,rfl,by decide +kernel,rfl,by decide +kernel⟩ rfl (Bd (pv 0)) (fun _ _ _ _=>Bg) (fun _ _ _ _=>(@A2 _ _ _ _ _ (@Aa _ _ _ _ _ (@A2 _ _ _ _ _ (@Aa _ _ _ _ _ Ac (@Aa _ _ _ _ _ Ac Ad (by rfl)) (by rfl))) (@Aa _ _ _ _ _ (by exact (GZ (fsc:=Ah G9) (Nc:=["sheet","hands","line"]) (Nd:=["sheet","hands","line","hand"]) rfl ⟨rfl,by decide +kernel,by decide +kernel,rfl,by decide +kernel,rfl,by decide +kernel,rfl,by decide +kernel⟩ rfl (Be rfl T.z_range (@Aa _ _ _ _ _ (pv 1) Ad (by rfl))) (fun _ _ _ _=>Bg) (fun _ _ _ _=>(@A2 _ _ _ _ _ (@Aa _ _ _ _ _ Ac (@Aa _ _ _ _ _ Ac Ad (by rfl)) (by rfl)))))) Ad (by rfl)) (by rfl))))))),?_⟩
 have vl:=BI ls
 subst_eqs
 refine ⟨⟨_,SqL.of hl⟩,?_⟩
 refine Bk (xs:=vls ls) (by rw [vl];exact AL (by omega)) (fun D i ys J=>∃xs:List Sh,ys=shv xs/\xs.length=i/\J D=some (.lst ys)/\Az H J/\(∀x∈xs,ShG J x/\x.2.1.2=(1,1)/\x.2.2.2.map (·.2)=List.replicate h (0,1)/\H x.2.2.1=none/\x.2.2.1≠D)/\(xs.map fun x=>x.2.2.1).Nodup) (fun D hD=>⟨[],rfl,rfl,Ab,Af hD _,(fun _ m=>absurd m List.not_mem_nil),nodup_nil⟩) (fun D i ys J hq_=>by obtain ⟨xs,f1,f2,f3,_⟩:=hq_;exact ⟨f3,by rw [f1];unfold shv;rw [length_map,f2];exact Nat.le_refl _⟩) (fun D i ys J hD hq_=>by obtain ⟨_,_,_,_,f4,_⟩:=hq_;exact SqL.of (f4 _ _ hl)) ?_ ?_
 ·rintro D i y ys J K1 K2 hD hy ⟨xs,rfl,n1,n2,n3,n4,n5⟩ kk1 kk2
  refine yes (ifT rfl ?_)
  refine ⟨(by show 2<=sizeLine;decide),fun f1 hf1=>?_⟩
  have s1:=Af hf1 (.tup [V.int 1,V.int 1])
  have e1:(upd J f1 (.tup [V.int 1,V.int 1])) f1=some (.tup [V.int 1,V.int 1]):=Ab
  generalize upd J f1 (.tup [V.int 1,V.int 1])=J1 at s1 e1 ⊢
  refine ⟨_,rfl,(h:Int),rfl,by omega,by omega,?_⟩
  rw [Int.toNat_natCast]
  refine D9 (AL (by omega)) (fun D2 k ys J2=>∃fs:List Fq,ys=fqv fs/\J2 D2=some (.lst ys)/\Az J1 J2/\(∀f∈fs,FqG J2 f)/\fs.map (·.2)=List.replicate k (0,1)) (fun D2 hD2=>⟨[],rfl,Ab,Af hD2 _,(fun _ m=>absurd m List.not_mem_nil),rfl⟩) (fun D2 k ys J2 hq_=>by obtain ⟨fs,f1,f2,_,_,f5⟩:=hq_;exact ⟨f2,by rw [f1];unfold fqv;rw [length_map,<- length_map (f:=(·.2)),f5,length_replicate];exact Nat.le_refl _⟩) ?_ ?_
  ·rintro D2 k ys J2 L1 L2 hD2 hk ⟨fs,rfl,m1,m2,m3,m4⟩ ll1 ll2
   refine yes (ifT rfl ?_)
   refine ⟨(by show 2<=sizeLine;decide),fun t0 ht0=>?_⟩
   have s2:=Af ht0 (.tup [V.int 0,V.int 1])
   have e2:(upd J2 t0 (.tup [V.int 0,V.int 1])) t0=some (.tup [V.int 0,V.int 1]):=Ab
   generalize upd J2 t0 (.tup [V.int 0,V.int 1])=J3 at s2 e2 ⊢
   have m1':=s2 _ _ m1
   refine ll1 _ _ m1' ⟨fs++[(t0,0,1)],by unfold fqv;rw [map_append];rfl,Ab,A0 (m2.trans s2) hD2,(fun f m=>FqG.upd ?_ m1'),?_⟩
   ·rcases mem_append.mp m with m | m
    ·exact (m3 f m).same s2
    ·rw [mem_singleton.mp m];exact e2
   ·rw [map_append,m4,replicate_succ']
    rfl
  rintro D2 ys J2 hD2 ⟨fs,rfl,m1,m2,m3,m4⟩
  refine ⟨(by show 2<=sizeLine;decide),fun t ht=>?_⟩
  have s3:=Af ht (.tup [V.ref f1,V.ref D2])
  have e3:(upd J2 t (.tup [V.ref f1,V.ref D2])) t=some (.tup [V.ref f1,V.ref D2]):=Ab
  generalize upd J2 t (.tup [V.ref f1,V.ref D2])=J3 at s3 e3 ⊢
  have s13:=s1.trans (m2.trans s3)
  have n2':=s13 _ _ n2
  have dD:D2≠D:=fun z=>by rw [z,s1 _ _ n2] at hD2;cases hD2
  have hDn:H D2=none:=none_of (n3.trans s1) hD2
  refine kk1 _ _ n2' ⟨xs++[(t,(f1,1,1),D2,fs)],by unfold shv;rw [map_append];rfl,by rw [length_append,n1];rfl,Ab,A0 (n3.trans s13) hD,(fun x m=>?_),?_⟩
  ·rcases mem_append.mp m with m | m
   ·obtain ⟨a1,a2,a3,a4,a5⟩:=n4 x m
    exact ⟨(a1.same s13).upd n2' a5,a2,a3,a4,a5⟩
   ·rw [mem_singleton.mp m]
    exact ⟨ShG.upd ⟨e3,(m2.trans s3) _ _ e1,s3 _ _ m1,fun f m=>(m3 f m).same s3⟩ n2' dD,rfl,m4,hDn,dD⟩
  ·rw [map_append,nodup_append]
   refine ⟨n5,nodup_cons.mpr ⟨(fun m=>nomatch m),nodup_nil⟩,fun x m y k e=>?_⟩
   obtain ⟨x0,xm,rfl⟩:=mem_map.mp m
   rw [mem_singleton.mp k] at e
   have:=(n4 x0 xm).1.l
   rw [e] at this
   have:=s1 _ _ this
   rw [hD2] at this
   cases this
 rintro D ys J hD ⟨xs,rfl,n1,n2,n3,n4,n5⟩
 rw [vl] at n1
 exact q D xs J hD n3 n2 n4 n5 n1
theorem J9 (T:Tx K mg ad):A8 P w K mg base CX0 1 ad.f_with_kept ad.d_with_kept ["kept","hand","given"] Mb:=by
 refine T.F_with_kept.ok EX (fun vs H Q E h=>?_) (fun cdv A outer s H vs Q E hr h=>?_)
 ·obtain ⟨kl,hd,ks,g,rfl,_⟩:=h
  rfl
 obtain ⟨kl,hd,ks,g,rfl,hk,gk,gg,hh,k12,q⟩:=h
 refine ⟨_,(@Ae _ _ _ _ _ (@Am _ _ (3) _ _ _ _ EX.nd rfl (Or.inl rfl) (@Bv _ _ _ _ _ _ _ _ _ BF (by rfl) T.z_list PyProof.Rows.boot_list (@Aa _ _ _ _ _ (pv 0) Ad (by rfl)) (by decide) (by decide) (by rfl) (by rfl)) (by rfl) (by first | exact .inl rfl | exact .inr rfl | assumption)) (@Ae _ _ _ _ _ (Hv (pv 2) (Jl (pv 3) (pv 1) EY)) (@Ag _ _ _ (@An _ _ _ _ (pv 3))))),?_⟩
 and_intros
 intro l hl
 have s1:=Af hl (.lst (fqv ks))
 have e1:(upd H l (.lst (fqv ks))) l=some (.lst (fqv ks)):=Ab
 generalize upd H l (.lst (fqv ks))=H1 at s1 e1 ⊢
 and_intros
 refine ⟨l,_,_,hd,rfl,rfl,e1,GG (by unfold fqv;rw [length_map];exact hh),?_⟩
 rw [show (fqv ks).set hd (V.ref g.1)=fqv (ks.set hd g) from Gx ks hd g]
 exact ⟨_,rfl,q l _ hl (A0 s1 hl) Ab⟩
theorem Id (T:Tx K mg ad):A8 P w K mg base CX0 1 ad.f_ballots_in ad.d_ballots_in ["sheet"] NK:=by
 refine T.F_ballots_in.ok HY (fun vs H Q E h=>?_) (fun cdv A outer s H vs Q E hr h=>?_)
 ·obtain ⟨l,ls,rfl,_⟩:=h
  rfl
 obtain ⟨l,ls,rfl,hl,g,l900,q⟩:=h
 refine ⟨_,(@Ag _ _ _ (@An _ _ _ _ (@Aq _ _ _ _ _ _ _ _ _ (Fa rfl) (by rfl) T.z_sum PyProof.Rows.boot_sum (@Aa _ _ _ _ _ (E9 (fsc:=Ah DD) (N:=["sheet"]) (Nc:=["sheet","slip","number"]) rfl rfl ⟨rfl,by decide +kernel,by decide +kernel,by decide +kernel,by decide +kernel,rfl,by decide +kernel,rfl,by decide +kernel⟩ rfl (Bd (pv 0)) (fun _ _ _ _=>Bg) (fun _ _ _ _=>(pv 2))) Ad (by rfl)) (by decide) (by decide) (by rfl) (by rfl)))),?_⟩
 refine ⟨_,rfl,l,rfl,⟨_,SqL.of hl⟩,?_⟩
 refine Ex (zs:=vls ls) rfl rfl (by rw [BI];exact GM l900) (fun D i ys H'=>ys=((Ao (ls.take i)).map (·.2)).map V.int/\H'=upd H D (.lst ys)) (fun D hD=>⟨rfl,rfl⟩) (fun D i ys H' hq_=>by obtain ⟨f1,f2⟩:=hq_;exact ⟨by rw [f2];exact Ab,by rw [f1,length_map,length_map];unfold Ao;rw [length_map];exact length_take_le _ _⟩) (fun D i ys H' hD hq_=>by obtain ⟨_,f2⟩:=hq_;rw [f2];exact SqL.of (Af hD _ _ _ hl)) ?_ ?_
 ·rintro D i x ys H' K1 K2 hD hx ⟨f1,rfl⟩ k1 k2
  obtain ⟨f,hf,rfl,fm,et⟩:=Ff hx
  refine ⟨f.1,_,_,rfl,SqT.of (Af hD _ _ _ (g f fm).1),?_⟩
  refine yes (ifT rfl ?_)
  refine ⟨_,rfl,?_⟩
  refine k1 _ _ Ab ⟨?_,by rw [CZ]⟩
  rw [et,DY,map_append,map_append,f1]
  rfl
 rintro D ys H' hD ⟨rfl,rfl⟩
 rw [BI,take_of_length_le (Nat.le_refl _)]
 exact ⟨D,_,rfl,SqL.of Ab,q _ (Af hD _)⟩
theorem Bn (T:Tx K mg ad):A8 P w K mg base CX0 1 ad.f_law_cell ad.d_law_cell ["_law_script","_law_k"] (SH K):=by
 refine T.F_law_cell.ok DV (fun vs H Q E h=>?_) (fun cdv A outer s H vs Q E hr h=>?_)
 ·obtain ⟨p,ns,k,rfl,_⟩:=h
  rfl
 obtain ⟨p,ns,k,rfl,hS,h63,k0,k1,q⟩:=h
 refine ⟨_,(@Ae _ _ _ _ _ (@AB _ _ _ _ _ _ _ _ (@Ax _ _ _ _ _ _ _ _ MU (pv 1) (@Aq _ _ _ _ _ _ _ _ _ At (by rfl) T.z_len PySem.boot_len (@Aa _ _ _ _ _ (pv 0) Ad (by rfl)) (by decide) (by decide) (by rfl) (by rfl)) (Ay _)) (@Ag _ _ _ (@An _ _ _ _ (@Aj _ _ _ _ _ _ _ _ AN (@Ai _ _ _ _ _ _ _ Au (pv 0) (pv 1) (fun _ _=>rfl)) (@Aj _ _ _ _ _ _ _ _ IP Ac Ac)))) Av) (@Ae _ _ _ _ _ (@Am _ _ (2) _ _ _ _ DV.nd rfl (Or.inl rfl) (@Aj _ _ _ _ _ _ _ _ AS (@Aj _ _ _ _ _ _ _ _ A3 (pv 1) Ac) Ac) (by rfl) (by first | exact .inl rfl | exact .inr rfl | assumption)) (@Ae _ _ _ _ _ (@Ft _ _ _ _ _ _ _ _ (@Ax _ _ _ _ _ _ _ _ FZ (@Aq _ _ _ _ _ _ _ _ _ At (by rfl) T.z_len PySem.boot_len (@Aa _ _ _ _ _ (pv 0) Ad (by rfl)) (by decide) (by decide) (by rfl) (by rfl)) Ac (Ay _)) (@Ag _ _ _ (@Am _ _ (2) _ _ _ _ DV.nd rfl (Or.inl rfl) (@Aj _ _ _ _ _ _ _ _ AS (@Aj _ _ _ _ _ _ _ _ A3 (@Aj _ _ _ _ _ _ _ _ AN (@Ai _ _ _ _ _ _ _ Au (pv 0) (@Aj _ _ _ _ _ _ _ _ AN (@Aj _ _ _ _ _ _ _ _ A3 (pv 1) Ac) (@Aq _ _ _ _ _ _ _ _ _ At (by rfl) T.z_len PySem.boot_len (@Aa _ _ _ _ _ (pv 0) Ad (by rfl)) (by decide) (by decide) (by rfl) (by rfl))) (fun _ _=>rfl)) (@Aj _ _ _ _ _ _ _ _ IP Ac Ac)) Ac) (@Aj _ _ _ _ _ _ _ _ A3 (@Aj _ _ _ _ _ _ _ _ A3 (pv 1) (pv 1)) Ac)) (by rfl) (by first | exact .inl rfl | exact .inr rfl | assumption))) Av) (@Ag _ _ _ (@An _ _ _ _ (@Aj _ _ _ _ _ _ _ _ AN (@Aj _ _ _ _ _ _ _ _ A3 (@Aj _ _ _ _ _ _ _ _ AN (pv 2) Ac) Ac) Ac)))))),?_⟩
 have hl:(ns.map V.int).length=ns.length:=length_map _
 have szk:Sz 64 k:=AK (by omega) (by omega)
 have p40:(0:Int) < 10 ^ (40:Int).toNat:=by decide +kernel
 refine ⟨_,rfl,_,rfl,p,_,rfl,.inl hS,_,_,rfl,rfl,_,rfl,?_⟩
 refine OI (fun c=>?_) (fun c=>?_)
 ·have c':k < (((ns.map V.int).length:Nat):Int):=of_decide_eq_true c
  rw [hl] at c'
  obtain ⟨v,hv⟩:=Mj k0 c'
  refine ⟨_,rfl,_,rfl,p,_,_,_,rfl,rfl,hS,hv,_,_,rfl,rfl,Pm,_,_,rfl,rfl,(Int.ne_of_gt p40),?_⟩
  exact q _ (AW v p40).1 (AW v p40).2
 ·and_intros
  refine ⟨fun σ' H'=>∃z:Int,σ'=[some (.ref p),some (.int k),some (.int z)]/\H=H',?_,?_⟩
  ·refine ⟨_,rfl,p,_,rfl,.inl hS,_,_,rfl,rfl,_,rfl,?_⟩
   refine OI (fun c2=>?_) (fun c2=>?_)
   ·have c2':0 < (((ns.map V.int).length:Nat):Int):=of_decide_eq_true c2
    rw [hl] at c2'
    have m:=AW (k*7) c2'
    obtain ⟨v,hv⟩:=Mj m.1 m.2
    refine ⟨_,rfl,?_⟩
    and_intros
    refine ⟨p,_,rfl,.inl hS,?_⟩
    rw [hl]
    refine ⟨_,_,rfl,rfl,(by show (_:Int)≠0;omega),?_⟩
    refine ⟨p,_,_,_,rfl,rfl,hS,hv,_,_,rfl,rfl,Pm,_,_,rfl,rfl,(Int.ne_of_gt p40),?_⟩
    have szv:Sz 200 (v.fmod (10 ^ (40:Int).toNat)):=LK (AW v p40).1 (AW v p40).2
    and_intros
    exact rfl
   ·exact ⟨_,rfl,rfl⟩
  rintro σ' H' ⟨z,rfl,rfl⟩
  have m1:=AW z (show (0:Int) < 2147483647 by decide)
  have sz1:Sz 64 (z.fmod 2147483647):=AK (by omega) (by omega)
  and_intros
  have m:=AW (z.fmod 2147483647*69621) (show (0:Int) < 2147483629 by decide)
  exact q _ m.1 (Int.lt_trans m.2 (by decide))
theorem Fn (T:Tx K mg ad):A8 P w K mg base CX0 1 ad.f_law_mixed ad.d_law_mixed ["_law_cell_here","_law_by"] Qf:=by
 refine T.F_law_mixed.ok EC (fun vs H Q E h=>?_) (fun cdv A outer s H vs Q E hr h=>?_)
 ·obtain ⟨c,b,rfl,_⟩:=h
  rfl
 obtain ⟨c,b,rfl,szc,b0,b1,q⟩:=h
 refine ⟨_,(@Ae _ _ _ _ _ (@Am _ _ (2) _ _ _ _ EC.nd rfl (Or.inl rfl) (@Aj _ _ _ _ _ _ _ _ AS Ac (@Aj _ _ _ _ _ _ _ _ A3 (pv 1) Ac)) (by rfl) (by first | exact .inl rfl | exact .inr rfl | assumption)) (@Ag _ _ _ (@An _ _ _ _ (@Aj _ _ _ _ _ _ _ _ AN (@Aj _ _ _ _ _ _ _ _ A3 (@Aj _ _ _ _ _ _ _ _ AS (pv 0) Ac) (pv 2)) (@Aj _ _ _ _ _ _ _ _ AS (@Aj _ _ _ _ _ _ _ _ IP Ac Ac) Ac))))),?_⟩
 have szb:Sz 64 b:=AK (by omega) (by omega)
 and_intros
 have m:=AW ((c+3)*(618033988749894848204586834365+b*271828182845904523536028747)) (show (0:Int) < 10 ^ (30:Int).toNat+57 by decide)
 exact q _ m.1 (Int.lt_trans m.2 (by decide))
theorem JM (T:Tx K mg ad):A8 P w K mg base CX0 1 ad.f_law_mask ad.d_law_mask ["_law_some"] RR:=by
 refine T.F_law_mask.ok KB (fun vs H Q E h=>?_) (fun cdv A outer s H vs Q E hr h=>?_)
 ·obtain ⟨l,hs,rfl,_⟩:=h
  rfl
 obtain ⟨l,hs,rfl,hl,l100,h64,q⟩:=h
 refine ⟨_,(@Ag _ _ _ (@An _ _ _ _ (@Aq _ _ _ _ _ _ _ _ _ (Fa rfl) (by rfl) T.z_sum PyProof.Rows.boot_sum (@Aa _ _ _ _ _ (C7 (fsc:=Ah Ev) (N:=["_law_some"]) (Nc:=["_law_some","_law_hand"]) rfl rfl ⟨rfl,by decide +kernel,by decide +kernel,rfl,by decide +kernel,rfl,by decide +kernel,rfl,by decide +kernel⟩ rfl (Bd (pv 0)) (fun _ _ _ _=>Bg) (fun _ _ _ _=>(@Aj _ _ _ _ _ _ _ _ Hd Ac (pv 1)))) Ad (by rfl)) (by decide) (by decide) (by rfl) (by rfl)))),?_⟩
 and_intros
 refine ⟨⟨_,SqL.of hl⟩,?_⟩
 refine Bk (xs:=hs.map V.int) (by rw [length_map];exact GM (by omega)) (fun D i ys H'=>ys=((hs.take i).map fun h=>(1:Int)*2 ^ h.toNat).map V.int/\H'=upd H D (.lst ys)) (fun D hD=>⟨rfl,rfl⟩) (fun D i ys H' hq_=>by obtain ⟨f1,f2⟩:=hq_;exact ⟨by rw [f2];exact Ab,by rw [f1,length_map,length_map];exact length_take_le _ _⟩) (fun D i ys H' hD hq_=>by obtain ⟨_,f2⟩:=hq_;rw [f2];exact SqL.of (Af hD _ _ _ hl)) ?_ ?_
 ·rintro D i x ys H' K1 K2 hD hx ⟨f1,rfl⟩ k1 k2
  obtain ⟨z,hz,rfl⟩:=C2 hx
  have et:hs.take (i+1)=hs.take i++[z]:=by rw [take_succ,hz];rfl
  obtain ⟨z0,z64⟩:=h64 z (mem_of_getElem? hz)
  refine yes (ifT rfl ?_)
  refine ⟨_,rfl,_,_,rfl,rfl,⟨by omega,by omega,by decide⟩,?_⟩
  refine k1 _ _ Ab ⟨?_,by rw [CZ]⟩
  rw [f1,et,map_append,map_append]
  rfl
 ·rintro D ys H' hD ⟨rfl,rfl⟩
  refine ⟨D,_,rfl,SqL.of Ab,?_⟩
  rw [length_map,take_length]
  exact q _ (Af hD _)
theorem HQ (T:Tx K mg ad):A8 P w K mg base CX0 1 ad.f_law_number ad.d_law_number ["_law_cell_here","_law_most"] L9:=by
 refine T.F_law_number.ok Ih (fun vs H Q E h=>?_) (fun cdv A outer s H vs Q E hr h=>?_)
 ·obtain ⟨c,m,rfl,_⟩:=h
  rfl
 obtain ⟨c,m,rfl,szc,m1,m9,q⟩:=h
 refine ⟨_,(@Ag _ _ _ (@An _ _ _ _ (@Aj _ _ _ _ _ _ _ _ AS Ac (@Aj _ _ _ _ _ _ _ _ AN (@Aj _ _ _ _ _ _ _ _ AN (@Aj _ _ _ _ _ _ _ _ AS (@Aj _ _ _ _ _ _ _ _ A3 (pv 0) Ac) Ac) Ac) (pv 1))))),?_⟩
 and_intros
 refine ⟨(by show (_:Int)≠0;omega),?_⟩
 have k:=AW ((c*48271+5).fmod 1000000007) (show (0:Int) < m by omega)
 and_intros
 exact q _ (by omega) (by omega)
theorem DC (T:Tx K mg ad):A8 P w K mg base CX0 1 ad.f_law_whole ad.d_law_whole ["_law_found"] Mo:=by
 refine T.F_law_whole.ok JG (fun vs H Q E h=>?_) (fun cdv A outer s H vs Q E hr h=>?_)
 ·obtain ⟨c,rfl,_⟩:=h
  rfl
 obtain ⟨c,rfl,q⟩:=h
 refine ⟨_,(@Ag _ _ _ (@An _ _ _ _ (@E1 _ _ _ _ _ _ _ (@Aq _ _ _ _ _ _ _ _ _ Bx (by rfl) T.z_isinstance PyProof.Rows.boot_isinstance (@Aa _ _ _ _ _ (pv 0) (@Aa _ _ _ _ _ (BH (v:=.ty "int") rfl T.z_int PyProof.Rows.boot_int rfl) Ad (by rfl)) (by rfl)) (by decide) (by decide) (by rfl) (by rfl)) (@DM _ _ _ _ _ (@OC _ _ _ _ (@Aq _ _ _ _ _ _ _ _ _ Bx (by rfl) T.z_isinstance PyProof.Rows.boot_isinstance (@Aa _ _ _ _ _ (pv 0) (@Aa _ _ _ _ _ (BH (v:=.ty "bool") rfl T.z_bool PyProof.Rows.boot_bool rfl) Ad (by rfl)) (by rfl)) (by decide) (by decide) (by rfl) (by rfl))))))),?_⟩
 refine ⟨_,rfl,_,_,_,_,rfl,BO.int c,FR,_,rfl,?_⟩
 refine Qr ?_
 exact ⟨_,rfl,_,_,_,_,rfl,BO.int c,Fh,_,rfl,q⟩
theorem DT (T:Tx K mg ad):A8 P w K mg base CX0 1 ad.f_law_divisor ad.d_law_divisor ["_law_one","_law_other"] Qs:=by
 refine T.F_law_divisor.ok DS (fun vs H Q E h=>?_) (fun cdv A outer s H vs Q E hr h=>?_)
 ·obtain ⟨a,b,rfl,_⟩:=h
  rfl
 obtain ⟨a,b,rfl,a0,b0,q⟩:=h
 refine ⟨_,(@Ae _ _ _ _ _ (E8 PassesOwn.never (@Ax _ _ _ _ _ _ _ _ Er (pv 1) Ac (Ay _)) (@Ag _ _ _ (Sq (i:=0) (j:=1) rfl DS.nd rfl rfl (by decide) rfl rfl (@Aa _ _ _ _ _ (pv 1) (@Aa _ _ _ _ _ (@Aj _ _ _ _ _ _ _ _ AN (pv 0) (pv 1)) Ad (by rfl)) (by rfl)) rfl))) (@Ag _ _ _ (@An _ _ _ _ (@Aq _ _ _ _ _ _ _ _ _ GX (by rfl) T.z_abs PyProof.Rows.boot_abs (@Aa _ _ _ _ _ (pv 0) Ad (by rfl)) (by decide) (by decide) (by rfl) (by rfl))))),?_⟩
 refine ED (fun σ' H'=>∃x y:Int,σ'=[some (.int x),some (.int y)]/\H'=H/\0<=x/\0<=y/\Int.gcd x y=Int.gcd a b) (fun σ' _=>match σ' with | [_,some (.int y)]=>y.toNat | _=>0) ⟨_,_,rfl,rfl,a0,b0,rfl⟩ ?_ KD
 rintro σ1 H1 ⟨x,y,rfl,rfl,x0,y0,g⟩
 and_intros
 by_cases c:y=0
 ·refine ifF (LL c) ?_
  and_intros
  have e:=MV x0 y0 (by omega)
  have e2:A7 x y=A7 a b:=by unfold A7;rw [g]
  rw [if_neg (by omega),show x=A7 a b from e.trans e2]
  exact q
 ·refine ifT (Ra c) ?_
  have c':0 < y:=by omega
  have m:=AW x c'
  and_intros
  refine ⟨Int.ne_of_gt c',?_⟩
  refine ⟨_,_,rfl,?_⟩
  refine ⟨⟨y,x.fmod y,rfl,rfl,y0,m.1,(Kp x0 c').trans g⟩,?_⟩
  show (x.fmod y).toNat < y.toNat
  omega
theorem D3 (T:Tx K mg ad):A8 P w K mg base CX0 1 ad.f_law_added ad.d_law_added ["_law_one","_law_other"] NF:=by
 refine T.F_law_added.ok J0 (fun vs H Q E h=>?_) (fun cdv A outer s H vs Q E hr h=>?_)
 ·obtain ⟨f,g,rfl,_⟩:=h
  rfl
 obtain ⟨f,g,rfl,gf,gg,f1,f2,g1,g2,q⟩:=h
 refine ⟨_,(@Ae _ _ _ _ _ (@AB _ _ _ _ _ _ _ _ (@Ax _ _ _ _ _ _ _ _ BX (@Ai _ _ _ _ _ _ _ Al (pv 1) Ac (fun _ _=>rfl)) Ac (Ay _)) (@Ag _ _ _ (@An _ _ _ _ (pv 0))) Av) (@Ae _ _ _ _ _ (@AB _ _ _ _ _ _ _ _ (@Ax _ _ _ _ _ _ _ _ BX (@Ai _ _ _ _ _ _ _ Al (pv 0) Ac (fun _ _=>rfl)) (@Ai _ _ _ _ _ _ _ Al (pv 1) Ac (fun _ _=>rfl)) (Ay _)) (@Ag _ _ _ (@An _ _ _ _ (@A2 _ _ _ _ _ (@Aa _ _ _ _ _ (@Aj _ _ _ _ _ _ _ _ AS (@Ai _ _ _ _ _ _ _ Al (pv 0) Ac (fun _ _=>rfl)) (@Ai _ _ _ _ _ _ _ Al (pv 1) Ac (fun _ _=>rfl))) (@Aa _ _ _ _ _ (@Ai _ _ _ _ _ _ _ Al (pv 0) Ac (fun _ _=>rfl)) Ad (by rfl)) (by rfl))))) Av) (@Ag _ _ _ (@An _ _ _ _ (@A2 _ _ _ _ _ (@Aa _ _ _ _ _ (@Aj _ _ _ _ _ _ _ _ AS (@Aj _ _ _ _ _ _ _ _ A3 (@Ai _ _ _ _ _ _ _ Al (pv 0) Ac (fun _ _=>rfl)) (@Ai _ _ _ _ _ _ _ Al (pv 1) Ac (fun _ _=>rfl))) (@Aj _ _ _ _ _ _ _ _ A3 (@Ai _ _ _ _ _ _ _ Al (pv 1) Ac (fun _ _=>rfl)) (@Ai _ _ _ _ _ _ _ Al (pv 0) Ac (fun _ _=>rfl)))) (@Aa _ _ _ _ _ (@Aj _ _ _ _ _ _ _ _ A3 (@Ai _ _ _ _ _ _ _ Al (pv 0) Ac (fun _ _=>rfl)) (@Ai _ _ _ _ _ _ _ Al (pv 1) Ac (fun _ _=>rfl))) Ad (by rfl)) (by rfl))))))),?_⟩
 have gf':H f.1=some (.tup [.int f.2.1,.int f.2.2]):=gf
 have gg':H g.1=some (.tup [.int g.2.1,.int g.2.2]):=gg
 and_intros
 by_cases c:g.2.1=0
 ·refine ifT (KY c) ?_
  have e:C0 f.2 g.2=f.2:=by unfold C0;rw [if_pos c]
  exact ⟨_,rfl,q f.1 H (fun _ _ e=>e) (by rw [e];exact gf)⟩
 refine ifF (KZ c) ?_
 and_intros
 by_cases c2:f.2.2=g.2.2
 ·refine ifT (KY c2) ?_
  have e:C0 f.2 g.2=(f.2.1+g.2.1,f.2.2):=by unfold C0;rw [if_neg c,if_pos c2]
  and_intros
  refine ⟨(by show 2<=sizeLine;decide),fun a ha=>?_⟩
  exact q a _ (Af ha _) (by rw [e];exact Ab)
 refine ifF (KZ c2) ?_
 have e:C0 f.2 g.2=(f.2.1*g.2.2+g.2.1*f.2.2,f.2.2*g.2.2):=by unfold C0;rw [if_neg c,if_neg c2]
 and_intros
 refine ⟨(by show 2<=sizeLine;decide),fun a ha=>?_⟩
 exact q a _ (Af ha _) (by rw [e];exact Ab)
theorem Fe (T:Tx K mg ad):A8 P w K mg base CX0 1 ad.f_law_worth ad.d_law_worth ["_law_one","_law_other"] NO:=by
 refine T.F_law_worth.ok Jd (fun vs H Q E h=>?_) (fun cdv A outer s H vs Q E hr h=>?_)
 ·obtain ⟨f,g,rfl,_⟩:=h
  rfl
 obtain ⟨f,g,rfl,gf,gg,f1,f2,g1,g2,q⟩:=h
 refine ⟨_,(@Ag _ _ _ (@An _ _ _ _ (@BP _ _ _ _ _ _ _ _ BX (@Aj _ _ _ _ _ _ _ _ A3 (@Ai _ _ _ _ _ _ _ Al (pv 0) Ac (fun _ _=>rfl)) (@Ai _ _ _ _ _ _ _ Al (pv 1) Ac (fun _ _=>rfl))) (@Aj _ _ _ _ _ _ _ _ A3 (@Ai _ _ _ _ _ _ _ Al (pv 1) Ac (fun _ _=>rfl)) (@Ai _ _ _ _ _ _ _ Al (pv 0) Ac (fun _ _=>rfl))) (Ay _)))),?_⟩
 have gf':H f.1=some (.tup [.int f.2.1,.int f.2.2]):=gf
 have gg':H g.1=some (.tup [.int g.2.1,.int g.2.2]):=gg
 and_intros
 have e:decide (V.int (f.2.1*g.2.2)=V.int (g.2.1*f.2.2))=decide (f.2.1*g.2.2=g.2.1*f.2.2):=decide_eq_decide.mpr ⟨fun z=>V.int.inj z,fun z=>by rw [z]⟩
 show Q (V.bl (decide (V.int (f.2.1*g.2.2)=V.int (g.2.1*f.2.2)))) H
 rw [e]
 exact q
theorem Jk (T:Tx K mg ad):A8 P w K mg base CX0 1 ad.f_law_where ad.d_law_where ["_law_slip_here","_law_standing"] (Nh K):=by
 refine T.F_law_where.ok EQ (fun vs H Q E h=>?_) (fun cdv A outer s H vs Q E hr h=>?_)
 ·obtain ⟨p,ts,st,h,rfl,_⟩:=h
  rfl
 obtain ⟨p,ts,st,h,rfl,hT,ok,q⟩:=h
 refine ⟨_,(@Ae _ _ _ _ _ (By PassesOwn.never rfl (PD (pv 0)) (AD (i:=2) EQ.nd rfl (Or.inl rfl)) (@Ag _ _ _ (@AB _ _ _ _ _ _ _ _ (@Ax _ _ _ _ _ _ _ _ FZ (@Aj _ _ _ _ _ _ _ _ Da (pv 2) (pv 1)) Ac (Ay _)) (@Ag _ _ _ (@An _ _ _ _ (@Aj _ _ _ _ _ _ _ _ Da (pv 2) (pv 1)))) Av))) (@Ag _ _ _ (@An _ _ _ _ Ac))),?_⟩
 refine ⟨_,rfl,p,rfl,⟨_,hT⟩,Mr (xs:=ts.map V.int) (fun i σ' H'=>∃v,σ'=[some (.ref p),some (.int st),v]/\H'=H/\AO (ts.drop i) st=AO ts st) ⟨none,rfl,rfl,rfl⟩ (fun i σ' H' _ hq_=>by obtain ⟨v,_,e2,_⟩:=hq_;rw [e2];exact hT) ?_ ?_⟩
 ·rintro i x σ' H' hx ⟨v,rfl,rfl,e⟩
  obtain ⟨t,ht,rfl⟩:=C2 hx
  have ed:ts.drop i=t :: ts.drop (i+1):=by
   obtain ⟨hlt,e⟩:=List.getElem?_eq_some_iff.mp ht
   rw [drop_eq_getElem_cons hlt,e]
  rw [ed] at e
  have e':(if Builtin.bitAnd t st=0 then AO (ts.drop (i+1)) st else Builtin.bitAnd t st)=AO ts st:=e
  have tn:=ok.1 t (mem_of_getElem? ht)
  have an:=Lo (s:=st) (Int.le_of_lt tn.1) tn.2
  and_intros
  by_cases z:Builtin.bitAnd t st=0
  ·rw [if_pos z] at e'
   exact ifF (decide_eq_false (by omega)) ⟨_,rfl,rfl,e'⟩
  ·rw [if_neg z] at e'
   refine ifT (decide_eq_true (by omega)) ?_
   and_intros
   show Q (V.int (Builtin.bitAnd t st)) H'
   rw [e']
   exact q
 ·rintro σ' H' ⟨v,rfl,rfl,e⟩
  rw [length_map,drop_of_length_le (Nat.le_refl _)] at e
  have e':(0:Int)=AO ts st:=e
  show Q (V.int 0) H'
  rw [e']
  exact q
theorem KU (T:Tx K mg ad):A8 P w K mg base CX0 1 ad.f_law_many ad.d_law_many ["_law_mask_here"] Ps:=by
 refine T.F_law_many.ok CS (fun vs H Q E h=>?_) (fun cdv A outer s H vs Q E hr h=>?_)
 ·obtain ⟨m,rfl,_⟩:=h
  rfl
 obtain ⟨m,rfl,m0,m1,q⟩:=h
 refine ⟨_,(@Ae _ _ _ _ _ (@Am _ _ (1) _ _ _ _ CS.nd rfl (Or.inl rfl) Ac (by rfl) (by first | exact .inl rfl | exact .inr rfl | assumption)) (@Ae _ _ _ _ _ (E8 PassesOwn.never (@Ax _ _ _ _ _ _ _ _ FZ (pv 0) Ac (Ay _)) (@Ae _ _ _ _ _ (@Am _ _ (1) _ _ _ _ CS.nd rfl (Or.inl rfl) (@Aj _ _ _ _ _ _ _ _ AS (pv 1) (@Aj _ _ _ _ _ _ _ _ AN (pv 0) Ac)) (by rfl) (by first | exact .inl rfl | exact .inr rfl | assumption)) (@Ag _ _ _ (@Am _ _ (0) _ _ _ _ CS.nd rfl (Or.inl rfl) (@Aj _ _ _ _ _ _ _ _ Bj (pv 0) Ac) (by rfl) (by first | exact .inl rfl | exact .inr rfl | assumption))))) (@Ag _ _ _ (@An _ _ _ _ (pv 1))))),?_⟩
 and_intros
 refine ED (fun σ' H'=>∃x k:Int,σ'=[some (.int x),some (.int k)]/\H'=H/\0<=x/\x < 4096/\k+bc 12 x=bc 12 m) (fun σ' _=>match σ' with | [some (.int x),_]=>x.toNat | _=>0) ⟨m,0,rfl,rfl,m0,m1,Int.zero_add _⟩ ?_ FP
 rintro σ1 H1 ⟨x,k,rfl,rfl,x0,x1,e⟩
 and_intros
 by_cases c:0 < x
 ·refine ifT (decide_eq_true c) ?_
  and_intros
  have e2:x.fmod 2=x % 2:=Int.fmod_eq_emod_of_nonneg x (by decide)
  have e3:x.fdiv 2=x / 2:=Int.fdiv_eq_ediv_of_nonneg x (by decide)
  have st:bc 12 x=x % 2+bc 12 (x / 2):=by
   show x % 2+bc 11 (x / 2)=_
   rw [Me 11 (by omega) (by show x / 2 < 2048;omega)]
  refine ⟨⟨x.fdiv 2,k+x.fmod 2,rfl,rfl,by omega,by omega,by rw [e2,e3];omega⟩,?_⟩
  show (x.fdiv 2).toNat < x.toNat
  omega
 ·refine ifF (decide_eq_false c) ?_
  and_intros
  have z:x=0:=by omega
  rw [z,ON,Int.add_zero] at e
  rw [e,<- Pa]
  exact q
theorem L0 (T:Tx K mg ad):A8 P w K mg base CX0 1 ad.f_law_due ad.d_law_due ["_law_sums","_law_standing","_law_places","_law_quota","_law_lots_here"] QW:=by
 refine T.F_law_due.ok BS (fun vs H Q E h=>?_) (fun cdv A outer s H vs Q E hr h=>?_)
 ·obtain ⟨l,lo,h,xs,m,qu,pl,fs,su,rfl,_⟩:=h
  rfl
 obtain ⟨l,lo,h,xs,m,qu,pl,fs,su,rfl,sg,sul,hlo,px,h12,m0,m1,szq,q⟩:=h
 refine ⟨_,(@Ae _ _ _ _ _ (GC (j:=5) (fsc:=Ah FE) (N:=["_law_sums","_law_standing","_law_places","_law_quota","_law_lots_here","_law_some","_law_most","_law_fewest","_law_hand"]) (Nc:=["_law_sums","_law_standing","_law_places","_law_quota","_law_lots_here","_law_some","_law_most","_law_fewest",".s8","_law_hand"]) rfl rfl ⟨rfl,by decide +kernel,by decide +kernel,rfl,by decide +kernel,rfl,by decide +kernel,rfl,by decide +kernel⟩ rfl BS.nd rfl rfl (Bd (pv 4)) (fun _ _ _ _=>(IY (@Ax _ _ _ _ _ _ _ _ BX (@Aj _ _ _ _ _ _ _ _ Da (@Aj _ _ _ _ _ _ _ _ Hx (pv 1) (pv 9)) Ac) Ac (Ay _)))) (fun _ _ _ _=>(pv 9)) rfl) (@Ae _ _ _ _ _ (@AB _ _ _ _ _ _ _ _ (@Ax _ _ _ _ _ _ _ _ GL (@Aq _ _ _ _ _ _ _ _ _ At (by rfl) T.z_len PySem.boot_len (@Aa _ _ _ _ _ (pv 5) Ad (by rfl)) (by decide) (by decide) (by rfl) (by rfl)) (pv 2) (Ay _)) (@Ag _ _ _ (@An _ _ _ _ (@A2 _ _ _ _ _ (@Aa _ _ _ _ _ C4 (@Aa _ _ _ _ _ D4 Ad (by rfl)) (by rfl))))) Av) (@Ae _ _ _ _ _ (@AB _ _ _ _ _ _ _ _ (@Ax _ _ _ _ _ _ _ _ BX (pv 2) Ac (Ay _)) (@Ag _ _ _ (@An _ _ _ _ (@A2 _ _ _ _ _ (@Aa _ _ _ _ _ C4 (@Aa _ _ _ _ _ D4 Ad (by rfl)) (by rfl))))) Av) (@Ae _ _ _ _ _ (@Am _ _ (6) _ _ _ _ BS.nd rfl (Or.inl rfl) (@Ai _ _ _ _ _ _ _ Au (pv 5) Ac (fun _ _=>rfl)) (by rfl) (by first | exact .inl rfl | exact .inr rfl | assumption)) (@Ae _ _ _ _ _ (@Am _ _ (7) _ _ _ _ BS.nd rfl (Or.inl rfl) (@Ai _ _ _ _ _ _ _ Au (pv 5) Ac (fun _ _=>rfl)) (by rfl) (by first | exact .inl rfl | exact .inr rfl | assumption)) (@Ae _ _ _ _ _ (By PassesOwn.never rfl (Bd (pv 5)) (AD (i:=8) BS.nd rfl (Or.inl rfl)) (@Ae _ _ _ _ _ (@AB _ _ _ _ _ _ _ _ (@Ax _ _ _ _ _ _ _ _ FZ (@Aj _ _ _ _ _ _ _ _ A3 (@Ai _ _ _ _ _ _ _ Al (@Ai _ _ _ _ _ _ _ Au (pv 0) (pv 8) (fun _ _=>rfl)) Ac (fun _ _=>rfl)) (@Ai _ _ _ _ _ _ _ Al (@Ai _ _ _ _ _ _ _ Au (pv 0) (pv 6) (fun _ _=>rfl)) Ac (fun _ _=>rfl))) (@Aj _ _ _ _ _ _ _ _ A3 (@Ai _ _ _ _ _ _ _ Al (@Ai _ _ _ _ _ _ _ Au (pv 0) (pv 6) (fun _ _=>rfl)) Ac (fun _ _=>rfl)) (@Ai _ _ _ _ _ _ _ Al (@Ai _ _ _ _ _ _ _ Au (pv 0) (pv 8) (fun _ _=>rfl)) Ac (fun _ _=>rfl))) (Ay _)) (@Ag _ _ _ (@Am _ _ (6) _ _ _ _ BS.nd rfl (Or.inl rfl) (pv 8) (by rfl) (by first | exact .inl rfl | exact .inr rfl | assumption))) Av) (@Ag _ _ _ (@AB _ _ _ _ _ _ _ _ (@Ax _ _ _ _ _ _ _ _ GL (@Aj _ _ _ _ _ _ _ _ A3 (@Ai _ _ _ _ _ _ _ Al (@Ai _ _ _ _ _ _ _ Au (pv 0) (pv 8) (fun _ _=>rfl)) Ac (fun _ _=>rfl)) (@Ai _ _ _ _ _ _ _ Al (@Ai _ _ _ _ _ _ _ Au (pv 0) (pv 7) (fun _ _=>rfl)) Ac (fun _ _=>rfl))) (@Aj _ _ _ _ _ _ _ _ A3 (@Ai _ _ _ _ _ _ _ Al (@Ai _ _ _ _ _ _ _ Au (pv 0) (pv 7) (fun _ _=>rfl)) Ac (fun _ _=>rfl)) (@Ai _ _ _ _ _ _ _ Al (@Ai _ _ _ _ _ _ _ Au (pv 0) (pv 8) (fun _ _=>rfl)) Ac (fun _ _=>rfl))) (Ay _)) (@Ag _ _ _ (@Am _ _ (7) _ _ _ _ BS.nd rfl (Or.inl rfl) (pv 8) (by rfl) (by first | exact .inl rfl | exact .inr rfl | assumption))) Av)))) (@Ae _ _ _ _ _ (@AB _ _ _ _ _ _ _ _ (@Ax _ _ _ _ _ _ _ _ SK (@Ai _ _ _ _ _ _ _ Al (@Ai _ _ _ _ _ _ _ Au (pv 0) (pv 6) (fun _ _=>rfl)) Ac (fun _ _=>rfl)) (@Aj _ _ _ _ _ _ _ _ A3 (pv 3) (@Ai _ _ _ _ _ _ _ Al (@Ai _ _ _ _ _ _ _ Au (pv 0) (pv 6) (fun _ _=>rfl)) Ac (fun _ _=>rfl))) (Ay _)) (@Ag _ _ _ (@An _ _ _ _ (@A2 _ _ _ _ _ (@Aa _ _ _ _ _ C4 (@Aa _ _ _ _ _ (pv 6) Ad (by rfl)) (by rfl))))) Av) (@Ag _ _ _ (@An _ _ _ _ (@A2 _ _ _ _ _ (@Aa _ _ _ _ _ C4 (@Aa _ _ _ _ _ (pv 7) Ad (by rfl)) (by rfl)))))))))))),?_⟩
 have hx:∀x∈xs,0<=x/\x.toNat < su.length:=fun x k=>by
  have:=Fj.mp (px.mem_iff.mp k)
  omega
 have xl:(xs.map V.int).length=h:=by rw [length_map,px.length_eq,Jc]
 subst_eqs
 refine ⟨⟨_,SqL.of hlo⟩,?_⟩
 refine Bk (xs:=xs.map V.int) (by rw [xl];exact AL (by omega)) (fun D i ys J=>ys=(A6 (xs.take i) m).map V.int/\J=upd H D (.lst ys)) (fun D hD=>⟨rfl,rfl⟩) (fun D i ys J hq_=>by obtain ⟨f1,f2⟩:=hq_;exact ⟨by rw [f2];exact Ab,by rw [f1,length_map];exact Nat.le_trans (length_filter_le ..) (length_take_le _ _)⟩) (fun D i ys J hD hq_=>by obtain ⟨_,f2⟩:=hq_;rw [f2];exact SqL.of (Af hD _ _ _ hlo)) ?_ ?_
 ·rintro D i y ys J K1 K2 hD hy ⟨e,rfl⟩ kk1 kk2
  obtain ⟨x,hx',rfl⟩:=C2 hy
  have tk:A6 (xs.take (i+1)) m=A6 (xs.take i) m++(if bit m x.toNat=true then [x] else []):=by
   unfold A6
   rw [take_add_one,hx',filter_append]
   show _++List.filter _ [x]=_
   rw [filter_cons]
   rfl
  have x0:=(hx x (mem_of_getElem? hx')).1
  refine ⟨_,rfl,_,rfl,_,_,rfl,rfl,x0,_,_,rfl,rfl,rfl,_,rfl,?_⟩
  dsimp only
  rw [show decide (V.int (Builtin.bitAnd (m / 2 ^ x.toNat) 1)=V.int 1)=bit m x.toNat from Dh ..]
  cases b:bit m x.toNat with
  | true =>
    rw [b,if_pos rfl] at tk
    refine Qr ⟨_,rfl,kk1 _ _ Ab ⟨?_,by rw [CZ]⟩⟩
    rw [tk,map_append,e]
    rfl
  | false =>
    rw [b,if_neg (by decide),append_nil] at tk
    exact Ri (kk2 _ ⟨by rw [tk];exact e,rfl⟩)
 rintro D ys J hD ⟨rfl,rfl⟩
 rw [length_map,take_of_length_le (Nat.le_refl _)]
 have s1:=Af hD (.lst ((A6 xs m).map V.int))
 have e1:(upd H D (.lst ((A6 xs m).map V.int))) D=some (.lst ((A6 xs m).map V.int)):=Ab
 generalize upd H D (.lst ((A6 xs m).map V.int))=H1 at s1 e1 ⊢
 have ll:=PC px h12 m0 m1
 have bl:((A6 xs m).map V.int).length=(hands 12 (bit m)).length:=by rw [length_map,ll]
 have zin:∀x∈A6 xs m,0<=x/\x.toNat < su.length:=fun x k=>hx x (mem_filter.mp k).1
 unfold Db at q
 subst_eqs
 by_cases c1:(hands 12 (bit m)).length<=pl
 ·rw [if_pos c1] at q
  refine ifT (decide_eq_true (by omega)) ?_
  subst_eqs
  refine ⟨(by show 2<=sizeLine;decide),fun t ht=>?_⟩
  exact q t _ (s1.trans (Af ht _)) Ab
 rw [if_neg c1] at q
 refine ifF (decide_eq_false (by omega)) ?_
 subst_eqs
 by_cases c2:pl=0
 ·rw [if_pos c2] at q
  refine ifT (KY (by omega)) ?_
  subst_eqs
  refine ⟨(by show 2<=sizeLine;decide),fun t ht=>?_⟩
  exact q t _ (s1.trans (Af ht _)) Ab
 rw [if_neg c2] at q
 refine ifF (KZ (by omega)) ?_
 have ne:A6 xs m≠[]:=fun e=>by rw [e] at ll;have:(0:Nat)=(hands 12 (bit m)).length:=ll;omega
 generalize A6 xs m=zs at ne e1 zin q
 obtain ⟨z0,zt,rfl⟩:∃a b,zs=a :: b:=by cases zs with | nil=>exact absurd rfl ne | cons a b=>exact ⟨a,b,rfl⟩
 subst_eqs
 refine ⟨D,_,_,_,rfl,rfl,SqL.of e1,(atN (i:=0) rfl:atI ((z0 :: zt).map V.int) ((0:Nat):Int)=some (.int z0)),?_⟩
 subst_eqs
 refine ⟨D,_,_,_,rfl,rfl,SqL.of e1,(atN (i:=0) rfl:atI ((z0 :: zt).map V.int) ((0:Nat):Int)=some (.int z0)),?_⟩
 subst_eqs
 refine ⟨⟨_,SqL.of e1⟩,Dl (xs:=(z0 :: zt).map V.int) (fun i σ' J=>∃(b c:Int) (v8:Option V),σ'=[some (.ref l),some (.int m),some (.int (pl:Int)),some (.int qu),some (.ref lo),some (.ref D),some (.int b),some (.int c),v8]/\H1=J/\b∈z0 :: zt/\b=((z0 :: zt).take i).foldl (fun b x=>if at0 su b < at0 su x then x else b) z0/\c∈z0 :: zt/\c=((z0 :: zt).take i).foldl (fun b x=>if at0 su b < at0 su x then b else x) z0) ⟨z0,z0,none,rfl,rfl,mem_cons_self ..,rfl,mem_cons_self ..,rfl⟩ (fun i σ' J _ hq_=>by obtain ⟨_,_,_,_,e,_⟩:=hq_;rw [<- e];exact SqL.of e1) ?_ ?_⟩
 ·rintro i y σ' J hy ⟨b,c,v8,rfl,rfl,bm,be,cm,ce⟩
  obtain ⟨x,hx',rfl⟩:=C2 hy
  have xm:=mem_of_getElem? hx'
  obtain ⟨ab,a1,a2,a3,a4⟩:=(sg.same s1).at (zin b bm).1 (zin b bm).2
  obtain ⟨ac,c1,c2,c3,c4⟩:=(sg.same s1).at (zin c cm).1 (zin c cm).2
  obtain ⟨ax,b1,b2,b3,b4⟩:=(sg.same s1).at (zin x xm).1 (zin x xm).2
  have a2':H1 ab=some (.tup [.int (pr (at0 su b)).1,.int (pr (at0 su b)).2]):=a2
  have b2':H1 ax=some (.tup [.int (pr (at0 su x)).1,.int (pr (at0 su x)).2]):=b2
  have c2':H1 ac=some (.tup [.int (pr (at0 su c)).1,.int (pr (at0 su c)).2]):=c2
  have l1:=s1 _ _ sg.l
  have tk:((z0 :: zt).take (i+1)).foldl (fun b x=>if at0 su b < at0 su x then x else b) z0=if at0 su b < at0 su x then x else b:=by
   rw [take_add_one,hx',foldl_append,<- be]
   rfl
  have tk2:((z0 :: zt).take (i+1)).foldl (fun b x=>if at0 su b < at0 su x then b else x) z0=if at0 su c < at0 su x then c else x:=by
   rw [take_add_one,hx',foldl_append,<- ce]
   rfl
  subst_eqs
  refine ⟨l,_,_,_,rfl,rfl,SqL.of l1,b1,?_⟩
  subst_eqs
  refine ⟨l,_,_,_,rfl,rfl,SqL.of l1,a1,?_⟩
  subst_eqs
  refine ⟨l,_,_,_,rfl,rfl,SqL.of l1,a1,?_⟩
  subst_eqs
  refine ⟨l,_,_,_,rfl,rfl,SqL.of l1,b1,?_⟩
  subst_eqs
  have k1:=HB (at0 su b) (at0 su x)
  have k2:=Tb (at0 su x) (at0 su c)
  by_cases cb:at0 su b < at0 su x
  ·refine ifT (decide_eq_true (k1.mpr cb)) ?_
   rw [if_pos cb] at tk
   subst_eqs
   refine ⟨l,_,_,_,rfl,rfl,SqL.of l1,b1,?_⟩
   subst_eqs
   refine ⟨l,_,_,_,rfl,rfl,SqL.of l1,c1,?_⟩
   subst_eqs
   refine ⟨l,_,_,_,rfl,rfl,SqL.of l1,c1,?_⟩
   subst_eqs
   refine ⟨l,_,_,_,rfl,rfl,SqL.of l1,b1,?_⟩
   subst_eqs
   by_cases cc:at0 su c < at0 su x
   ·refine ifF (decide_eq_false (fun z=>k2.mp z cc)) ?_
    rw [if_pos cc] at tk2
    exact ⟨x,c,_,rfl,rfl,xm,tk.symm,cm,tk2.symm⟩
   ·refine ifT (decide_eq_true (k2.mpr cc)) ?_
    rw [if_neg cc] at tk2
    subst_eqs
    exact ⟨x,x,_,rfl,rfl,xm,tk.symm,xm,tk2.symm⟩
  ·refine ifF (decide_eq_false (fun z=>cb (k1.mp z))) ?_
   rw [if_neg cb] at tk
   subst_eqs
   refine ⟨l,_,_,_,rfl,rfl,SqL.of l1,b1,?_⟩
   subst_eqs
   refine ⟨l,_,_,_,rfl,rfl,SqL.of l1,c1,?_⟩
   subst_eqs
   refine ⟨l,_,_,_,rfl,rfl,SqL.of l1,c1,?_⟩
   subst_eqs
   refine ⟨l,_,_,_,rfl,rfl,SqL.of l1,b1,?_⟩
   subst_eqs
   by_cases cc:at0 su c < at0 su x
   ·refine ifF (decide_eq_false (fun z=>k2.mp z cc)) ?_
    rw [if_pos cc] at tk2
    exact ⟨b,c,_,rfl,rfl,bm,tk.symm,cm,tk2.symm⟩
   ·refine ifT (decide_eq_true (k2.mpr cc)) ?_
    rw [if_neg cc] at tk2
    subst_eqs
    exact ⟨b,x,_,rfl,rfl,bm,tk.symm,xm,tk2.symm⟩
 rintro σ' J ⟨b,c,v8,rfl,rfl,bm,be,cm,ce⟩
 rw [length_map,take_of_length_le (Nat.le_refl _)] at be ce
 have be':DG su (z0 :: zt)=b:=be.symm
 have ce':E4 su (z0 :: zt)=c:=ce.symm
 rw [be',ce'] at q
 obtain ⟨ab,a1,a2,a3,a4⟩:=(sg.same s1).at (zin b bm).1 (zin b bm).2
 have a2':H1 ab=some (.tup [.int (pr (at0 su b)).1,.int (pr (at0 su b)).2]):=a2
 have l1:=s1 _ _ sg.l
 have kq:=Tw (at0 su b) qu
 subst_eqs
 refine ⟨l,_,_,_,rfl,rfl,SqL.of l1,a1,?_⟩
 subst_eqs
 refine ⟨l,_,_,_,rfl,rfl,SqL.of l1,a1,?_⟩
 subst_eqs
 by_cases cq:at0 su b < (qu:Rat)
 ·rw [if_pos cq] at q
  refine ifF (decide_eq_false (fun z=>kq.mp z cq)) ?_
  subst_eqs
  refine ⟨(by show 2<=sizeLine;decide),fun t ht=>?_⟩
  refine q t _ (s1.trans (Af ht _)) ?_
  rw [Ab]
  show _=some (HO.tup [.str "out",.int ((c.toNat:Nat):Int)])
  rw [Int.toNat_of_nonneg (zin c cm).1]
 ·rw [if_neg cq] at q
  refine ifT (decide_eq_true (kq.mpr cq)) ?_
  subst_eqs
  refine ⟨(by show 2<=sizeLine;decide),fun t ht=>?_⟩
  refine q t _ (s1.trans (Af ht _)) ?_
  rw [Ab]
  show _=some (HO.tup [.str "seat",.int ((b.toNat:Nat):Int)])
  rw [Int.toNat_of_nonneg (zin b bm).1]
theorem Ho (T:Tx K mg ad):A8 P w K mg base CX0 1 ad.f_Seats_quota ad.d_Seats_quota ["self","ballots"] (Q8 ad.c_Seats):=by
 refine T.F_Seats_quota.ok Hl (fun vs H Q E h=>?_) (fun cdv A outer s H vs Q E hr h=>?_)
 ·obtain ⟨a,h,s,xs,n,rfl,_⟩:=h
  rfl
 obtain ⟨a,h,s,xs,n,rfl,is,s1,s6,q⟩:=h
 refine ⟨_,(@Ag _ _ _ (@An _ _ _ _ (@Aj _ _ _ _ _ _ _ _ AS (@Aj _ _ _ _ _ _ _ _ Bj (pv 1) (@Aj _ _ _ _ _ _ _ _ AS (F1 (pv 0) rfl) Ac)) Ac))),?_⟩
 obtain ⟨dx,l,k1,k2⟩:=is
 and_intros
 refine ⟨a,_,dx,_,_,rfl,k1,T.cl_Seats,T.na_Seats_seats,rfl,?_⟩
 and_intros
 refine ⟨⟨by omega,(show Sz 64 (s+1) from AK (by omega) (by omega)).mono (by decide)⟩,?_⟩
 and_intros
 exact q
theorem Mn (T:Tx K mg ad):A8 P w K mg base CX0 2 ad.f_size ad.d_size ["mask"] OS:=by
 refine T.F_size.ok Qi (fun vs H Q E h=>?_) (fun cdv A outer s H vs Q E hr h=>?_)
 ·obtain ⟨m,rfl,_⟩:=h
  rfl
 obtain ⟨m,rfl,m0,m1,q⟩:=h
 refine ⟨_,(@Ag _ _ _ (@An _ _ _ _ (@Aq _ _ _ _ _ _ _ _ _ At (by rfl) T.z_len PySem.boot_len (@Aa _ _ _ _ _ (@Ak _ _ _ _ _ _ _ _ _ _ _ _ _ _ _ _ (Hh T) (hr.mono (by decide)) rfl T.m_members T.F_members.kp T.b_members .nil As (@Aa _ _ _ _ _ (pv 0) Ad (by rfl)) (by decide) (by rfl) (by rfl)) Ad (by rfl)) (by decide) (by decide) (by rfl) (by rfl)))),?_⟩
 and_intros
 refine ⟨m0,m1,fun p H' hp s e=>?_⟩
 and_intros
 rw [length_map]
 exact q H' s
theorem CQ (T:Tx K mg ad):A8 P w K mg base CX0 2 ad.f_fraction ad.d_fraction ["top","bottom"] OV:=by
 refine T.F_fraction.ok DK (fun vs H Q E h=>?_) (fun cdv A outer s H vs Q E hr h=>?_)
 ·obtain ⟨t,b,rfl,_⟩:=h
  rfl
 obtain ⟨t,b,rfl,b0,szt,szb,q⟩:=h
 refine ⟨_,(@Ae _ _ _ _ _ (@AB _ _ _ _ _ _ _ _ (PW.pt (@Cn _ _ _ _ _ _ _ (@AQ _ _ _ _ (@AH _ _ _ (@Ak _ _ _ _ _ _ _ _ _ _ _ _ _ _ _ _ (Cz T) (hr.mono (by decide)) rfl T.m_is_whole T.F_is_whole.kp T.b_is_whole .nil As (@Aa _ _ _ _ _ (pv 0) Ad (by rfl)) (by decide) (by rfl) (by rfl)) (by intro _;rfl))) (@Cc _ _ _ _ (@AQ _ _ _ _ (@AH _ _ _ (@Ak _ _ _ _ _ _ _ _ _ _ _ _ _ _ _ _ (Cz T) (hr.mono (by decide)) rfl T.m_is_whole T.F_is_whole.kp T.b_is_whole .nil As (@Aa _ _ _ _ _ (pv 1) Ad (by rfl)) (by decide) (by rfl) (by rfl)) (by intro _;rfl)))))) (@Ag _ _ _ DW) Av) (@Ae _ _ _ _ _ (@AB _ _ _ _ _ _ _ _ (@Ax _ _ _ _ _ _ _ _ BX (pv 1) Ac (Ay _)) (@Ag _ _ _ DW) Av) (@Ae _ _ _ _ _ (@Am _ _ (2) _ _ _ _ DK.nd rfl (Or.inl rfl) (@Ak _ _ _ _ _ _ _ _ _ _ _ _ _ _ _ _ (E3 T) (hr.mono (by decide)) rfl T.m_divisor T.F_divisor.kp T.b_divisor .nil As (@Aa _ _ _ _ _ (pv 0) (@Aa _ _ _ _ _ (pv 1) Ad (by rfl)) (by rfl)) (by decide) (by rfl) (by rfl)) (by rfl) (by first | exact .inl rfl | exact .inr rfl | assumption)) (@Ae _ _ _ _ _ (@Ft _ _ _ _ _ _ _ _ (@Ax _ _ _ _ _ _ _ _ MU (pv 1) Ac (Ay _)) (@Ag _ _ _ (@Am _ _ (2) _ _ _ _ DK.nd rfl (Or.inl rfl) (@Rn _ _ _ _ _ _ Ss (pv 2)) (by rfl) (by first | exact .inl rfl | exact .inr rfl | assumption))) Av) (@Ag _ _ _ (@An _ _ _ _ (@A2 _ _ _ _ _ (@Aa _ _ _ _ _ (@Aj _ _ _ _ _ _ _ _ EV (pv 0) (pv 2)) (@Aa _ _ _ _ _ (@Aj _ _ _ _ _ _ _ _ EV (pv 1) (pv 2)) Ad (by rfl)) (by rfl))))))))),?_⟩
 refine ⟨_,rfl,_,rfl,_,rfl,?_⟩
 refine Ri ?_
 refine ⟨_,rfl,_,rfl,_,rfl,?_⟩
 refine Ri ?_
 refine ⟨_,rfl,rfl,_,rfl,?_⟩
 refine OI (fun c=>absurd (V.int.inj (of_decide_eq_true c)) b0) (fun _=>?_)
 refine ⟨_,rfl,_,rfl,t,b,rfl,?_⟩
 refine ⟨fun σ' H'=>σ'=[some (.int t),some (.int b),some (.int (Dr t b))]/\H'=H,?_,?_⟩
 ·refine ⟨_,rfl,_,_,rfl,rfl,_,rfl,?_⟩
  refine OI (fun c=>?_) (fun c=>?_)
  ·have c':b < 0:=of_decide_eq_true c
   refine ⟨_,rfl,_,rfl,?_⟩
   refine ⟨?_,rfl⟩
   show [some (V.int t),some (V.int b),some (V.int (-(A7 t b)))]=[some (V.int t),some (V.int b),some (V.int (Dr t b))]
   unfold Dr
   rw [if_pos c']
  ·have c':¬ b < 0:=fun e=>c (decide_eq_true e)
   refine ⟨?_,rfl⟩
   show [some (V.int t),some (V.int b),some (V.int (A7 t b))]=[some (V.int t),some (V.int b),some (V.int (Dr t b))]
   unfold Dr
   rw [if_neg c']
 rintro σ' H' ⟨rfl,rfl⟩
 have ne:=Mh (t:=t) b0
 refine ⟨_,rfl,_,rfl,_,_,rfl,rfl,⟨ne,szt⟩,_,rfl,_,rfl,_,_,rfl,rfl,⟨ne,szb⟩,(by show 2<=sizeLine;decide),fun r hr'=>?_⟩
 exact q r _ (Af hr' _) Ab
theorem ET (T:Tx K mg ad):A8 P w K mg base CX0 2 ad.f_even_part ad.d_even_part ["free","many"] (S4 4500):=by
 refine T.F_even_part.ok EM (fun vs H Q E h=>?_) (fun cdv A outer s H vs Q E hr h=>?_)
 ·obtain ⟨f,n,rfl,_⟩:=h
  rfl
 obtain ⟨f,n,rfl,gf,fb,n1,n12,q⟩:=h
 refine ⟨_,(@Ae _ _ _ _ _ (@Am _ _ (2) _ _ _ _ EM.nd rfl (Or.inl rfl) (@Ak _ _ _ _ _ _ _ _ _ _ _ _ _ _ _ _ (E3 T) (hr.mono (by decide)) rfl T.m_divisor T.F_divisor.kp T.b_divisor .nil As (@Aa _ _ _ _ _ (@Ai _ _ _ _ _ _ _ Al (pv 0) Ac (fun _ _=>rfl)) (@Aa _ _ _ _ _ (pv 1) Ad (by rfl)) (by rfl)) (by decide) (by rfl) (by rfl)) (by rfl) (by first | exact .inl rfl | exact .inr rfl | assumption)) (@Ag _ _ _ (@An _ _ _ _ (@A2 _ _ _ _ _ (@Aa _ _ _ _ _ (@Aj _ _ _ _ _ _ _ _ Bj (@Ai _ _ _ _ _ _ _ Al (pv 0) Ac (fun _ _=>rfl)) (pv 2)) (@Aa _ _ _ _ _ (@Aj _ _ _ _ _ _ _ _ A3 (@Ai _ _ _ _ _ _ _ Al (pv 0) Ac (fun _ _=>rfl)) (@Aj _ _ _ _ _ _ _ _ Bj (pv 1) (pv 2))) Ad (by rfl)) (by rfl)))))),?_⟩
 have szt:=fb.szt
 have szb:=fb.szb
 have g0:A7 f.2.1 (n:Int)≠0:=by
  unfold A7
  have:0 < Int.gcd f.2.1 (n:Int):=Int.gcd_pos_of_ne_zero_right _ (by omega)
  omega
 have gz:Sz 60 (A7 f.2.1 (n:Int)):=by
  show ((Int.gcd f.2.1 (n:Int):Nat):Int).natAbs < _
  rw [Int.natAbs_natCast]
  have:Int.gcd f.2.1 (n:Int)<=n:=Nat.gcd_le_right _ (by show 0 < (n:Int).natAbs;omega)
  exact Nat.lt_of_le_of_lt this (Nat.lt_of_le_of_lt n12 (by decide))
 have nz:Sz 60 ((n:Int).fdiv (A7 f.2.1 (n:Int))):=(show Sz 60 (n:Int) from AK (by omega) (by omega)).fdiv
 have gf':H f.1=some (.tup [.int f.2.1,.int f.2.2]):=gf
 and_intros
 refine ⟨_,_,rfl,?_⟩
 and_intros
 refine ⟨⟨g0,gz.mono (by decide)⟩,?_⟩
 and_intros
 refine ⟨⟨g0,gz.mono (by decide)⟩,?_⟩
 and_intros
 refine ⟨(by show 2<=sizeLine;decide),fun T hT=>?_⟩
 exact q T _ hT (Af hT _) Ab
theorem F8 (T:Tx K mg ad):A8 P w K mg base CX0 2 ad.f_common_bottom ad.d_common_bottom ["bottoms"] N8:=by
 refine T.F_common_bottom.ok BG (fun vs H Q E h=>?_) (fun cdv A outer s H vs Q E hr h=>?_)
 ·obtain ⟨d,ps,M,rfl,_⟩:=h
  rfl
 obtain ⟨d,ps,M,rfl,hd,tb,M0,Mz,l60,q⟩:=h
 refine ⟨_,(@Ae _ _ _ _ _ (@Am _ _ (1) _ _ _ _ BG.nd rfl (Or.inl rfl) Ac (by rfl) (by first | exact .inl rfl | exact .inr rfl | assumption)) (@Ae _ _ _ _ _ (By PassesOwn.never rfl (Bd (O9 rfl (by rfl) T.z_sorted (pv 0))) (AD (i:=2) BG.nd rfl (Or.inl rfl)) (@Ag _ _ _ (@AB _ _ _ _ _ _ _ _ (@Ax _ _ _ _ _ _ _ _ Er (@Aj _ _ _ _ _ _ _ _ AN (pv 1) (pv 2)) Ac (Ay _)) (@Ag _ _ _ (@Am _ _ (1) _ _ _ _ BG.nd rfl (Or.inl rfl) (@Aj _ _ _ _ _ _ _ _ A3 (pv 1) (@Aj _ _ _ _ _ _ _ _ Bj (pv 2) (@Ak _ _ _ _ _ _ _ _ _ _ _ _ _ _ _ _ (E3 T) (hr.mono (by decide)) rfl T.m_divisor T.F_divisor.kp T.b_divisor .nil As (@Aa _ _ _ _ _ (pv 1) (@Aa _ _ _ _ _ (pv 2) Ad (by rfl)) (by rfl)) (by decide) (by rfl) (by rfl)))) (by rfl) (by first | exact .inl rfl | exact .inr rfl | assumption))) Av))) (@Ag _ _ _ (@An _ _ _ _ (pv 1))))),?_⟩
 and_intros
 refine ⟨d,Df ps,ps.map (·.1),rfl,.inl hd,(by unfold Df;rw [map_map,map_map];rfl),(by rw [length_map];omega),fun l ms pm _ hl=>?_⟩
 have s1:=Af hl (.lst (ms.map V.int))
 have e1:(upd H l (.lst (ms.map V.int))) l=some (.lst (ms.map V.int)):=Ab
 generalize upd H l (.lst (ms.map V.int))=H1 at s1 e1 ⊢
 have inm:∀b∈ms,∃q∈ps,q.1=b:=fun b k=>by
  obtain ⟨q,qm,e⟩:=mem_map.mp (pm.mem_iff.mp k)
  exact ⟨q,qm,e⟩
 have ml:ms.length<=60:=by rw [pm.length_eq,length_map];exact l60
 refine ⟨l,rfl,⟨_,SqL.of e1⟩,Dl (xs:=ms.map V.int) (fun i σ' J=>∃(c:Int) (v2:Option V),σ'=[some (.ref d),some (.int c),v2]/\J=H1/\0 < c/\(∀b∈ms.take i,b ∣ c)/\c ∣ M) ⟨1,none,rfl,rfl,(by decide),(fun _ m=>absurd m List.not_mem_nil),Int.one_dvd M⟩ (fun i σ' J _ hq_=>by obtain ⟨_,_,_,e,_⟩:=hq_;rw [e];exact SqL.of e1) ?_ ?_⟩
 ·rintro i x σ' J hx ⟨c,v2,rfl,rfl,c0,cd,csz⟩
  obtain ⟨b,hb,rfl⟩:=C2 hx
  have il:=(List.getElem?_eq_some_iff.mp hb).1
  obtain ⟨q0,qm,e⟩:=inm b (mem_of_getElem? hb)
  have b0:0 < b:=by rw [<- e];exact (tb q0 qm).1
  have bM:b ∣ M:=by rw [<- e];exact (tb q0 qm).2
  have bsz:Sz 4500 b:=DA bM M0 Mz
  have csz':Sz 6100 c:=(DA csz M0 Mz).mono (by decide)
  have tk:ms.take (i+1)=ms.take i++[b]:=by rw [take_add_one,hb];rfl
  obtain ⟨d1,d2,d3⟩:=Nn c0 b0
  have st:∀(v:Option V),[some (V.ref d),some (.int (CH c b)),some (.int b)]=[some (V.ref d),some (.int (CH c b)),some (.int b)]/\J=J/\0 < CH c b/\(∀y∈ms.take (i+1),y ∣ CH c b)/\CH c b ∣ M:=fun _=>⟨rfl,rfl,d3,(fun y k=>by
   rw [tk] at k
   rcases mem_append.mp k with k | k
   ·exact Int.dvd_trans (cd y k) d1
   ·rw [mem_singleton.mp k];exact d2),Qm c0 b0 csz bM⟩
  and_intros
  refine ⟨(by show (_:Int)≠0;omega),?_⟩
  and_intros
  by_cases c2:c.fmod b=0
  ·refine ifF (LL c2) ?_
   have e2:CH c b=c:=by unfold CH;rw [if_neg (fun h=>h c2)]
   obtain ⟨_,_,k3,k4,k5⟩:=st none
   rw [e2] at k3 k4 k5
   exact ⟨c,_,rfl,rfl,k3,k4,k5⟩
  ·refine ifT (Ra c2) ?_
   have e2:CH c b=c*b.fdiv (A7 c b):=by unfold CH;rw [if_pos c2]
   have g0:A7 c b≠0:=by
    unfold A7
    have:0 < Int.gcd c b:=Int.gcd_pos_of_ne_zero_left _ (Int.ne_of_gt c0)
    omega
   have gz:Sz 4500 (A7 c b):=by
    show ((Int.gcd c b:Nat):Int).natAbs < _
    rw [Int.natAbs_natCast]
    exact Nat.lt_of_le_of_lt (Nat.gcd_le_right _ (by omega)) bsz
   have bz:Sz 4500 (b.fdiv (A7 c b)):=bsz.fdiv
   and_intros
   refine ⟨c,b,rfl,?_⟩
   and_intros
   refine ⟨⟨g0,gz.mono (by decide)⟩,?_⟩
   obtain ⟨_,_,k3,k4,k5⟩:=st none
   rw [e2] at k3 k4 k5
   and_intros
   exact ⟨k3,k4,k5⟩
 rintro σ' J ⟨c,v2,rfl,rfl,c0,cd,csz⟩
 rw [length_map] at cd
 rw [take_of_length_le (Nat.le_refl _)] at cd
 refine ⟨_,rfl,q c J s1 c0 (fun q0 k=>cd q0.1 (pm.mem_iff.mpr (mem_map.mpr ⟨q0,k,rfl⟩))) csz⟩
theorem IO (T:Tx K mg ad):A8 P w K mg base CX0 2 ad.f_are_hands ad.d_are_hands ["thing"] Rb:=by
 refine T.F_are_hands.ok IV (fun vs H Q E h=>?_) (fun cdv A outer s H vs Q E hr h=>?_)
 ·obtain ⟨n,rfl,_⟩:=h
  rfl
 obtain ⟨n,rfl,n0,n1,q⟩:=h
 refine ⟨_,(@Ag _ _ _ (@An _ _ _ _ (@E1 _ _ _ _ _ _ _ (@Ak _ _ _ _ _ _ _ _ _ _ _ _ _ _ _ _ (Cz T) (hr.mono (by decide)) rfl T.m_is_whole T.F_is_whole.kp T.b_is_whole .nil As (@Aa _ _ _ _ _ (pv 0) Ad (by rfl)) (by decide) (by rfl) (by rfl)) (@DM _ _ _ _ _ (Ki GL GL Ac (pv 0) (Jw (v:=.int 12) rfl T.k_MOST_HANDS ⟨_,rfl⟩)))))),?_⟩
 refine ⟨_,rfl,n,rfl,?_⟩
 and_intros
 refine ifT (decide_eq_true n0) ?_
 and_intros
 show Q (.bl (decide (n<=12))) H
 rw [decide_eq_true n1]
 exact q
theorem Ju (T:Tx K mg ad):A8 P w K mg base CX0 2 ad.f_are_seats ad.d_are_seats ["thing"] Q7:=by
 refine T.F_are_seats.ok JB (fun vs H Q E h=>?_) (fun cdv A outer s H vs Q E hr h=>?_)
 ·obtain ⟨n,rfl,_⟩:=h
  rfl
 obtain ⟨n,rfl,n0,n1,q⟩:=h
 refine ⟨_,(@Ag _ _ _ (@An _ _ _ _ (@E1 _ _ _ _ _ _ _ (@Ak _ _ _ _ _ _ _ _ _ _ _ _ _ _ _ _ (Cz T) (hr.mono (by decide)) rfl T.m_is_whole T.F_is_whole.kp T.b_is_whole .nil As (@Aa _ _ _ _ _ (pv 0) Ad (by rfl)) (by decide) (by rfl) (by rfl)) (@DM _ _ _ _ _ (Ki GL GL Ac (pv 0) (Jw (v:=.int 60) rfl T.k_MOST_SEATS ⟨_,rfl⟩)))))),?_⟩
 refine ⟨_,rfl,n,rfl,?_⟩
 and_intros
 refine ifT (decide_eq_true n0) ?_
 and_intros
 show Q (.bl (decide (n<=60))) H
 rw [decide_eq_true n1]
 exact q
theorem Kk (T:Tx K mg ad):A8 P w K mg base CX0 2 ad.f_are_lots ad.d_are_lots ["thing","hands"] (Sv K):=by
 refine T.F_are_lots.ok K9 (fun vs H Q E h=>?_) (fun cdv A outer s H vs Q E hr h=>?_)
 ·obtain ⟨l,ns,n,rfl,_⟩:=h
  rfl
 obtain ⟨l,ns,n,rfl,hl,pm,n12,q⟩:=h
 refine ⟨_,(@Ae _ _ _ _ _ (@AB _ _ _ _ _ _ _ _ (@AQ _ _ _ _ (@AH _ _ _ (@Aq _ _ _ _ _ _ _ _ _ Bx (by rfl) T.z_isinstance PyProof.Rows.boot_isinstance (@Aa _ _ _ _ _ (pv 0) (@Aa _ _ _ _ _ (BH (v:=.ty "list") rfl T.z_list PyProof.Rows.boot_list rfl) Ad (by rfl)) (by rfl)) (by decide) (by decide) (by rfl) (by rfl)) (by intro _;rfl))) (@Ag _ _ _ (@An _ _ _ _ Cm)) Av) (@Ag _ _ _ (@An _ _ _ _ (@E1 _ _ _ _ _ _ _ (@Aq _ _ _ _ _ _ _ _ _ (P1 rfl) (by rfl) T.z_all PyProof.Rows.boot_all (@Aa _ _ _ _ _ (C7 (fsc:=Ah Es) (N:=["thing","hands"]) (Nc:=["thing","hands","hand"]) rfl rfl ⟨rfl,by decide +kernel,by decide +kernel,rfl,by decide +kernel,rfl,by decide +kernel,rfl,by decide +kernel⟩ rfl (Bd (pv 0)) (fun _ _ _ _=>Bg) (fun _ _ _ _=>(@Ak _ _ _ _ _ _ _ _ _ _ _ _ _ _ _ _ (Cz T) (hr.mono (by decide)) rfl T.m_is_whole T.F_is_whole.kp T.b_is_whole .nil As (@Aa _ _ _ _ _ (pv 2) Ad (by rfl)) (by decide) (by rfl) (by rfl)))) Ad (by rfl)) (by decide) (by decide) (by rfl) (by rfl)) (@DM _ _ _ _ _ (@BP _ _ _ _ _ _ _ _ (Fs (K:=K) hr.units) (@Aq _ _ _ _ _ _ _ _ _ Jt (by rfl) T.z_sorted PyProof.Rows.boot_sorted (@Aa _ _ _ _ _ (pv 0) Ad (by rfl)) (by decide) (by decide) (by rfl) (by rfl)) (C8 rfl (by rfl) T.z_list (by rfl) T.z_range (pv 1)) (Ay _))))))),?_⟩
 have nl:ns.length=n:=by rw [pm.length_eq,Jc]
 refine ⟨_,rfl,_,_,_,_,rfl,BO.lst hl,BN,?_⟩
 and_intros
 refine ⟨⟨_,SqL.of hl⟩,?_⟩
 refine Bk (xs:=ns.map V.int) (by rw [length_map];exact AL (by omega)) (fun D i ys H'=>ys=(List.replicate i true).map V.bl/\H'=upd H D (.lst ys)) (fun D hD=>⟨rfl,rfl⟩) (fun D i ys H' hq_=>by obtain ⟨f1,f2⟩:=hq_;exact ⟨by rw [f2];exact Ab,by rw [f1,length_map,length_replicate];exact Nat.le_refl _⟩) (fun D i ys H' hD hq_=>by obtain ⟨_,f2⟩:=hq_;rw [f2];exact SqL.of (Af hD _ _ _ hl)) ?_ ?_
 ·rintro D i x ys H' K1 K2 hD hx ⟨f1,rfl⟩ k1 k2
  obtain ⟨z,hz,rfl⟩:=C2 hx
  refine yes (ifT rfl ?_)
  refine ⟨_,rfl,z,rfl,?_⟩
  refine k1 _ _ Ab ⟨?_,by rw [CZ]⟩
  rw [f1,replicate_succ',map_append]
  rfl
 ·rintro D ys H' hD ⟨rfl,rfl⟩
  refine ⟨D,_,rfl,SqL.of Ab,?_⟩
  rw [show (List.replicate (ns.map V.int).length true).all id=true from all_eq_true.mpr fun b m=>(mem_replicate.mp m).2]
  have s1:=Af hD (.lst ((List.replicate (ns.map V.int).length true).map V.bl))
  generalize upd H D (.lst ((List.replicate (ns.map V.int).length true).map V.bl))=H1 at s1 ⊢
  and_intros
  refine ⟨l,ns,rfl,SqL.of (s1 _ _ hl),by omega,fun a ms pa sa ha=>?_⟩
  have e:=Sl pa sa pm
  subst e
  have s2:=Af ha (.lst ((ups n).map V.int))
  have e2:(upd H1 a (.lst ((ups n).map V.int))) a=some (.lst ((ups n).map V.int)):=Ab
  generalize upd H1 a (.lst ((ups n).map V.int))=H2 at s2 e2 ⊢
  and_intros
  refine ⟨by omega,fun b hb=>?_⟩
  rw [<- R5]
  have s3:=Af hb (.lst ((ups n).map V.int))
  refine ⟨.list ((ups n).map .int),.list ((ups n).map .int),.lst (SqL.of (s3 _ _ e2)) (.ints _),.lst (SqL.of Ab) (.ints _),(D8 _).2,(D8 _).2,?_⟩
  rw [show PyData.eqv (.list ((ups n).map .int)) (.list ((ups n).map .int))=true from by show PyData.eqvAll _ _=true;rw [HA];exact decide_eq_true rfl]
  exact q _ ((s1.trans s2).trans s3)
theorem JL (T:Tx K mg ad):A8 P w K mg base CX0 2 ad.f_law_lots ad.d_law_lots ["_law_cell_here","_law_hands"] P8:=by
 refine T.F_law_lots.ok BE (fun vs H Q E h=>?_) (fun cdv A outer s H vs Q E hr h=>?_)
 ·obtain ⟨c,h,rfl,_⟩:=h
  rfl
 obtain ⟨c,h,rfl,szc,h1,h12,q⟩:=h
 refine ⟨_,(@Ae _ _ _ _ _ (@Am _ _ (2) _ _ _ _ BE.nd rfl (Or.inl rfl) (@Ak _ _ _ _ _ _ _ _ _ _ _ _ _ _ _ _ (Fn T) (hr.mono (by decide)) rfl T.m_law_mixed T.F_law_mixed.kp T.b_law_mixed .nil As (@Aa _ _ _ _ _ (pv 0) (@Aa _ _ _ _ _ Ac Ad (by rfl)) (by rfl)) (by decide) (by rfl) (by rfl)) (by rfl) (by first | exact .inl rfl | exact .inr rfl | assumption)) (@Ae _ _ _ _ _ (@Am _ _ (3) _ _ _ _ BE.nd rfl (Or.inl rfl) (C8 rfl (by rfl) T.z_list (by rfl) T.z_range (pv 1)) (by rfl) (by first | exact .inl rfl | exact .inr rfl | assumption)) (@Ae _ _ _ _ _ (@Am _ _ (4) _ _ _ _ BE.nd rfl (Or.inl rfl) (@BL _ _ _ _ Ad) (by rfl) (by first | exact .inl rfl | exact .inr rfl | assumption)) (@Ae _ _ _ _ _ (By PassesOwn.never rfl (Be rfl T.z_range (@Aa _ _ _ _ _ (pv 1) Ad (by rfl))) (AD (i:=5) BE.nd rfl (Or.inl rfl)) (@Ae _ _ _ _ _ (@Am _ _ (6) _ _ _ _ BE.nd rfl (Or.inl rfl) (@Aj _ _ _ _ _ _ _ _ AN (pv 2) (@Aq _ _ _ _ _ _ _ _ _ At (by rfl) T.z_len PySem.boot_len (@Aa _ _ _ _ _ (pv 3) Ad (by rfl)) (by decide) (by decide) (by rfl) (by rfl))) (by rfl) (by first | exact .inl rfl | exact .inr rfl | assumption)) (@Ae _ _ _ _ _ (@Am _ _ (2) _ _ _ _ BE.nd rfl (Or.inl rfl) (@Aj _ _ _ _ _ _ _ _ Bj (pv 2) (@Aq _ _ _ _ _ _ _ _ _ At (by rfl) T.z_len PySem.boot_len (@Aa _ _ _ _ _ (pv 3) Ad (by rfl)) (by decide) (by decide) (by rfl) (by rfl))) (by rfl) (by first | exact .inl rfl | exact .inr rfl | assumption)) (@Ag _ _ _ (@BQ _ _ _ _ (DN PySem.F.plainAttrs_list PySem.F.slot_list_append PySem.F.type_list_append Bu (pv 4) (@Aa _ _ _ _ _ (DN PySem.F.plainAttrs_list PySem.F.slot_list_pop PySem.F.type_list_pop KC (pv 3) (@Aa _ _ _ _ _ (pv 6) Ad (by rfl))) Ad (by rfl))) (by rfl)))))) (@Ag _ _ _ (@An _ _ _ _ (pv 4))))))),?_⟩
 obtain ⟨n,rfl⟩:∃n:Nat,h=(n:Int):=⟨h.toNat,by omega⟩
 refine ⟨_,rfl,c,5,rfl,szc,by decide,by decide,fun z z0 z1=>?_⟩
 subst_eqs
 refine ⟨by omega,fun l hl=>?_⟩
 rw [show (List.map (fun i:Nat=>V.int (i:Int)) (List.range n))=(ups n).map V.int from (by unfold ups;rw [map_map];rfl)]
 have s1:=Af hl (.lst ((ups n).map V.int))
 have e1:(upd H l (.lst ((ups n).map V.int))) l=some (.lst ((ups n).map V.int)):=Ab
 generalize upd H l (.lst ((ups n).map V.int))=H1 at s1 e1 ⊢
 refine ⟨(by show 0<=sizeLine;decide),fun lo hlo0=>?_⟩
 have ll:l≠lo:=fun z=>by rw [<- z,e1] at hlo0;cases hlo0
 have hlo:H lo=none:=none_of s1 hlo0
 have s2:=s1.trans (Af hlo0 (.lst []))
 have e2:(upd H1 lo (.lst [])) l=some (.lst ((ups n).map V.int)):=by rw [Ap ll];exact e1
 have e3:(upd H1 lo (.lst [])) lo=some (.lst (([]:List Int).map V.int)):=Ab
 generalize upd H1 lo (.lst [])=H2 at s2 e2 e3 ⊢
 subst_eqs
 refine ⟨by omega,by omega,B9 (fun i σ' H'=>∃(v5 v6:Option V) (z:Int) (left got:List Int),σ'=[some (.int c),some (.int (n:Int)),some (.int z),some (.ref l),some (.ref lo),v5,v6]/\0<=z/\z < 10 ^ 31/\Az H H'/\H' l=some (.lst (left.map V.int))/\H' lo=some (.lst (got.map V.int))/\left.length+i=n/\got.length=i/\(got++left).Perm (ups n)) ⟨none,none,z,ups n,[],rfl,z0,z1,s2,e2,e3,(by unfold ups;rw [length_map,length_range];rfl),rfl,List.Perm.refl _⟩ ?_ ?_⟩
 ·rintro i σ' H' hi ⟨v5,v6,z,left,got,rfl,z0,z1,s3,f1,f2,f3,f4,f5⟩
  have m:=AW z (show (0:Int) < (left.length:Int) by omega)
  have szz:Sz 200 z:=LK z0 (Int.lt_trans z1 (by decide))
  subst_eqs
  have hll:(left.map V.int).length=left.length:=length_map _
  refine ⟨(by show ((left.map V.int).length:Int)≠0;omega),?_⟩
  dsimp only
  rw [hll]
  generalize z.fmod (left.length:Int)=j' at m ⊢
  obtain ⟨j,rfl⟩:∃j:Nat,j'=(j:Int):=⟨j'.toNat,by omega⟩
  have hj:j < left.length:=by omega
  subst_eqs
  refine ⟨⟨by show ((left.map V.int).length:Int)≠0;omega,(show Sz 64 ((left.map V.int).length:Int) from AK (by omega) (by omega)).mono (by decide)⟩,?_⟩
  have lc:=Jn (d:=(left.length:Int)) z0 (by omega) z1
  dsimp only
  rw [hll]
  subst_eqs
  refine ⟨.inl ⟨rfl,_,SqL.of f2⟩,?_⟩
  subst_eqs
  refine ⟨.inl ⟨rfl,_,SqL.of f1⟩,?_⟩
  subst_eqs
  refine ⟨l,_,_,j,V.int left[j],rfl,rfl,f1,by omega,by omega,R0 (by rw [length_map];exact hj),(by rw [List.getElem?_map,List.getElem?_eq_getElem hj];rfl),?_⟩
  have g2:(upd H' l (.lst ((left.map V.int).eraseIdx j))) lo=some (.lst (got.map V.int)):=by rw [Ap (Ne.symm ll)];exact f2
  have g1:(upd H' l (.lst ((left.map V.int).eraseIdx j))) l=some (.lst ((left.eraseIdx j).map V.int)):=by rw [Ab,FH]
  have s4:=A0 (o:=.lst ((left.map V.int).eraseIdx j)) s3 hl
  generalize upd H' l (.lst ((left.map V.int).eraseIdx j))=H4 at s4 g1 g2 ⊢
  refine ⟨lo,_,_,rfl,rfl,g2,(by rw [length_map,f4];exact AT (by omega)),?_⟩
  have g1':(upd H4 lo (.lst (got.map V.int++[V.int left[j]]))) l=some (.lst ((left.eraseIdx j).map V.int)):=by rw [Ap ll];exact g1
  have g2':(upd H4 lo (.lst (got.map V.int++[V.int left[j]]))) lo=some (.lst ((got++[left[j]]).map V.int)):=by rw [Ab,map_append];rfl
  have s5:=A0 (o:=.lst (got.map V.int++[V.int left[j]])) s4 hlo
  generalize upd H4 lo (.lst (got.map V.int++[V.int left[j]]))=H5 at s5 g1' g2' ⊢
  exact ⟨_,_,_,_,_,rfl,lc.1,lc.2,s5,g1',g2',by rw [length_eraseIdx,if_pos hj];omega,by rw [length_append,f4];rfl,Jg (List.getElem?_eq_getElem hj) f5⟩
 ·rintro σ' H' ⟨v5,v6,z,left,got,rfl,z0,z1,s3,f1,f2,f3,f4,f5⟩
  rw [Int.toNat_natCast] at f3
  have:left=[]:=length_eq_zero_iff.mp (by omega)
  rw [this,append_nil] at f5
  exact ⟨_,rfl,q lo got H' s3 f2 (by rw [Int.toNat_natCast];exact f5)⟩
theorem Kb (T:Tx K mg ad):A8 P w K mg base CX0 2 ad.f_law_slip ad.d_law_slip ["_law_cell_here","_law_hands"] OQ:=by
 refine T.F_law_slip.ok AY (fun vs H Q E h=>?_) (fun cdv A outer s H vs Q E hr h=>?_)
 ·obtain ⟨c,n,rfl,_⟩:=h
  rfl
 obtain ⟨c,n,rfl,szc,n1,n12,q⟩:=h
 refine ⟨_,(@Ae _ _ _ _ _ (@Am _ _ (2) _ _ _ _ AY.nd rfl (Or.inl rfl) (@Ak _ _ _ _ _ _ _ _ _ _ _ _ _ _ _ _ (Fn T) (hr.mono (by decide)) rfl T.m_law_mixed T.F_law_mixed.kp T.b_law_mixed .nil As (@Aa _ _ _ _ _ (pv 0) (@Aa _ _ _ _ _ (pv 1) Ad (by rfl)) (by rfl)) (by decide) (by rfl) (by rfl)) (by rfl) (by first | exact .inl rfl | exact .inr rfl | assumption)) (@Ae _ _ _ _ _ (@Am _ _ (3) _ _ _ _ AY.nd rfl (Or.inl rfl) (@Aj _ _ _ _ _ _ _ _ AN (pv 2) Ac) (by rfl) (by first | exact .inl rfl | exact .inr rfl | assumption)) (@Ae _ _ _ _ _ (@Am _ _ (4) _ _ _ _ AY.nd rfl (Or.inl rfl) (@Aj _ _ _ _ _ _ _ _ AN (@Aj _ _ _ _ _ _ _ _ Bj (pv 2) Ac) (@Aj _ _ _ _ _ _ _ _ AS (pv 1) Ac)) (by rfl) (by first | exact .inl rfl | exact .inr rfl | assumption)) (@Ae _ _ _ _ _ (@Am _ _ (2) _ _ _ _ AY.nd rfl (Or.inl rfl) (@Aj _ _ _ _ _ _ _ _ Bj (pv 2) Ac) (by rfl) (by first | exact .inl rfl | exact .inr rfl | assumption)) (@Ae _ _ _ _ _ (@Am _ _ (5) _ _ _ _ AY.nd rfl (Or.inl rfl) (C8 rfl (by rfl) T.z_list (by rfl) T.z_range (pv 1)) (by rfl) (by first | exact .inl rfl | exact .inr rfl | assumption)) (@Ae _ _ _ _ _ (@Am _ _ (6) _ _ _ _ AY.nd rfl (Or.inr rfl) Kf (by rfl) (by first | exact .inl rfl | exact .inr rfl | assumption)) (@Ae _ _ _ _ _ (By PassesOwn.never rfl (Be rfl T.z_range (@Aa _ _ _ _ _ (pv 1) Ad (by rfl))) (AD (i:=7) AY.nd rfl (Or.inl rfl)) (@Ae _ _ _ _ _ (@Am _ _ (8) _ _ _ _ AY.nd rfl (Or.inl rfl) (@Ai _ _ _ _ _ _ _ Au (@BL _ _ _ _ (@Aa _ _ _ _ _ (@Aq _ _ _ _ _ _ _ _ _ At (by rfl) T.z_len PySem.boot_len (@Aa _ _ _ _ _ (pv 5) Ad (by rfl)) (by decide) (by decide) (by rfl) (by rfl)) (@Aa _ _ _ _ _ (@Aj _ _ _ _ _ _ _ _ AS (pv 1) Ac) (@Aa _ _ _ _ _ Ac (@Aa _ _ _ _ _ (@Aq _ _ _ _ _ _ _ _ _ At (by rfl) T.z_len PySem.boot_len (@Aa _ _ _ _ _ (pv 5) Ad (by rfl)) (by decide) (by decide) (by rfl) (by rfl)) Ad (by rfl)) (by rfl)) (by rfl)) (by rfl))) (pv 3) (fun _ _=>rfl)) (by rfl) (by first | exact .inl rfl | exact .inr rfl | assumption)) (@Ae _ _ _ _ _ (@Am _ _ (9) _ _ _ _ AY.nd rfl (Or.inl rfl) (@Aj _ _ _ _ _ _ _ _ AN (pv 2) (pv 8)) (by rfl) (by first | exact .inl rfl | exact .inr rfl | assumption)) (@Ae _ _ _ _ _ (@Am _ _ (2) _ _ _ _ AY.nd rfl (Or.inl rfl) (@Aj _ _ _ _ _ _ _ _ Bj (pv 2) (pv 8)) (by rfl) (by first | exact .inl rfl | exact .inr rfl | assumption)) (@Ae _ _ _ _ _ (@Ft _ _ _ _ _ _ _ _ (PW.pt (@Cn _ _ _ _ _ _ _ (@Ax _ _ _ _ _ _ _ _ BX (pv 3) Ac (Ay _)) (@Cc _ _ _ _ (PW.pt (@LM _ _ _ _ _ _ _ (@Ax _ _ _ _ _ _ _ _ BX (pv 3) Ac (Ay _)) (@Jb _ _ _ _ (@Ax _ _ _ _ _ _ _ _ MU (pv 7) (pv 4) (Ay _)))))))) (@Ag _ _ _ (GI (u1 hr.units) (pv 6) (pv 7) (@BL _ _ _ _ (@Aa _ _ _ _ _ (DN PySem.F.plainAttrs_list PySem.F.slot_list_pop PySem.F.type_list_pop KC (pv 5) (@Aa _ _ _ _ _ (pv 9) Ad (by rfl))) Ad (by rfl))) rfl)) Av) (@Ag _ _ _ (@Ft _ _ _ _ _ _ _ _ (PW.pt (@LM _ _ _ _ _ _ _ (@Ax _ _ _ _ _ _ _ _ Nq (pv 3) (@A2 _ _ _ _ _ (@Aa _ _ _ _ _ Ac (@Aa _ _ _ _ _ Ac Ad (by rfl)) (by rfl))) (by with_unfolding_all rfl)) (@Jb _ _ _ _ (@Ax _ _ _ _ _ _ _ _ FZ (pv 9) Ac (Ay _))))) (@Ag _ _ _ (GI (u1 hr.units) (pv 6) (pv 9) (@Aj _ _ _ _ _ _ _ _ Oo (GY (u1 hr.units) (pv 6) (pv 9) (@BL _ _ _ _ Ad) ⟨rfl,rfl,rfl,rfl⟩) (@BL _ _ _ _ (@Aa _ _ _ _ _ (pv 7) Ad (by rfl)))) rfl)) Av))))))) (@Ag _ _ _ (@An _ _ _ _ (@Bv _ _ _ _ _ _ _ _ _ HM (by rfl) T.z_tuple PyProof.Rows.boot_tuple (@Aa _ _ _ _ _ (C7 (fsc:=Ah Ew) (N:=["_law_cell_here","_law_hands","_law_number_here","_law_way","_law_many_here","_law_left","_law_tiers","_law_k","_law_base","_law_lot"]) (Nc:=["_law_cell_here","_law_hands","_law_number_here","_law_way","_law_many_here","_law_left","_law_tiers","_law_k","_law_base","_law_lot","_law_rank"]) rfl rfl ⟨rfl,by decide +kernel,by decide +kernel,rfl,by decide +kernel,rfl,by decide +kernel,rfl,by decide +kernel⟩ rfl (Bd (@Aq _ _ _ _ _ _ _ _ _ (Ie rfl) (by rfl) T.z_sorted PyProof.Rows.boot_sorted (@Aa _ _ _ _ _ (pv 6) Ad (by rfl)) (by decide) (by decide) (by rfl) (by rfl))) (fun _ _ _ _=>Bg) (fun _ _ _ _=>(@Ak _ _ _ _ _ _ _ _ _ _ _ _ _ _ _ _ (JM T) (hr.mono (by decide)) rfl T.m_law_mask T.F_law_mask.kp T.b_law_mask .nil As (@Aa _ _ _ _ _ (MR (u1 hr.units) (pv 6) (pv 10) (fun _ _=>rfl)) Ad (by rfl)) (by decide) (by rfl) (by rfl)))) Ad (by rfl)) (by decide) (by decide) (by rfl) (by rfl))))))))))),?_⟩
 subst_eqs
 refine ⟨c,(n:Int),rfl,szc,by omega,by omega,fun z z0 z1=>?_⟩
 have szz:Sz 200 z:=LK z0 (Int.lt_trans z1 (by decide))
 subst_eqs
 refine ⟨(by show (_:Int)≠0;omega),?_⟩
 subst_eqs
 refine ⟨by omega,fun l hl=>?_⟩
 rw [show (List.map (fun i:Nat=>V.int (i:Int)) (List.range n))=((List.range n).map fun i:Nat=>(i:Int)).map V.int from (by rw [map_map];rfl)]
 have rl:((List.range n).map fun i:Nat=>(i:Int)).length=n:=by rw [length_map,length_range]
 have rin:∀x∈((List.range n).map fun i:Nat=>(i:Int)),0<=x/\x < (n:Int):=fun x m=>by
  obtain ⟨i,im,rfl⟩:=mem_map.mp m
  have:=mem_range.mp im
  omega
 generalize ((List.range n).map fun i:Nat=>(i:Int))=left at rl rin ⊢
 have s1:=Af hl (.lst (left.map V.int))
 have e1:(upd H l (.lst (left.map V.int))) l=some (.lst (left.map V.int)):=Ab
 generalize upd H l (.lst (left.map V.int))=H1 at s1 e1 ⊢
 subst_eqs
 intro d hd
 have s2:=Af hd (.dK [])
 have e2:(upd H1 d (.dK [])) d=some (.dK []):=Ab
 generalize upd H1 d (.dK [])=H2 at s2 e2 ⊢
 have dl:d≠l:=fun z=>by rw [z,e1] at hd;cases hd
 have hdH:=none_of s1 hd
 have mw:=AW z (show (0:Int) < 4 by decide)
 have lc:=Jn (d:=64) z0 (by decide) z1
 dsimp only
 generalize (z.fdiv 4).fmod ((n:Int)+1)=m
 generalize z.fmod 4=w at mw ⊢
 generalize z.fdiv 64=z at lc ⊢
 subst_eqs
 refine ⟨by omega,by omega,B9 (fun i σ' J=>∃(v7 v8 v9:Option V) (z:Int) (left:List Int) (kvs:List (Key × V)),σ'=[some (.int c),some (.int (n:Int)),some (.int z),some (.int w),some (.int m),some (.ref l),some (.ref d),v7,v8,v9]/\0<=z/\z < 10 ^ 31/\Az H J/\J l=some (.lst (left.map V.int))/\J d=some (.dK kvs)/\n<=left.length+i/\left.length<=n/\(∀x∈left,0<=x/\x < (n:Int))/\kvs.length<=i/\Cl J l n i w kvs) ⟨none,none,none,z,left,[],rfl,lc.1,lc.2,s1.trans s2,s2 _ _ e1,e2,by omega,by omega,rin,Nat.le_refl _,nodup_nil,fun _ m=>absurd m List.not_mem_nil⟩ ?_ ?_⟩
 ·rintro i σ' J hi ⟨v7,v8,v9,z,left,kvs,rfl,z0,z1,sJ,eL,eD,ln,ln2,rin,kl,td⟩
  rw [Int.toNat_natCast] at hi
  have szz:Sz 200 z:=LK z0 (Int.lt_trans z1 (by decide))
  have ll:(left.map V.int).length=left.length:=length_map _
  subst_eqs
  refine ⟨(by show 4<=sizeLine;decide),fun b4 hb4=>?_⟩
  dsimp only
  rw [ll]
  have sj1:=Af hb4 (.lst [V.int (left.length:Nat),V.int ((n:Int)+1),V.int 3,V.int (left.length:Nat)])
  have ej1:(upd J b4 (.lst [V.int (left.length:Nat),V.int ((n:Int)+1),V.int 3,V.int (left.length:Nat)])) b4=some (.lst [V.int (left.length:Nat),V.int ((n:Int)+1),V.int 3,V.int (left.length:Nat)]):=Ab
  generalize upd J b4 (.lst [V.int (left.length:Nat),V.int ((n:Int)+1),V.int 3,V.int (left.length:Nat)])=J1 at sj1 ej1 ⊢
  obtain ⟨b,hb,b1,b13,bw⟩:∃b:Int,atI [V.int (left.length:Nat),V.int ((n:Int)+1),V.int 3,V.int (left.length:Nat)] w=some (.int b)/\1<=b/\b<=13/\(w=0\/w=3->b=(left.length:Nat)):=by
   rcases (by omega:w=0\/w=1\/w=2\/w=3) with rfl | rfl | rfl | rfl
   ·exact ⟨_,rfl,by omega,by omega,fun _=>rfl⟩
   ·exact ⟨_,rfl,by omega,by omega,fun k=>by omega⟩
   ·exact ⟨_,rfl,by omega,by omega,fun k=>by omega⟩
   ·exact ⟨_,rfl,by omega,by omega,fun _=>rfl⟩
  subst_eqs
  refine ⟨b4,_,_,_,rfl,rfl,SqL.of ej1,hb,?_⟩
  subst_eqs
  refine ⟨(by show (_:Int)≠0;omega),?_⟩
  have lt:=AW z (show 0 < b by omega)
  have lc:=Jn (d:=b) z0 b1 z1
  have szb:Sz 64 b:=AK (by omega) (by omega)
  subst_eqs
  refine ⟨⟨by show (_:Int)≠0;omega,szb.mono (by decide)⟩,?_⟩
  dsimp only
  generalize z.fmod b=lo at lt ⊢
  generalize z.fdiv b=z at lc ⊢
  have sJ1:=sJ.trans sj1
  have tJ:=td.same sj1
  have eL1:=sj1 _ _ eL
  have eD1:=sj1 _ _ eD
  subst_eqs
  refine ⟨fun σ' J=>∃(left:List Int) (kvs:List (Key × V)),σ'=[some (.int c),some (.int (n:Int)),some (.int z),some (.int w),some (.int m),some (.ref l),some (.ref d),some (.int (0+(i:Int))),some (.int b),some (.int lo)]/\Az H J/\J l=some (.lst (left.map V.int))/\J d=some (.dK kvs)/\n<=left.length+(i+1)/\left.length<=n/\(∀x∈left,0<=x/\x < (n:Int))/\kvs.length<=i+1/\(w=1\/w=2->kvs.length<=i)/\Cl J l n i w kvs,?_,?_⟩
  ·refine Qe (decide (w=3\/(w=0/\0+(i:Int) < m))) (fun R r=>?_) ?_
   ·subst_eqs
    by_cases c3:w=3
    ·refine ifT (KY c3) ?_
     rw [decide_eq_true (Or.inl c3)] at r
     exact r
    ·refine ifF (KZ c3) ?_
     subst_eqs
     by_cases c0:w=0
     ·refine ifT (KY c0) ?_
      subst_eqs
      rw [show decide (w=3\/(w=0/\0+(i:Int) < m))=decide (0+(i:Int) < m) from by congr 1;apply propext;omega] at r
      exact r
     ·refine ifF (KZ c0) ?_
      rw [decide_eq_false (by omega)] at r
      exact r
   by_cases c:w=3\/(w=0/\0+(i:Int) < m)
   ·refine ifT (decide_eq_true c) ?_
    have lo':lo < (left.length:Int):=by rw [<- bw (by omega)];exact lt.2
    obtain ⟨j,rfl⟩:∃j:Nat,lo=(j:Int):=⟨lo.toNat,by omega⟩
    have hj:j < left.length:=by omega
    have xin:=rin left[j] (getElem_mem hj)
    subst_eqs
    refine ⟨.inl ⟨rfl,_,SqL.of eL1⟩,?_⟩
    subst_eqs
    refine ⟨l,_,_,j,V.int left[j],rfl,rfl,eL1,by omega,by omega,R0 (by rw [length_map];exact hj),(by rw [List.getElem?_map,List.getElem?_eq_getElem hj];rfl),?_⟩
    have s4:=A0 (o:=.lst ((left.map V.int).eraseIdx j)) sJ1 hl
    have g1:(upd J1 l (.lst ((left.map V.int).eraseIdx j))) l=some (.lst ((left.eraseIdx j).map V.int)):=by rw [Ab,FH]
    have g2:(upd J1 l (.lst ((left.map V.int).eraseIdx j))) d=some (.dK kvs):=by rw [Ap dl];exact eD1
    have t4:Cl (upd J1 l (.lst ((left.map V.int).eraseIdx j))) l n i w kvs:=tJ.off
    generalize upd J1 l (.lst ((left.map V.int).eraseIdx j))=J4 at s4 g1 g2 t4 ⊢
    refine ⟨(by show 1<=sizeLine;decide),fun a ha=>?_⟩
    have sj5:=Af ha (.lst [V.int left[j]])
    have ej5:(upd J4 a (.lst [V.int left[j]])) a=some (.lst [V.int left[j]]):=Ab
    generalize upd J4 a (.lst [V.int left[j]])=J5 at sj5 ej5 ⊢
    have al:a≠l:=fun z=>by rw [z,g1] at ha;cases ha
    refine ⟨_,rfl,_,rfl,d,_,rfl,Ii.k (k:=Sum.inl (0+(i:Int))) (sj5 _ _ g2) (AT (by omega)),?_⟩
    have tt:KJ n i w [left[j]]:=⟨(fun z=>by cases z),pairwise_singleton _ _,fun x xm=>by
     rw [mem_singleton.mp xm]
     exact ⟨xin.1,xin.2,fun k=>by omega⟩⟩
    have dK:=(t4.same sj5).put (z:=0+(i:Int)) (sj5 _ _ g2) ej5 al tt
    exact ⟨left.eraseIdx j,_,rfl,A0 (s4.trans sj5) hdH,(by rw [Ap (Ne.symm dl)];exact sj5 _ _ g1),Ab,(by rw [length_eraseIdx,if_pos hj];omega),(by rw [length_eraseIdx,if_pos hj];omega),(fun x xm=>rin x (mem_of_mem_eraseIdx xm)),Nat.le_trans (BY ..) (Nat.succ_le_succ kl),(fun k=>by omega),dK⟩
   ·refine ifF (decide_eq_false c) ?_
    exact ⟨left,kvs,rfl,sJ1,eL1,eD1,by omega,ln2,rin,by omega,(fun _=>kl),tJ⟩
  clear ll hb szb bw eL1 eD1 tJ sJ1 sJ eL eD ln ln2 rin td kl
  rintro σ' J2 ⟨left,kvs,rfl,sJ,eL,eD,ln,ln2,rin,kl,kw,td⟩
  subst_eqs
  refine ⟨fun σ' J=>∃(left:List Int) (kvs:List (Key × V)),σ'=[some (.int c),some (.int (n:Int)),some (.int z),some (.int w),some (.int m),some (.ref l),some (.ref d),some (.int (0+(i:Int))),some (.int b),some (.int lo)]/\Az H J/\J l=some (.lst (left.map V.int))/\J d=some (.dK kvs)/\n<=left.length+(i+1)/\left.length<=n/\(∀x∈left,0<=x/\x < (n:Int))/\kvs.length<=i+1/\Cl J l n (i+1) w kvs,?_,?_⟩
  ·refine R9 (decide ((w=1\/w=2)/\0 < lo)) (fun R r=>?_) (fun J3 s3=>?_)
   ·subst_eqs
    refine ⟨(by show 2<=sizeLine;decide),fun t ht=>?_⟩
    have st:=Af ht (.tup [V.int 1,V.int 2])
    have et:(upd J2 t (.tup [V.int 1,V.int 2])) t=some (.tup [V.int 1,V.int 2]):=Ab
    generalize upd J2 t (.tup [V.int 1,V.int 2])=J3 at st et ⊢
    refine ⟨t,_,rfl,.inr (SqT.of et),rfl,rfl,?_⟩
    have r':=r J3 st
    have ew:inV (.int w) [V.int 1,V.int 2]=decide (w=1\/w=2):=by
     rcases (by omega:w=0\/w=1\/w=2\/w=3) with rfl | rfl | rfl | rfl <;> rfl
    by_cases c:w=1\/w=2
    ·refine ⟨_,rfl,ifT (by show inV (.int w) [V.int 1,V.int 2]=true;exact ew.trans (decide_eq_true c)) ?_⟩
     subst_eqs
     rw [show decide ((w=1\/w=2)/\0 < lo)=decide (0 < lo) from by congr 1;apply propext;exact ⟨fun z=>z.2,fun z=>⟨c,z⟩⟩] at r'
     exact r'
    ·refine ⟨_,rfl,ifF (by show inV (.int w) [V.int 1,V.int 2]=false;exact ew.trans (decide_eq_false c)) ?_⟩
     rw [decide_eq_false (fun z=>c z.1)] at r'
     exact r'
   have sJ:=sJ.trans s3
   have eL:=s3 _ _ eL
   have eD:=s3 _ _ eD
   have td:=td.same s3
   by_cases c:(w=1\/w=2)/\0 < lo
   ·refine ifT (decide_eq_true c) ?_
    subst_eqs
    refine ⟨.inl ⟨_,.inl eD⟩,?_⟩
    subst_eqs
    refine ⟨(by show 0<=sizeLine;decide),fun e0 he0=>?_⟩
    have s4:=Af he0 (.lst [])
    have ee0:(upd J3 e0 (.lst [])) e0=some (.lst []):=Ab
    generalize upd J3 e0 (.lst [])=J4 at s4 ee0 ⊢
    have e0l:e0≠l:=fun z=>by rw [z,eL] at he0;cases he0
    refine ⟨_,EF.k (k:=(Sum.inl lo:Key)) (s4 _ _ eD),?_⟩
    have old:∃(a:Addr) (hs:List Int),(AZ kvs (Sum.inl lo:Key)).getD (.ref e0)=.ref a/\J4 a=some (.lst (hs.map V.int))/\a≠l/\hs.Pairwise (· < ·)/\∀h∈hs,0<=h/\h < (i:Int):=by
     cases e:AZ kvs (Sum.inl lo:Key) with
     | none=>exact ⟨e0,[],rfl,ee0,e0l,List.Pairwise.nil,fun _ m=>absurd m List.not_mem_nil⟩
     | some v =>
       obtain ⟨z',a,hs,eq,h1,h2,h3,h4,h5⟩:=td.2 _ (KG e)
       injection eq with eq1 eq2
       exact ⟨a,hs,by rw [eq2];rfl,s4 _ _ h1,h2,h4,fun h hm=>⟨(h5 h hm).1,(h5 h hm).2.2 c.1⟩⟩
    obtain ⟨a,hs,ea,ha,al,pw,hin⟩:=old
    rw [ea]
    subst_eqs
    refine ⟨(by show 1<=sizeLine;decide),fun f0 hf0=>?_⟩
    have s5:=Af hf0 (.lst [V.int (0+(i:Int))])
    have ef0:(upd J4 f0 (.lst [V.int (0+(i:Int))])) f0=some (.lst [V.int (0+(i:Int))]):=Ab
    generalize upd J4 f0 (.lst [V.int (0+(i:Int))])=J5 at s5 ef0 ⊢
    have hl12:hs.length<=12:=by
     have nd:hs.Nodup:=pw.imp fun h e=>by omega
     have:=Dq (p:=(List.range n).map fun i:Nat=>(i:Int)) nd (fun h hm=>mem_map.mpr ⟨h.toNat,mem_range.mpr (by have:=hin h hm;omega),by have:=hin h hm;omega⟩)
     rw [length_map,length_range] at this
     omega
    refine ⟨a,f0,_,_,rfl,rfl,s5 _ _ ha,ef0,(by simp only [length_map,length_cons,length_nil];exact GM (by omega)),fun g hg=>?_⟩
    have s6:=Af hg (.lst (hs.map V.int++[V.int (0+(i:Int))]))
    have eg:(upd J5 g (.lst (hs.map V.int++[V.int (0+(i:Int))]))) g=some (.lst ((hs++[(i:Int)]).map V.int)):=by rw [Ab,map_append,Int.zero_add];rfl
    generalize upd J5 g (.lst (hs.map V.int++[V.int (0+(i:Int))]))=J6 at s6 eg ⊢
    have s36:=(s4.trans s5).trans s6
    have gl:g≠l:=fun z=>by rw [z,(s4.trans s5) _ _ eL] at hg;cases hg
    refine ⟨_,rfl,_,rfl,d,_,rfl,Ii.k (k:=Sum.inl lo) (s36 _ _ eD) (AT (by omega)),?_⟩
    have tt:KJ n (i+1) w (hs++[(i:Int)]):=⟨(fun z=>by have:=congrArg List.length z;rw [length_append] at this;exact nomatch this),(by
     rw [pairwise_append]
     exact ⟨pw,pairwise_singleton _ _,fun x xm y ym=>by rw [mem_singleton.mp ym];exact (hin x xm).2⟩),fun x xm=>by
     rcases mem_append.mp xm with xm | xm
     ·have:=hin x xm
      exact ⟨this.1,by omega,fun _=>by omega⟩
     ·rw [mem_singleton.mp xm]
      exact ⟨by omega,by omega,fun _=>by omega⟩⟩
    have dK:=(td.up.same s36).put (z:=lo) (s36 _ _ eD) eg gl tt
    have kl':=kw c.1
    exact ⟨left,_,rfl,A0 (sJ.trans s36) hdH,(by rw [Ap (Ne.symm dl)];exact s36 _ _ eL),Ab,ln,ln2,rin,Nat.le_trans (BY ..) (Nat.succ_le_succ kl'),dK⟩
   ·refine ifF (decide_eq_false c) ?_
    exact ⟨left,kvs,rfl,sJ,eL,eD,ln,ln2,rin,kl,td.up⟩
  ·rintro σ' J3 ⟨left,kvs,rfl,sJ,eL,eD,ln,ln2,rin,kl,td⟩
   exact ⟨_,_,_,_,_,_,rfl,lc.1,lc.2,sJ,eL,eD,ln,ln2,rin,kl,td⟩
 ·rintro σ' J ⟨v7,v8,v9,z,left,kvs,rfl,z0,z1,sJ,eL,eD,ln,ln2,rin,kl,td⟩
  rw [Int.toNat_natCast] at kl td
  obtain ⟨ns,k1,k2,k3⟩:=td.keys
  subst_eqs
  refine ⟨d,kvs,ns,rfl,.inl eD,k1,by omega,fun l2 ms p1 p2 hl2=>?_⟩
  have s1:=Af hl2 (.lst (ms.map V.int))
  have e1:(upd J l2 (.lst (ms.map V.int))) l2=some (.lst (ms.map V.int)):=Ab
  generalize upd J l2 (.lst (ms.map V.int))=J1 at s1 e1 ⊢
  refine ⟨l2,rfl,⟨_,SqL.of e1⟩,?_⟩
  have ml:ms.length=kvs.length:=by rw [p1.length_eq,k2]
  refine Bk (xs:=ms.map V.int) (by rw [length_map];exact AL (by omega)) (fun D i ys H'=>∃ts:List Int,ys=ts.map V.int/\ts.length=i/\H' D=some (.lst ys)/\Az J1 H'/\∀x∈ts,0 < x/\x < 2 ^ n) (fun D hD=>⟨[],rfl,rfl,Ab,Af hD _,fun _ m=>absurd m List.not_mem_nil⟩) (fun D i ys H' hq_=>by obtain ⟨ts,f1,f2,f3,_⟩:=hq_;exact ⟨f3,by rw [f1,length_map,f2];exact Nat.le_refl _⟩) (fun D i ys H' hD hq_=>by obtain ⟨ts,_,_,_,f4,_⟩:=hq_;exact SqL.of (f4 _ _ e1)) ?_ ?_
  ·rintro D i x ys H' K1 K2 hD hx ⟨ts,rfl,f2,f3,f4,f5⟩ kk1 kk2
   obtain ⟨r,hr',rfl⟩:=C2 hx
   obtain ⟨a,hs,a1,a2,a3,a4,a5⟩:=k3 r (p1.mem_iff.mp (mem_of_getElem? hr'))
   have sH:=s1.trans f4
   have dg:=EF.k (k:=(Sum.inl r:Key)) (sH _ _ eD)
   rw [a1] at dg
   have hl12:hs.length<=12:=by
    have nd:hs.Nodup:=a4.imp fun h e=>by omega
    have:=Dq (p:=(List.range n).map fun i:Nat=>(i:Int)) nd (fun h hm=>mem_map.mpr ⟨h.toNat,mem_range.mpr (by have:=a5 h hm;omega),by have:=a5 h hm;omega⟩)
    rw [length_map,length_range] at this
    omega
   refine yes (ifT rfl ?_)
   refine ⟨_,rfl,_,rfl,d,_,rfl,dg,?_⟩
   subst_eqs
   refine ⟨a,hs,rfl,sH _ _ a2,by omega,(fun h hm=>by have:=a5 h hm;omega),fun H5 s5=>?_⟩
   have mi:=Qh (n:=n) a4 (fun h hm=>⟨(a5 h hm).1,(a5 h hm).2.1⟩) a3
   refine kk1 _ _ (s5 _ _ f3) ⟨ts++[D1 hs],by rw [map_append];rfl,by rw [length_append,f2];rfl,Ab,A0 (f4.trans s5) hD,fun y ym=>?_⟩
   rcases mem_append.mp ym with ym | ym
   ·exact f5 y ym
   ·rw [mem_singleton.mp ym]
    exact mi
  ·rintro D ys H' hD ⟨ts,rfl,f2,f3,f4,f5⟩
   rw [length_map] at f2
   refine ⟨D,_,rfl,.inl ⟨SqL.of f3,fun t ht=>?_⟩⟩
   have s9:=((sJ.trans s1).trans f4)
   exact q t ts _ (none_of s9 ht) (s9.trans (Af ht _)) Ab ⟨f5,by omega⟩
theorem CB (T:Tx K mg ad):A8 P w K mg base CX0 2 ad.f_law_is_fraction ad.d_law_is_fraction ["_law_found"] OM:=by
 refine T.F_law_is_fraction.ok Ey (fun vs H Q E h=>?_) (fun cdv A outer s H vs Q E hr h=>?_)
 ·obtain ⟨f,rfl,_⟩:=h
  rfl
 obtain ⟨f,rfl,gf,t0,b0,g1,q⟩:=h
 refine ⟨_,(@Ae _ _ _ _ _ (@AB _ _ _ _ _ _ _ _ (PW.pt (@Cn _ _ _ _ _ _ _ (@AQ _ _ _ _ (@AH _ _ _ (@Aq _ _ _ _ _ _ _ _ _ Bx (by rfl) T.z_isinstance PyProof.Rows.boot_isinstance (@Aa _ _ _ _ _ (pv 0) (@Aa _ _ _ _ _ (BH (v:=.ty "tuple") rfl T.z_tuple PyProof.Rows.boot_tuple rfl) Ad (by rfl)) (by rfl)) (by decide) (by decide) (by rfl) (by rfl)) (by intro _;rfl))) (@Cn _ _ _ _ _ _ _ (@Ax _ _ _ _ _ _ _ _ Er (@Aq _ _ _ _ _ _ _ _ _ At (by rfl) T.z_len PySem.boot_len (@Aa _ _ _ _ _ (pv 0) Ad (by rfl)) (by decide) (by decide) (by rfl) (by rfl)) Ac (Ay _)) (@Cn _ _ _ _ _ _ _ (@AQ _ _ _ _ (@AH _ _ _ (@Ak _ _ _ _ _ _ _ _ _ _ _ _ _ _ _ _ (DC T) (hr.mono (by decide)) rfl T.m_law_whole T.F_law_whole.kp T.b_law_whole .nil As (@Aa _ _ _ _ _ (@Ai _ _ _ _ _ _ _ Al (pv 0) Ac (fun _ _=>rfl)) Ad (by rfl)) (by decide) (by rfl) (by rfl)) (by intro _;rfl))) (@Cc _ _ _ _ (@AQ _ _ _ _ (@AH _ _ _ (@Ak _ _ _ _ _ _ _ _ _ _ _ _ _ _ _ _ (DC T) (hr.mono (by decide)) rfl T.m_law_whole T.F_law_whole.kp T.b_law_whole .nil As (@Aa _ _ _ _ _ (@Ai _ _ _ _ _ _ _ Al (pv 0) Ac (fun _ _=>rfl)) Ad (by rfl)) (by decide) (by rfl) (by rfl)) (by intro _;rfl)))))))) (@Ag _ _ _ (@An _ _ _ _ Cm)) Av) (@Ag _ _ _ (@An _ _ _ _ (@E1 _ _ _ _ _ _ _ (@BP _ _ _ _ _ _ _ _ FZ (@Ai _ _ _ _ _ _ _ Al (pv 0) Ac (fun _ _=>rfl)) Ac (Ay _)) (@DM _ _ _ _ _ (@BP _ _ _ _ _ _ _ _ BX (@Ak _ _ _ _ _ _ _ _ _ _ _ _ _ _ _ _ (DT T) (hr.mono (by decide)) rfl T.m_law_divisor T.F_law_divisor.kp T.b_law_divisor .nil As (@Aa _ _ _ _ _ (@Ai _ _ _ _ _ _ _ Al (pv 0) Ac (fun _ _=>rfl)) (@Aa _ _ _ _ _ (@Ai _ _ _ _ _ _ _ Al (pv 0) Ac (fun _ _=>rfl)) Ad (by rfl)) (by rfl)) (by decide) (by rfl) (by rfl)) Ac (Ay _))))))),?_⟩
 have gf':H f.1=some (.tup [.int f.2.1,.int f.2.2]):=gf
 and_intros
 refine ⟨_,_,_,_,rfl,BO.tup gf',Bl,?_⟩
 and_intros
 refine ifT (decide_eq_true b0) ?_
 and_intros
 refine ⟨f.2.1,f.2.2,rfl,t0,by omega,?_⟩
 rw [g1]
 and_intros
 exact q
theorem Hi (T:Tx K mg ad):A8 P w K mg base CX0 2 ad.f_law_row_due ad.d_law_row_due ["_law_slip_here","_law_kept","_law_free","_law_standing"] Ma:=by
 refine T.F_law_row_due.ok Cj (fun vs H Q E h=>?_) (fun cdv A outer s H vs Q E hr h=>?_)
 ·obtain ⟨sp,kl,h,ts,fr,ks,s,rfl,_⟩:=h
  rfl
 obtain ⟨sp,kl,h,ts,fr,ks,s,rfl,hT,ok,gf,szb,hk,gk,ke,h12,q⟩:=h
 refine ⟨_,(@Ae _ _ _ _ _ (@Am _ _ (4) _ _ _ _ Cj.nd rfl (Or.inl rfl) (@Ak _ _ _ _ _ _ _ _ _ _ _ _ _ _ _ _ (Jk T) (hr.mono (by decide)) rfl T.m_law_where T.F_law_where.kp T.b_law_where .nil As (@Aa _ _ _ _ _ (pv 0) (@Aa _ _ _ _ _ (pv 3) Ad (by rfl)) (by rfl)) (by decide) (by rfl) (by rfl)) (by rfl) (by first | exact .inl rfl | exact .inr rfl | assumption)) (@Ae _ _ _ _ _ (@Am _ _ (5) _ _ _ _ Cj.nd rfl (Or.inl rfl) (@Aj _ _ _ _ _ _ _ _ Oo (@Bv _ _ _ _ _ _ _ _ _ (De K) (by rfl) T.z_list PyProof.Rows.boot_list (@Aa _ _ _ _ _ (pv 1) Ad (by rfl)) (by decide) (by decide) (by rfl) (by rfl)) (@BL _ _ _ _ (@Aa _ _ _ _ _ (@A2 _ _ _ _ _ (@Aa _ _ _ _ _ Ac (@Aa _ _ _ _ _ Ac Ad (by rfl)) (by rfl))) Ad (by rfl)))) (by rfl) (by first | exact .inl rfl | exact .inr rfl | assumption)) (@Ae _ _ _ _ _ (@AB _ _ _ _ _ _ _ _ (@Ax _ _ _ _ _ _ _ _ BX (pv 4) Ac (Ay _)) (@Ae _ _ _ _ _ (Hv (pv 2) (Jl (pv 5) (@Aq _ _ _ _ _ _ _ _ _ At (by rfl) T.z_len PySem.boot_len (@Aa _ _ _ _ _ (pv 1) Ad (by rfl)) (by decide) (by decide) (by rfl) (by rfl)) EY)) (@Ag _ _ _ (@An _ _ _ _ (pv 5)))) Av) (@Ae _ _ _ _ _ (By PassesOwn.never rfl (Be rfl T.z_range (@Aa _ _ _ _ _ (@Aq _ _ _ _ _ _ _ _ _ At (by rfl) T.z_len PySem.boot_len (@Aa _ _ _ _ _ (pv 1) Ad (by rfl)) (by decide) (by decide) (by rfl) (by rfl)) Ad (by rfl))) (AD (i:=6) Cj.nd rfl (Or.inl rfl)) (@Ag _ _ _ (@AB _ _ _ _ _ _ _ _ (@Ax _ _ _ _ _ _ _ _ BX (@Aj _ _ _ _ _ _ _ _ Da (@Aj _ _ _ _ _ _ _ _ Hx (pv 4) (pv 6)) Ac) Ac (Ay _)) (@Ag _ _ _ (Hv (@A2 _ _ _ _ _ (@Aa _ _ _ _ _ (@Ai _ _ _ _ _ _ _ Al (pv 2) Ac (fun _ _=>rfl)) (@Aa _ _ _ _ _ (@Aj _ _ _ _ _ _ _ _ A3 (@Ai _ _ _ _ _ _ _ Al (pv 2) Ac (fun _ _=>rfl)) (@Ak _ _ _ _ _ _ _ _ _ _ _ _ _ _ _ _ (KU T) (hr.mono (by decide)) rfl T.m_law_many T.F_law_many.kp T.b_law_many .nil As (@Aa _ _ _ _ _ (pv 4) Ad (by rfl)) (by decide) (by rfl) (by rfl))) Ad (by rfl)) (by rfl))) (Jl (pv 5) (pv 6) EY))) Av))) (@Ag _ _ _ (@An _ _ _ _ (pv 5))))))),?_⟩
 obtain ⟨l0,l1⟩:=DB (s:=s) ok.1
 have p12:(2:Int) ^ h<=4096:=by
  have:=Nat.pow_le_pow_right (show 0 < 2 by decide) h12
  exact_mod_cast this
 have fl:(fqv ks).length=ks.length:=length_map ..
 and_intros
 refine ⟨sp,ts,s,h,rfl,SqT.of hT,ok,?_⟩
 and_intros
 intro r0 hr0
 have s1:=Af hr0 (.lst (fqv ks))
 have e1:(upd H r0 (.lst (fqv ks))) r0=some (.lst (fqv ks)):=Ab
 generalize upd H r0 (.lst (fqv ks))=H1 at s1 e1 ⊢
 and_intros
 refine ⟨(by show 2<=sizeLine;decide),fun z0 hz0=>?_⟩
 have s2:=Af hz0 (.tup [V.int 0,V.int 1])
 have e2:(upd H1 z0 (.tup [V.int 0,V.int 1])) z0=some (.tup [V.int 0,V.int 1]):=Ab
 generalize upd H1 z0 (.tup [V.int 0,V.int 1])=H2 at s2 e2 ⊢
 refine ⟨(by show 1<=sizeLine;decide),fun b0 hb0=>?_⟩
 have s3:=Af hb0 (.lst [V.ref z0])
 have e3:(upd H2 b0 (.lst [V.ref z0])) b0=some (.lst [V.ref z0]):=Ab
 generalize upd H2 b0 (.lst [V.ref z0])=H3 at s3 e3 ⊢
 have s13:=s1.trans (s2.trans s3)
 refine ⟨r0,b0,_,_,rfl,rfl,(s2.trans s3) _ _ e1,e3,(by rw [fl];exact AL (by show _+1<=1000;omega)),fun r hr=>?_⟩
 rw [show fqv ks++[V.ref z0]=fqv (ks++[(z0,0,1)]) from by unfold fqv;rw [map_append];rfl]
 have s4:=Af hr (.lst (fqv (ks++[(z0,0,1)])))
 have e4:(upd H3 r (.lst (fqv (ks++[(z0,0,1)])))) r=some (.lst (fqv (ks++[(z0,0,1)]))):=Ab
 generalize upd H3 r (.lst (fqv (ks++[(z0,0,1)])))=H4 at s4 e4 ⊢
 have s14:=s13.trans s4
 have hrH:H r=none:=none_of s13 hr
 have g4:∀f∈ks++[(z0,0,1)],FqG H4 f:=fun f m=>by
  rcases mem_append.mp m with m | m
  ·exact (gk f m).same s14
  ·rw [mem_singleton.mp m];exact (s3.trans s4) _ _ e2
 have k4:=s14 _ _ hk
 have f4:H4 fr.1=some (.tup [.int fr.2.1,.int fr.2.2]):=s14 _ _ gf
 and_intros
 by_cases c:AO ts s=0
 ·refine ifT (KY c) ?_
  and_intros
  refine ⟨r,_,_,(fqv ks).length,rfl,rfl,e4,GG (by rw [fl];unfold fqv;rw [length_map,length_append];show _ < _+1;omega),?_⟩
  rw [show (fqv (ks++[(z0,0,1)])).set (fqv ks).length (V.ref fr.1)=fqv (ks++[fr]) from by
   rw [Gx,fl,set_append_right _ _ (Nat.le_refl _),Nat.sub_self]
   rfl]
  refine ⟨_,rfl,q r (ks++[fr]) _ hrH (A0 s14 hrH) Ab (fun f m=>FqG.upd ?_ e4) ?_⟩
  ·rcases mem_append.mp m with m | m
   ·exact (gk f m).same s14
   ·rw [mem_singleton.mp m];exact gf.same s14
  ·unfold JE
   rw [if_pos c,map_append]
   rfl
 refine ifF (KZ c) ?_
 and_intros
 generalize hP:(fr.2.1,fr.2.2*((hands 12 (bit (AO ts s))).length:Int))=P0
 refine ⟨by omega,by omega,B9 (fun i σ' J=>∃(fs:List Fq) (v6:Option V),σ'=[some (.ref sp),some (.ref kl),some (.ref fr.1),some (.int s),some (.int (AO ts s)),some (.ref r),v6]/\Az H J/\J r=some (.lst (fqv fs))/\(∀f∈fs,FqG J f)/\fs.length=h+1/\fs.map (·.2)=(List.range i).foldl (fun r j=>if bit (AO ts s) j=true then r.set j P0 else r) (ks.map (·.2)++[(0,1)])) ⟨ks++[(z0,0,1)],none,rfl,s14,e4,g4,(by rw [length_append,ke];rfl),(by rw [map_append];rfl)⟩ ?_ ?_⟩
 ·rintro i σ' J hi ⟨fs,v6,rfl,sJ,rJ,gJ,lJ,vJ⟩
  have fJ:J fr.1=some (.tup [.int fr.2.1,.int fr.2.2]):=sJ _ _ gf
  and_intros
  refine ⟨(by show 0<=0+(i:Int);omega),?_⟩
  and_intros
  have ei:(0+(i:Int)).toNat=i:=by omega
  have hi':i < h:=by rw [fl,ke] at hi;omega
  have szl:Sz 64 ((hands 12 (bit (AO ts s))).length:Int):=by
   have:=BW 12 (bit (AO ts s))
   exact AK (by omega) (by omega)
  dsimp only
  rw [Dh,ei]
  by_cases b:bit (AO ts s) i=true
  ·refine ifT b ?_
   and_intros
   refine ⟨l0,by omega,?_⟩
   and_intros
   refine ⟨(by show 2<=sizeLine;decide),fun t ht=>?_⟩
   dsimp only
   have s5:=Af ht (.tup [V.int fr.2.1,V.int (fr.2.2*((hands 12 (bit (AO ts s))).length:Int))])
   have e5:(upd J t (.tup [V.int fr.2.1,V.int (fr.2.2*((hands 12 (bit (AO ts s))).length:Int))])) t=some (.tup [V.int fr.2.1,V.int (fr.2.2*((hands 12 (bit (AO ts s))).length:Int))]):=Ab
   generalize upd J t (.tup [V.int fr.2.1,V.int (fr.2.2*((hands 12 (bit (AO ts s))).length:Int))])=J1 at s5 e5 ⊢
   have r5:=s5 _ _ rJ
   have g5:FqG J1 (t,P0):=by rw [<- hP];exact e5
   and_intros
   refine ⟨r,_,_,i,rfl,rfl,r5,(by rw [Int.zero_add];exact GG (by unfold fqv;rw [length_map];omega)),?_⟩
   rw [show (fqv fs).set i (V.ref t)=fqv (fs.set i (t,P0)) from Gx fs i (t,P0)]
   refine ⟨fs.set i (t,P0),_,rfl,A0 (sJ.trans s5) hrH,Ab,(fun f m=>FqG.upd ?_ r5),by rw [length_set];exact lJ,?_⟩
   ·rcases mem_or_eq_of_mem_set m with m | rfl
    ·exact (gJ f m).same s5
    ·exact g5
   ·rw [range_succ,foldl_append,foldl_cons,foldl_nil,if_pos b,<- vJ,map_set]
  ·refine ifF (by rw [Bool.not_eq_true] at b;exact b) ?_
   exact ⟨fs,_,rfl,sJ,rJ,gJ,lJ,by rw [range_succ,foldl_append,foldl_cons,foldl_nil,if_neg b];exact vJ⟩
 rintro σ' J ⟨fs,v6,rfl,sJ,rJ,gJ,lJ,vJ⟩
 rw [fl,ke,Int.toNat_natCast] at vJ
 refine ⟨_,rfl,q r fs J hrH sJ rJ gJ ?_⟩
 unfold JE
 rw [if_neg c,hP]
 exact vJ
theorem HP (T:Tx K mg ad):A8 P w K mg base CX0 2 ad.f_law_behind ad.d_law_behind ["_law_row","_law_standing","_law_deed","_law_tally","_law_quota"] LF:=by
 refine T.F_law_behind.ok AM (fun vs H Q E h=>?_) (fun cdv A outer s H vs Q E hr h=>?_)
 ·obtain ⟨r,dt,h,w,fs,m,qu,d,t,ta,rfl,_⟩:=h
  rfl
 obtain ⟨r,dt,h,w,fs,m,qu,d,t,ta,rfl,hr0,gf,fv,wl,wz,hdt,gta,tv,tz,tp,h5,szq,f0,q⟩:=h
 refine ⟨_,(@Ae _ _ _ _ _ (@Am _ _ (5) _ _ _ _ AM.nd rfl (Or.inl rfl) (@Ai _ _ _ _ _ _ _ Au (pv 0) (@Aj _ _ _ _ _ _ _ _ C9 (@Aq _ _ _ _ _ _ _ _ _ At (by rfl) T.z_len PySem.boot_len (@Aa _ _ _ _ _ (pv 0) Ad (by rfl)) (by decide) (by decide) (by rfl) (by rfl)) Ac) (fun _ _=>rfl)) (by rfl) (by first | exact .inl rfl | exact .inr rfl | assumption)) (@Ae _ _ _ _ _ (@Am _ _ (6) _ _ _ _ AM.nd rfl (Or.inl rfl) (@BL _ _ _ _ Ad) (by rfl) (by first | exact .inl rfl | exact .inr rfl | assumption)) (@Ae _ _ _ _ _ (By PassesOwn.never rfl (Be rfl T.z_range (@Aa _ _ _ _ _ (@Aj _ _ _ _ _ _ _ _ C9 (@Aq _ _ _ _ _ _ _ _ _ At (by rfl) T.z_len PySem.boot_len (@Aa _ _ _ _ _ (pv 0) Ad (by rfl)) (by decide) (by decide) (by rfl) (by rfl)) Ac) Ad (by rfl))) (AD (i:=7) AM.nd rfl (Or.inl rfl)) (@Ae _ _ _ _ _ (@Am _ _ (8) _ _ _ _ AM.nd rfl (Or.inl rfl) (@Ai _ _ _ _ _ _ _ Au (pv 0) (pv 7) (fun _ _=>rfl)) (by rfl) (by first | exact .inl rfl | exact .inr rfl | assumption)) (@Ae _ _ _ _ _ (@AB _ _ _ _ _ _ _ _ (@Ax _ _ _ _ _ _ _ _ BX (@Aj _ _ _ _ _ _ _ _ Da (@Aj _ _ _ _ _ _ _ _ Hx (pv 1) (pv 7)) Ac) Ac (Ay _)) (@Ae _ _ _ _ _ (@Am _ _ (5) _ _ _ _ AM.nd rfl (Or.inl rfl) (@Ak _ _ _ _ _ _ _ _ _ _ _ _ _ _ _ _ (D3 T) (hr.mono (by decide)) rfl T.m_law_added T.F_law_added.kp T.b_law_added .nil As (@Aa _ _ _ _ _ (pv 5) (@Aa _ _ _ _ _ (@Ai _ _ _ _ _ _ _ Au (pv 0) (pv 7) (fun _ _=>rfl)) Ad (by rfl)) (by rfl)) (by decide) (by rfl) (by rfl)) (by rfl) (by first | exact .inl rfl | exact .inr rfl | assumption)) (@Ae _ _ _ _ _ (@Am _ _ (8) _ _ _ _ AM.nd rfl (Or.inl rfl) (@A2 _ _ _ _ _ (@Aa _ _ _ _ _ Ac (@Aa _ _ _ _ _ Ac Ad (by rfl)) (by rfl))) (by rfl) (by first | exact .inl rfl | exact .inr rfl | assumption)) (@Ag _ _ _ (@AB _ _ _ _ _ _ _ _ (@Ax _ _ _ _ _ _ _ _ (Fs (K:=K) hr.units) (pv 2) (@A2 _ _ _ _ _ (@Aa _ _ _ _ _ C4 (@Aa _ _ _ _ _ (pv 7) Ad (by rfl)) (by rfl))) (Ay _)) (@Ae _ _ _ _ _ (@Am _ _ (8) _ _ _ _ AM.nd rfl (Or.inl rfl) (@A2 _ _ _ _ _ (@Aa _ _ _ _ _ (@Aj _ _ _ _ _ _ _ _ A3 (@Aj _ _ _ _ _ _ _ _ A3 (@Ai _ _ _ _ _ _ _ Al (@Ai _ _ _ _ _ _ _ Au (pv 0) (pv 7) (fun _ _=>rfl)) Ac (fun _ _=>rfl)) (pv 4)) (@Ai _ _ _ _ _ _ _ Al (pv 3) Ac (fun _ _=>rfl))) (@Aa _ _ _ _ _ (@Aj _ _ _ _ _ _ _ _ A3 (@Ai _ _ _ _ _ _ _ Al (@Ai _ _ _ _ _ _ _ Au (pv 0) (pv 7) (fun _ _=>rfl)) Ac (fun _ _=>rfl)) (@Ai _ _ _ _ _ _ _ Al (pv 3) Ac (fun _ _=>rfl))) Ad (by rfl)) (by rfl))) (by rfl) (by first | exact .inl rfl | exact .inr rfl | assumption)) (@Ag _ _ _ (@Am _ _ (5) _ _ _ _ AM.nd rfl (Or.inl rfl) (@Ak _ _ _ _ _ _ _ _ _ _ _ _ _ _ _ _ (D3 T) (hr.mono (by decide)) rfl T.m_law_added T.F_law_added.kp T.b_law_added .nil As (@Aa _ _ _ _ _ (pv 5) (@Aa _ _ _ _ _ (@A2 _ _ _ _ _ (@Aa _ _ _ _ _ (@Aj _ _ _ _ _ _ _ _ C9 Ac (@Ai _ _ _ _ _ _ _ Al (pv 8) Ac (fun _ _=>rfl))) (@Aa _ _ _ _ _ (@Ai _ _ _ _ _ _ _ Al (pv 8) Ac (fun _ _=>rfl)) Ad (by rfl)) (by rfl))) Ad (by rfl)) (by rfl)) (by decide) (by rfl) (by rfl)) (by rfl) (by first | exact .inl rfl | exact .inr rfl | assumption)))) Av)))) Av) (@Ag _ _ _ (@BQ _ _ _ _ (DN PySem.F.plainAttrs_list PySem.F.slot_list_append PySem.F.type_list_append Bu (pv 6) (@Aa _ _ _ _ _ (pv 8) Ad (by rfl))) (by rfl)))))) (@Ae _ _ _ _ _ (@Am _ _ (9) _ _ _ _ AM.nd rfl (Or.inl rfl) (@Ak _ _ _ _ _ _ _ _ _ _ _ _ _ _ _ _ (DT T) (hr.mono (by decide)) rfl T.m_law_divisor T.F_law_divisor.kp T.b_law_divisor .nil As (@Aa _ _ _ _ _ (@Ai _ _ _ _ _ _ _ Al (pv 5) Ac (fun _ _=>rfl)) (@Aa _ _ _ _ _ (@Ai _ _ _ _ _ _ _ Al (pv 5) Ac (fun _ _=>rfl)) Ad (by rfl)) (by rfl)) (by decide) (by rfl) (by rfl)) (by rfl) (by first | exact .inl rfl | exact .inr rfl | assumption)) (@Ag _ _ _ (@An _ _ _ _ (@A2 _ _ _ _ _ (@Aa _ _ _ _ _ (pv 6) (@Aa _ _ _ _ _ (@A2 _ _ _ _ _ (@Aa _ _ _ _ _ (@Aj _ _ _ _ _ _ _ _ EV (@Ai _ _ _ _ _ _ _ Al (pv 5) Ac (fun _ _=>rfl)) (pv 9)) (@Aa _ _ _ _ _ (@Aj _ _ _ _ _ _ _ _ EV (@Ai _ _ _ _ _ _ _ Al (pv 5) Ac (fun _ _=>rfl)) (pv 9)) Ad (by rfl)) (by rfl))) Ad (by rfl)) (by rfl))))))))),?_⟩
 have fl:(fqv fs).length=h+1:=by
  have:=congrArg List.length fv
  rw [length_map,length_map] at this
  unfold fqv
  rw [length_map]
  omega
 have gta':H ta.1=some (.tup [.int ta.2.1,.int ta.2.2]):=gta
 obtain ⟨fh,bh,ch⟩:=E2 (j:=h) fv (by omega)
 have wh:=wz _ (CA (j:=h) (w:=w) (by omega))
 subst_eqs
 refine ⟨r,_,_,_,rfl,rfl,SqL.of hr0,(by rw [fl,show (((h+1:Nat):Int)) - 1=((h:Nat):Int) from by omega];exact BU bh),?_⟩
 subst_eqs
 refine ⟨(by show 0<=sizeLine;decide),fun L hL=>?_⟩
 have s1:=Af hL (.lst [])
 have e1:(upd H L (.lst [])) L=some (.lst []):=Ab
 generalize upd H L (.lst [])=H1 at s1 e1 ⊢
 have hr1:=s1 _ _ hr0
 subst_eqs
 refine ⟨by omega,by omega,?_⟩
 rw [show ((((fqv fs).length:Nat):Int) - 1).toNat=h from by rw [fl];omega]
 refine B9 (fun i σ' J=>∃(v7 v8:Option V) (fr:Fq) (ks:List Fq),σ'=[some (.ref r),some (.int m),some (.ref dt),some (.ref ta.1),some (.int qu),some (.ref fr.1),some (.ref L),v7,v8,none]/\Az H J/\J L=some (.lst (fqv ks))/\(∀f∈ks,FqG J f/\0 < f.2.2/\Sz 14000 f.2.1/\Sz 14000 f.2.2)/\(ks.map fun f=>vq f.2)=(List.range i).map (CF m qu d t w)/\FqG J fr/\0 < fr.2.2/\vq fr.2=CC m qu d t w i (w.getD h 0)/\Sz (1300+1302*i+sB d i) fr.2.1/\Sz (1300+1302*i+sB d i) fr.2.2) ⟨none,none,fh,[],rfl,s1,e1,(fun _ k=>nomatch k),rfl,(gf fh (mem_of_getElem? bh)).same s1,(by rw [ch];exact AR _),(by rw [ch,BB];unfold CC;show _=_+(0:Rat);grind),(by rw [ch];exact wh.2.1.mono (by omega)),(by rw [ch];exact wh.2.2.mono (by omega))⟩ ?_ ?_
 ·rintro i σ' J hi ⟨v7,v8,fr,ks,rfl,sJ,eL,gk,vk,gfr,b0,vf,z1,z2⟩
  have zi:(0:Int)+(i:Int)=(i:Int):=Int.zero_add _
  have ei:(0+(i:Int)).toNat=i:=by omega
  obtain ⟨fi,bi,ci⟩:=E2 (j:=i) fv (by omega)
  have wi:=wz _ (CA (j:=i) (w:=w) (by omega))
  have hrJ:=sJ _ _ hr0
  have gi:=(gf fi (mem_of_getElem? bi)).same sJ
  have gi':J fi.1=some (.tup [.int fi.2.1,.int fi.2.2]):=gi
  have ki:ks.length=i:=by
   have:=congrArg List.length vk
   rw [length_map,length_map,length_range] at this
   exact this
  have kl:(fqv ks).length=i:=by unfold fqv;rw [length_map,ki]
  have sl:=Rl d i
  subst_eqs
  refine ⟨r,_,_,_,rfl,rfl,SqL.of hrJ,(by rw [zi];exact BU bi),?_⟩
  subst_eqs
  refine ⟨(by show 0<=0+(i:Int);omega),?_⟩
  subst_eqs
  dsimp only
  rw [Dh,ei]
  have fst:CC m qu d t w (i+1) (w.getD h 0)=CC m qu d t w i (w.getD h 0)+if bit m i=true then (w.getD i 0 - (if d=.seat i then w.getD i 0*(qu:Rat) / t else 0)) else 0:=by
   unfold CC
   rw [Rat.add_assoc]
   rfl
  have stp:∀f:Fq,vq f.2=CF m qu d t w i->((ks++[f]).map fun f=>vq f.2)=(List.range (i+1)).map (CF m qu d t w):=fun f e=>by
   rw [map_append,vk,range_succ,map_append]
   show _++[vq f.2]=_++[_]
   rw [e]
  by_cases b:bit m i=true
  ·rw [if_pos b] at fst
   refine ifT b ?_
   subst_eqs
   refine ⟨r,_,_,_,rfl,rfl,SqL.of hrJ,(by rw [zi];exact BU bi),?_⟩
   subst_eqs
   refine ⟨fr,fi,rfl,gfr,gi,z1.mono (by omega),z2.mono (by omega),(by rw [ci];exact wi.2.1.mono (by decide)),(by rw [ci];exact wi.2.2.mono (by decide)),fun a1 J1 j1 g1=>?_⟩
   have fi0:0 < fi.2.2:=by rw [ci];exact AR _
   have fi1:Sz 1300 fi.2.1:=by rw [ci];exact wi.2.1
   have fi2:Sz 1300 fi.2.2:=by rw [ci];exact wi.2.2
   have ad1:=Jo (x:=fr.2) (y:=fi.2) b0 fi0
   have pz1:=F6 (x:=fr.2) (y:=fi.2) (n:=1300+1302*i+sB d i) (g:=1300) z1 z2 fi1 fi2
   rw [vf,show vq fi.2=w.getD i 0 from by rw [ci];exact BB _] at ad1
   subst_eqs
   refine ⟨(by show 2<=sizeLine;decide),fun t0 ht0=>?_⟩
   have s2:=Af ht0 (.tup [V.int 0,V.int 1])
   have e2:(upd J1 t0 (.tup [V.int 0,V.int 1])) t0=some (.tup [V.int 0,V.int 1]):=Ab
   generalize upd J1 t0 (.tup [V.int 0,V.int 1])=J2 at s2 e2 ⊢
   have j2:=j1.trans s2
   subst_eqs
   refine ⟨(by show 2<=sizeLine;decide),fun t1 ht1=>?_⟩
   rw [zi]
   have s3:=Af ht1 (.tup [V.str "seat",V.int (i:Int)])
   have e3:(upd J2 t1 (.tup [V.str "seat",V.int (i:Int)])) t1=some (.tup [V.str "seat",V.int (i:Int)]):=Ab
   generalize upd J2 t1 (.tup [V.str "seat",V.int (i:Int)])=J3 at s3 e3 ⊢
   have j3:=j2.trans s3
   have j03:=sJ.trans j3
   refine ⟨ddD d.word d.data,ddD "seat" (.int (i:Int)),GQ (j03 _ _ hdt),GQ (d:=.seat i) e3,Dw d,Dw (.seat i),?_⟩
   refine ⟨_,rfl,?_⟩
   rw [NJ]
   have eL3:=j3 _ _ eL
   have fr3:FqG J3 (a1,C0 fr.2 fi.2):=g1.same (s2.trans s3)
   by_cases cd:d=.seat i
   ·refine ifT (decide_eq_true cd) ?_
    have t0':=tp i cd
    have tn:=DP (Rat.le_of_lt t0')
    have hrJ3:=j03 _ _ hr0
    have gi3:J3 fi.1=some (.tup [.int fi.2.1,.int fi.2.2]):=j3 _ _ gi
    have gt3:J3 ta.1=some (.tup [.int ta.2.1,.int ta.2.2]):=j03 _ _ gta
    have ta1:Sz 1300 ta.2.1:=by rw [tv];exact tz.2.1
    have ta2:Sz 1300 ta.2.2:=by rw [tv];exact tz.2.2
    subst_eqs
    refine ⟨r,_,_,_,rfl,rfl,SqL.of hrJ3,BU bi,?_⟩
    subst_eqs
    refine ⟨r,_,_,_,rfl,rfl,SqL.of hrJ3,BU bi,?_⟩
    subst_eqs
    refine ⟨(by show 2<=sizeLine;decide),fun t2 ht2=>?_⟩
    obtain ⟨sv,sb⟩:=Re (v:=w.getD i 0) (q:=qu) t0'
    rw [<- ci,<- tv] at sv sb
    have sz1:Sz 2664 (fi.2.1*qu*ta.2.2):=((fi1.mul szq).mul ta2).mono (by decide)
    have sz2:Sz 2664 (fi.2.2*ta.2.1):=(fi2.mul ta1).mono (by decide)
    dsimp only
    generalize fi.2.1*qu*ta.2.2=sx at sv sz1 ⊢
    generalize fi.2.2*ta.2.1=sy at sv sb sz2 ⊢
    have s4:=Af ht2 (.tup [V.int sx,V.int sy])
    have e4:(upd J3 t2 (.tup [V.int sx,V.int sy])) t2=some (.tup [V.int sx,V.int sy]):=Ab
    generalize upd J3 t2 (.tup [V.int sx,V.int sy])=J4 at s4 e4 ⊢
    subst_eqs
    refine ⟨(by show 2<=sizeLine;decide),fun t3 ht3=>?_⟩
    have s5:=Af ht3 (.tup [V.int (0 - sx),V.int sy])
    have e5:(upd J4 t3 (.tup [V.int (0 - sx),V.int sy])) t3=some (.tup [V.int (0 - sx),V.int sy]):=Ab
    generalize upd J4 t3 (.tup [V.int (0 - sx),V.int sy])=J5 at s5 e5 ⊢
    have z0:Sz 2665 (0 - sx):=((AK (by decide) (by decide):Sz 2664 (0:Int)).sub sz1).mono (by decide)
    refine ⟨(a1,C0 fr.2 fi.2),(t3,0 - sx,sy),rfl,fr3.same (s4.trans s5),e5,pz1.1.mono (by omega),pz1.2.mono (by omega),z0.mono (by decide),sz2.mono (by decide),fun a2 J6 j6 g6=>?_⟩
    have ad2:=Jo (x:=C0 fr.2 fi.2) (y:=(0 - sx,sy)) ad1.2 sb
    have pz2:=F6 (x:=C0 fr.2 fi.2) (y:=(0 - sx,sy)) (n:=1300+1302*i+sB d i+1302) (g:=2666) pz1.1 pz1.2 (z0.mono (by decide)) (sz2.mono (by decide))
    have j46:=s4.trans (s5.trans j6)
    have eL6:=j46 _ _ eL3
    have e46:FqG J6 (t2,sx,sy):=(s5.trans j6) _ _ e4
    obtain ⟨sb0,sb1⟩:=PP (i:=i)
    rw [cd,sb0] at pz2
    rw [if_pos cd] at fst
    subst_eqs
    refine ⟨.inl ⟨rfl,_,SqL.of eL6⟩,?_⟩
    subst_eqs
    refine ⟨L,_,_,rfl,rfl,eL6,(by rw [kl];exact AT (by omega)),?_⟩
    rw [show fqv ks++[V.ref t2]=fqv (ks++[(t2,sx,sy)]) from by unfold fqv;rw [map_append];rfl]
    refine ⟨_,_,(a2,C0 (C0 fr.2 fi.2) (0 - sx,sy)),ks++[(t2,sx,sy)],rfl,A0 (j03.trans j46) hL,Ab,(fun f k=>?_),stp _ (by unfold CF;rw [if_pos b,if_pos cd];exact sv),FqG.upd g6 eL6,ad2.2,?_,by rw [cd,sb1];exact pz2.1.mono (by omega),by rw [cd,sb1];exact pz2.2.mono (by omega)⟩
    ·rcases mem_append.mp k with k | k
     ·obtain ⟨k1,k2⟩:=gk f k
      exact ⟨FqG.upd (k1.same (j3.trans j46)) eL6,k2⟩
     ·rw [mem_singleton.mp k]
      exact ⟨FqG.upd e46 eL6,sb,sz1.mono (by decide),sz2.mono (by decide)⟩
    ·show vq (C0 (C0 fr.2 fi.2) (0 - sx,sy))=_
     rw [ad2.1,ad1.1,RF,sv,fst]
     grind
   ·refine ifF (decide_eq_false cd) ?_
    rw [if_neg cd] at fst
    have st:=Qn cd
    have e23:FqG J3 (t0,0,1):=s3 _ _ e2
    subst_eqs
    refine ⟨.inl ⟨rfl,_,SqL.of eL3⟩,?_⟩
    subst_eqs
    refine ⟨L,_,_,rfl,rfl,eL3,(by rw [kl];exact AT (by omega)),?_⟩
    rw [show fqv ks++[V.ref t0]=fqv (ks++[(t0,0,1)]) from by unfold fqv;rw [map_append];rfl]
    refine ⟨_,_,(a1,C0 fr.2 fi.2),ks++[(t0,0,1)],rfl,A0 j03 hL,Ab,(fun f k=>?_),stp _ (by unfold CF;rw [if_pos b,if_neg cd];show vq (0,1)=0;rw [<- Fc,BB]),FqG.upd fr3 eL3,ad1.2,?_,by rw [st];exact pz1.1.mono (by omega),by rw [st];exact pz1.2.mono (by omega)⟩
    ·rcases mem_append.mp k with k | k
     ·obtain ⟨k1,k2⟩:=gk f k
      exact ⟨FqG.upd (k1.same j3) eL3,k2⟩
     ·rw [mem_singleton.mp k]
      exact ⟨FqG.upd e23 eL3,(by show (0:Int) < 1;decide),AK (by show -(2:Int) ^ _ < 0;decide) (by show (0:Int) < 2 ^ _;decide),AK (by show -(2:Int) ^ _ < 1;decide) (by show (1:Int) < 2 ^ _;decide)⟩
    ·show vq (C0 fr.2 fi.2)=_
     rw [ad1.1,fst]
     grind
  ·refine ifF (by rw [Bool.not_eq_true] at b;exact b) ?_
   rw [if_neg b] at fst
   have mo:=QX d i
   subst_eqs
   refine ⟨.inl ⟨rfl,_,SqL.of eL⟩,?_⟩
   subst_eqs
   refine ⟨L,_,_,rfl,rfl,eL,(by rw [kl];exact AT (by omega)),?_⟩
   rw [show fqv ks++[V.ref fi.1]=fqv (ks++[fi]) from by unfold fqv;rw [map_append];rfl]
   refine ⟨_,_,fr,ks++[fi],rfl,A0 sJ hL,Ab,(fun f k=>?_),stp _ (by unfold CF;rw [if_neg b,ci];exact BB _),FqG.upd gfr eL,b0,(by rw [vf,fst];grind),z1.mono (by omega),z2.mono (by omega)⟩
   rcases mem_append.mp k with k | k
   ·obtain ⟨k1,k2⟩:=gk f k
    exact ⟨FqG.upd k1 eL,k2⟩
   ·rw [mem_singleton.mp k]
    exact ⟨FqG.upd gi eL,(by rw [ci];exact AR _),(by rw [ci];exact wi.2.1.mono (by decide)),(by rw [ci];exact wi.2.2.mono (by decide))⟩
 rintro σ' J ⟨v7,v8,fr,ks,rfl,sJ,eL,gk,vk,gfr,b0,vf,z1,z2⟩
 have gfr':J fr.1=some (.tup [.int fr.2.1,.int fr.2.2]):=gfr
 have sl:=Rl d h
 have n0:0<=fr.2.1:=RS b0 (by rw [vf];exact f0)
 have g0:A7 fr.2.1 fr.2.2≠0:=JA (by omega)
 have e1':fr.2.1.fdiv (A7 fr.2.1 fr.2.2)=B4 fr.2.1 fr.2.2:=by unfold B4 Dr;rw [if_neg (by omega)]
 have e2':fr.2.2.fdiv (A7 fr.2.1 fr.2.2)=B1 fr.2.1 fr.2.2:=by unfold B1 Dr;rw [if_neg (by omega)]
 have lo:=Hb n0 b0
 subst_eqs
 refine ⟨_,_,rfl,n0,Int.le_of_lt b0,?_⟩
 subst_eqs
 refine ⟨⟨g0,z1.mono (by omega)⟩,?_⟩
 subst_eqs
 refine ⟨⟨g0,z2.mono (by omega)⟩,?_⟩
 subst_eqs
 refine ⟨(by show 2<=sizeLine;decide),fun t1 ht1=>?_⟩
 dsimp only
 rw [e1',e2']
 have s3:=Af ht1 (.tup [V.int (B4 fr.2.1 fr.2.2),V.int (B1 fr.2.1 fr.2.2)])
 have e3:(upd J t1 (.tup [V.int (B4 fr.2.1 fr.2.2),V.int (B1 fr.2.1 fr.2.2)])) t1=some (.tup [V.int (B4 fr.2.1 fr.2.2),V.int (B1 fr.2.1 fr.2.2)]):=Ab
 generalize upd J t1 (.tup [V.int (B4 fr.2.1 fr.2.2),V.int (B1 fr.2.1 fr.2.2)])=J1 at s3 e3 ⊢
 refine ⟨(by show 2<=sizeLine;decide),fun t2 ht2=>?_⟩
 have s4:=Af ht2 (.tup [V.ref L,V.ref t1])
 refine q (t2,(L,ks),(t1,B4 fr.2.1 fr.2.2,B1 fr.2.1 fr.2.2)) _ hL (sJ.trans (s3.trans s4)) ⟨Ab,(s3.trans s4) _ _ eL,fun f k=>(gk f k).1.same (s3.trans s4),s4 _ _ e3⟩ ?_ vk (fun f k=>(gk f k).2)
 show (B4 fr.2.1 fr.2.2,B1 fr.2.1 fr.2.2)=_
 rw [lo,<- vf]
 rfl
theorem Jr (T:Tx K mg ad):A8 P w K mg base CX0 2 ad.f_law_kinds ad.d_law_kinds ["_law_deed"] NI:=by
 refine T.F_law_kinds.ok Je (fun vs H Q E h=>?_) (fun cdv A outer s H vs Q E hr h=>?_)
 ·obtain ⟨t,d,rfl,_⟩:=h
  rfl
 obtain ⟨t,d,rfl,ht,q⟩:=h
 refine ⟨_,(@Ae _ _ _ _ _ (@AB _ _ _ _ _ _ _ _ (PW.pt (@Cn _ _ _ _ _ _ _ (@AQ _ _ _ _ (@AH _ _ _ (@Aq _ _ _ _ _ _ _ _ _ Bx (by rfl) T.z_isinstance PyProof.Rows.boot_isinstance (@Aa _ _ _ _ _ (pv 0) (@Aa _ _ _ _ _ (BH (v:=.ty "tuple") rfl T.z_tuple PyProof.Rows.boot_tuple rfl) Ad (by rfl)) (by rfl)) (by decide) (by decide) (by rfl) (by rfl)) (by intro _;rfl))) (@Cn _ _ _ _ _ _ _ (@Ax _ _ _ _ _ _ _ _ Er (@Aq _ _ _ _ _ _ _ _ _ At (by rfl) T.z_len PySem.boot_len (@Aa _ _ _ _ _ (pv 0) Ad (by rfl)) (by decide) (by decide) (by rfl) (by rfl)) Ac (Ay _)) (@Cc _ _ _ _ (@AQ _ _ _ _ (@AH _ _ _ (@Aq _ _ _ _ _ _ _ _ _ Bx (by rfl) T.z_isinstance PyProof.Rows.boot_isinstance (@Aa _ _ _ _ _ (@Ai _ _ _ _ _ _ _ Al (pv 0) Ac (fun _ _=>rfl)) (@Aa _ _ _ _ _ (BH (v:=.ty "str") rfl T.z_str PyProof.Rows.boot_str rfl) Ad (by rfl)) (by rfl)) (by decide) (by decide) (by rfl) (by rfl)) (by intro _;rfl))))))) (@Ag _ _ _ (@An _ _ _ _ Cm)) Av) (@Ag _ _ _ (@An _ _ _ _ (@SI _ _ _ _ _ _ _ (@BP _ _ _ _ _ _ _ _ IX (@Ai _ _ _ _ _ _ _ Al (pv 0) Ac (fun _ _=>rfl)) D4 (Ay _)) (@DM _ _ _ _ _ (@Ak _ _ _ _ _ _ _ _ _ _ _ _ _ _ _ _ (DC T) (hr.mono (by decide)) rfl T.m_law_whole T.F_law_whole.kp T.b_law_whole .nil As (@Aa _ _ _ _ _ (@Ai _ _ _ _ _ _ _ Al (pv 0) Ac (fun _ _=>rfl)) Ad (by rfl)) (by decide) (by rfl) (by rfl))))))),?_⟩
 cases d with
 | rest =>
   have hd':H t=some (.tup [.str "rest",.non]):=ht
   and_intros
   refine ⟨_,_,_,_,rfl,BO.tup hd',Bl,?_⟩
   and_intros
   refine ⟨_,_,_,_,rfl,BO.str _,CV,?_⟩
   and_intros
   exact ifT (decide_eq_true rfl) q
 | fin =>
   have hd':H t=some (.tup [.str "end",.non]):=ht
   and_intros
   refine ⟨_,_,_,_,rfl,BO.tup hd',Bl,?_⟩
   and_intros
   refine ⟨_,_,_,_,rfl,BO.str _,CV,?_⟩
   and_intros
   exact ifT (decide_eq_true rfl) q
 | seat j =>
   have hd':H t=some (.tup [.str "seat",.int (j:Int)]):=ht
   and_intros
   refine ⟨_,_,_,_,rfl,BO.tup hd',Bl,?_⟩
   and_intros
   refine ⟨_,_,_,_,rfl,BO.str _,CV,?_⟩
   and_intros
   exact q
 | out j =>
   have hd':H t=some (.tup [.str "out",.int (j:Int)]):=ht
   and_intros
   refine ⟨_,_,_,_,rfl,BO.tup hd',Bl,?_⟩
   and_intros
   refine ⟨_,_,_,_,rfl,BO.str _,CV,?_⟩
   and_intros
   exact q
theorem BK (T:Tx K mg ad):A8 P w K mg base CX0 2 ad.f_Seats_standing_by_lots ad.d_Seats_standing_by_lots ["self","standing"] (Tn ad.c_Seats):=by
 refine T.F_Seats_standing_by_lots.ok CN (fun vs H Q E h=>?_) (fun cdv A outer s H vs Q E hr h=>?_)
 ·obtain ⟨a,h,s,xs,m,rfl,_⟩:=h
  rfl
 obtain ⟨a,h,s,xs,m,rfl,is,x0,x12,q⟩:=h
 refine ⟨_,(@Ag _ _ _ (@An _ _ _ _ (C7 (fsc:=Ah Bq) (N:=["self","standing"]) (Nc:=["self","standing","hand"]) rfl rfl ⟨rfl,by decide +kernel,by decide +kernel,rfl,by decide +kernel,rfl,by decide +kernel,rfl,by decide +kernel⟩ rfl (Bd (F1 (pv 0) rfl)) (fun _ _ _ _=>(IY (@AH _ _ _ (@Ak _ _ _ _ _ _ _ _ _ _ _ _ _ _ _ _ (KR T) (hr.mono (by decide)) rfl T.m_holds T.F_holds.kp T.b_holds .nil As (@Aa _ _ _ _ _ (pv 1) (@Aa _ _ _ _ _ (pv 2) Ad (by rfl)) (by rfl)) (by decide) (by rfl) (by rfl)) (by intro _;rfl)))) (fun _ _ _ _=>(pv 2))))),?_⟩
 obtain ⟨dx,l,k1,k2⟩:=is
 refine ⟨_,rfl,a,_,dx,_,_,rfl,k1,T.cl_Seats,T.na_Seats_lots,rfl,?_⟩
 refine ⟨l,rfl,⟨_,SqL.of k2⟩,?_⟩
 have xl:(xs.map V.int).length=xs.length:=length_map ..
 refine Bk (xs:=xs.map V.int) (by rw [xl];exact AL (by omega)) (fun D i ys J=>ys=(A6 (xs.take i) m).map V.int/\J=upd H D (.lst ys)) (fun D hD=>⟨rfl,rfl⟩) (fun D i ys J hq_=>by obtain ⟨f1,f2⟩:=hq_;exact ⟨by rw [f2];exact Ab,by rw [f1,length_map];exact Nat.le_trans (length_filter_le ..) (length_take_le _ _)⟩) (fun D i ys J hD hq_=>by obtain ⟨_,f2⟩:=hq_;rw [f2];exact SqL.of (Af hD _ _ _ k2)) ?_ ?_
 ·rintro D i y ys J K1 K2 hD hy ⟨e,rfl⟩ kk1 kk2
  obtain ⟨x,hx,rfl⟩:=C2 hy
  have tk:A6 (xs.take (i+1)) m=A6 (xs.take i) m++(if bit m x.toNat=true then [x] else []):=by
   unfold A6
   rw [take_add_one,hx,filter_append]
   show _++List.filter _ [x]=_
   rw [filter_cons]
   rfl
  refine ⟨_,rfl,_,rfl,m,x,rfl,x0 x (mem_of_getElem? hx),_,rfl,?_⟩
  cases b:bit m x.toNat with
  | true =>
    refine ifT rfl ?_
    rw [b,if_pos rfl] at tk
    refine ⟨_,rfl,kk1 _ _ Ab ⟨?_,by rw [CZ]⟩⟩
    rw [tk,map_append,e]
    rfl
  | false =>
    refine ifF rfl ?_
    rw [b,if_neg (by decide),append_nil] at tk
    exact kk2 _ ⟨by rw [tk];exact e,rfl⟩
 rintro D ys J hD ⟨rfl,rfl⟩
 rw [xl,take_of_length_le (Nat.le_refl _)]
 exact q D _ (Af hD _) Ab
theorem Pu (T:Tx K mg ad):A8 P w K mg base CX0 3 ad.f_minus ad.d_minus ["one","other"] (Jp K (fun t b u c=>t*c - u*b) (fun t b u c=>b*c)):=by
 refine T.F_minus.ok Og (fun vs H Q E h=>?_) (fun cdv A outer s H vs Q E hr h=>?_)
 ·obtain ⟨p,r,t,b,u,c,rfl,_⟩:=h
  rfl
 obtain ⟨p,r,t,b,u,c,rfl,h1,h2,ne,st,sb,su,sc,q⟩:=h
 refine ⟨_,(@Ag _ _ _ (@An _ _ _ _ (@Ak _ _ _ _ _ _ _ _ _ _ _ _ _ _ _ _ (CQ T) (hr.mono (by decide)) rfl T.m_fraction T.F_fraction.kp T.b_fraction .nil As (@Aa _ _ _ _ _ (@Aj _ _ _ _ _ _ _ _ C9 (@Aj _ _ _ _ _ _ _ _ A3 (@Ai _ _ _ _ _ _ _ Al (pv 0) Ac (fun _ _=>rfl)) (@Ai _ _ _ _ _ _ _ Al (pv 1) Ac (fun _ _=>rfl))) (@Aj _ _ _ _ _ _ _ _ A3 (@Ai _ _ _ _ _ _ _ Al (pv 1) Ac (fun _ _=>rfl)) (@Ai _ _ _ _ _ _ _ Al (pv 0) Ac (fun _ _=>rfl)))) (@Aa _ _ _ _ _ (@Aj _ _ _ _ _ _ _ _ A3 (@Ai _ _ _ _ _ _ _ Al (pv 0) Ac (fun _ _=>rfl)) (@Ai _ _ _ _ _ _ _ Al (pv 1) Ac (fun _ _=>rfl))) Ad (by rfl)) (by rfl)) (by decide) (by rfl) (by rfl)))),?_⟩
 and_intros
 exact ⟨_,_,rfl,ne,((st.mul sc).sub (su.mul sb)).mono (by decide),(sb.mul sc).mono (by decide),fun z H' s' e'=>q z H' s' e'⟩
theorem On (T:Tx K mg ad):A8 P w K mg base CX0 3 ad.f_times ad.d_times ["one","other"] (Jp K (fun t b u c=>t*u) (fun t b u c=>b*c)):=by
 refine T.F_times.ok Po (fun vs H Q E h=>?_) (fun cdv A outer s H vs Q E hr h=>?_)
 ·obtain ⟨p,r,t,b,u,c,rfl,_⟩:=h
  rfl
 obtain ⟨p,r,t,b,u,c,rfl,h1,h2,ne,st,sb,su,sc,q⟩:=h
 refine ⟨_,(@Ag _ _ _ (@An _ _ _ _ (@Ak _ _ _ _ _ _ _ _ _ _ _ _ _ _ _ _ (CQ T) (hr.mono (by decide)) rfl T.m_fraction T.F_fraction.kp T.b_fraction .nil As (@Aa _ _ _ _ _ (@Aj _ _ _ _ _ _ _ _ A3 (@Ai _ _ _ _ _ _ _ Al (pv 0) Ac (fun _ _=>rfl)) (@Ai _ _ _ _ _ _ _ Al (pv 1) Ac (fun _ _=>rfl))) (@Aa _ _ _ _ _ (@Aj _ _ _ _ _ _ _ _ A3 (@Ai _ _ _ _ _ _ _ Al (pv 0) Ac (fun _ _=>rfl)) (@Ai _ _ _ _ _ _ _ Al (pv 1) Ac (fun _ _=>rfl))) Ad (by rfl)) (by rfl)) (by decide) (by rfl) (by rfl)))),?_⟩
 and_intros
 exact ⟨_,_,rfl,ne,(st.mul su).mono (by decide),(sb.mul sc).mono (by decide),fun z H' s' e'=>q z H' s' e'⟩
theorem N4 (T:Tx K mg ad):A8 P w K mg base CX0 3 ad.f_parted ad.d_parted ["one","other"] (Jp K (fun t b u c=>t*c) (fun t b u c=>b*u)):=by
 refine T.F_parted.ok Na (fun vs H Q E h=>?_) (fun cdv A outer s H vs Q E hr h=>?_)
 ·obtain ⟨p,r,t,b,u,c,rfl,_⟩:=h
  rfl
 obtain ⟨p,r,t,b,u,c,rfl,h1,h2,ne,st,sb,su,sc,q⟩:=h
 refine ⟨_,(@Ag _ _ _ (@An _ _ _ _ (@Ak _ _ _ _ _ _ _ _ _ _ _ _ _ _ _ _ (CQ T) (hr.mono (by decide)) rfl T.m_fraction T.F_fraction.kp T.b_fraction .nil As (@Aa _ _ _ _ _ (@Aj _ _ _ _ _ _ _ _ A3 (@Ai _ _ _ _ _ _ _ Al (pv 0) Ac (fun _ _=>rfl)) (@Ai _ _ _ _ _ _ _ Al (pv 1) Ac (fun _ _=>rfl))) (@Aa _ _ _ _ _ (@Aj _ _ _ _ _ _ _ _ A3 (@Ai _ _ _ _ _ _ _ Al (pv 0) Ac (fun _ _=>rfl)) (@Ai _ _ _ _ _ _ _ Al (pv 1) Ac (fun _ _=>rfl))) Ad (by rfl)) (by rfl)) (by decide) (by rfl) (by rfl)))),?_⟩
 and_intros
 exact ⟨_,_,rfl,ne,(st.mul sc).mono (by decide),(sb.mul su).mono (by decide),fun z H' s' e'=>q z H' s' e'⟩
theorem IR (T:Tx K mg ad):A8 P w K mg base CX0 3 ad.f_table_row ad.d_table_row ["slip","free","kept","standing"] (LZ 4500):=by
 refine T.F_table_row.ok Ch (fun vs H Q E h=>?_) (fun cdv A outer s H vs Q E hr h=>?_)
 ·obtain ⟨sp,kl,h,ts,fr,ks,s,rfl,_⟩:=h
  rfl
 obtain ⟨sp,kl,h,ts,fr,ks,s,rfl,hT,gf,fb,hk,gk,ke,h12,l0,l1,win,wl12,q⟩:=h
 refine ⟨_,(@Ae _ _ _ _ _ (@Am _ _ (4) _ _ _ _ Ch.nd rfl (Or.inl rfl) (@Bv _ _ _ _ _ _ _ _ _ BF (by rfl) T.z_list PyProof.Rows.boot_list (@Aa _ _ _ _ _ (pv 2) Ad (by rfl)) (by decide) (by decide) (by rfl) (by rfl)) (by rfl) (by first | exact .inl rfl | exact .inr rfl | assumption)) (@Ae _ _ _ _ _ (@Am _ _ (5) _ _ _ _ Ch.nd rfl (Or.inl rfl) (@Ak _ _ _ _ _ _ _ _ _ _ _ _ _ _ _ _ (Hh T) (hr.mono (by decide)) rfl T.m_members T.F_members.kp T.b_members .nil As (@Aa _ _ _ _ _ (@Ak _ _ _ _ _ _ _ _ _ _ _ _ _ _ _ _ (MH T) (hr.mono (by decide)) rfl T.m_lies T.F_lies.kp T.b_lies .nil As (@Aa _ _ _ _ _ (pv 0) (@Aa _ _ _ _ _ (pv 3) Ad (by rfl)) (by rfl)) (by decide) (by rfl) (by rfl)) Ad (by rfl)) (by decide) (by rfl) (by rfl)) (by rfl) (by first | exact .inl rfl | exact .inr rfl | assumption)) (@Ae _ _ _ _ _ (@AB _ _ _ _ _ _ _ _ (@Ax _ _ _ _ _ _ _ _ (Fs (K:=K) hr.units) (pv 5) (@BL _ _ _ _ Ad) (Ay _)) (@Ae _ _ _ _ _ (@BQ _ _ _ _ (DN PySem.F.plainAttrs_list PySem.F.slot_list_append PySem.F.type_list_append Bu (pv 4) (@Aa _ _ _ _ _ (pv 1) Ad (by rfl))) (by rfl)) (@Ag _ _ _ (@An _ _ _ _ (pv 4)))) Av) (@Ae _ _ _ _ _ (@BQ _ _ _ _ (DN PySem.F.plainAttrs_list PySem.F.slot_list_append PySem.F.type_list_append Bu (pv 4) (@Aa _ _ _ _ _ (@A2 _ _ _ _ _ (@Aa _ _ _ _ _ Ac (@Aa _ _ _ _ _ Ac Ad (by rfl)) (by rfl))) Ad (by rfl))) (by rfl)) (@Ae _ _ _ _ _ (@Am _ _ (6) _ _ _ _ Ch.nd rfl (Or.inl rfl) (@Ak _ _ _ _ _ _ _ _ _ _ _ _ _ _ _ _ (ET T) (hr.mono (by decide)) rfl T.m_even_part T.F_even_part.kp T.b_even_part .nil As (@Aa _ _ _ _ _ (pv 1) (@Aa _ _ _ _ _ (@Aq _ _ _ _ _ _ _ _ _ At (by rfl) T.z_len PySem.boot_len (@Aa _ _ _ _ _ (pv 5) Ad (by rfl)) (by decide) (by decide) (by rfl) (by rfl)) Ad (by rfl)) (by rfl)) (by decide) (by rfl) (by rfl)) (by rfl) (by first | exact .inl rfl | exact .inr rfl | assumption)) (@Ae _ _ _ _ _ (By PassesOwn.never rfl (Bd (pv 5)) (AD (i:=7) Ch.nd rfl (Or.inl rfl)) (@Ag _ _ _ (Hv (pv 6) (Jl (pv 4) (pv 7) EY)))) (@Ag _ _ _ (@An _ _ _ _ (pv 4))))))))),?_⟩
 have p12:(2:Int) ^ h<=4096:=by
  have:=Nat.pow_le_pow_right (show 0 < 2 by decide) h12
  exact_mod_cast this
 and_intros
 intro r hr0
 have s1:=Af hr0 (.lst (fqv ks))
 have e1:(upd H r (.lst (fqv ks))) r=some (.lst (fqv ks)):=Ab
 generalize upd H r (.lst (fqv ks))=H1 at s1 e1 ⊢
 and_intros
 refine ⟨sp,ts,s,rfl,SqT.of (s1 _ _ hT),?_⟩
 and_intros
 refine ⟨l0,by omega,fun wl H2 hwl s2 e2=>?_⟩
 have e2':H2 wl=some (.lst ((Aw ts s).map V.int)):=e2
 have r2:=s2 _ _ e1
 have s12:=s1.trans s2
 generalize Aw ts s=wh at e2' win wl12 q
 clear e2
 have fl:(fqv ks).length=ks.length:=length_map ..
 and_intros
 refine ⟨(by show 0<=sizeLine;decide),fun e0 he0=>?_⟩
 have s3:=Af he0 (.lst [])
 have ee0:(upd H2 e0 (.lst [])) e0=some (.lst []):=Ab
 generalize upd H2 e0 (.lst [])=H3 at s3 ee0 ⊢
 have s13:=s12.trans s3
 have r3:=s3 _ _ r2
 have w3:=s3 _ _ e2'
 refine ⟨.list (wh.map .int),.list (([]:List Int).map .int),.lst (SqL.of w3) (.ints _),.lst (SqL.of ee0) .nil,(D8 _).2,(D8 _).2,?_⟩
 rw [show ∀x y:List Int,PyData.eqv (.list (x.map .int)) (.list (y.map .int))=decide (x=y) from fun x y=>HA x y]
 by_cases cw:wh=[]
 ·refine ⟨_,rfl,ifT (decide_eq_true cw) ?_⟩
  and_intros
  refine ⟨.inl ⟨rfl,_,SqL.of r3⟩,?_⟩
  and_intros
  refine ⟨r,_,_,rfl,rfl,r3,(by rw [fl];exact Nat.lt_of_le_of_lt (show ks.length<=12 by omega) (by decide)),?_⟩
  rw [show fqv ks++[V.ref fr.1]=fqv (ks++[fr]) from by unfold fqv;rw [map_append];rfl]
  refine ⟨_,rfl,q r (ks++[fr]) _ hr0 (A0 s13 hr0) Ab (fun f m=>FqG.upd ?_ r3) ?_⟩
  ·rcases mem_append.mp m with m | m
   ·exact (gk f m).same s13
   ·rw [mem_singleton.mp m];exact gf.same s13
  ·unfold Kz
   rw [if_pos cw,map_append]
   rfl
 refine ⟨_,rfl,ifF (decide_eq_false cw) ?_⟩
 have wl1:0 < wh.length:=length_pos_iff.mpr cw
 and_intros
 refine ⟨.inl ⟨rfl,_,SqL.of r3⟩,?_⟩
 and_intros
 refine ⟨(by show 2<=sizeLine;decide),fun z0 hz0=>?_⟩
 have s4:=Af hz0 (.tup [V.int 0,V.int 1])
 have e4:(upd H3 z0 (.tup [V.int 0,V.int 1])) z0=some (.tup [V.int 0,V.int 1]):=Ab
 generalize upd H3 z0 (.tup [V.int 0,V.int 1])=H4 at s4 e4 ⊢
 have r4:=s4 _ _ r3
 have s14:=s13.trans s4
 refine ⟨r,_,_,rfl,rfl,r4,(by rw [fl];exact Nat.lt_of_le_of_lt (show ks.length<=12 by omega) (by decide)),?_⟩
 rw [show fqv ks++[V.ref z0]=fqv (ks++[(z0,0,1)]) from by unfold fqv;rw [map_append];rfl]
 have s15:Az H (upd H4 r (.lst (fqv (ks++[(z0,0,1)])))):=A0 s14 hr0
 have r5:(upd H4 r (.lst (fqv (ks++[(z0,0,1)])))) r=some (.lst (fqv (ks++[(z0,0,1)]))):=Ab
 have w5:(upd H4 r (.lst (fqv (ks++[(z0,0,1)])))) wl=some (.lst (wh.map V.int)):=by
  rw [Ap (fun z=>by rw [z,e1] at hwl;cases hwl)]
  exact s4 _ _ w3
 have g5:∀f∈ks++[(z0,0,1)],FqG (upd H4 r (.lst (fqv (ks++[(z0,0,1)])))) f:=fun f m=>FqG.upd (by
  rcases mem_append.mp m with m | m
  ·exact (gk f m).same s14
  ·rw [mem_singleton.mp m];exact e4) r4
 generalize upd H4 r (.lst (fqv (ks++[(z0,0,1)])))=H5 at s15 r5 w5 g5 ⊢
 have wm:(wh.map V.int).length=wh.length:=length_map ..
 and_intros
 refine ⟨fr,wh.length,(by show [_,V.int ((wh.map V.int).length:Int)]=_;rw [wm]),gf.same s15,fb,by omega,wl12,fun T H6 hT6 s6 e6=>?_⟩
 have s16:=s15.trans s6
 have r6:=s6 _ _ r5
 have w6:=s6 _ _ w5
 have wr:wl≠r:=fun z=>by rw [z,e1] at hwl;cases hwl
 and_intros
 refine ⟨⟨_,SqL.of w6⟩,Dl (xs:=wh.map V.int) (fun i σ' J=>∃(fs:List Fq) (v7:Option V),σ'=[some (.ref sp),some (.ref fr.1),some (.ref kl),some (.int s),some (.ref r),some (.ref wl),some (.ref T),v7]/\Az H J/\J r=some (.lst (fqv fs))/\J wl=some (.lst (wh.map V.int))/\(∀f∈fs,FqG J f)/\fs.length=h+1/\fs.map (·.2)=(wh.take i).foldl (fun r x=>r.set x.toNat (Bf fr.2 wh.length)) (ks.map (·.2)++[(0,1)])/\FqG J (T,Bf fr.2 wh.length)) ⟨ks++[(z0,0,1)],none,rfl,s16,r6,w6,(fun f m=>(g5 f m).same s6),(by rw [length_append,ke];rfl),(by rw [map_append];rfl),e6⟩ (fun i σ' J _ hq_=>by obtain ⟨_,_,_,_,_,e,_⟩:=hq_;exact SqL.of e) ?_ ?_⟩
 ·rintro i x σ' J hx ⟨fs,v7,rfl,sJ,rJ,wJ,gJ,lJ,vJ,pJ⟩
  obtain ⟨y,hy,rfl⟩:=C2 hx
  obtain ⟨y0,y1⟩:=win y (mem_of_getElem? hy)
  obtain ⟨j,rfl⟩:∃j:Nat,y=(j:Int):=⟨y.toNat,by omega⟩
  and_intros
  refine ⟨r,_,_,j,rfl,rfl,rJ,GG (by unfold fqv;rw [length_map];omega),?_⟩
  rw [show (fqv fs).set j (V.ref T)=fqv (fs.set j (T,Bf fr.2 wh.length)) from Gx fs j (T,Bf fr.2 wh.length)]
  refine ⟨fs.set j (T,Bf fr.2 wh.length),_,rfl,A0 sJ hr0,Ab,by rw [Ap wr];exact wJ,(fun f m=>FqG.upd ?_ rJ),by rw [length_set];exact lJ,?_,FqG.upd pJ rJ⟩
  ·rcases mem_or_eq_of_mem_set m with m | rfl
   ·exact gJ f m
   ·exact pJ
  ·rw [take_add_one,hy,map_set,vJ]
   show _=List.foldl _ _ (_++[(j:Int)])
   rw [foldl_append,foldl_cons,foldl_nil,Int.toNat_natCast]
 rintro σ' J ⟨fs,v7,rfl,sJ,rJ,wJ,gJ,lJ,vJ,pJ⟩
 rw [length_map,take_of_length_le (Nat.le_refl _)] at vJ
 refine ⟨_,rfl,q r fs J hr0 sJ rJ gJ ?_⟩
 unfold Kz
 rw [if_neg cw]
 exact vJ
theorem Hy (T:Tx K mg ad):A8 P w K mg base CX0 3 ad.f_weighed ad.d_weighed ["sheet","shares"] Pq:=by
 refine T.F_weighed.ok CJ (fun vs H Q E h=>?_) (fun cdv A outer s H vs Q E hr h=>?_)
 ·obtain ⟨l,sl,ls,fs,M,rfl,_⟩:=h
  rfl
 obtain ⟨l,sl,ls,fs,M,rfl,hl,gl,hs,gf',M0,Mz,le,l60,nz',q⟩:=h
 refine ⟨_,(@Ae _ _ _ _ _ (@Am _ _ (2) _ _ _ _ CJ.nd rfl (Or.inl rfl) Kf (by rfl) (by first | exact .inl rfl | exact .inr rfl | assumption)) (@Ae _ _ _ _ _ (By PassesOwn.never rfl (Jx rfl T.z_zip (@Aa _ _ _ _ _ (pv 0) (@Aa _ _ _ _ _ (pv 1) Ad (by rfl)) (by rfl))) (FG rfl (Bo (AD (i:=3) CJ.nd rfl (Or.inl rfl)) (Bo (AD (i:=4) CJ.nd rfl (Or.inl rfl)) Eg))) (@Ag _ _ _ (@AB _ _ _ _ _ _ _ _ (@Ax _ _ _ _ _ _ _ _ Er (@Ai _ _ _ _ _ _ _ Al (pv 4) Ac (fun _ _=>rfl)) Ac (Ay _)) (@Ag _ _ _ (GI (u1 hr.units) (pv 2) (@Ai _ _ _ _ _ _ _ Al (pv 4) Ac (fun _ _=>rfl)) (@Aj _ _ _ _ _ _ _ _ AS (GY (u1 hr.units) (pv 2) (@Ai _ _ _ _ _ _ _ Al (pv 4) Ac (fun _ _=>rfl)) Ac ⟨rfl,rfl,rfl,rfl⟩) (@Aj _ _ _ _ _ _ _ _ A3 (@Ai _ _ _ _ _ _ _ Al (pv 3) Ac (fun _ _=>rfl)) (@Ai _ _ _ _ _ _ _ Al (pv 4) Ac (fun _ _=>rfl)))) rfl)) Av))) (@Ae _ _ _ _ _ (@Am _ _ (5) _ _ _ _ CJ.nd rfl (Or.inr rfl) (@Ak _ _ _ _ _ _ _ _ _ _ _ _ _ _ _ _ (F8 T) (hr.mono (by decide)) rfl T.m_common_bottom T.F_common_bottom.kp T.b_common_bottom .nil As (@Aa _ _ _ _ _ (pv 2) Ad (by rfl)) (by decide) (by rfl) (by rfl)) (by rfl) (by first | exact .inl rfl | exact .inr rfl | assumption)) (@Ag _ _ _ (@An _ _ _ _ (@Ak _ _ _ _ _ _ _ _ _ _ _ _ _ _ _ _ (CQ T) (hr.mono (by decide)) rfl T.m_fraction T.F_fraction.kp T.b_fraction .nil As (@Aa _ _ _ _ _ (@Aq _ _ _ _ _ _ _ _ _ (Fa rfl) (by rfl) T.z_sum PyProof.Rows.boot_sum (@Aa _ _ _ _ _ (Pd (E9 (fsc:=Ah F3) (N:=["sheet","shares","tops","line","share","common"]) (Nc:=["sheet","shares","tops","line","share","common","bottom","top"]) rfl rfl ⟨rfl,by decide +kernel,by decide +kernel,by decide +kernel,by decide +kernel,rfl,by decide +kernel,rfl,by decide +kernel⟩ rfl (Od (Lg PySem.F.plainAttrs_dict PySem.F.slot_dict_items PySem.F.type_dict_items OU (pv 2))) (fun _ _ _ _=>Bg) (fun _ _ _ _=>(@Aj _ _ _ _ _ _ _ _ A3 (pv 7) (@Aj _ _ _ _ _ _ _ _ Bj (pv 5) (pv 6)))))) Ad (by rfl)) (by decide) (by decide) (by rfl) (by rfl)) (@Aa _ _ _ _ _ (pv 5) Ad (by rfl)) (by rfl)) (by decide) (by rfl) (by rfl))))))),?_⟩
 have gf:∀f∈fs,FqG H f/\FqB 4500 f:=fun f m=>⟨(gf' f m).1,(gf' f m).2.fq M0 Mz⟩
 have nz:∀q∈ls,Sz 64 q.2.2.2:=fun q m=>(nz' q m).2
 have zl:(Cr ls fs).length=ls.length:=by unfold Cr;rw [length_map,length_zip,le,Nat.min_self]
 have fl:(fqv fs).length=fs.length:=length_map ..
 subst_eqs
 intro d hd
 have s0:=Af hd (.dK [])
 have e0:(upd H d (.dK [])) d=some (.dK []):=Ab
 generalize upd H d (.dK [])=H0 at s0 e0 ⊢
 have inv0:∀φ,Gs φ []=Dg φ ((Cr ls fs).take 0):=fun φ=>rfl
 subst_eqs
 refine ⟨l,sl,rfl,⟨_,SqL.of (s0 _ _ hl)⟩,⟨_,SqL.of (s0 _ _ hs)⟩,?_⟩
 refine Mi (xs:=vls ls) (ys:=fqv fs) (by rw [BI,fl,le]) (fun i σ' J=>∃(v3 v4:Option V) (ps:List (Int × Int)),σ'=[some (.ref l),some (.ref sl),some (.ref d),v3,v4,none]/\Az H J/\J d=some (.dK (Df ps))/\(ps.map (·.1)).Nodup/\ps.length<=i/\Td 4500 ps/\(∀q∈ps,q.1 ∣ M)/\(∀q∈ps,Sz (64+4500+i) q.2)/\(∀q∈ps,∃z∈(Cr ls fs).take i,z.2.1≠0/\z.2.2=q.1)/\(∀z∈(Cr ls fs).take i,z.2.1≠0->z.2.2∈ps.map (·.1))/\∀φ,Gs φ ps=Dg φ ((Cr ls fs).take i)) ⟨none,none,[],rfl,s0,e0,nodup_nil,Nat.le_refl _,⟨(fun _ m=>absurd m List.not_mem_nil),fun _ m=>absurd m List.not_mem_nil⟩,(fun _ m=>absurd m List.not_mem_nil),(fun _ m=>absurd m List.not_mem_nil),(fun _ m=>absurd m List.not_mem_nil),(fun _ m=>absurd m List.not_mem_nil),inv0⟩ (fun i σ' J _ hq_=>by obtain ⟨_,_,_,_,e,_⟩:=hq_;exact ⟨SqL.of (e _ _ hl),SqL.of (e _ _ hs)⟩) ?_ ?_
 ·rintro i x y T σ' J hx hy ⟨v3,v4,ps,rfl,sJ,ed,nd,pl,tb,tm,pz,pin,inp,sm⟩ hT
  obtain ⟨f,hf,rfl,fm,et⟩:=Ff hx
  unfold fqv at hy
  rw [List.getElem?_map] at hy
  obtain ⟨g,hg,rfl⟩:=Option.map_eq_some_iff.mp hy
  obtain ⟨gg,gb⟩:=gf g (mem_of_getElem? hg)
  have il:=(List.getElem?_eq_some_iff.mp hf).1
  have wz:(Cr ls fs).take (i+1)=(Cr ls fs).take i++[(f.2.2.2,g.2.1,g.2.2)]:=by
   have:(Cr ls fs)[i]?=some (f.2.2.2,g.2.1,g.2.2):=by
    unfold Cr
    rw [List.getElem?_map,show (ls.zip fs)[i]?=some (f,g) from List.getElem?_zip_eq_some.mpr ⟨hf,hg⟩]
    rfl
   rw [take_add_one,this]
   rfl
  have s1:=Af hT (.tup [V.ref f.1,V.ref g.1])
  have e1:(upd J T (.tup [V.ref f.1,V.ref g.1])) T=some (.tup [V.ref f.1,V.ref g.1]):=Ab
  generalize upd J T (.tup [V.ref f.1,V.ref g.1])=J1 at s1 e1 ⊢
  have sJ1:=sJ.trans s1
  have g1:J1 g.1=some (.tup [.int g.2.1,.int g.2.2]):=sJ1 _ _ gg
  have f1:=sJ1 _ _ (gl f fm).1
  have ed1:=s1 _ _ ed
  have nf:=nz f fm
  have szt:=gb.szt
  refine ⟨T,_,rfl,SqT.of e1,rfl,_,_,rfl,_,_,rfl,rfl,?_⟩
  subst_eqs
  by_cases c:g.2.1=0
  ·refine ifF (LL c) ?_
   refine ⟨_,_,ps,rfl,sJ1,ed1,nd,Nat.le_succ_of_le pl,tb,tm,(fun q m=>(pz q m).mono (by omega)),(fun q m=>?_),(fun z m ne=>?_),fun φ=>?_⟩
   ·obtain ⟨z,zm,zz⟩:=pin q m
    exact ⟨z,by rw [wz];exact mem_append_left _ zm,zz⟩
   ·rw [wz] at m
    rcases mem_append.mp m with m | m
    ·exact inp z m ne
    ·rw [mem_singleton.mp m] at ne;exact absurd c ne
   ·rw [wz,Iy,sm φ,if_pos c,Int.add_zero]
  refine ifT (Ra c) ?_
  subst_eqs
  refine ⟨.inl ⟨_,.inl ed1⟩,?_⟩
  subst_eqs
  refine ⟨_,EF.k (k:=(Sum.inl g.2.2:Key)) ed1,?_⟩
  rw [M7,QQ]
  subst_eqs
  refine ⟨d,_,rfl,Ii.k (k:=Sum.inl g.2.2) ed1 (by unfold Df;rw [length_map];exact Nat.lt_of_le_of_lt pl (Nat.lt_of_lt_of_le il (Nat.le_trans l60 (by decide)))),?_⟩
  dsimp only
  rw [QR]
  have old:Sz (64+4500+i) ((E5 ps g.2.2).getD 0):=by
   cases e:E5 ps g.2.2 with
   | none=>show (0:Int).natAbs < _;exact Nat.pow_pos (by decide)
   | some v=>exact pz _ (P9 e)
  refine ⟨_,_,Fb ps g.2.2 ((E5 ps g.2.2).getD 0+f.2.2.2*g.2.1),rfl,A0 sJ1 hd,Ab,Ql nd,Nat.le_trans (PN ..) (Nat.succ_le_succ pl),⟨fun q m=>?_,fun q m=>?_⟩,(fun q m=>?_),(fun q m=>?_),(fun q m=>?_),(fun z m ne=>?_),fun φ=>?_⟩
  ·rcases Eb m with m | rfl
   ·exact tb.b0 q m
   ·exact gb.b0
  ·rcases Eb m with m | rfl
   ·exact tb.szb q m
   ·exact gb.szb
  ·rcases Eb m with m | rfl
   ·exact tm q m
   ·exact (gf' g (mem_of_getElem? hg)).2.dv
  ·rcases Eb m with m | rfl
   ·exact (pz q m).mono (by omega)
   ·exact (old.add (nf.mul szt)).mono (by omega)
  ·rcases Eb m with m | rfl
   ·obtain ⟨z,zm,zz⟩:=pin q m
    exact ⟨z,by rw [wz];exact mem_append_left _ zm,zz⟩
   ·exact ⟨(f.2.2.2,g.2.1,g.2.2),by rw [wz];exact mem_append_right _ (mem_singleton.mpr rfl),c,rfl⟩
  ·rw [wz] at m
   rcases mem_append.mp m with m | m
   ·exact O2 (inp z m ne)
   ·rw [mem_singleton.mp m];exact OY
  ·rw [wz,Iy,Ou φ _ _ nd,sm φ,if_neg c]
 rintro σ' J ⟨v3,v4,ps,rfl,sJ,ed,nd,pl,tb,tm,pz,pin,inp,sm⟩
 rw [BI] at pl pz pin inp sm
 rw [<- zl,take_of_length_le (Nat.le_refl _)] at pin inp sm
 subst_eqs
 refine ⟨d,ps,M,rfl,ed,(fun q m=>⟨tb.b0 q m,tm q m⟩),M0,Mz,by omega,fun D J1 j1 D0 Dd Dm=>?_⟩
 have Dz:=DA Dm M0 Mz
 have sJ1:=sJ.trans j1
 have ed1:=j1 _ _ ed
 subst_eqs
 refine ⟨.inr (.inr (.inl ⟨rfl,.inl ⟨_,ed1⟩⟩)),?_⟩
 refine ⟨d,_,rfl,rfl,ed1,fun v hv=>?_⟩
 have j2:=Af hv (hoI v d)
 have e2:(upd J1 v (hoI v d)) v=some (hoI v d):=Ab
 generalize upd J1 v (hoI v d)=J2 at j2 e2 ⊢
 have sJ2:=sJ1.trans j2
 have ed2:=j2 _ _ ed1
 refine ⟨v,d,_,rfl,e2,ed2,fun ob fo=>?_⟩
 have sF:Az H (upd J2 d (hoF d ob)):=A0 sJ2 hd
 have eF:(upd J2 d (hoF d ob)) d=some (hoF d ob):=Ab
 generalize upd J2 d (hoF d ob)=J3 at sF eF ⊢
 have szD:Sz 6100 D:=Dz.mono (by decide)
 refine LV (d:=d) (ob:=ob) (kvs:=Df ps) rfl rfl (by rw [Mg];exact AL (by omega)) (fun C i ys J=>ys=((ps.take i).map fun q=>q.2*D.fdiv q.1).map V.int/\J C=some (.lst ys)/\Az J3 J) (fun C hC=>⟨rfl,Ab,Af hC _⟩) (fun C i ys J hq_=>by obtain ⟨f1,f2,_⟩:=hq_;exact ⟨f2,by rw [f1,length_map,length_map];exact length_take_le _ _⟩) (fun C i ys J hC hq_=>by obtain ⟨_,_,f3⟩:=hq_;exact f3 _ _ eF) ?_ ?_
 ·rintro C i k y T ys J K1 K2 hC hkv ⟨rfl,n1,n2⟩ hT kk1 kk2
  obtain ⟨q0,hq0,rfl,rfl⟩:=Sa hkv
  have qm:=mem_of_getElem? hq0
  have b0:=tb.b0 q0 qm
  have bz:Sz 9000 q0.1:=(tb.szb q0 qm).mono (by decide)
  have tz:Sz 4700 q0.2:=(pz q0 qm).mono (by omega)
  have dz:Sz 6100 (D.fdiv q0.1):=szD.fdiv
  have s1:=Af hT (.tup [kV (Sum.inl q0.1),V.int q0.2])
  generalize upd J T (.tup [kV (Sum.inl q0.1),V.int q0.2])=J4 at s1 ⊢
  have n1':=s1 _ _ n1
  refine yes (ifT rfl ?_)
  refine ⟨_,rfl,_,rfl,_,rfl,_,_,rfl,rfl,⟨by omega,bz⟩,?_⟩
  refine ⟨_,_,rfl,rfl,Ts tz dz,?_⟩
  refine kk1 _ _ n1' ⟨?_,Ab,A0 (n2.trans s1) hC⟩
  rw [take_add_one,hq0,map_append,map_append]
  rfl
 rintro C ys J4 hC ⟨rfl,n1,n2⟩
 rw [Mg,take_of_length_le (Nat.le_refl _)] at n1
 have Cd:C≠d:=fun z=>by rw [z,eF] at hC;cases hC
 refine ⟨d,ob,Df ps,n2 _ _ eF,fo,?_⟩
 have sG:Az H (upd J4 d (.dK (Df ps))):=A0 (sF.trans n2) hd
 have eG:(upd J4 d (.dK (Df ps))) C=some (.lst ((ps.map fun q=>q.2*D.fdiv q.1).map V.int)):=by rw [Ap Cd];exact n1
 generalize upd J4 d (.dK (Df ps))=J5 at sG eG ⊢
 refine ⟨C,_,rfl,SqL.of eG,?_⟩
 have szS:Sz 13500 (ps.map fun q=>q.2*D.fdiv q.1).sum:=(Ll (n:=4700+6100) fun x m=>by
  obtain ⟨q0,qm,rfl⟩:=mem_map.mp m
  exact ((pz q0 qm).mono (show _<=4700 by omega)).mul szD.fdiv).mono (by rw [length_map];omega)
 have eS:(ps.map fun q=>q.2*D.fdiv q.1).sum=Dg (fun b=>D.fdiv b) (Cr ls fs):=sm fun b=>D.fdiv b
 subst_eqs
 refine ⟨_,D,rfl,by omega,szS,szD.mono (by decide),fun T H' s' e'=>?_⟩
 rw [eS] at e'
 have dvd:B1 (Dg (fun b=>D.fdiv b) (Cr ls fs)) D ∣ M:=by
  obtain ⟨g,g0,h1,h2⟩:=Fg (v:=Dg (fun b=>D.fdiv b) (Cr ls fs)) D0
  exact Int.dvd_trans ⟨g,h2⟩ Dm
 exact q T (B4 (Dg (fun b=>D.fdiv b) (Cr ls fs)) D,B1 (Dg (fun b=>D.fdiv b) (Cr ls fs)) D) H' (sG.trans s') ⟨⟨D,D0,(fun z zm zn=>by
  obtain ⟨q0,qm,e⟩:=mem_map.mp (inp z zm zn)
  rw [<- e]
  exact Dd q0 qm),rfl⟩,dvd⟩ e'
theorem JZ (T:Tx K mg ad):A8 P w K mg base CX0 3 ad.f_share_at ad.d_share_at ["slip","free","standing","hand"] (ND 4500):=by
 refine T.F_share_at.ok Gf (fun vs H Q E h=>?_) (fun cdv A outer s H vs Q E hr h=>?_)
 ·obtain ⟨sp,h,hd,ts,fr,s,rfl,_⟩:=h
  rfl
 obtain ⟨sp,h,hd,ts,fr,s,rfl,hT,gf,fb,h12,hh,li,q⟩:=h
 refine ⟨_,(@Ae _ _ _ _ _ (@Am _ _ (4) _ _ _ _ Gf.nd rfl (Or.inl rfl) (@Ak _ _ _ _ _ _ _ _ _ _ _ _ _ _ _ _ (MH T) (hr.mono (by decide)) rfl T.m_lies T.F_lies.kp T.b_lies .nil As (@Aa _ _ _ _ _ (pv 0) (@Aa _ _ _ _ _ (pv 2) Ad (by rfl)) (by rfl)) (by decide) (by rfl) (by rfl)) (by rfl) (by first | exact .inl rfl | exact .inr rfl | assumption)) (@Ae _ _ _ _ _ (@AB _ _ _ _ _ _ _ _ (@AQ _ _ _ _ (@AH _ _ _ (@Ak _ _ _ _ _ _ _ _ _ _ _ _ _ _ _ _ (KR T) (hr.mono (by decide)) rfl T.m_holds T.F_holds.kp T.b_holds .nil As (@Aa _ _ _ _ _ (pv 4) (@Aa _ _ _ _ _ (pv 3) Ad (by rfl)) (by rfl)) (by decide) (by rfl) (by rfl)) (by intro _;rfl))) (@Ag _ _ _ (@An _ _ _ _ (@A2 _ _ _ _ _ (@Aa _ _ _ _ _ Ac (@Aa _ _ _ _ _ Ac Ad (by rfl)) (by rfl))))) Av) (@Ag _ _ _ (@An _ _ _ _ (@Ak _ _ _ _ _ _ _ _ _ _ _ _ _ _ _ _ (ET T) (hr.mono (by decide)) rfl T.m_even_part T.F_even_part.kp T.b_even_part .nil As (@Aa _ _ _ _ _ (pv 1) (@Aa _ _ _ _ _ (@Ak _ _ _ _ _ _ _ _ _ _ _ _ _ _ _ _ (Mn T) (hr.mono (by decide)) rfl T.m_size T.F_size.kp T.b_size .nil As (@Aa _ _ _ _ _ (pv 4) Ad (by rfl)) (by decide) (by rfl) (by rfl)) Ad (by rfl)) (by rfl)) (by decide) (by rfl) (by rfl)))))),?_⟩
 obtain ⟨l0,l1,_,_⟩:=id li
 have p12:(2:Int) ^ h<=4096:=by
  have:=Nat.pow_le_pow_right (show 0 < 2 by decide) h12
  exact_mod_cast this
 and_intros
 refine ⟨sp,ts,s,rfl,SqT.of hT,?_⟩
 and_intros
 refine ⟨AO ts s,(hd:Int),rfl,by omega,?_⟩
 rw [Int.toNat_natCast]
 by_cases c:bit (AO ts s) hd=true
 ·have e:BM ts s hd fr.2=Bf fr.2 (Aw ts s).length:=by unfold BM;rw [if_pos c]
  rw [c]
  and_intros
  refine ⟨l0,by omega,fun H1 s1=>?_⟩
  have wm:((hd:Nat):Int)∈Aw ts s:=Bi.mpr ⟨hd,by omega,c,rfl⟩
  have n1:1<=(Aw ts s).length:=length_pos_of_mem wm
  have n12:(Aw ts s).length<=12:=BW ..
  and_intros
  exact ⟨fr,(Aw ts s).length,rfl,gf.same s1,fb,n1,n12,fun a H' _ s2 e2=>q a H' (s1.trans s2) (by rw [e];exact e2)⟩
 ·have e:BM ts s hd fr.2=(0,1):=by unfold BM;rw [if_neg c]
  rw [Bool.not_eq_true] at c
  rw [c]
  and_intros
  refine ⟨(by show 2<=sizeLine;decide),fun a ha=>?_⟩
  exact q a _ (Af ha _) (by rw [e];exact Ab)
theorem JD (T:Tx K mg ad):A8 P w K mg base CX0 3 ad.f_law_sheet ad.d_law_sheet ["_law_script","_law_at","_law_hands","_law_lines","_law_most"] (NL K):=by
 refine T.F_law_sheet.ok Cf (fun vs H Q E h=>?_) (fun cdv A outer s H vs Q E hr h=>?_)
 ·obtain ⟨p,ns,k,n,m,most,rfl,_⟩:=h
  rfl
 obtain ⟨p,ns,k,n,m,most,rfl,hS,h63,k0,k9,n1,n12,m1,m12,mo1,mo9,q⟩:=h
 refine ⟨_,(@Ae _ _ _ _ _ (GC (j:=5) (fsc:=Ah CW) (N:=["_law_script","_law_at","_law_hands","_law_lines","_law_most","_law_slips","_law_many_here","_law_k","_law_slip_here"]) (Nc:=["_law_script","_law_at","_law_hands","_law_lines","_law_most","_law_slips","_law_many_here",".s7","_law_slip_here","_law_k"]) rfl rfl ⟨rfl,by decide +kernel,by decide +kernel,rfl,by decide +kernel,rfl,by decide +kernel,rfl,by decide +kernel⟩ rfl Cf.nd rfl rfl (Be rfl T.z_range (@Aa _ _ _ _ _ (pv 3) Ad (by rfl))) (fun _ _ _ _=>Bg) (fun _ _ _ _=>(@Ak _ _ _ _ _ _ _ _ _ _ _ _ _ _ _ _ (Kb T) (hr.mono (by decide)) rfl T.m_law_slip T.F_law_slip.kp T.b_law_slip .nil As (@Aa _ _ _ _ _ (@Ak _ _ _ _ _ _ _ _ _ _ _ _ _ _ _ _ (Bn T) (hr.mono (by decide)) rfl T.m_law_cell T.F_law_cell.kp T.b_law_cell .nil As (@Aa _ _ _ _ _ (pv 0) (@Aa _ _ _ _ _ (@Aj _ _ _ _ _ _ _ _ AS (pv 1) (pv 9)) Ad (by rfl)) (by rfl)) (by decide) (by rfl) (by rfl)) (@Aa _ _ _ _ _ (pv 2) Ad (by rfl)) (by rfl)) (by decide) (by rfl) (by rfl))) rfl) (@Ae _ _ _ _ _ (@Am _ _ (6) _ _ _ _ Cf.nd rfl (Or.inr rfl) OA (by rfl) (by first | exact .inl rfl | exact .inr rfl | assumption)) (@Ae _ _ _ _ _ (By PassesOwn.never rfl (Be rfl T.z_range (@Aa _ _ _ _ _ (@Aq _ _ _ _ _ _ _ _ _ (Nm rfl) (by rfl) T.z_max PyProof.Rows.boot_max (@Aa _ _ _ _ _ (pv 3) (@Aa _ _ _ _ _ (@Aq _ _ _ _ _ _ _ _ _ (NG rfl) (by rfl) T.z_min PyProof.Rows.boot_min (@Aa _ _ _ _ _ Ac (@Aa _ _ _ _ _ (@Aj _ _ _ _ _ _ _ _ C9 (@Aq _ _ _ _ _ _ _ _ _ At (by rfl) T.z_len PySem.boot_len (@Aa _ _ _ _ _ (pv 0) Ad (by rfl)) (by decide) (by decide) (by rfl) (by rfl)) (pv 1)) Ad (by rfl)) (by rfl)) (by decide) (by decide) (by rfl) (by rfl)) Ad (by rfl)) (by rfl)) (by decide) (by decide) (by rfl) (by rfl)) Ad (by rfl))) (AD (i:=7) Cf.nd rfl (Or.inl rfl)) (@Ae _ _ _ _ _ (@Am _ _ (8) _ _ _ _ Cf.nd rfl (Or.inl rfl) (@Ai _ _ _ _ _ _ _ Au (pv 5) (@Aj _ _ _ _ _ _ _ _ AN (pv 7) (pv 3)) (fun _ _=>rfl)) (by rfl) (by first | exact .inl rfl | exact .inr rfl | assumption)) (@Ag _ _ _ (GI (u1 hr.units) (pv 6) (pv 8) (@Aj _ _ _ _ _ _ _ _ AS (GY (u1 hr.units) (pv 6) (pv 8) Ac ⟨rfl,rfl,rfl,rfl⟩) (@Ak _ _ _ _ _ _ _ _ _ _ _ _ _ _ _ _ (HQ T) (hr.mono (by decide)) rfl T.m_law_number T.F_law_number.kp T.b_law_number .nil As (@Aa _ _ _ _ _ (@Ak _ _ _ _ _ _ _ _ _ _ _ _ _ _ _ _ (Bn T) (hr.mono (by decide)) rfl T.m_law_cell T.F_law_cell.kp T.b_law_cell .nil As (@Aa _ _ _ _ _ (pv 0) (@Aa _ _ _ _ _ (@Aj _ _ _ _ _ _ _ _ AS (pv 1) (pv 7)) Ad (by rfl)) (by rfl)) (by decide) (by rfl) (by rfl)) (@Aa _ _ _ _ _ (pv 4) Ad (by rfl)) (by rfl)) (by decide) (by rfl) (by rfl))) rfl)))) (@Ag _ _ _ (@An _ _ _ _ (C7 (fsc:=Ah CW) (N:=["_law_script","_law_at","_law_hands","_law_lines","_law_most","_law_slips","_law_many_here","_law_k","_law_slip_here"]) (Nc:=["_law_script","_law_at","_law_hands","_law_lines","_law_most","_law_slips","_law_many_here","_law_k",".s8","_law_slip_here"]) rfl rfl ⟨rfl,by decide +kernel,by decide +kernel,rfl,by decide +kernel,rfl,by decide +kernel,rfl,by decide +kernel⟩ rfl (Bd (@Aq _ _ _ _ _ _ _ _ _ (HZ rfl hr.units) (by rfl) T.z_sorted PyProof.Rows.boot_sorted (@Aa _ _ _ _ _ (pv 6) Ad (by rfl)) (by decide) (by decide) (by rfl) (by rfl))) (fun _ _ _ _=>Bg) (fun _ _ _ _=>(@A2 _ _ _ _ _ (@Aa _ _ _ _ _ (pv 9) (@Aa _ _ _ _ _ (MR (u1 hr.units) (pv 6) (pv 9) (fun _ _=>rfl)) Ad (by rfl)) (by rfl)))))))))),?_⟩
 have hl':(ns.map V.int).length=ns.length:=length_map _
 subst_eqs
 refine ⟨by omega,by omega,?_⟩
 rw [Int.toNat_natCast]
 refine D9 (AL (by omega)) (fun D i ys H'=>∃zs:List (Addr × List Int),ys=(zs.map fun z=>V.ref z.1)/\zs.length=i/\H' D=some (.lst ys)/\Az H H'/\∀z∈zs,H' z.1=some (.tup (z.2.map V.int))/\OkT n z.2) (fun D hD=>⟨[],rfl,rfl,Ab,Af hD _,fun _ m=>absurd m List.not_mem_nil⟩) (fun D i ys H' hq_=>by obtain ⟨zs,f1,f2,f3,_⟩:=hq_;exact ⟨f3,by rw [f1,length_map,f2];exact Nat.le_refl _⟩) ?_ ?_
 ·rintro D i ys H' K1 K2 hD hi ⟨zs,rfl,f2,f3,f4,f5⟩ k1 k2
  refine yes (ifT rfl ?_)
  subst_eqs
  refine ⟨p,ns,k+(0+(i:Int)),rfl,f4.seq hS,h63,by omega,by omega,fun z z0 z1=>?_⟩
  subst_eqs
  refine ⟨z,n,rfl,LK z0 z1,n1,n12,fun t ts H5 ht s5 et ok=>?_⟩
  have tD:t≠D:=fun z=>by rw [z,f3] at ht;cases ht
  refine k1 _ _ (s5 _ _ f3) ⟨zs++[(t,ts)],by rw [map_append];rfl,by rw [length_append,f2];rfl,Ab,A0 (f4.trans s5) hD,fun z m=>?_⟩
  rcases mem_append.mp m with m | m
  ·have:=f5 z m
   exact ⟨by rw [Ap (BV (s5 _ _ this.1) (s5 _ _ f3) (fun z=>by cases z))];exact s5 _ _ this.1,this.2⟩
  ·rw [mem_singleton.mp m]
   exact ⟨by rw [Ap tD];exact et,ok⟩
 rintro sl ys H1 hsl ⟨zs,rfl,zl,esl,s1,zok⟩
 subst_eqs
 intro d hd
 have s2:=Af hd (.dT [])
 have e2:(upd H1 d (.dT [])) d=some (.dT []):=Ab
 generalize upd H1 d (.dT [])=H2 at s2 e2 ⊢
 have hdH:=none_of s1 hd
 have s12:=s1.trans s2
 subst_eqs
 refine ⟨p,_,rfl,.inl (s12.seq hS),?_⟩
 subst_eqs
 refine ⟨_,_,rfl,?_⟩
 refine ⟨_,_,rfl,?_⟩
 have hM:(m:Int)<=(if (if ((ns.map V.int).length:Int) - k < 60 then ((ns.map V.int).length:Int) - k else 60) > (m:Int) then (if ((ns.map V.int).length:Int) - k < 60 then ((ns.map V.int).length:Int) - k else 60) else (m:Int))/\(if (if ((ns.map V.int).length:Int) - k < 60 then ((ns.map V.int).length:Int) - k else 60) > (m:Int) then (if ((ns.map V.int).length:Int) - k < 60 then ((ns.map V.int).length:Int) - k else 60) else (m:Int))<=60:=by
  split <;> split at*<;> omega
 generalize (if (if ((ns.map V.int).length:Int) - k < 60 then ((ns.map V.int).length:Int) - k else 60) > (m:Int) then (if ((ns.map V.int).length:Int) - k < 60 then ((ns.map V.int).length:Int) - k else 60) else (m:Int))=M at hM ⊢
 refine ⟨M,rfl,by omega,by omega,B9 (fun i σ' J=>∃(v7 v8:Option V) (ds:Ds) (kvs:List (List Key × V)),σ'=[some (.ref p),some (.int k),some (.int (n:Int)),some (.int (m:Int)),some (.int most),some (.ref sl),some (.ref d),v7,v8]/\Az H J/\Az H1 J/\J d=some (.dT kvs)/\DictOf ds kvs/\(∀q∈ds,q.1∈zs.map (·.2))/\ds.length=i/\∀q∈ds,1<=q.2/\q.2<=most) ⟨none,none,[],[],rfl,s12,s2,e2,DictOf.nil,(fun _ m=>absurd m List.not_mem_nil),rfl,(fun _ m=>absurd m List.not_mem_nil)⟩ ?_ ?_⟩
 ·rintro i σ' J hi ⟨v7,v8,ds,kvs,rfl,sJ,sJ1,eD,dk,sub,dl,po⟩
  have my:=AW (0+(i:Int)) (show (0:Int) < (m:Int) by omega)
  obtain ⟨j,hj⟩:∃j:Nat,(0+(i:Int)).fmod (m:Int)=(j:Int):=⟨((0+(i:Int)).fmod (m:Int)).toNat,by omega⟩
  obtain ⟨z,ez⟩:∃z,zs[j]?=some z:=⟨_,List.getElem?_eq_getElem (by omega)⟩
  have zm:=mem_of_getElem? ez
  subst_eqs
  refine ⟨(by show (_:Int)≠0;omega),?_⟩
  refine ⟨sl,_,_,_,rfl,rfl,SqL.of (sJ1 _ _ esl),(by rw [hj];exact Cb (by rw [List.getElem?_map,ez];rfl)),?_⟩
  have kt:J z.1=some (.tup ((z.2.map Sum.inl:List Key).map kV)):=by rw [Jv];exact sJ1 _ _ (zok z zm).1
  have lim:=dk.len sub
  rw [length_map] at lim
  subst_eqs
  refine ⟨.inr ⟨_,.inl eD⟩,?_⟩
  refine ⟨_,rfl,_,EF.t eD kt,?_⟩
  rw [PV dk]
  subst_eqs
  refine ⟨p,ns,k+(0+(i:Int)),rfl,sJ.seq hS,h63,by omega,by omega,fun c c0 c1=>?_⟩
  subst_eqs
  refine ⟨c,most,rfl,LK c0 c1,mo1,by omega,fun y y1 y2=>?_⟩
  refine ⟨_,_,rfl,rfl,?_⟩
  refine ⟨_,rfl,_,rfl,d,_,rfl,Ii.t eD kt (AT (by omega)),?_⟩
  refine ⟨_,_,ds++[(z.2,y)],_,rfl,A0 sJ hdH,A0 sJ1 hd,Ab,dk.put z.2 y,fun q m=>?_,by rw [length_append,dl];rfl,fun q m=>?_⟩
  ·rcases mem_append.mp m with m | m
   ·exact sub q m
   ·rw [mem_singleton.mp m]
    exact mem_map.mpr ⟨z,zm,rfl⟩
  ·rcases mem_append.mp m with m | m
   ·exact po q m
   ·rw [mem_singleton.mp m]
    exact ⟨y1,y2⟩
 rintro σ' J ⟨v7,v8,ds,kvs,rfl,sJ,sJ1,eD,dk,sub,dl,po⟩
 have pos:Pos ds:=fun q m=>(po q m).1
 have bnd:∀ts,tot ds ts<=64*most:=fun ts=>by
  have a:=K5 (ts:=ts) po (by omega)
  have b:(ds.length:Int)*most<=64*most:=Int.mul_le_mul_of_nonneg_right (by omega) (by omega)
  omega
 have ne:ds≠[]:=fun z=>by rw [z] at dl;have:M.toNat=0:=dl.symm;omega
 have okp:∀t∈zs.map (·.2),OkT n t:=fun t tm=>by
  obtain ⟨z,zm,rfl⟩:=mem_map.mp tm
  exact (zok z zm).2
 have pl:(zs.map (·.2)).length<=12:=by rw [length_map];omega
 replace pl:=Nat.le_succ_of_le pl
 have fin:∀(D:Addr) (ms:Ls) (H2:Hp),J D=none->Az J H2->H2 D=some (.lst (vls ms))->Br H2 ms->Ml ds (Ao ms)->ms.length < 64->Q (.ref D) H2:=fun D ms H2 hD s e g sh _=>q D ms H2 (none_of sJ hD) (sJ.trans s) e g (sh.drawn pos sub okp pl ne bnd)
 have k64:=dk.len sub
 obtain ⟨ks,k1,k2,knd,kmem⟩:=dk.vd.keys
 subst_eqs
 refine ⟨d,kvs,ks,rfl,.inl eD,k1,by omega,fun l2 rs r1 r2 r3 hl2=>?_⟩
 have sl:=Af hl2 (.lst (rs.map fun q=>V.ref q.1))
 have el:(upd J l2 (.lst (rs.map fun q=>V.ref q.1))) l2=some (.lst (rs.map fun q=>V.ref q.1)):=Ab
 generalize upd J l2 (.lst (rs.map fun q=>V.ref q.1))=G1 at sl el ⊢
 have rl:rs.length=ks.length:=by
  have:=r2.length_eq
  rw [length_map] at this
  exact this
 have ov:∀r∈rs,AZ kvs (r.2.map Sum.inl:List Key)=some (.int (O7 kvs r.2)):=fun r m=>by
  obtain ⟨n,e⟩:=(kmem r.2).mp (r2.mem_iff.mp (mem_map.mpr ⟨r,m,rfl⟩))
  unfold O7
  rw [e]
 refine ⟨l2,rfl,⟨_,SqL.of el⟩,?_⟩
 refine Bk (xs:=rs.map fun q=>V.ref q.1) (by rw [length_map];exact AL (by omega)) (fun D i ys H2=>∃ms:Ls,ys=vls ms/\ms.length=i/\H2 D=some (.lst ys)/\Az G1 H2/\Br H2 ms/\Ao ms=(rs.take i).map fun r=>(r.2,O7 kvs r.2)) (fun D hD=>⟨[],rfl,rfl,Ab,Af hD _,(fun _ m=>absurd m List.not_mem_nil),rfl⟩) (fun D i ys H2 hq_=>by obtain ⟨ms,f1,f2,f3,_⟩:=hq_;exact ⟨f3,by rw [f1,BI,f2];exact Nat.le_refl _⟩) (fun D i ys H2 hD hq_=>by obtain ⟨ms,_,_,_,f4,_⟩:=hq_;exact SqL.of (f4 _ _ el)) ?_ ?_
 ·rintro D i x ys H2 K1 K2 hD hx ⟨ms,rfl,f2,f3,f4,f5,f6⟩ kk1 kk2
  rw [List.getElem?_map] at hx
  obtain ⟨r,er,rfl⟩:=Option.map_eq_some_iff.mp hx
  have rm:=mem_of_getElem? er
  have et:rs.take (i+1)=rs.take i++[r]:=by rw [take_succ,er];rfl
  have sH:=sl.trans f4
  have ek:=sH _ _ (r1 r rm)
  have dg:=EF.t (k:=(r.2.map Sum.inl:List Key)) (sH _ _ eD) (by rw [Jv];exact ek)
  rw [ov r rm] at dg
  refine yes (ifT rfl ?_)
  refine ⟨_,rfl,_,rfl,_,rfl,d,_,rfl,dg,(by show 2<=sizeLine;decide),fun t ht=>?_⟩
  have s6:=Af ht (.tup [V.ref r.1,V.int (O7 kvs r.2)])
  refine kk1 _ _ (s6 _ _ f3) ⟨ms++[(t,r.1,r.2,O7 kvs r.2)],by rw [Lm];rfl,by rw [length_append,f2];rfl,Ab,A0 (f4.trans s6) hD,?_,?_⟩
  ·refine Br.upd (s6 _ _ f3) ((f5.same s6).append fun q m=>?_)
   rw [mem_singleton.mp m]
   exact ⟨Ab,s6 _ _ ek⟩
  ·rw [DY,f6,et,map_append]
   rfl
 ·rintro D ys H2 hD ⟨ms,rfl,f2,f3,f4,f5,f6⟩
  rw [length_map] at f2 f6
  rw [take_length] at f6
  have rnd:(rs.map (·.2)).Nodup:=r2.nodup_iff.mpr knd
  have pv:∀(ts:List Int) (n:Int),AZ kvs (ts.map Sum.inl)=some (.int n)->0 < n:=fun ts n e=>by
   rw [dk.val] at e
   by_cases c:ts∈ds.map (·.1)
   ·rw [if_pos c] at e
    injection e with e
    injection e with e
    rw [<- e]
    exact Lj pos c
   ·rw [if_neg c] at e
    cases e
  refine fin D ms H2 (none_of sl hD) (sl.trans f4) f3 f5 (dk.sheet pos ?_ (fun ts n=>?_)) (by omega)
  ·rw [f6,pairwise_map]
   have nd2:rs.Pairwise (fun x y=>x.2≠y.2):=pairwise_map.mp rnd
   exact (r3.and nd2).imp fun ⟨h1,h2⟩=>Mv h1 h2
  ·rw [f6]
   constructor
   ·intro m
    obtain ⟨r,rm,e⟩:=mem_map.mp m
    injection e with e1 e2
    subst e1
    subst e2
    exact ⟨ov r rm,pv _ _ (ov r rm)⟩
   ·rintro ⟨e,n0⟩
    have tk:ts∈ks:=(kmem ts).mpr ⟨n,e⟩
    obtain ⟨r,rm,rfl⟩:=mem_map.mp (r2.mem_iff.mpr tk)
    have o:=ov r rm
    rw [e] at o
    injection o with o
    injection o with o
    exact mem_map.mpr ⟨r,rm,by rw [<- o]⟩
theorem E7 (T:Tx K mg ad):A8 P w K mg base CX0 3 ad.f_law_rows_right ad.d_law_rows_right ["_law_rows","_law_sheet_here","_law_dues","_law_standing"] Ig:=by
 refine T.F_law_rows_right.ok BA (fun vs H Q E h=>?_) (fun cdv A outer s H vs Q E hr h=>?_)
 ·obtain ⟨rl,l,dl,h,rs,ls,xs,st,s,rfl,_⟩:=h
  rfl
 obtain ⟨rl,l,dl,h,rs,ls,xs,st,s,rfl,hrl,gr,hl,gl,okl,hdl,gx,vx,xl,sl,F,rv,l60,h12,q⟩:=h
 refine ⟨_,(@Ae _ _ _ _ _ (@AB _ _ _ _ _ _ _ _ (PW.pt (@Cn _ _ _ _ _ _ _ (@AQ _ _ _ _ (@AH _ _ _ (@Aq _ _ _ _ _ _ _ _ _ Bx (by rfl) T.z_isinstance PyProof.Rows.boot_isinstance (@Aa _ _ _ _ _ (pv 0) (@Aa _ _ _ _ _ (BH (v:=.ty "list") rfl T.z_list PyProof.Rows.boot_list rfl) Ad (by rfl)) (by rfl)) (by decide) (by decide) (by rfl) (by rfl)) (by intro _;rfl))) (@Cc _ _ _ _ (@Ax _ _ _ _ _ _ _ _ Er (@Aq _ _ _ _ _ _ _ _ _ At (by rfl) T.z_len PySem.boot_len (@Aa _ _ _ _ _ (pv 0) Ad (by rfl)) (by decide) (by decide) (by rfl) (by rfl)) (@Aq _ _ _ _ _ _ _ _ _ At (by rfl) T.z_len PySem.boot_len (@Aa _ _ _ _ _ (pv 1) Ad (by rfl)) (by decide) (by decide) (by rfl) (by rfl)) (Ay _))))) (@Ag _ _ _ (@An _ _ _ _ Cm)) Av) (@Ae _ _ _ _ _ (By PassesOwn.never rfl (Be rfl T.z_range (@Aa _ _ _ _ _ (@Aq _ _ _ _ _ _ _ _ _ At (by rfl) T.z_len PySem.boot_len (@Aa _ _ _ _ _ (pv 1) Ad (by rfl)) (by decide) (by decide) (by rfl) (by rfl)) Ad (by rfl))) (AD (i:=4) BA.nd rfl (Or.inl rfl)) (@Ae _ _ _ _ _ (@Am _ _ (5) _ _ _ _ BA.nd rfl (Or.inl rfl) (@Ak _ _ _ _ _ _ _ _ _ _ _ _ _ _ _ _ (Hi T) (hr.mono (by decide)) rfl T.m_law_row_due T.F_law_row_due.kp T.b_law_row_due .nil As (@Aa _ _ _ _ _ (@Ai _ _ _ _ _ _ _ Al (@Ai _ _ _ _ _ _ _ Au (pv 1) (pv 4) (fun _ _=>rfl)) Ac (fun _ _=>rfl)) (@Aa _ _ _ _ _ (@Ai _ _ _ _ _ _ _ Al (@Ai _ _ _ _ _ _ _ Au (pv 2) (pv 4) (fun _ _=>rfl)) Ac (fun _ _=>rfl)) (@Aa _ _ _ _ _ (@Ai _ _ _ _ _ _ _ Al (@Ai _ _ _ _ _ _ _ Au (pv 2) (pv 4) (fun _ _=>rfl)) Ac (fun _ _=>rfl)) (@Aa _ _ _ _ _ (pv 3) Ad (by rfl)) (by rfl)) (by rfl)) (by rfl)) (by decide) (by rfl) (by rfl)) (by rfl) (by first | exact .inl rfl | exact .inr rfl | assumption)) (@Ae _ _ _ _ _ (@AB _ _ _ _ _ _ _ _ (PW.pt (@Cn _ _ _ _ _ _ _ (@AQ _ _ _ _ (@AH _ _ _ (@Aq _ _ _ _ _ _ _ _ _ Bx (by rfl) T.z_isinstance PyProof.Rows.boot_isinstance (@Aa _ _ _ _ _ (@Ai _ _ _ _ _ _ _ Au (pv 0) (pv 4) (fun _ _=>rfl)) (@Aa _ _ _ _ _ (BH (v:=.ty "list") rfl T.z_list PyProof.Rows.boot_list rfl) Ad (by rfl)) (by rfl)) (by decide) (by decide) (by rfl) (by rfl)) (by intro _;rfl))) (@Cc _ _ _ _ (@Ax _ _ _ _ _ _ _ _ Er (@Aq _ _ _ _ _ _ _ _ _ At (by rfl) T.z_len PySem.boot_len (@Aa _ _ _ _ _ (@Ai _ _ _ _ _ _ _ Au (pv 0) (pv 4) (fun _ _=>rfl)) Ad (by rfl)) (by decide) (by decide) (by rfl) (by rfl)) (@Aq _ _ _ _ _ _ _ _ _ At (by rfl) T.z_len PySem.boot_len (@Aa _ _ _ _ _ (pv 5) Ad (by rfl)) (by decide) (by decide) (by rfl) (by rfl)) (Ay _))))) (@Ag _ _ _ (@An _ _ _ _ Cm)) Av) (@Ag _ _ _ (By PassesOwn.never rfl (Be rfl T.z_range (@Aa _ _ _ _ _ (@Aq _ _ _ _ _ _ _ _ _ At (by rfl) T.z_len PySem.boot_len (@Aa _ _ _ _ _ (pv 5) Ad (by rfl)) (by decide) (by decide) (by rfl) (by rfl)) Ad (by rfl))) (AD (i:=6) BA.nd rfl (Or.inl rfl)) (@Ag _ _ _ (@AB _ _ _ _ _ _ _ _ (PW.pt (@Cn _ _ _ _ _ _ _ (@AQ _ _ _ _ (@AH _ _ _ (@Ak _ _ _ _ _ _ _ _ _ _ _ _ _ _ _ _ (CB T) (hr.mono (by decide)) rfl T.m_law_is_fraction T.F_law_is_fraction.kp T.b_law_is_fraction .nil As (@Aa _ _ _ _ _ (@Ai _ _ _ _ _ _ _ Au (@Ai _ _ _ _ _ _ _ Au (pv 0) (pv 4) (fun _ _=>rfl)) (pv 6) (fun _ _=>rfl)) Ad (by rfl)) (by decide) (by rfl) (by rfl)) (by intro _;rfl))) (@Cc _ _ _ _ (@AQ _ _ _ _ (@AH _ _ _ (@Ak _ _ _ _ _ _ _ _ _ _ _ _ _ _ _ _ (Fe T) (hr.mono (by decide)) rfl T.m_law_worth T.F_law_worth.kp T.b_law_worth .nil As (@Aa _ _ _ _ _ (@Ai _ _ _ _ _ _ _ Au (@Ai _ _ _ _ _ _ _ Au (pv 0) (pv 4) (fun _ _=>rfl)) (pv 6) (fun _ _=>rfl)) (@Aa _ _ _ _ _ (@Ai _ _ _ _ _ _ _ Au (pv 5) (pv 6) (fun _ _=>rfl)) Ad (by rfl)) (by rfl)) (by decide) (by rfl) (by rfl)) (by intro _;rfl)))))) (@Ag _ _ _ (@An _ _ _ _ Cm)) Av))))))) (@Ag _ _ _ (@An _ _ _ _ Cm)))),?_⟩
 have rl':(rwv rs).length=rs.length:=length_map ..
 have vl:=BI ls
 have tl:rs.length=ls.length:=by
  rw [rv.len]
  unfold AE Ao
  rw [length_map,length_zip,length_map,sl,Nat.min_self]
 subst_eqs
 refine ⟨_,_,_,_,rfl,BO.lst hrl,BN,?_⟩
 subst_eqs
 refine ifF (LL (by rw [rl',vl,tl])) ?_
 subst_eqs
 refine ⟨by omega,by omega,B9 (fun i σ' J=>∃v4 v5 v6:Option V,σ'=[some (.ref rl),some (.ref l),some (.ref dl),some (.int s),v4,v5,v6]/\Az H J) ⟨none,none,none,rfl,fun _ _ e=>e⟩ ?_ ?_⟩
 ·rintro i σ' J hi ⟨v4,v5,v6,rfl,sJ⟩
  have hi':i < ls.length:=by rw [vl] at hi;omega
  obtain ⟨f,hf⟩:∃f,ls[i]?=some f:=⟨_,List.getElem?_eq_getElem hi'⟩
  obtain ⟨x,hx⟩:∃f,xs[i]?=some f:=⟨_,List.getElem?_eq_getElem (by omega)⟩
  obtain ⟨y,hy⟩:∃f,st[i]?=some f:=⟨_,List.getElem?_eq_getElem (by omega)⟩
  obtain ⟨r,hr0⟩:∃f,rs[i]?=some f:=⟨_,List.getElem?_eq_getElem (by omega)⟩
  obtain ⟨w,hw,wv,wl,wz,rl2⟩:=rv.get hr0
  have dv:=vx i x y hx hy
  have ym:=mem_of_getElem? hy
  have g:=(gx x (mem_of_getElem? hx)).same sJ
  have gt:=g.t
  have fm:=mem_of_getElem? hf
  have ft:=sJ _ _ (gl f fm).1
  have we:w=BC (Aw f.2.2.1 s) y:=by
   have hd:(Ao ls)[i]?=some (f.2.2.1,f.2.2.2):=by unfold Ao;rw [List.getElem?_map,hf];rfl
   unfold AE at hw
   rw [List.getElem?_map,show ((Ao ls).zip st)[i]?=some ((f.2.2.1,f.2.2.2),y) from List.getElem?_zip_eq_some.mpr ⟨hd,hy⟩] at hw
   exact (Option.some.inj hw).symm
  obtain ⟨rg,rf⟩:=(gr r (mem_of_getElem? hr0)).same sJ
  have hl1:=sJ _ _ hl
  have hs1:=sJ _ _ hdl
  have hr1:=sJ _ _ hrl
  have z0:(0:Int)+(i:Int)=(i:Int):=Int.zero_add _
  have kl:x.2.1.2.length=h:=by
   have:=congrArg List.length dv.k
   rw [length_map,F.len y ym] at this
   exact this
  obtain ⟨y0,yz1,yz2⟩:=F.fr y ym
  subst_eqs
  refine ⟨l,_,_,_,rfl,rfl,SqL.of hl1,(by rw [z0];exact P4 hf),?_⟩
  subst_eqs
  refine ⟨dl,_,_,_,rfl,rfl,SqL.of hs1,(by rw [z0];exact Pg hx),?_⟩
  subst_eqs
  refine ⟨dl,_,_,_,rfl,rfl,SqL.of hs1,(by rw [z0];exact Pg hx),?_⟩
  subst_eqs
  refine ⟨f.2.1,x.2.1.1,h,f.2.2.1,x.2.2,x.2.1.2,s,rfl,sJ _ _ (gl f fm).2,okl f fm,g.f,(by rw [dv.f];exact yz2.mono (by decide)),g.l,g.k,kl,h12,fun du ds J1 hdu s1 e1 g1 v1=>?_⟩
  have sJ1:=sJ.trans s1
  have hr2:=s1 _ _ hr1
  have kl':(x.2.1.2.map (·.2)).length=h:=by rw [length_map];exact kl
  have dl':(fqv ds).length=h+1:=by unfold fqv;rw [length_map,<- length_map (f:=(·.2)),v1,Q6,kl']
  have rl3:(fqv r.2).length=h+1:=by unfold fqv;rw [length_map];exact rl2
  have rg1:=s1 _ _ rg
  have dq:=RO (s:=s) (fr:=x.2.2.2) (ks:=x.2.1.2.map (·.2)) (Sj (okl f fm)) h12 kl' (by rw [dv.f];exact AR _)
  rw [map_map,show (vq ∘ fun f:Fq=>f.2)=fun f:Fq=>vq f.2 from rfl,dv.k,show vq x.2.2.2=y.1 from by rw [dv.f];exact BB _,<- we,<- v1] at dq
  subst_eqs
  refine ⟨rl,_,_,_,rfl,rfl,SqL.of hr2,(by rw [z0];exact FB hr0),?_⟩
  subst_eqs
  refine ⟨_,_,_,_,rfl,BO.lst rg1,BN,?_⟩
  subst_eqs
  refine ⟨rl,_,_,_,rfl,rfl,SqL.of hr2,(by rw [z0];exact FB hr0),?_⟩
  subst_eqs
  refine ifF (LL (by rw [dl',rl3])) ?_
  subst_eqs
  refine ⟨by omega,by omega,B9 (fun j σ' J2=>∃v6:Option V,σ'=[some (.ref rl),some (.ref l),some (.ref dl),some (.int s),some (.int (0+(i:Int))),some (.ref du),v6]/\Az J1 J2) ⟨v6,rfl,fun _ _ e=>e⟩ ?_ ?_⟩
  ·rintro j σ' J2 hj ⟨v6,rfl,sJ2⟩
   have hj':j < h+1:=by rw [dl'] at hj;omega
   obtain ⟨fv,b1,c1⟩:=E2 (j:=j) wv (by omega)
   have dsl:ds.length=h+1:=by unfold fqv at dl';rw [length_map] at dl';exact dl'
   obtain ⟨fd,b2⟩:∃f,ds[j]?=some f:=⟨_,List.getElem?_eq_getElem (by omega)⟩
   have wj:=wz _ (CA (j:=j) (w:=w) (by omega))
   have c2:vq fd.2=w.getD j 0:=by
    rw [<- dq,map_map,getD_eq_getElem?_getD,List.getElem?_map,b2]
    rfl
   have fdm:fd.2∈ds.map (·.2):=mem_map.mpr ⟨fd,mem_of_getElem? b2,rfl⟩
   rw [v1] at fdm
   have fz:0 < fd.2.2/\Sz 14000 fd.2.1/\Sz 14000 fd.2.2:=by
    rcases Qt fdm with k | k | k | k
    ·obtain ⟨g0,gm,ge⟩:=mem_map.mp k
     rw [<- ge]
     exact dv.z g0 gm
    ·rw [k,dv.f]
     exact ⟨AR _,yz1.mono (by decide),yz2.mono (by decide)⟩
    ·rw [k]
     exact ⟨by decide,AK (by decide) (by decide),AK (by decide) (by decide)⟩
    ·obtain ⟨ne,k⟩:=k
     have n12:=BW 12 (bit (AO f.2.2.1 s))
     have n1:1<=(hands 12 (bit (AO f.2.2.1 s))).length\/(hands 12 (bit (AO f.2.2.1 s))).length=0:=by omega
     rcases n1 with n1 | n1
     ·rw [k,dv.f]
      have nz:Sz 20 ((hands 12 (bit (AO f.2.2.1 s))).length:Int):=AK (by omega) (by omega)
      exact ⟨Int.mul_pos (AR _) (by omega),yz1.mono (by decide),(yz2.mul nz).mono (by decide)⟩
     ·exfalso
      refine ne ?_
      ·obtain ⟨l0,l1⟩:=DB (s:=s) (okl f fm).1
       have p12:(2:Int) ^ h<=4096:=by
        have:=Nat.pow_le_pow_right (show 0 < 2 by decide) h12
        exact_mod_cast this
       exact Gh l0 (by omega) (length_eq_zero_iff.mp n1)
   have zj:(0:Int)+(j:Int)=(j:Int):=Int.zero_add _
   have hr3:=sJ2 _ _ hr2
   have rg2:=sJ2 _ _ rg1
   have e2:=sJ2 _ _ e1
   have gv:=(rf fv (mem_of_getElem? b1)).same (s1.trans sJ2)
   have gd:=(g1 fd (mem_of_getElem? b2)).same sJ2
   subst_eqs
   refine ⟨rl,_,_,_,rfl,rfl,SqL.of hr3,(by rw [z0];exact FB hr0),?_⟩
   subst_eqs
   refine ⟨r.1,_,_,_,rfl,rfl,SqL.of rg2,(by rw [zj];exact BU b1),?_⟩
   subst_eqs
   refine ⟨gv,(by rw [c1];exact DP wj.1),(by rw [c1];exact AR _),(by rw [c1];exact FI _),?_⟩
   subst_eqs
   refine ⟨rl,_,_,_,rfl,rfl,SqL.of hr3,(by rw [z0];exact FB hr0),?_⟩
   subst_eqs
   refine ⟨r.1,_,_,_,rfl,rfl,SqL.of rg2,(by rw [zj];exact BU b1),?_⟩
   subst_eqs
   refine ⟨du,_,_,_,rfl,rfl,SqL.of e2,(by rw [zj];exact BU b2),?_⟩
   subst_eqs
   refine ⟨fv,fd,rfl,gv,gd,(by rw [c1];exact wj.2.1.mono (by decide)),(by rw [c1];exact wj.2.2.mono (by decide)),fz.2.1.mono (by decide),fz.2.2.mono (by decide),?_⟩
   rw [decide_eq_true (Ke (by rw [c1];exact AR _) fz.1 (by rw [c1,BB,c2]))]
   subst_eqs
   exact sJ2
  rintro σ' J2 ⟨v6,rfl,sJ2⟩
  exact ⟨_,_,_,rfl,sJ1.trans sJ2⟩
 rintro σ' J ⟨v4,v5,v6,rfl,sJ⟩
 subst_eqs
 exact q J sJ
theorem EE (T:Tx K mg ad):A8 P w K mg base CX0 3 ad.f_law_sums_right ad.d_law_sums_right ["_law_sums","_law_sheet_here","_law_rows","_law_hands"] HR:=by
 refine T.F_law_sums_right.ok Bp (fun vs H Q E h=>?_) (fun cdv A outer s H vs Q E hr h=>?_)
 ·obtain ⟨al,l,rl,h,fs,ls,rs,R,rfl,_⟩:=h
  rfl
 obtain ⟨al,l,rl,h,fs,ls,rs,R,rfl,hal,gf,fv,sz,hl,gl,nz,hrl,gr,rv,le,l13,h12,q⟩:=h
 refine ⟨_,(@Ae _ _ _ _ _ (@AB _ _ _ _ _ _ _ _ (PW.pt (@Cn _ _ _ _ _ _ _ (@AQ _ _ _ _ (@AH _ _ _ (@Aq _ _ _ _ _ _ _ _ _ Bx (by rfl) T.z_isinstance PyProof.Rows.boot_isinstance (@Aa _ _ _ _ _ (pv 0) (@Aa _ _ _ _ _ (BH (v:=.ty "list") rfl T.z_list PyProof.Rows.boot_list rfl) Ad (by rfl)) (by rfl)) (by decide) (by decide) (by rfl) (by rfl)) (by intro _;rfl))) (@Cc _ _ _ _ (@Ax _ _ _ _ _ _ _ _ Er (@Aq _ _ _ _ _ _ _ _ _ At (by rfl) T.z_len PySem.boot_len (@Aa _ _ _ _ _ (pv 0) Ad (by rfl)) (by decide) (by decide) (by rfl) (by rfl)) (@Aj _ _ _ _ _ _ _ _ AS (pv 3) Ac) (Ay _))))) (@Ag _ _ _ (@An _ _ _ _ Cm)) Av) (@Ae _ _ _ _ _ (By PassesOwn.never rfl (Be rfl T.z_range (@Aa _ _ _ _ _ (@Aj _ _ _ _ _ _ _ _ AS (pv 3) Ac) Ad (by rfl))) (AD (i:=4) Bp.nd rfl (Or.inl rfl)) (@Ae _ _ _ _ _ (@Am _ _ (5) _ _ _ _ Bp.nd rfl (Or.inl rfl) (@A2 _ _ _ _ _ (@Aa _ _ _ _ _ Ac (@Aa _ _ _ _ _ Ac Ad (by rfl)) (by rfl))) (by rfl) (by first | exact .inl rfl | exact .inr rfl | assumption)) (@Ae _ _ _ _ _ (By PassesOwn.never rfl (Be rfl T.z_range (@Aa _ _ _ _ _ (@Aq _ _ _ _ _ _ _ _ _ At (by rfl) T.z_len PySem.boot_len (@Aa _ _ _ _ _ (pv 1) Ad (by rfl)) (by decide) (by decide) (by rfl) (by rfl)) Ad (by rfl))) (AD (i:=6) Bp.nd rfl (Or.inl rfl)) (@Ag _ _ _ (@Am _ _ (5) _ _ _ _ Bp.nd rfl (Or.inl rfl) (@Ak _ _ _ _ _ _ _ _ _ _ _ _ _ _ _ _ (D3 T) (hr.mono (by decide)) rfl T.m_law_added T.F_law_added.kp T.b_law_added .nil As (@Aa _ _ _ _ _ (pv 5) (@Aa _ _ _ _ _ (@A2 _ _ _ _ _ (@Aa _ _ _ _ _ (@Aj _ _ _ _ _ _ _ _ A3 (@Ai _ _ _ _ _ _ _ Al (@Ai _ _ _ _ _ _ _ Au (@Ai _ _ _ _ _ _ _ Au (pv 2) (pv 6) (fun _ _=>rfl)) (pv 4) (fun _ _=>rfl)) Ac (fun _ _=>rfl)) (@Ai _ _ _ _ _ _ _ Al (@Ai _ _ _ _ _ _ _ Au (pv 1) (pv 6) (fun _ _=>rfl)) Ac (fun _ _=>rfl))) (@Aa _ _ _ _ _ (@Ai _ _ _ _ _ _ _ Al (@Ai _ _ _ _ _ _ _ Au (@Ai _ _ _ _ _ _ _ Au (pv 2) (pv 6) (fun _ _=>rfl)) (pv 4) (fun _ _=>rfl)) Ac (fun _ _=>rfl)) Ad (by rfl)) (by rfl))) Ad (by rfl)) (by rfl)) (by decide) (by rfl) (by rfl)) (by rfl) (by first | exact .inl rfl | exact .inr rfl | assumption)))) (@Ag _ _ _ (@AB _ _ _ _ _ _ _ _ (PW.pt (@Cn _ _ _ _ _ _ _ (@AQ _ _ _ _ (@AH _ _ _ (@Ak _ _ _ _ _ _ _ _ _ _ _ _ _ _ _ _ (CB T) (hr.mono (by decide)) rfl T.m_law_is_fraction T.F_law_is_fraction.kp T.b_law_is_fraction .nil As (@Aa _ _ _ _ _ (@Ai _ _ _ _ _ _ _ Au (pv 0) (pv 4) (fun _ _=>rfl)) Ad (by rfl)) (by decide) (by rfl) (by rfl)) (by intro _;rfl))) (@Cc _ _ _ _ (@AQ _ _ _ _ (@AH _ _ _ (@Ak _ _ _ _ _ _ _ _ _ _ _ _ _ _ _ _ (Fe T) (hr.mono (by decide)) rfl T.m_law_worth T.F_law_worth.kp T.b_law_worth .nil As (@Aa _ _ _ _ _ (@Ai _ _ _ _ _ _ _ Au (pv 0) (pv 4) (fun _ _=>rfl)) (@Aa _ _ _ _ _ (pv 5) Ad (by rfl)) (by rfl)) (by decide) (by rfl) (by rfl)) (by intro _;rfl)))))) (@Ag _ _ _ (@An _ _ _ _ Cm)) Av))))) (@Ag _ _ _ (@An _ _ _ _ Cm)))),?_⟩
 have sl:(Bc (Ao ls) R h).length=h+1:=by unfold Bc;rw [length_map,length_range]
 have fl:fs.length=h+1:=by
  have:=congrArg List.length fv
  rw [length_map,length_map,sl] at this
  exact this
 have fl':(fqv fs).length=h+1:=by unfold fqv;rw [length_map,fl]
 have vl:=BI ls
 subst_eqs
 refine ⟨_,_,_,_,rfl,BO.lst hal,BN,?_⟩
 subst_eqs
 refine ifF (LL (by rw [fl'];rfl)) ?_
 subst_eqs
 refine ⟨by omega,by omega,B9 (fun j σ' J=>∃v4 v5 v6:Option V,σ'=[some (.ref al),some (.ref l),some (.ref rl),some (.int (h:Int)),v4,v5,v6]/\Az H J) ⟨none,none,none,rfl,fun _ _ e=>e⟩ ?_ ?_⟩
 ·rintro j σ' J hj ⟨v4,v5,v6,rfl,sJ⟩
  have hj':j < h+1:=by omega
  obtain ⟨f,hf,f2⟩:=E2 (j:=j) fv (by omega)
  have fz:=sz _ (CA (j:=j) (w:=Bc (Ao ls) R h) (by omega))
  have se:(Bc (Ao ls) R h).getD j 0=(Ld (Ao ls) R j).sum:=by
   unfold Bc
   rw [getD_eq_getElem?_getD,List.getElem?_map,List.getElem?_range hj']
   rfl
  have zj:(0:Int)+(j:Int)=(j:Int):=Int.zero_add _
  subst_eqs
  refine ⟨(by show 2<=sizeLine;decide),fun t0 ht0=>?_⟩
  have s1:=Af ht0 (.tup [V.int 0,V.int 1])
  have e1:(upd J t0 (.tup [V.int 0,V.int 1])) t0=some (.tup [V.int 0,V.int 1]):=Ab
  generalize upd J t0 (.tup [V.int 0,V.int 1])=J1 at s1 e1 ⊢
  have sJ1:=sJ.trans s1
  have hl1:=sJ1 _ _ hl
  subst_eqs
  refine ⟨by omega,by omega,B9 (fun k σ' J2=>∃(v6:Option V) (d:Fq),σ'=[some (.ref al),some (.ref l),some (.ref rl),some (.int (h:Int)),some (.int (0+(j:Int))),some (.ref d.1),v6]/\Az H J2/\FqG J2 d/\vq d.2=((Ld (Ao ls) R j).take k).sum/\0 < d.2.2/\Sz (1372*k+1) d.2.1/\Sz (1372*k+1) d.2.2) ⟨v6,(t0,0,1),rfl,sJ1,e1,(by show vq (0,1)=0;rw [<- Fc,BB]),(by show (0:Int) < 1;decide),AK (by show -(2:Int) ^ _ < 0;decide) (by show (0:Int) < 2 ^ _;decide),AK (by show -(2:Int) ^ _ < 1;decide) (by show (1:Int) < 2 ^ _;decide)⟩ ?_ ?_⟩
  ·rintro k σ' J2 hk ⟨v6,d,rfl,sJ2,gd,inv,d1,zt,zb⟩
   have hk':k < ls.length:=by rw [vl] at hk;omega
   obtain ⟨q0,hq⟩:∃f,ls[k]?=some f:=⟨_,List.getElem?_eq_getElem hk'⟩
   obtain ⟨r,hr0⟩:∃f,rs[k]?=some f:=⟨_,List.getElem?_eq_getElem (by omega)⟩
   obtain ⟨w,hw,wv,wl,wz,rl2⟩:=rv.get hr0
   have rm:=mem_of_getElem? hr0
   obtain ⟨g,hg,g1⟩:=E2 (j:=j) wv (by omega)
   have wj:=wz _ (CA (j:=j) (w:=w) (by omega))
   have gm:=mem_of_getElem? hg
   have qm:=mem_of_getElem? hq
   have zk:(0:Int)+(k:Int)=(k:Int):=Int.zero_add _
   have hl2:=sJ2 _ _ hl
   have hr2:=sJ2 _ _ hrl
   obtain ⟨rg,rf⟩:=(gr r rm).same sJ2
   have g2:J2 g.1=some (.tup [.int g.2.1,.int g.2.2]):=rf g gm
   have q2:=sJ2 _ _ (gl q0 qm).1
   have lt:Sz 1300 g.2.1:=by rw [g1];exact wj.2.1
   have lb:Sz 1300 g.2.2:=by rw [g1];exact wj.2.2
   have nq:=(nz q0 qm).2
   have nq1:=(nz q0 qm).1
   subst_eqs
   refine ⟨rl,_,_,_,rfl,rfl,SqL.of hr2,(by rw [zk];exact FB hr0),?_⟩
   subst_eqs
   refine ⟨r.1,_,_,_,rfl,rfl,SqL.of rg,(by rw [zj];exact BU hg),?_⟩
   subst_eqs
   refine ⟨l,_,_,_,rfl,rfl,SqL.of hl2,(by rw [zk];exact P4 hq),?_⟩
   subst_eqs
   refine ⟨rl,_,_,_,rfl,rfl,SqL.of hr2,(by rw [zk];exact FB hr0),?_⟩
   subst_eqs
   refine ⟨r.1,_,_,_,rfl,rfl,SqL.of rg,(by rw [zj];exact BU hg),?_⟩
   subst_eqs
   refine ⟨(by show 2<=sizeLine;decide),fun t1 ht1=>?_⟩
   have s3:=Af ht1 (.tup [V.int (g.2.1*q0.2.2.2),V.int g.2.2])
   have e3:(upd J2 t1 (.tup [V.int (g.2.1*q0.2.2.2),V.int g.2.2])) t1=some (.tup [V.int (g.2.1*q0.2.2.2),V.int g.2.2]):=Ab
   generalize upd J2 t1 (.tup [V.int (g.2.1*q0.2.2.2),V.int g.2.2])=J3 at s3 e3 ⊢
   have tz:Sz 1370 (g.2.1*q0.2.2.2):=(lt.mul nq).mono (by decide)
   have k13:1372*k<=1372*13:=Nat.mul_le_mul_left _ (by omega)
   refine ⟨d,(t1,g.2.1*q0.2.2.2,g.2.2),rfl,gd.same s3,e3,zt.mono (by omega),zb.mono (by omega),tz.mono (by decide),lb.mono (by decide),fun c J4 s4 g4=>?_⟩
   have cw:=QH (j:=j) hq hw
   have tk:(Ld (Ao ls) R j).take (k+1)=(Ld (Ao ls) R j).take k++[(q0.2.2.2:Rat)*w.getD j 0]:=by rw [take_add_one,cw];rfl
   have ad:=Jo (x:=d.2) (y:=(g.2.1*q0.2.2.2,g.2.2)) d1 (by show 0 < g.2.2;rw [g1];exact AR _)
   have pz:=F6 (x:=d.2) (y:=(g.2.1*q0.2.2.2,g.2.2)) (n:=1372*k+1) (g:=1370) zt zb tz (lb.mono (by decide))
   refine ⟨_,(c,C0 d.2 (g.2.1*q0.2.2.2,g.2.2)),rfl,sJ2.trans (s3.trans s4),g4,?_,ad.2,pz.1.mono (by omega),pz.2.mono (by omega)⟩
   rw [tk,K6,<- inv]
   show vq (C0 d.2 (g.2.1*q0.2.2.2,g.2.2))=_
   rw [ad.1,g1,Pj]
  rintro σ' J2 ⟨v6,d,rfl,sJ2,gd,inv,d1,zt,zb⟩
  have en:(((vls ls).length:Nat):Int).toNat=ls.length:=by rw [vl];omega
  have cl:(Ld (Ao ls) R j).length=ls.length:=by unfold Ld Ao;rw [length_map,length_zip,length_map,length_map,<- rv.len,le,Nat.min_self]
  rw [en,<- cl,take_of_length_le (Nat.le_refl _),<- se] at inv
  rw [en] at zt zb
  have hal2:=sJ2 _ _ hal
  have gf2:=(gf f (mem_of_getElem? hf)).same sJ2
  have k13:1372*ls.length<=1372*13:=Nat.mul_le_mul_left _ (by omega)
  subst_eqs
  refine ⟨al,_,_,_,rfl,rfl,SqL.of hal2,(by rw [zj];exact BU hf),?_⟩
  subst_eqs
  refine ⟨gf2,(by rw [f2];exact DP fz.1),(by rw [f2];exact AR _),(by rw [f2];exact FI _),?_⟩
  subst_eqs
  refine ⟨al,_,_,_,rfl,rfl,SqL.of hal2,(by rw [zj];exact BU hf),?_⟩
  subst_eqs
  refine ⟨f,d,rfl,gf2,gd,(by rw [f2];exact fz.2.1.mono (by decide)),(by rw [f2];exact fz.2.2.mono (by decide)),zt.mono (by omega),zb.mono (by omega),?_⟩
  rw [decide_eq_true (Ke (by rw [f2];exact AR _) d1 (by rw [f2,BB,inv]))]
  subst_eqs
  exact ifF rfl ⟨_,_,_,rfl,sJ2⟩
 rintro σ' J ⟨v4,v5,v6,rfl,sJ⟩
 subst_eqs
 exact q J sJ
theorem KL (T:Tx K mg ad):A8 P w K mg base CX0 3 ad.f_Way_init ad.d_Way_init ["self","hands","seats","lots"] (Lr K):=by
 refine T.F_Way_init.ok KQ (fun vs H Q E h=>?_) (fun cdv A outer s H vs Q E hr h=>?_)
 ·obtain ⟨a,C,dx,h,s,lv,ns,rfl,_⟩:=h
  rfl
 obtain ⟨a,C,dx,h,s,lv,ns,rfl,ha,cl,n1,n2,n3,h1,h12,s1,s60,lo,q⟩:=h
 refine ⟨_,(@Ae _ _ _ _ _ (@AB _ _ _ _ _ _ _ _ (PW.pt (@Cn _ _ _ _ _ _ _ (@AQ _ _ _ _ (@AH _ _ _ (@Ak _ _ _ _ _ _ _ _ _ _ _ _ _ _ _ _ (IO T) (hr.mono (by decide)) rfl T.m_are_hands T.F_are_hands.kp T.b_are_hands .nil As (@Aa _ _ _ _ _ (pv 1) Ad (by rfl)) (by decide) (by rfl) (by rfl)) (by intro _;rfl))) (@Cc _ _ _ _ (@AQ _ _ _ _ (@AH _ _ _ (@Ak _ _ _ _ _ _ _ _ _ _ _ _ _ _ _ _ (Ju T) (hr.mono (by decide)) rfl T.m_are_seats T.F_are_seats.kp T.b_are_seats .nil As (@Aa _ _ _ _ _ (pv 2) Ad (by rfl)) (by decide) (by rfl) (by rfl)) (by intro _;rfl)))))) (@Ag _ _ _ DW) Av) (@Ae _ _ _ _ _ (@AB _ _ _ _ _ _ _ _ (PW.pt (@LM _ _ _ _ _ _ _ (@Ax _ _ _ _ _ _ _ _ QI (pv 3) D4 (Ay _)) (@Jb _ _ _ _ (@AQ _ _ _ _ (@AH _ _ _ (@Ak _ _ _ _ _ _ _ _ _ _ _ _ _ _ _ _ (Kk T) (hr.mono (by decide)) rfl T.m_are_lots T.F_are_lots.kp T.b_are_lots .nil As (@Aa _ _ _ _ _ (pv 3) (@Aa _ _ _ _ _ (pv 1) Ad (by rfl)) (by rfl)) (by decide) (by rfl) (by rfl)) (by intro _;rfl)))))) (@Ag _ _ _ DW) Av) (@Ae _ _ _ _ _ (LY (pv 0) (pv 1) rfl) (@Ae _ _ _ _ _ (LY (pv 0) (pv 2) rfl) (@Ag _ _ _ (LY (pv 0) (Oi (@Ax _ _ _ _ _ _ _ _ IX (pv 3) D4 (Ay _)) (C8 rfl (by rfl) T.z_list (by rfl) T.z_range (pv 1)) (@Bv _ _ _ _ _ _ _ _ _ BF (by rfl) T.z_list PyProof.Rows.boot_list (@Aa _ _ _ _ _ (pv 3) Ad (by rfl)) (by decide) (by decide) (by rfl) (by rfl))) rfl)))))),?_⟩
 refine ⟨_,rfl,(h:Int),rfl,by omega,by omega,?_⟩
 subst_eqs
 refine ⟨by omega,by omega,?_⟩
 subst_eqs
 rcases lo with ⟨rfl,rfl⟩ | ⟨l,rfl,hl,pm⟩
 ·subst_eqs
  obtain ⟨H1,eH⟩:∃H1,H1=H:=⟨_,rfl⟩
  rw [<- eH]
  have e1:Az H H1:=by rw [eH];exact fun _ _ e=>e
  have g1:=(Oj H a).trans e1
  refine ⟨a,C,dx,[],rfl,e1 _ _ ha,cl,n1,(by simp only [length_cons,length_nil];decide),?_⟩
  rw [SG]
  have g2:=Ef (o:=.ins C dx [("hands",.int (h:Int))]) g1
  have a2:(upd H1 a (.ins C dx [("hands",.int (h:Int))])) a=_:=Ab
  generalize upd H1 a (.ins C dx [("hands",.int (h:Int))])=H2 at g2 a2 ⊢
  subst_eqs
  refine ⟨a,C,dx,_,rfl,a2,cl,n2,(by simp only [length_cons,length_nil];decide),?_⟩
  rw [SV]
  have g3:=Ef (o:=.ins C dx [("hands",.int (h:Int)),("seats",.int (s:Int))]) g2
  have a3:(upd H2 a (.ins C dx [("hands",.int (h:Int)),("seats",.int (s:Int))])) a=_:=Ab
  generalize upd H2 a (.ins C dx [("hands",.int (h:Int)),("seats",.int (s:Int))])=H3 at g3 a3 ⊢
  subst_eqs
  refine ⟨by omega,fun b hb=>?_⟩
  rw [<- R5]
  have ba:b≠a:=fun z=>by rw [z,a3] at hb;cases hb
  have hbH:H b=none:=by
   cases e:H b with
   | none=>rfl
   | some o =>
     have:=g3 _ _ (Js e ba)
     rw [hb] at this
     cases this
  have g4:=g3.trans (Af hb (.lst ((ups h).map V.int)))
  have a4:=Af hb (.lst ((ups h).map V.int)) _ _ a3
  have b4:(upd H3 b (.lst ((ups h).map V.int))) b=some (.lst ((ups h).map V.int)):=Ab
  generalize upd H3 b (.lst ((ups h).map V.int))=H4 at g4 a4 b4 ⊢
  subst_eqs
  refine ⟨a,C,dx,_,rfl,a4,cl,n3,(by simp only [length_cons,length_nil];decide),?_⟩
  rw [SF]
  exact q b _ ba hbH (Ef g4) Ab (by rw [Ap ba];exact b4)
 ·subst_eqs
  refine ⟨l,ns,h,rfl,hl,pm,by omega,fun H1 e1=>?_⟩
  subst_eqs
  have g1:=(Oj H a).trans e1
  refine ⟨a,C,dx,[],rfl,e1 _ _ ha,cl,n1,(by simp only [length_cons,length_nil];decide),?_⟩
  rw [SG]
  have g2:=Ef (o:=.ins C dx [("hands",.int (h:Int))]) g1
  have a2:(upd H1 a (.ins C dx [("hands",.int (h:Int))])) a=_:=Ab
  generalize upd H1 a (.ins C dx [("hands",.int (h:Int))])=H2 at g2 a2 ⊢
  subst_eqs
  refine ⟨a,C,dx,_,rfl,a2,cl,n2,(by simp only [length_cons,length_nil];decide),?_⟩
  rw [SV]
  have g3:=Ef (o:=.ins C dx [("hands",.int (h:Int)),("seats",.int (s:Int))]) g2
  have a3:(upd H2 a (.ins C dx [("hands",.int (h:Int)),("seats",.int (s:Int))])) a=_:=Ab
  generalize upd H2 a (.ins C dx [("hands",.int (h:Int)),("seats",.int (s:Int))])=H3 at g3 a3 ⊢
  have la:l≠a:=fun z=>by rw [z,ha] at hl;cases hl
  have l3:=g3 _ _ (Js hl la)
  subst_eqs
  intro b hb
  have ba:b≠a:=fun z=>by rw [z,a3] at hb;cases hb
  have hbH:H b=none:=by
   cases e:H b with
   | none=>rfl
   | some o =>
     have:=g3 _ _ (Js e ba)
     rw [hb] at this
     cases this
  have g4:=g3.trans (Af hb (.lst (ns.map V.int)))
  have a4:=Af hb (.lst (ns.map V.int)) _ _ a3
  have b4:(upd H3 b (.lst (ns.map V.int))) b=some (.lst (ns.map V.int)):=Ab
  generalize upd H3 b (.lst (ns.map V.int))=H4 at g4 a4 b4 ⊢
  subst_eqs
  refine ⟨a,C,dx,_,rfl,a4,cl,n3,(by simp only [length_cons,length_nil];decide),?_⟩
  rw [SF]
  exact q b _ ba hbH (Ef g4) Ab (by rw [Ap ba];exact b4)
theorem ES (T:Tx K mg ad):A8 P w K mg base CX0 3 ad.f_Seats_greatest ad.d_Seats_greatest ["self","sums","standing"] (Oa ad.c_Seats DG):=by
 refine T.F_Seats_greatest.ok Bm (fun vs H Q E h=>?_) (fun cdv A outer s H vs Q E hr h=>?_)
 ·obtain ⟨a,l,h,s,xs,m,fs,su,rfl,_⟩:=h
  rfl
 obtain ⟨a,l,h,s,xs,m,fs,su,rfl,is,sg,hx,x12,ne,q⟩:=h
 refine ⟨_,(@Ae _ _ _ _ _ (@Am _ _ (3) _ _ _ _ Bm.nd rfl (Or.inl rfl) (Cw (pv 0) T.cl_Seats T.me_Seats_standing_by_lots (BK T) (hr.mono (by decide)) T.b_Seats_standing_by_lots .nil As (@Aa _ _ _ _ _ (pv 2) Ad (by rfl))) (by rfl) (by first | exact .inl rfl | exact .inr rfl | assumption)) (@Ae _ _ _ _ _ (@Am _ _ (4) _ _ _ _ Bm.nd rfl (Or.inl rfl) (@Ai _ _ _ _ _ _ _ Au (pv 3) Ac (fun _ _=>rfl)) (by rfl) (by first | exact .inl rfl | exact .inr rfl | assumption)) (@Ae _ _ _ _ _ (By PassesOwn.never rfl (Bd (pv 3)) (AD (i:=5) Bm.nd rfl (Or.inl rfl)) (@Ag _ _ _ (@AB _ _ _ _ _ _ _ _ (@AH _ _ _ (@Ak _ _ _ _ _ _ _ _ _ _ _ _ _ _ _ _ (EK T) (hr.mono (by decide)) rfl T.m_under T.F_under.kp T.b_under .nil As (@Aa _ _ _ _ _ (@Ai _ _ _ _ _ _ _ Au (pv 1) (pv 4) (fun _ _=>rfl)) (@Aa _ _ _ _ _ (@Ai _ _ _ _ _ _ _ Au (pv 1) (pv 5) (fun _ _=>rfl)) Ad (by rfl)) (by rfl)) (by decide) (by rfl) (by rfl)) (by intro _;rfl)) (@Ag _ _ _ (@Am _ _ (4) _ _ _ _ Bm.nd rfl (Or.inl rfl) (pv 5) (by rfl) (by first | exact .inl rfl | exact .inr rfl | assumption))) Av))) (@Ag _ _ _ (@An _ _ _ _ (pv 4)))))),?_⟩
 have is':=id is
 obtain ⟨dx,lo,k1,k2⟩:=is'
 refine ⟨_,rfl,a,dx,_,rfl,k1,rfl,?_⟩
 subst_eqs
 refine ⟨a,h,s,xs,m,rfl,is,(fun x k=>(hx x k).1),x12,fun bl H1 s1 e1=>?_⟩
 have zin:∀x∈A6 xs m,0<=x/\x.toNat < su.length:=fun x k=>hx x (mem_filter.mp k).1
 have zl:(A6 xs m).length<=12:=Nat.le_trans (length_filter_le ..) x12
 generalize A6 xs m=zs at ne e1 zin zl q
 obtain ⟨z0,zt,rfl⟩:∃a b,zs=a :: b:=by cases zs with | nil=>exact absurd rfl ne | cons a b=>exact ⟨a,b,rfl⟩
 subst_eqs
 refine ⟨bl,_,_,_,rfl,rfl,SqL.of e1,(atN (i:=0) rfl:atI ((z0 :: zt).map V.int) ((0:Nat):Int)=some (.int z0)),?_⟩
 subst_eqs
 refine ⟨⟨_,SqL.of e1⟩,Dl (xs:=(z0 :: zt).map V.int) (fun i σ' J=>∃(b:Int) (v5:Option V),σ'=[some (.ref a),some (.ref l),some (.int m),some (.ref bl),some (.int b),v5]/\H1=J/\b∈z0 :: zt/\b=((z0 :: zt).take i).foldl (fun b x=>if at0 su b < at0 su x then x else b) z0) ⟨z0,none,rfl,rfl,mem_cons_self ..,rfl⟩ (fun i σ' J _ hq_=>by obtain ⟨_,_,_,e,_⟩:=hq_;rw [<- e];exact SqL.of e1) ?_ ?_⟩
 ·rintro i y σ' J hy ⟨b,v5,rfl,rfl,bm,be⟩
  obtain ⟨x,hx',rfl⟩:=C2 hy
  have xm:=mem_of_getElem? hx'
  obtain ⟨ab,a1,a2,a3,a4⟩:=(sg.same s1).at (zin b bm).1 (zin b bm).2
  obtain ⟨ax,b1,b2,b3,b4⟩:=(sg.same s1).at (zin x xm).1 (zin x xm).2
  have l1:=s1 _ _ sg.l
  have tk:((z0 :: zt).take (i+1)).foldl (fun b x=>if at0 su b < at0 su x then x else b) z0=((fun b x=>if at0 su b < at0 su x then x else b)) b x:=by
   rw [take_add_one,hx',foldl_append,<- be]
   rfl
  subst_eqs
  refine ⟨l,_,_,_,rfl,rfl,SqL.of l1,a1,?_⟩
  subst_eqs
  refine ⟨l,_,_,_,rfl,rfl,SqL.of l1,b1,?_⟩
  subst_eqs
  refine ⟨ab,ax,_,_,_,_,rfl,a2,b2,a3,a4,b3,b4,?_⟩
  rw [show decide ((pr (at0 su b)).1*(pr (at0 su x)).2 < (pr (at0 su x)).1*(pr (at0 su b)).2)=decide (at0 su b < at0 su x) from decide_eq_decide.mpr (HB _ _)]
  by_cases c:at0 su b < at0 su x
  ·rw [decide_eq_true c]
   subst_eqs
   exact ⟨xm,by rw [tk];exact (if_pos c).symm⟩
  ·rw [decide_eq_false c]
   subst_eqs
   exact ⟨bm,by rw [tk];exact (if_neg c).symm⟩
 rintro σ' J ⟨b,v5,rfl,rfl,bm,be⟩
 rw [length_map,take_of_length_le (Nat.le_refl _)] at be
 subst_eqs
 have:=q H1 s1
 rw [show DG su (z0 :: zt)=b from be.symm] at this
 exact this
theorem Gq (T:Tx K mg ad):A8 P w K mg base CX0 3 ad.f_Seats_lowest ad.d_Seats_lowest ["self","sums","standing"] (Oa ad.c_Seats E4):=by
 refine T.F_Seats_lowest.ok B6 (fun vs H Q E h=>?_) (fun cdv A outer s H vs Q E hr h=>?_)
 ·obtain ⟨a,l,h,s,xs,m,fs,su,rfl,_⟩:=h
  rfl
 obtain ⟨a,l,h,s,xs,m,fs,su,rfl,is,sg,hx,x12,ne,q⟩:=h
 refine ⟨_,(@Ae _ _ _ _ _ (@Am _ _ (3) _ _ _ _ B6.nd rfl (Or.inl rfl) (Cw (pv 0) T.cl_Seats T.me_Seats_standing_by_lots (BK T) (hr.mono (by decide)) T.b_Seats_standing_by_lots .nil As (@Aa _ _ _ _ _ (pv 2) Ad (by rfl))) (by rfl) (by first | exact .inl rfl | exact .inr rfl | assumption)) (@Ae _ _ _ _ _ (@Am _ _ (4) _ _ _ _ B6.nd rfl (Or.inl rfl) (@Ai _ _ _ _ _ _ _ Au (pv 3) Ac (fun _ _=>rfl)) (by rfl) (by first | exact .inl rfl | exact .inr rfl | assumption)) (@Ae _ _ _ _ _ (By PassesOwn.never rfl (Bd (pv 3)) (AD (i:=5) B6.nd rfl (Or.inl rfl)) (@Ag _ _ _ (@AB _ _ _ _ _ _ _ _ (@AQ _ _ _ _ (@AH _ _ _ (@Ak _ _ _ _ _ _ _ _ _ _ _ _ _ _ _ _ (EK T) (hr.mono (by decide)) rfl T.m_under T.F_under.kp T.b_under .nil As (@Aa _ _ _ _ _ (@Ai _ _ _ _ _ _ _ Au (pv 1) (pv 4) (fun _ _=>rfl)) (@Aa _ _ _ _ _ (@Ai _ _ _ _ _ _ _ Au (pv 1) (pv 5) (fun _ _=>rfl)) Ad (by rfl)) (by rfl)) (by decide) (by rfl) (by rfl)) (by intro _;rfl))) (@Ag _ _ _ (@Am _ _ (4) _ _ _ _ B6.nd rfl (Or.inl rfl) (pv 5) (by rfl) (by first | exact .inl rfl | exact .inr rfl | assumption))) Av))) (@Ag _ _ _ (@An _ _ _ _ (pv 4)))))),?_⟩
 have is':=id is
 obtain ⟨dx,lo,k1,k2⟩:=is'
 refine ⟨_,rfl,a,dx,_,rfl,k1,rfl,?_⟩
 subst_eqs
 refine ⟨a,h,s,xs,m,rfl,is,(fun x k=>(hx x k).1),x12,fun bl H1 s1 e1=>?_⟩
 have zin:∀x∈A6 xs m,0<=x/\x.toNat < su.length:=fun x k=>hx x (mem_filter.mp k).1
 have zl:(A6 xs m).length<=12:=Nat.le_trans (length_filter_le ..) x12
 generalize A6 xs m=zs at ne e1 zin zl q
 obtain ⟨z0,zt,rfl⟩:∃a b,zs=a :: b:=by cases zs with | nil=>exact absurd rfl ne | cons a b=>exact ⟨a,b,rfl⟩
 subst_eqs
 refine ⟨bl,_,_,_,rfl,rfl,SqL.of e1,(atN (i:=0) rfl:atI ((z0 :: zt).map V.int) ((0:Nat):Int)=some (.int z0)),?_⟩
 subst_eqs
 refine ⟨⟨_,SqL.of e1⟩,Dl (xs:=(z0 :: zt).map V.int) (fun i σ' J=>∃(b:Int) (v5:Option V),σ'=[some (.ref a),some (.ref l),some (.int m),some (.ref bl),some (.int b),v5]/\H1=J/\b∈z0 :: zt/\b=((z0 :: zt).take i).foldl (fun b x=>if at0 su b < at0 su x then b else x) z0) ⟨z0,none,rfl,rfl,mem_cons_self ..,rfl⟩ (fun i σ' J _ hq_=>by obtain ⟨_,_,_,e,_⟩:=hq_;rw [<- e];exact SqL.of e1) ?_ ?_⟩
 ·rintro i y σ' J hy ⟨b,v5,rfl,rfl,bm,be⟩
  obtain ⟨x,hx',rfl⟩:=C2 hy
  have xm:=mem_of_getElem? hx'
  obtain ⟨ab,a1,a2,a3,a4⟩:=(sg.same s1).at (zin b bm).1 (zin b bm).2
  obtain ⟨ax,b1,b2,b3,b4⟩:=(sg.same s1).at (zin x xm).1 (zin x xm).2
  have l1:=s1 _ _ sg.l
  have tk:((z0 :: zt).take (i+1)).foldl (fun b x=>if at0 su b < at0 su x then b else x) z0=((fun b x=>if at0 su b < at0 su x then b else x)) b x:=by
   rw [take_add_one,hx',foldl_append,<- be]
   rfl
  subst_eqs
  refine ⟨l,_,_,_,rfl,rfl,SqL.of l1,a1,?_⟩
  subst_eqs
  refine ⟨l,_,_,_,rfl,rfl,SqL.of l1,b1,?_⟩
  subst_eqs
  refine ⟨ab,ax,_,_,_,_,rfl,a2,b2,a3,a4,b3,b4,?_⟩
  rw [show decide ((pr (at0 su b)).1*(pr (at0 su x)).2 < (pr (at0 su x)).1*(pr (at0 su b)).2)=decide (at0 su b < at0 su x) from decide_eq_decide.mpr (HB _ _)]
  by_cases c:at0 su b < at0 su x
  ·rw [decide_eq_true c]
   subst_eqs
   exact ⟨bm,by rw [tk];exact (if_pos c).symm⟩
  ·rw [decide_eq_false c]
   subst_eqs
   exact ⟨xm,by rw [tk];exact (if_neg c).symm⟩
 rintro σ' J ⟨b,v5,rfl,rfl,bm,be⟩
 rw [length_map,take_of_length_le (Nat.le_refl _)] at be
 subst_eqs
 have:=q H1 s1
 rw [show E4 su (z0 :: zt)=b from be.symm] at this
 exact this
theorem O0 (T:Tx K mg ad):A8 P w K mg base CX0 4 ad.f_table ad.d_table ["sheet","state","standing"] (Rj 4500):=by
 refine T.F_table.ok Ox (fun vs H Q E h=>?_) (fun cdv A outer s H vs Q E hr h=>?_)
 ·obtain ⟨l,st,h,ls,xs,s,rfl,_⟩:=h
  rfl
 obtain ⟨l,st,h,ls,xs,s,rfl,hl,gl,hs,gx,le,l60,h12,li,q⟩:=h
 refine ⟨_,(@Ag _ _ _ (@An _ _ _ _ (E9 (fsc:=Ah J7) (N:=["sheet","state","standing"]) (Nc:=["sheet","state","standing","line","one"]) rfl rfl ⟨rfl,by decide +kernel,by decide +kernel,by decide +kernel,by decide +kernel,rfl,by decide +kernel,rfl,by decide +kernel⟩ rfl (Jx rfl T.z_zip (@Aa _ _ _ _ _ (pv 0) (@Aa _ _ _ _ _ (pv 1) Ad (by rfl)) (by rfl))) (fun _ _ _ _=>Bg) (fun _ _ _ _=>(@Ak _ _ _ _ _ _ _ _ _ _ _ _ _ _ _ _ (IR T) (hr.mono (by decide)) rfl T.m_table_row T.F_table_row.kp T.b_table_row .nil As (@Aa _ _ _ _ _ (@Ai _ _ _ _ _ _ _ (D6 K) (pv 3) Ac (fun _ _=>rfl)) (@Aa _ _ _ _ _ (@Ai _ _ _ _ _ _ _ (D6 K) (pv 4) Ac (fun _ _=>rfl)) (@Aa _ _ _ _ _ (@Ai _ _ _ _ _ _ _ (D6 K) (pv 4) Ac (fun _ _=>rfl)) (@Aa _ _ _ _ _ (pv 2) Ad (by rfl)) (by rfl)) (by rfl)) (by rfl)) (by decide) (by rfl) (by rfl)))))),?_⟩
 have vl:=BI ls
 have xl:(shv xs).length=xs.length:=length_map ..
 have zl:(Jq s ls xs).length=ls.length:=by unfold Jq;rw [length_map,length_zip,le,Nat.min_self]
 subst_eqs
 refine ⟨l,st,rfl,⟨_,SqL.of hl⟩,⟨_,SqL.of hs⟩,?_⟩
 refine JT (xs:=vls ls) (zs:=shv xs) rfl rfl (by omega) (by rw [vl];exact AL (by omega)) (fun D i ys J=>∃rs:List Rw,ys=rwv rs/\J D=some (.lst ys)/\rs.length=i/\Az H J/\(∀x∈rs,RwG J x/\H x.1=none/\x.1≠D)/\(rs.map fun x=>x.2.map (·.2))=(Jq s ls xs).take i) (fun D hD=>⟨[],rfl,Ab,rfl,Af hD _,(fun _ m=>absurd m List.not_mem_nil),rfl⟩) (fun D i ys J hq_=>by obtain ⟨rs,f1,f2,f3,_⟩:=hq_;exact ⟨f2,by rw [f1];unfold rwv;rw [length_map,f3];exact Nat.le_refl _⟩) (fun D i ys J hD hq_=>by obtain ⟨_,_,_,_,f4,_⟩:=hq_;exact ⟨SqL.of (f4 _ _ hl),SqL.of (f4 _ _ hs)⟩) ?_ ?_
 ·rintro D i x y T ys J K1 K2 hD hx hy ⟨rs,rfl,n1,n2,n3,n4,n5⟩ hT kk1 kk2
  obtain ⟨f,hf,rfl,fm,et⟩:=Ff hx
  unfold shv at hy
  rw [List.getElem?_map] at hy
  obtain ⟨g,hg,rfl⟩:=Option.map_eq_some_iff.mp hy
  obtain ⟨gg,gb,gl'⟩:=gx g (mem_of_getElem? hg)
  obtain ⟨l1,l2,l3,l4⟩:=li f fm
  have s1:=Af hT (.tup [V.ref f.1,V.ref g.1])
  generalize upd J T (.tup [V.ref f.1,V.ref g.1])=J1 at s1 ⊢
  have sJ:=n3.trans s1
  refine yes (ifT rfl ?_)
  refine ⟨_,rfl,f.1,_,_,_,rfl,rfl,SqT.of (sJ _ _ (gl f fm).1),rfl,?_⟩
  refine ⟨_,rfl,g.1,_,_,_,rfl,rfl,SqT.of (sJ _ _ gg.t),rfl,?_⟩
  refine ⟨_,rfl,g.1,_,_,_,rfl,rfl,SqT.of (sJ _ _ gg.t),rfl,?_⟩
  refine ⟨_,rfl,?_⟩
  refine ⟨f.2.1,g.2.2.1,h,f.2.2.1,g.2.1,g.2.2.2,s,rfl,sJ _ _ (gl f fm).2,gg.f.same sJ,gb,sJ _ _ gg.l,(fun x m=>(gg.k x m).same sJ),gl',h12,l1,l2,l3,l4,fun r fs J2 hr2 s2 e2 g2 v2=>?_⟩
  have n1':=(s1.trans s2) _ _ n1
  have rD:r≠D:=fun z=>by rw [z,s1 _ _ n1] at hr2;cases hr2
  have n4':∀x∈rs++[(r,fs)],RwG (upd J2 D (.lst (rwv rs++[V.ref r]))) x/\H x.1=none/\x.1≠D:=fun x m=>by
   have key:RwG J2 x/\H x.1=none/\x.1≠D:=by
    rcases mem_append.mp m with m | m
    ·exact ⟨(n4 x m).1.same (s1.trans s2),(n4 x m).2⟩
    ·rw [mem_singleton.mp m]
     exact ⟨⟨e2,g2⟩,none_of sJ hr2,rD⟩
   exact ⟨⟨by rw [Ap key.2.2];exact key.1.1,fun f m=>(key.1.2 f m).upd n1'⟩,key.2⟩
  refine kk1 _ _ n1' ⟨rs++[(r,fs)],by unfold rwv;rw [map_append];rfl,Ab,by rw [length_append,n2];rfl,A0 (n3.trans (s1.trans s2)) (none_of (fun _ _ e=>e) hD),n4',?_⟩
  have tz:(Jq s ls xs)[i]?=some (Kz (Aw f.2.2.1 s) g.2.1.2 (g.2.2.2.map (·.2))):=by
   unfold Jq
   rw [List.getElem?_map,show (ls.zip xs)[i]?=some (f,g) from List.getElem?_zip_eq_some.mpr ⟨hf,hg⟩]
   rfl
  rw [take_add_one,tz,map_append,n5]
  show _++[fs.map (·.2)]=_
  rw [v2]
  rfl
 rintro D ys J hD ⟨rs,rfl,n1,n2,n3,n4,n5⟩
 rw [vl,<- zl,take_of_length_le (Nat.le_refl _)] at n5
 exact q D rs J hD n3 n1 (fun x m=>⟨(n4 x m).1,(n4 x m).2.1⟩) n5
theorem Le (T:Tx K mg ad):A8 P w K mg base CX0 4 ad.f_tallies ad.d_tallies ["sheet","rows","hands"] Lx:=by
 refine T.F_tallies.ok Lp (fun vs H Q E h=>?_) (fun cdv A outer s H vs Q E hr h=>?_)
 ·obtain ⟨l,rl,h,ls,rs,M,rfl,_⟩:=h
  rfl
 obtain ⟨l,rl,h,ls,rs,M,rfl,hl,gl,hr',gr,M0,Mz,le,l60,h12,nz,q⟩:=h
 refine ⟨_,(@Ag _ _ _ (@An _ _ _ _ (PK (fsc:=Ah Eh) (N:=["sheet","rows","hands"]) (Nc:=["sheet","rows","hands","place"]) rfl rfl ⟨rfl,by decide +kernel,by decide +kernel,rfl,by decide +kernel,rfl,by decide +kernel,rfl,by decide +kernel⟩ rfl (Be rfl T.z_range (@Aa _ _ _ _ _ (@Aj _ _ _ _ _ _ _ _ AS (pv 2) Ac) Ad (by rfl))) (fun _ _ _ _=>Bg) (fun _ _ _ _=>(@Ak _ _ _ _ _ _ _ _ _ _ _ _ _ _ _ _ (Hy T) (hr.mono (by decide)) rfl T.m_weighed T.F_weighed.kp T.b_weighed .nil As (@Aa _ _ _ _ _ (pv 0) (@Aa _ _ _ _ _ (by exact (Ny (fsc:=Ah Eh) (Nc:=["sheet","rows","hands","place"]) (Nd:=["sheet","rows","hands","place","row"]) rfl ⟨rfl,by decide +kernel,by decide +kernel,rfl,by decide +kernel,rfl,by decide +kernel,rfl,by decide +kernel⟩ rfl (K7 K (pv 1)) (fun _ _ _ _=>Bg) (fun _ _ _ _=>(@Ai _ _ _ _ _ _ _ (Hj K) (pv 4) (pv 3) (fun _ _=>rfl))))) Ad (by rfl)) (by rfl)) (by decide) (by rfl) (by rfl)))))),?_⟩
 have rl':(rwv rs).length=rs.length:=length_map ..
 subst_eqs
 refine ⟨by omega,by omega,?_⟩
 have hn:((h:Int)+1).toNat=h+1:=by omega
 rw [hn]
 refine D9 (AL (by omega)) (fun D i ys J=>∃fs:List Fq,ys=fqv fs/\fs.length=i/\J D=some (.lst ys)/\Az H J/\(∀f∈fs,FqG J f)/\∀j f,fs[j]?=some f->WM M ls (C5 rs j) f.2) (fun D hD=>⟨[],rfl,rfl,Ab,Af hD _,(fun _ m=>absurd m List.not_mem_nil),fun j f e=>by rw [List.getElem?_nil] at e;cases e⟩) (fun D i ys J hq_=>by obtain ⟨fs,f1,f2,f3,_⟩:=hq_;exact ⟨f3,by rw [f1];unfold fqv;rw [length_map,f2];exact Nat.le_refl _⟩) ?_ ?_
 ·rintro D i ys J K1 K2 hD hi ⟨fs,rfl,n1,n2,n3,n4,n5⟩ kk1 kk2
  refine yes (ifT rfl ?_)
  refine ⟨_,rfl,?_⟩
  refine ⟨_,rfl,rl,rfl,⟨_,SqL.of (n3 _ _ hr')⟩,?_⟩
  refine Bk (xs:=rwv rs) (by rw [rl'];exact AL (by omega)) (fun D2 k ys J2=>ys=fqv ((C5 rs i).take k)/\J2=upd J D2 (.lst ys)) (fun D2 hD2=>⟨rfl,rfl⟩) (fun D2 k ys J2 hq_=>by obtain ⟨f1,f2⟩:=hq_;exact ⟨by rw [f2];exact Ab,by rw [f1];unfold fqv;rw [length_map];exact length_take_le _ _⟩) (fun D2 k ys J2 hD2 hq_=>by obtain ⟨_,f2⟩:=hq_;rw [f2];exact SqL.of (Af hD2 _ _ _ (n3 _ _ hr'))) ?_ ?_
  ·rintro D2 k y ys J2 L1 L2 hD2 hy ⟨e,rfl⟩ ll1 ll2
   unfold rwv at hy
   rw [List.getElem?_map] at hy
   obtain ⟨x,hx,rfl⟩:=Option.map_eq_some_iff.mp hy
   obtain ⟨gx,xl,xb⟩:=gr x (mem_of_getElem? hx)
   have sD:=n3.trans (Af hD2 (.lst ys))
   refine yes (ifT rfl ?_)
   refine ⟨_,rfl,_,rfl,x.1,_,_,_,rfl,rfl,SqL.of (sD _ _ gx.1),(by rw [Int.zero_add];exact Cb (by unfold fqv;rw [List.getElem?_map,Pc (by omega)];rfl)),?_⟩
   refine ll1 _ _ Ab ⟨?_,by rw [CZ]⟩
   rw [e,take_add_one,show (C5 rs i)[k]?=some (x.2.getD i (0,0,1)) from by unfold C5;rw [List.getElem?_map,hx];rfl]
   unfold fqv
   rw [map_append]
   rfl
  rintro D2 ys J2 hD2 ⟨rfl,rfl⟩
  have cl:(C5 rs i).length=rs.length:=length_map ..
  rw [rl',<- cl,take_of_length_le (Nat.le_refl _)]
  have s2:=Af hD2 (.lst (fqv (C5 rs i)))
  have e2:(upd J D2 (.lst (fqv (C5 rs i)))) D2=some (.lst (fqv (C5 rs i))):=Ab
  generalize upd J D2 (.lst (fqv (C5 rs i)))=J3 at s2 e2 ⊢
  have sJ:=n3.trans s2
  have gc:∀f∈C5 rs i,FqG J3 f/\FqM M f.2:=fun f m=>by
   obtain ⟨x,xm,rfl⟩:=mem_map.mp m
   obtain ⟨gx,xl,xb⟩:=gr x xm
   have hm:x.2.getD i (0,0,1)∈x.2:=mem_of_getElem? (Pc (by omega))
   exact ⟨(gx.2 _ hm).same sJ,xb _ hm⟩
  refine ⟨l,D2,ls,C5 rs i,M,rfl,sJ _ _ hl,(fun q m=>⟨sJ _ _ (gl q m).1,sJ _ _ (gl q m).2⟩),e2,gc,M0,Mz,by rw [cl];exact le,l60,nz,fun T v3 J4 s4 wm4 e4=>?_⟩
  have n2':=(s2.trans s4) _ _ n2
  refine kk1 _ _ n2' ⟨fs++[(T,v3)],by unfold fqv;rw [map_append];rfl,by rw [length_append,n1];rfl,Ab,A0 (sJ.trans s4) hD,fun f m=>FqG.upd ?_ n2',fun j f e=>?_⟩
  ·rcases mem_append.mp m with m | m
   ·exact (n4 f m).same (s2.trans s4)
   ·rw [mem_singleton.mp m];exact e4
  ·rcases (by omega:j < i\/j=i\/i < j) with lt | eq | gt
   ·rw [List.getElem?_append_left (by omega)] at e
    exact n5 j f e
   ·subst eq
    rw [<- n1,List.getElem?_append_right (Nat.le_refl _),Nat.sub_self] at e
    have e':=Option.some.inj e
    rw [<- e']
    exact wm4
   ·rw [List.getElem?_eq_none (by rw [length_append,n1];exact gt)] at e
    cases e
 rintro D ys J hD ⟨fs,rfl,n1,n2,n3,n4,n5⟩
 exact q D fs J hD n3 n2 n4 n1 n5
theorem IZ (T:Tx K mg ad):A8 P w K mg base CX0 4 ad.f_part_kept ad.d_part_kept ["tally","quota"] NW:=by
 refine T.F_part_kept.ok Jy (fun vs H Q E h=>?_) (fun cdv A outer s H vs Q E hr h=>?_)
 ·obtain ⟨f,qu,rfl,_⟩:=h
  rfl
 obtain ⟨f,qu,rfl,gf,b0,q1,szq,szt,szb,q⟩:=h
 refine ⟨_,(@Ae _ _ _ _ _ (@AB _ _ _ _ _ _ _ _ (@AH _ _ _ (@Ak _ _ _ _ _ _ _ _ _ _ _ _ _ _ _ _ (EK T) (hr.mono (by decide)) rfl T.m_under T.F_under.kp T.b_under .nil As (@Aa _ _ _ _ _ (@A2 _ _ _ _ _ (@Aa _ _ _ _ _ (pv 1) (@Aa _ _ _ _ _ Ac Ad (by rfl)) (by rfl))) (@Aa _ _ _ _ _ (pv 0) Ad (by rfl)) (by rfl)) (by decide) (by rfl) (by rfl)) (by intro _;rfl)) (@Ag _ _ _ (@An _ _ _ _ (@Ak _ _ _ _ _ _ _ _ _ _ _ _ _ _ _ _ (N4 T) (hr.mono (by decide)) rfl T.m_parted T.F_parted.kp T.b_parted .nil As (@Aa _ _ _ _ _ (@A2 _ _ _ _ _ (@Aa _ _ _ _ _ (pv 1) (@Aa _ _ _ _ _ Ac Ad (by rfl)) (by rfl))) (@Aa _ _ _ _ _ (pv 0) Ad (by rfl)) (by rfl)) (by decide) (by rfl) (by rfl)))) Av) (@Ag _ _ _ (@An _ _ _ _ (@A2 _ _ _ _ _ (@Aa _ _ _ _ _ Ac (@Aa _ _ _ _ _ Ac Ad (by rfl)) (by rfl)))))),?_⟩
 and_intros
 refine ⟨(by show 2<=sizeLine;decide),fun a ha=>?_⟩
 have s1:=Af ha (.tup [V.int qu,V.int 1])
 have e1:(upd H a (.tup [V.int qu,V.int 1])) a=some (.tup [V.int qu,V.int 1]):=Ab
 generalize upd H a (.tup [V.int qu,V.int 1])=H1 at s1 e1 ⊢
 have one:Sz 9000 (1:Int):=AK (by decide +kernel) (by decide +kernel)
 and_intros
 refine ⟨a,f.1,qu,1,f.2.1,f.2.2,rfl,e1,s1 _ _ gf,szq.mono (by decide),one,szt.mono (by decide),szb.mono (by decide),?_⟩
 by_cases c:qu*f.2.2 < f.2.1*1
 ·have e:Dp f.2 qu=(B4 (qu*f.2.2) (1*f.2.1),B1 (qu*f.2.2) (1*f.2.1)):=by unfold Dp;rw [if_pos c]
  rw [decide_eq_true c]
  and_intros
  refine ⟨(by show 2<=sizeLine;decide),fun b hb=>?_⟩
  have s2:=Af hb (.tup [V.int qu,V.int 1])
  have e2:(upd H1 b (.tup [V.int qu,V.int 1])) b=some (.tup [V.int qu,V.int 1]):=Ab
  generalize upd H1 b (.tup [V.int qu,V.int 1])=H2 at s2 e2 ⊢
  and_intros
  have t0:0 < f.2.1:=by
   have:=Int.mul_pos (show 0 < qu by omega) b0
   omega
  refine ⟨b,f.1,qu,1,f.2.1,f.2.2,rfl,e2,(s1.trans s2) _ _ gf,(by show (1:Int)*f.2.1≠0;omega),szq.mono (by decide),(AK (by decide) (by decide):Sz 64 (1:Int)).mono (by decide),szt.mono (by decide),szb.mono (by decide),fun z H' s' e'=>q z H' (s1.trans (s2.trans s')) (by rw [e];exact e')⟩
 ·have e:Dp f.2 qu=(1,1):=by unfold Dp;rw [if_neg c]
  rw [decide_eq_false c]
  and_intros
  refine ⟨(by show 2<=sizeLine;decide),fun b hb=>?_⟩
  exact q b _ (s1.trans (Af hb _)) (by rw [e];exact Ab)
theorem Ep (T:Tx K mg ad):A8 P w K mg base CX0 4 ad.f_law_walked ad.d_law_walked ["_law_paper","_law_sheet_here","_law_hands","_law_seats","_law_lots_here"] LQ:=by
 refine T.F_law_walked.ok AC (fun vs H Q E h=>?_) (fun cdv A outer s H vs Q E hr h=>?_)
 ·obtain ⟨p,sh,lo,h,s,ps,ls,xs,rfl,_⟩:=h
  rfl
 obtain ⟨p,sh,lo,h,s,ps,ls,xs,rfl,hp,gp,ep,hsh,gl,okl,l13,n0,nN,hlo,px,h1,h5,s4,F9,q⟩:=h
 refine ⟨_,(@Ae _ _ _ _ _ (@Am _ _ (5) _ _ _ _ AC.nd rfl (Or.inr rfl) (@Aj _ _ _ _ _ _ _ _ AS (@Aj _ _ _ _ _ _ _ _ Bj (@Aq _ _ _ _ _ _ _ _ _ (Fa rfl) (by rfl) T.z_sum PyProof.Rows.boot_sum (@Aa _ _ _ _ _ (E9 (fsc:=Ah Ci) (N:=["_law_paper","_law_sheet_here","_law_hands","_law_seats","_law_lots_here","_law_quota","_law_standing","_law_places","_law_dues","_law_k","_law_rows","_law_sums","_law_deed"]) (Nc:=["_law_paper","_law_sheet_here","_law_hands","_law_seats","_law_lots_here","_law_quota","_law_standing","_law_places","_law_dues","_law_k","_law_rows","_law_sums","_law_deed","_law_slip_here","_law_number_here"]) rfl rfl ⟨rfl,by decide +kernel,by decide +kernel,by decide +kernel,by decide +kernel,rfl,by decide +kernel,rfl,by decide +kernel⟩ rfl (Bd (pv 1)) (fun _ _ _ _=>Bg) (fun _ _ _ _=>(pv 14))) Ad (by rfl)) (by decide) (by decide) (by rfl) (by rfl)) (@Aj _ _ _ _ _ _ _ _ AS (pv 3) Ac)) Ac) (by rfl) (by first | exact .inl rfl | exact .inr rfl | assumption)) (@Ae _ _ _ _ _ (@Am _ _ (6) _ _ _ _ AC.nd rfl (Or.inr rfl) (@Aj _ _ _ _ _ _ _ _ C9 (@Aj _ _ _ _ _ _ _ _ Hd Ac (pv 2)) Ac) (by rfl) (by first | exact .inl rfl | exact .inr rfl | assumption)) (@Ae _ _ _ _ _ (@Am _ _ (7) _ _ _ _ AC.nd rfl (Or.inl rfl) (pv 3) (by rfl) (by first | exact .inl rfl | exact .inr rfl | assumption)) (@Ae _ _ _ _ _ (GC (j:=8) (fsc:=Ah Ci) (N:=["_law_paper","_law_sheet_here","_law_hands","_law_seats","_law_lots_here","_law_quota","_law_standing","_law_places","_law_dues","_law_k","_law_rows","_law_sums","_law_deed"]) (Nc:=["_law_paper","_law_sheet_here","_law_hands","_law_seats","_law_lots_here","_law_quota","_law_standing","_law_places","_law_dues","_law_k","_law_rows","_law_sums","_law_deed","_law_line"]) rfl rfl ⟨rfl,by decide +kernel,by decide +kernel,rfl,by decide +kernel,rfl,by decide +kernel,rfl,by decide +kernel⟩ rfl AC.nd rfl rfl (Bd (pv 1)) (fun _ _ _ _=>Bg) (fun _ _ _ _=>(@A2 _ _ _ _ _ (@Aa _ _ _ _ _ (@Aj _ _ _ _ _ _ _ _ RW (@BL _ _ _ _ (@Aa _ _ _ _ _ (@A2 _ _ _ _ _ (@Aa _ _ _ _ _ Ac (@Aa _ _ _ _ _ Ac Ad (by rfl)) (by rfl))) Ad (by rfl))) (pv 2)) (@Aa _ _ _ _ _ (@A2 _ _ _ _ _ (@Aa _ _ _ _ _ Ac (@Aa _ _ _ _ _ Ac Ad (by rfl)) (by rfl))) Ad (by rfl)) (by rfl)))) rfl) (@Ae _ _ _ _ _ (By PassesOwn.never rfl (Be rfl T.z_range (@Aa _ _ _ _ _ (@Aq _ _ _ _ _ _ _ _ _ At (by rfl) T.z_len PySem.boot_len (@Aa _ _ _ _ _ (pv 0) Ad (by rfl)) (by decide) (by decide) (by rfl) (by rfl)) Ad (by rfl))) (AD (i:=9) AC.nd rfl (Or.inl rfl)) (@Ae _ _ _ _ _ (@AB _ _ _ _ _ _ _ _ (PW.pt (@Cn _ _ _ _ _ _ _ (@AQ _ _ _ _ (@AH _ _ _ (@Aq _ _ _ _ _ _ _ _ _ Bx (by rfl) T.z_isinstance PyProof.Rows.boot_isinstance (@Aa _ _ _ _ _ (@Ai _ _ _ _ _ _ _ Au (pv 0) (pv 9) (fun _ _=>rfl)) (@Aa _ _ _ _ _ (BH (v:=.ty "tuple") rfl T.z_tuple PyProof.Rows.boot_tuple rfl) Ad (by rfl)) (by rfl)) (by decide) (by decide) (by rfl) (by rfl)) (by intro _;rfl))) (@Cc _ _ _ _ (@Ax _ _ _ _ _ _ _ _ Er (@Aq _ _ _ _ _ _ _ _ _ At (by rfl) T.z_len PySem.boot_len (@Aa _ _ _ _ _ (@Ai _ _ _ _ _ _ _ Au (pv 0) (pv 9) (fun _ _=>rfl)) Ad (by rfl)) (by decide) (by decide) (by rfl) (by rfl)) Ac (Ay _))))) (@Ag _ _ _ (@An _ _ _ _ Cm)) Av) (@Ae _ _ _ _ _ (Hv (@Ai _ _ _ _ _ _ _ Au (pv 0) (pv 9) (fun _ _=>rfl)) (FG rfl (Bo (AD (i:=10) AC.nd rfl (Or.inl rfl)) (Bo (AD (i:=11) AC.nd rfl (Or.inr rfl)) (Bo (AD (i:=12) AC.nd rfl (Or.inr rfl)) Eg))))) (@Ae _ _ _ _ _ (@AB _ _ _ _ _ _ _ _ (PW.pt (@Cn _ _ _ _ _ _ _ (@AQ _ _ _ _ (@AH _ _ _ (@Ak _ _ _ _ _ _ _ _ _ _ _ _ _ _ _ _ (E7 T) (hr.mono (by decide)) rfl T.m_law_rows_right T.F_law_rows_right.kp T.b_law_rows_right .nil As (@Aa _ _ _ _ _ (pv 10) (@Aa _ _ _ _ _ (pv 1) (@Aa _ _ _ _ _ (pv 8) (@Aa _ _ _ _ _ (pv 6) Ad (by rfl)) (by rfl)) (by rfl)) (by rfl)) (by decide) (by rfl) (by rfl)) (by intro _;rfl))) (@Cc _ _ _ _ (@AQ _ _ _ _ (@AH _ _ _ (@Ak _ _ _ _ _ _ _ _ _ _ _ _ _ _ _ _ (EE T) (hr.mono (by decide)) rfl T.m_law_sums_right T.F_law_sums_right.kp T.b_law_sums_right .nil As (@Aa _ _ _ _ _ (pv 11) (@Aa _ _ _ _ _ (pv 1) (@Aa _ _ _ _ _ (pv 10) (@Aa _ _ _ _ _ (pv 2) Ad (by rfl)) (by rfl)) (by rfl)) (by rfl)) (by decide) (by rfl) (by rfl)) (by intro _;rfl)))))) (@Ag _ _ _ (@An _ _ _ _ Cm)) Av) (@Ae _ _ _ _ _ (@AB _ _ _ _ _ _ _ _ (PW.pt (@Cn _ _ _ _ _ _ _ (@AQ _ _ _ _ (@AH _ _ _ (@Ak _ _ _ _ _ _ _ _ _ _ _ _ _ _ _ _ (Jr T) (hr.mono (by decide)) rfl T.m_law_kinds T.F_law_kinds.kp T.b_law_kinds .nil As (@Aa _ _ _ _ _ (pv 12) Ad (by rfl)) (by decide) (by rfl) (by rfl)) (by intro _;rfl))) (@Cc _ _ _ _ (@Ax _ _ _ _ _ _ _ _ (LO (K:=K) hr.units) (pv 12) (@Ak _ _ _ _ _ _ _ _ _ _ _ _ _ _ _ _ (L0 T) (hr.mono (by decide)) rfl T.m_law_due T.F_law_due.kp T.b_law_due .nil As (@Aa _ _ _ _ _ (pv 11) (@Aa _ _ _ _ _ (pv 6) (@Aa _ _ _ _ _ (pv 7) (@Aa _ _ _ _ _ (pv 5) (@Aa _ _ _ _ _ (pv 4) Ad (by rfl)) (by rfl)) (by rfl)) (by rfl)) (by rfl)) (by decide) (by rfl) (by rfl)) (Ay _))))) (@Ag _ _ _ (@An _ _ _ _ Cm)) Av) (@Ae _ _ _ _ _ (@AB _ _ _ _ _ _ _ _ (@Ax _ _ _ _ _ _ _ _ IX (@Ai _ _ _ _ _ _ _ Al (pv 12) Ac (fun _ _=>rfl)) D4 (Ay _)) (@Ag _ _ _ (@An _ _ _ _ (@BP _ _ _ _ _ _ _ _ BX (pv 9) (@Aj _ _ _ _ _ _ _ _ C9 (@Aq _ _ _ _ _ _ _ _ _ At (by rfl) T.z_len PySem.boot_len (@Aa _ _ _ _ _ (pv 0) Ad (by rfl)) (by decide) (by decide) (by rfl) (by rfl)) Ac) (Ay _)))) Av) (@Ae _ _ _ _ _ (GC (j:=8) (fsc:=Ah Ci) (N:=["_law_paper","_law_sheet_here","_law_hands","_law_seats","_law_lots_here","_law_quota","_law_standing","_law_places","_law_dues","_law_k","_law_rows","_law_sums","_law_deed"]) (Nc:=["_law_paper","_law_sheet_here","_law_hands","_law_seats","_law_lots_here","_law_quota","_law_standing","_law_places","_law_dues","_law_k","_law_rows","_law_sums","_law_deed","_law_row"]) rfl rfl ⟨rfl,by decide +kernel,by decide +kernel,rfl,by decide +kernel,rfl,by decide +kernel,rfl,by decide +kernel⟩ rfl AC.nd rfl rfl (Bd (pv 10)) (fun _ _ _ _=>Bg) (fun _ _ _ _=>(@Ak _ _ _ _ _ _ _ _ _ _ _ _ _ _ _ _ (HP T) (hr.mono (by decide)) rfl T.m_law_behind T.F_law_behind.kp T.b_law_behind .nil As (@Aa _ _ _ _ _ (pv 13) (@Aa _ _ _ _ _ (pv 6) (@Aa _ _ _ _ _ (pv 12) (@Aa _ _ _ _ _ (@Ai _ _ _ _ _ _ _ (Hj K) (pv 11) (@Ai _ _ _ _ _ _ _ (D6 K) (pv 12) Ac (fun _ _=>rfl)) (fun _ _=>rfl)) (@Aa _ _ _ _ _ (pv 5) Ad (by rfl)) (by rfl)) (by rfl)) (by rfl)) (by rfl)) (by decide) (by rfl) (by rfl))) rfl) (@Ae _ _ _ _ _ (@Am _ _ (6) _ _ _ _ AC.nd rfl (Or.inr rfl) (@Aj _ _ _ _ _ _ _ _ C9 (pv 6) (@Aj _ _ _ _ _ _ _ _ Hd Ac (@Ai _ _ _ _ _ _ _ Al (pv 12) Ac (fun _ _=>rfl)))) (by rfl) (by first | exact .inl rfl | exact .inr rfl | assumption)) (@Ag _ _ _ (@Am _ _ (7) _ _ _ _ AC.nd rfl (Or.inl rfl) (@Aj _ _ _ _ _ _ _ _ C9 (pv 7) (@Bv _ _ _ _ _ _ _ _ _ Ij (by rfl) T.z_int PyProof.Rows.boot_int (@Aa _ _ _ _ _ (@BP _ _ _ _ _ _ _ _ BX (@Ai _ _ _ _ _ _ _ Al (pv 12) Ac (fun _ _=>rfl)) C4 (Ay _)) Ad (by rfl)) (by decide) (by decide) (by rfl) (by rfl))) (by rfl) (by first | exact .inl rfl | exact .inr rfl | assumption))))))))))) (@Ag _ _ _ (@An _ _ _ _ Cm))))))),?_⟩
 have vl:=BI ls
 have hx:∀x∈xs,0<=x/\x < h:=fun x k=>Fj.mp (px.mem_iff.mp k)
 have hxa:∀j:Nat,j < h->(j:Int)∈xs:=fun j hj=>px.mem_iff.mpr (Fj.mpr ⟨by omega,by omega⟩)
 have okd:∀p∈Ao ls,Okk h p.1:=fun p pm=>by
  obtain ⟨q0,qm,rfl⟩:=mem_map.mp pm
  exact (okl q0 qm).1.1
 obtain ⟨fo,q1⟩:=Ph (ds:=Ao ls) (h:=h) (s:=s) (xs:=xs) (fun p pm=>by
  obtain ⟨q0,qm,rfl⟩:=mem_map.mp pm
  exact (okl q0 qm).2.1) n0 nN (by omega) s4 hx hxa
 generalize Bz (Ao ls) h xs s=F at ep fo F9
 have el:ps.length=F.length:=by
  have:=congrArg List.length ep
  rw [length_map,length_map] at this
  exact this
 have pl:(rqs ps).length=F.length:=by unfold rqs;rw [length_map];exact el
 subst_eqs
 refine ⟨⟨_,SqL.of hsh⟩,?_⟩
 refine Ex (zs:=vls ls) rfl rfl (by rw [vl];exact AL (by omega)) (fun D i ys H'=>ys=((Ao (ls.take i)).map (·.2)).map V.int/\H'=upd H D (.lst ys)) (fun D hD=>⟨rfl,rfl⟩) (fun D i ys H' hq_=>by obtain ⟨f1,f2⟩:=hq_;exact ⟨by rw [f2];exact Ab,by rw [f1,length_map,length_map];unfold Ao;rw [length_map];exact length_take_le _ _⟩) (fun D i ys H' hD hq_=>by obtain ⟨_,f2⟩:=hq_;rw [f2];exact SqL.of (Af hD _ _ _ hsh)) ?_ ?_
 ·rintro D i x ys H' K1 K2 hD hx ⟨f1,rfl⟩ kk1 kk2
  obtain ⟨f,hf,rfl,fm,et⟩:=Ff hx
  refine ⟨f.1,_,_,rfl,SqT.of (Af hD _ _ _ (gl f fm).1),?_⟩
  refine yes (ifT rfl ?_)
  refine ⟨_,rfl,?_⟩
  refine kk1 _ _ Ab ⟨?_,by rw [CZ]⟩
  rw [et,DY,map_append,map_append,f1]
  rfl
 rintro D ys H10' hD ⟨rfl,rfl⟩
 rw [vl,take_of_length_le (Nat.le_refl _)]
 have s1:=Af hD (.lst (((Ao ls).map (·.2)).map V.int))
 have e1:(upd H D (.lst (((Ao ls).map (·.2)).map V.int))) D=some (.lst (((Ao ls).map (·.2)).map V.int)):=Ab
 generalize upd H D (.lst (((Ao ls).map (·.2)).map V.int))=H1 at s1 e1 ⊢
 refine ⟨D,_,rfl,SqL.of e1,?_⟩
 generalize hnn:((Ao ls).map (fun x:List Int × Int=>x.2)).sum=nn
 have hnn':AG (Ao ls)=nn:=hnn
 rw [hnn'] at fo n0 nN q1
 have nn40:nn < 1099511627776:=nN
 have zn:Sz 64 nn:=AK (by omega) (by omega)
 subst_eqs
 refine ⟨⟨by show (_:Int)≠0;omega,(show Sz 64 ((s:Int)+1) from AK (by omega) (by omega)).mono (by decide)⟩,?_⟩
 subst_eqs
 dsimp only
 have qz:Sz 64 (nn.fdiv ((s:Int)+1)+1):=by
  have:nn.fdiv ((s:Int)+1)<=nn:=by
   rw [Int.fdiv_eq_ediv_of_nonneg _ (by omega)]
   exact Int.ediv_le_self _ n0
  exact AK (by omega) (by omega)
 generalize nn.fdiv ((s:Int)+1)+1=qu at fo q1 qz ⊢
 subst_eqs
 refine ⟨F7 (by omega),?_⟩
 subst_eqs
 rw [show (1:Int)*2 ^ ((h:Int)).toNat=2 ^ h from by rw [Int.toNat_natCast,Int.one_mul]]
 have hsh1:=s1 _ _ hsh
 subst_eqs
 refine ⟨⟨_,SqL.of hsh1⟩,?_⟩
 refine Bk (xs:=vls ls) (by rw [vl];exact AL (by omega)) (fun D i ys J=>∃dus:List Du,ys=duv dus/\dus.length=i/\Az H1 J/\J D=some (.lst ys)/\∀x∈dus,(DuG J x/\x.2.1.1≠D)/\x.2.2.2=(1,1)/\(x.2.1.2.map fun f=>f.2)=List.replicate h (0,1)) (fun D hD=>⟨[],rfl,rfl,Af hD _,Ab,(fun _ k=>nomatch k)⟩) (fun D i ys J hq_=>by obtain ⟨dus,f1,f2,_,f4,_⟩:=hq_;exact ⟨f4,by rw [f1];unfold duv;rw [length_map,f2];exact Nat.le_refl _⟩) (fun D i ys J hD hq_=>by obtain ⟨_,_,_,f3,_⟩:=hq_;exact SqL.of (f3 _ _ hsh1)) ?_ ?_
 ·rintro D i y ys J K1 K2 hD hy ⟨dus,rfl,dl,sJ,eD,gd⟩ kk1 kk2
  subst_eqs
  refine ⟨(by show 2<=sizeLine;decide),fun t0 ht0=>?_⟩
  have s2:=Af ht0 (.tup [V.int 0,V.int 1])
  have e2:(upd J t0 (.tup [V.int 0,V.int 1])) t0=some (.tup [V.int 0,V.int 1]):=Ab
  generalize upd J t0 (.tup [V.int 0,V.int 1])=J1 at s2 e2 ⊢
  refine ⟨(by show 1<=sizeLine;decide),fun b0 hb0=>?_⟩
  have s3:=Af hb0 (.lst [V.ref t0])
  have e3:(upd J1 b0 (.lst [V.ref t0])) b0=some (.lst [V.ref t0]):=Ab
  generalize upd J1 b0 (.lst [V.ref t0])=J2 at s3 e3 ⊢
  subst_eqs
  refine ⟨b0,_,_,rfl,rfl,e3,by omega,by omega,(by rw [Int.toNat_natCast];show 1*h<=_;exact AL (by omega)),fun r hr'=>?_⟩
  rw [Int.toNat_natCast,Oz]
  have s4:=Af hr' (.lst (fqv (List.replicate h (t0,0,1))))
  have e4:(upd J2 r (.lst (fqv (List.replicate h (t0,0,1))))) r=some (.lst (fqv (List.replicate h (t0,0,1)))):=Ab
  generalize upd J2 r (.lst (fqv (List.replicate h (t0,0,1))))=J3 at s4 e4 ⊢
  subst_eqs
  refine ⟨(by show 2<=sizeLine;decide),fun t1 ht1=>?_⟩
  have s5:=Af ht1 (.tup [V.int 1,V.int 1])
  have e5:(upd J3 t1 (.tup [V.int 1,V.int 1])) t1=some (.tup [V.int 1,V.int 1]):=Ab
  generalize upd J3 t1 (.tup [V.int 1,V.int 1])=J4 at s5 e5 ⊢
  refine ⟨(by show 2<=sizeLine;decide),fun t2 ht2=>?_⟩
  have s6:=Af ht2 (.tup [V.ref r,V.ref t1])
  have e6:(upd J4 t2 (.tup [V.ref r,V.ref t1])) t2=some (.tup [V.ref r,V.ref t1]):=Ab
  generalize upd J4 t2 (.tup [V.ref r,V.ref t1])=J5 at s6 e6 ⊢
  have s05:=s2.trans (s3.trans (s4.trans (s5.trans s6)))
  have eD5:=s05 _ _ eD
  have rD:r≠D:=fun z=>by rw [z,(s2.trans s3) _ _ eD] at hr';cases hr'
  have g5:DuG J5 (t2,(r,List.replicate h (t0,0,1)),(t1,1,1)):=⟨e6,(s5.trans s6) _ _ e4,fun f k=>by rw [eq_of_mem_replicate k];exact (s3.trans (s4.trans (s5.trans s6))) _ _ e2,s6 _ _ e5⟩
  have up:∀x:Du,DuG J5 x->x.2.1.1≠D->DuG (upd J5 D (.lst (duv dus++[V.ref t2]))) x:=fun x g n=>⟨by rw [Ap (BV g.t eD5 (fun z=>by cases z))];exact g.t,by rw [Ap n];exact g.l,fun f k=>FqG.upd (g.k f k) eD5,FqG.upd g.f eD5⟩
  refine kk1 _ _ eD5 ⟨dus++[(t2,(r,List.replicate h (t0,0,1)),(t1,1,1))],(by unfold duv;rw [map_append];rfl),(by rw [length_append,dl];rfl),A0 (sJ.trans s05) hD,Ab,fun x k=>?_⟩
  rcases mem_append.mp k with k | k
  ·obtain ⟨⟨k1,k2⟩,k3⟩:=gd x k
   exact ⟨⟨up x (k1.same s05) k2,k2⟩,k3⟩
  ·rw [mem_singleton.mp k]
   exact ⟨⟨up _ g5 rD,rD⟩,rfl,by rw [map_replicate]⟩
 rintro D0 ys H2 hD0 ⟨dus0,rfl,dl0,s12,eD0,gd0⟩
 rw [vl] at dl0
 have s02:=s1.trans s12
 have hp2:=s02 _ _ hp
 have dsl:(Ao ls).length=ls.length:=by unfold Ao;rw [length_map]
 have du0:DuS H2 D0 dus0 (CK (Ao ls).length h):=⟨eD0,fun x k=>(gd0 x k).1.1,fun i x y ex ey=>by
  obtain ⟨_,k2,k3⟩:=gd0 x (mem_of_getElem? ex)
  have yv:y=(1,List.replicate h 0):=by
   have:=mem_of_getElem? ey
   unfold CK at this
   exact eq_of_mem_replicate this
  subst yv
  refine ⟨by rw [k2];exact OR.symm,?_,fun f k=>?_⟩
  ·rw [show (fun f:Fq=>vq f.2)=vq ∘ (fun f:Fq=>f.2) from rfl,<- map_map,k3,map_replicate]
   show List.replicate h (vq (0,1))=List.replicate h 0
   rw [<- Fc,BB]
  ·have:f.2∈x.2.1.2.map fun f=>f.2:=mem_map.mpr ⟨f,k,rfl⟩
   rw [k3] at this
   rw [eq_of_mem_replicate this]
   exact ⟨by decide,AK (by show -(2:Int) ^ _ < 0;decide) (by show (0:Int) < 2 ^ _;decide),AK (by show -(2:Int) ^ _ < 1;decide) (by show (1:Int) < 2 ^ _;decide)⟩⟩
 subst_eqs
 refine ⟨by omega,by omega,?_⟩
 refine B9 (fun i σ' J=>∃(v9 v10 v11 v12:Option V) (D:Addr) (dus:List Du) (st:List Sr) (m:Int) (pn:Nat),σ'=[some (.ref p),some (.ref sh),some (.int (h:Int)),some (.int (s:Int)),some (.ref lo),some (.int qu),some (.int m),some (.int (pn:Int)),some (.ref D),v9,v10,v11,v12]/\Az H J/\DuS J D dus st/\dus.length=ls.length/\Fo (Ao ls) h xs qu st m pn (F.drop i)) ⟨none,none,none,none,D0,dus0,_,_,s,rfl,s02,du0,dl0,fo⟩ ?_ ?_
 ·rintro i σ' J hi ⟨v9,v10,v11,v12,D,dus,st,m,pn,rfl,sJ,du,dl,fi⟩
  have hi':i < F.length:=by omega
  have z0:(0:Int)+(i:Int)=(i:Int):=Int.zero_add _
  rw [z0]
  obtain ⟨r,hr1⟩:∃f,ps[i]?=some f:=⟨_,List.getElem?_eq_getElem (by omega)⟩
  obtain ⟨x,hx'⟩:∃f,F[i]?=some f:=⟨_,List.getElem?_eq_getElem (by omega)⟩
  have ex:rqV r=DJ x:=by
   have e:(ps.map rqV)[i]?=(F.map DJ)[i]?:=by rw [ep]
   rw [List.getElem?_map,List.getElem?_map,hr1,hx'] at e
   exact Option.some.inj e
  have fd:F.drop i=x :: F.drop (i+1):=by
   rw [drop_eq_getElem_cons hi']
   congr 1
   rw [List.getElem?_eq_getElem hi'] at hx'
   exact Option.some.inj hx'
  rw [fd] at fi
  obtain ⟨fs,stl,m0,m1,xe,xr,⟨xl,xz⟩,nxt⟩:=fi
  have g:=(gp r (mem_of_getElem? hr1)).same sJ
  have d1:r.2.2.2.2=x.2.2:=congrArg (fun z:Rv=>z.2.2) ex
  have d2:r.2.2.1.2.map (·.2)=x.2.1.map pr:=congrArg (fun z:Rv=>z.2.1) ex
  have d3:r.2.1.2.map (fun y=>y.2.map (·.2))=x.1.map (fun y=>y.map pr):=congrArg (fun z:Rv=>z.1) ex
  have gt:=g.t
  have hpJ:=sJ _ _ hp
  refine ⟨_,rfl,?_⟩
  have x1:x.1=AE (Ao ls) st m:=by rw [xe];rfl
  have x2:x.2.1=Bc (Ao ls) (AE (Ao ls) st m) h:=by rw [xe];rfl
  have x3:x.2.2=Db xs (Bc (Ao ls) (AE (Ao ls) st m) h) m pn qu:=by rw [xe];rfl
  have rv:Hs r.2.1.2 (AE (Ao ls) st m) h:=⟨by rw [<- x1];exact d3,by rw [<- x1];exact xr⟩
  rw [x2] at d2 xz xl
  have rl:ls.length=r.2.1.2.length:=by
   rw [rv.len]
   unfold AE
   rw [length_map,length_zip,stl,dsl,Nat.min_self]
  subst_eqs
  refine ⟨p,_,_,_,rfl,rfl,SqL.of hpJ,Pr hr1,?_⟩
  subst_eqs
  refine ⟨_,_,_,_,rfl,BO.tup gt,Bl,?_⟩
  subst_eqs
  refine ⟨p,_,_,_,rfl,rfl,SqL.of hpJ,Pr hr1,?_⟩
  subst_eqs
  refine ⟨p,_,_,_,rfl,rfl,SqL.of hpJ,Pr hr1,?_⟩
  refine ⟨r.1,_,rfl,SqT.of gt,rfl,_,_,rfl,_,_,rfl,_,_,rfl,rfl,?_⟩
  subst_eqs
  refine ⟨r.2.1.1,sh,D,h,r.2.1.2,ls,dus,st,m,rfl,g.rl,g.rg,sJ _ _ hsh,gl.same sJ,(fun q k=>(okl q k).1),du.l,du.g,du.v,dl,(by rw [stl,dsl]),fs,rv,by omega,by omega,fun J1 j1=>?_⟩
  subst_eqs
  have sJ1:=sJ.trans j1
  refine ⟨r.2.2.1.1,sh,r.2.1.1,h,r.2.2.1.2,ls,r.2.1.2,AE (Ao ls) st m,rfl,j1 _ _ g.sl,(fun f k=>(g.sg f k).same j1),d2,xz,sJ1 _ _ hsh,gl.same sJ1,(fun q k=>(okl q k).2),j1 _ _ g.rl,(fun y k=>(g.rg y k).same j1),rv,rl,l13,by omega,fun J2 j2=>?_⟩
  have j02:=j1.trans j2
  have sJ2:=sJ1.trans j2
  have gd:=j02 _ _ g.d
  rw [d1] at gd
  subst_eqs
  refine ⟨r.2.2.2.1,x.2.2,rfl,gd,?_⟩
  subst_eqs
  have su:SuG J2 r.2.2.1.1 r.2.2.1.2 (Bc (Ao ls) (AE (Ao ls) st m) h):=⟨j02 _ _ g.sl,fun f k=>(g.sg f k).same j02,d2,fun v k=>⟨(xz v k).2.1.mono (by decide),(xz v k).2.2.mono (by decide)⟩⟩
  refine ⟨r.2.2.1.1,lo,h,xs,m,qu,pn,r.2.2.1.2,_,rfl,su,xl,sJ2 _ _ hlo,px,by omega,m0,m1,qz,fun t J3 j3 e3=>?_⟩
  rw [<- x3] at e3
  have gd3:=j3 _ _ gd
  have sJ3:=sJ2.trans j3
  refine ⟨_,_,GQ gd3,GQ e3,Dw _,Dw _,?_⟩
  refine ⟨_,rfl,?_⟩
  rw [Lv (Dw _)]
  refine ifF rfl ?_
  cases hdd:x.2.2 with
  | rest =>
    have o5:F.drop (i+1)=[]:=by rw [hdd] at nxt;exact nxt
    have last:i+1=F.length:=by
     have:=congrArg List.length o5
     rw [length_drop] at this
     have:F.length - (i+1)=0:=this
     omega
    rw [hdd] at gd3
    have gd':J3 r.2.2.2.1=some (.tup [.str "rest",.non]):=gd3
    have hp3:=sJ3 _ _ hp
    subst_eqs
    show Q (V.bl (decide (V.int (i:Int)=V.int (((rqs ps).length:Int) - 1)))) J3
    rw [decide_eq_true (congrArg V.int (by rw [pl];omega))]
    exact q J3 sJ3
  | fin =>
    have o5:F.drop (i+1)=[]:=by rw [hdd] at nxt;exact nxt
    have last:i+1=F.length:=by
     have:=congrArg List.length o5
     rw [length_drop] at this
     have:F.length - (i+1)=0:=this
     omega
    rw [hdd] at gd3
    have gd':J3 r.2.2.2.1=some (.tup [.str "end",.non]):=gd3
    have hp3:=sJ3 _ _ hp
    subst_eqs
    show Q (V.bl (decide (V.int (i:Int)=V.int (((rqs ps).length:Int) - 1)))) J3
    rw [decide_eq_true (congrArg V.int (by rw [pl];omega))]
    exact q J3 sJ3
  | seat j =>
    rw [hdd] at gd3 nxt
    have gd':J3 r.2.2.2.1=some (.tup [.str "seat",.int (j:Int)]):=gd3
    obtain ⟨hj,bj,p1,fo2⟩:=nxt
    have fos:FoS h (m - 2 ^ j) (Bw (Ao ls) st m j qu):=by
     cases e:F.drop (i+1) with
     | nil=>rw [e] at fo2;exact fo2.elim
     | cons a b=>rw [e] at fo2;exact fo2.1
    have hrl3:=(j02.trans j3) _ _ g.rl
    have hsl3:=(j02.trans j3) _ _ g.sl
    obtain ⟨ta,bt,ct⟩:=E2 (j:=j) d2 (by omega)
    have tz:=xz _ (CA (j:=j) (w:=Bc (Ao ls) (AE (Ao ls) st m) h) (by omega))
    have sh':=HI (ds:=Ao ls) (by omega) okd fs hj bj
    generalize htl:(Bc (Ao ls) (AE (Ao ls) st m) h).getD j 0=tl at ct tz sh'
    have tp:∀j',Dd.seat j=.seat j'->0 < tl:=fun j' _=>by have:=JS (x3.symm.trans hdd);rw [htl] at this;have q0:(1:Rat)<=(qu:Rat):=(Rat.intCast_le_intCast.mpr q1);grind
    have beh:∀(k:Nat) q0 y,ls[k]?=some q0->st[k]?=some y->(Bw (Ao ls) st m j qu)[k]?=some (CC m qu (.seat j) tl (BC (Aw q0.2.2.1 m) y) h ((BC (Aw q0.2.2.1 m) y).getD h 0),(List.range h).map (CF m qu (.seat j) tl (BC (Aw q0.2.2.1 m) y))):=fun k q0 y hq hy=>by
     have hd0:(Ao ls)[k]?=some (q0.2.2.1,q0.2.2.2):=by unfold Ao;rw [List.getElem?_map,hq];rfl
     have ym:=mem_of_getElem? hy
     have ok0:=(okl q0 (mem_of_getElem? hq)).1.1
     have le:(qu:Rat)<=tl:=by have:=JS (x3.symm.trans hdd);rw [htl] at this;exact this
     rw [KF (by omega) ok0 (fs.len y ym) (fs.zero y ym) hj bj q1 le,sh']
     exact Ot hd0 hy
    have rwl:(rwv r.2.1.2).length=ls.length:=by unfold rwv;rw [length_map];exact rl.symm
    subst_eqs
    refine ⟨⟨_,SqL.of hrl3⟩,?_⟩
    refine Bk (xs:=rwv r.2.1.2) (by rw [rwl];exact AL (by omega)) (fun D' k ys J'=>∃dus':List Du,ys=duv dus'/\dus'.length=k/\Az J3 J'/\J' D'=some (.lst ys)/\(∀x∈dus',DuG J' x/\x.2.1.1≠D')/\∀(k':Nat) x y,dus'[k']?=some x->(Bw (Ao ls) st m j qu)[k']?=some y->DuV x y) (fun D' hD'=>⟨[],rfl,rfl,Af hD' _,Ab,(fun _ k=>nomatch k),(fun k' x y e=>nomatch e)⟩) (fun D' k ys J' hq_=>by obtain ⟨dus',f1,f2,_,f4,_⟩:=hq_;exact ⟨f4,by rw [f1];unfold duv;rw [length_map,f2];exact Nat.le_refl _⟩) (fun D' k ys J' hD' hq_=>by obtain ⟨_,_,_,f3,_⟩:=hq_;exact SqL.of (f3 _ _ hrl3)) ?_ ?_
    ·rintro D' k y0 ys J' K1 K2 hD' hy0 ⟨dus',rfl,dl',sJ',eD',gd2,gv2⟩ kk1 kk2
     unfold rwv at hy0
     rw [List.getElem?_map] at hy0
     obtain ⟨rw0,hrw,rfl⟩:=Option.map_eq_some_iff.mp hy0
     obtain ⟨w,hw,wv,wl,wz,rl2⟩:=rv.get hrw
     have kl':k < ls.length:=by have:=(List.getElem?_eq_some_iff.mp hrw).1;omega
     obtain ⟨q0,hq⟩:∃f,ls[k]?=some f:=⟨_,List.getElem?_eq_getElem kl'⟩
     obtain ⟨y,hy⟩:∃f,st[k]?=some f:=⟨_,List.getElem?_eq_getElem (by rw [stl,dsl];exact kl')⟩
     have we:w=BC (Aw q0.2.2.1 m) y:=by
      have hd:(Ao ls)[k]?=some (q0.2.2.1,q0.2.2.2):=by unfold Ao;rw [List.getElem?_map,hq];rfl
      unfold AE at hw
      rw [List.getElem?_map,show ((Ao ls).zip st)[k]?=some ((q0.2.2.1,q0.2.2.2),y) from List.getElem?_zip_eq_some.mpr ⟨hd,hy⟩] at hw
      exact (Option.some.inj hw).symm
     have bk:=beh k q0 y hq hy
     rw [<- we] at bk
     have gdJ:=sJ' _ _ gd'
     have hslJ:=sJ' _ _ hsl3
     obtain ⟨rg,rf⟩:=((g.rg rw0 (mem_of_getElem? hrw)).same (j02.trans j3)).same sJ'
     have gta:=((g.sg ta (mem_of_getElem? bt)).same (j02.trans j3)).same sJ'
     have fn:=(fos.fr _ (mem_of_getElem? bk)).1
     subst_eqs
     refine ⟨r.2.2.1.1,_,_,_,rfl,rfl,SqL.of hslJ,BU bt,?_⟩
     subst_eqs
     refine ⟨rw0.1,r.2.2.2.1,h,w,rw0.2,m,qu,.seat j,tl,ta,rfl,rg,rf,wv,wl,wz,gdJ,gta,ct,tz,tp,h5,qz,fn,fun x' J'' hn s'' g'' v1 v2 v3=>?_⟩
     have eD2:=s'' _ _ eD'
     have nD:x'.2.1.1≠D':=fun z=>by rw [z,eD'] at hn;cases hn
     have up:∀x:Du,DuG J'' x->x.2.1.1≠D'->DuG (upd J'' D' (.lst (duv dus'++[V.ref x'.1]))) x:=fun x g n=>⟨by rw [Ap (BV g.t eD2 (fun z=>by cases z))];exact g.t,by rw [Ap n];exact g.l,fun f k=>FqG.upd (g.k f k) eD2,FqG.upd g.f eD2⟩
     refine kk1 _ _ eD2 ⟨dus'++[x'],(by unfold duv;rw [map_append];rfl),(by rw [length_append,dl'];rfl),A0 (sJ'.trans s'') hD',Ab,(fun x kx=>?_),fun k' x y' ex ey=>?_⟩
     ·rcases mem_append.mp kx with kx | kx
      ·exact ⟨up x ((gd2 x kx).1.same s'') (gd2 x kx).2,(gd2 x kx).2⟩
      ·rw [mem_singleton.mp kx]
       exact ⟨up _ g'' nD,nD⟩
     ·by_cases c:k' < dus'.length
      ·rw [List.getElem?_append_left c] at ex
       exact gv2 k' x y' ex ey
      ·have ek:k'=k:=by
        have:=(List.getElem?_eq_some_iff.mp ex).1
        rw [length_append] at this
        have:k' < dus'.length+1:=this
        omega
       subst ek
       rw [List.getElem?_append_right (by omega),dl',Nat.sub_self] at ex
       have:x'=x:=Option.some.inj ex
       subst this
       rw [bk] at ey
       have:_=y':=Option.some.inj ey
       subst this
       exact ⟨v1,v2,v3⟩
    rintro D' ys J4 hD' ⟨dus',rfl,dl',s34,eD',gd2,gv2⟩
    rw [rwl] at dl'
    have gd4:=s34 _ _ gd'
    subst_eqs
    refine ⟨F7 (by omega),?_⟩
    subst_eqs
    refine .inr ⟨_,rfl,?_⟩
    refine ⟨_,_,rfl,rfl,?_⟩
    have e1:(1:Int)*2 ^ ((j:Int)).toNat=2 ^ j:=by rw [Int.toNat_natCast,Int.one_mul]
    have e2:(pn:Int) - (if decide (V.str "seat"=V.str "seat")=true then 1 else 0)=((pn - 1:Nat):Int):=by
     rw [if_pos (decide_eq_true rfl)];omega
    refine ⟨some (.int (i:Int)),some (.ref r.2.1.1),some (.ref r.2.2.1.1),some (.ref r.2.2.2.1),D',dus',Bw (Ao ls) st m j qu,m - 2 ^ j,pn - 1,?_,sJ3.trans s34,⟨eD',fun x k=>(gd2 x k).1,gv2⟩,dl',fo2⟩
    show ([some (.ref p),some (.ref sh),some (.int (h:Int)),some (.int (s:Int)),some (.ref lo),some (.int qu),some (.int (m - 1*2 ^ ((j:Int)).toNat)),some (.int ((pn:Int) - (if decide (V.str "seat"=V.str "seat")=true then 1 else 0))),some (.ref D'),some (.int (i:Int)),some (.ref r.2.1.1),some (.ref r.2.2.1.1),some (.ref r.2.2.2.1)]:St)=_
    rw [e1,e2]
  | out j =>
    rw [hdd] at gd3 nxt
    have gd':J3 r.2.2.2.1=some (.tup [.str "out",.int (j:Int)]):=gd3
    obtain ⟨hj,bj,p1,fo2⟩:=nxt
    have fos:FoS h (m - 2 ^ j) (st):=by
     cases e:F.drop (i+1) with
     | nil=>rw [e] at fo2;exact fo2.elim
     | cons a b=>rw [e] at fo2;exact fo2.1
    have hrl3:=(j02.trans j3) _ _ g.rl
    have hsl3:=(j02.trans j3) _ _ g.sl
    obtain ⟨ta,bt,ct⟩:=E2 (j:=j) d2 (by omega)
    have tz:=xz _ (CA (j:=j) (w:=Bc (Ao ls) (AE (Ao ls) st m) h) (by omega))
    have sh':=HI (ds:=Ao ls) (by omega) okd fs hj bj
    generalize htl:(Bc (Ao ls) (AE (Ao ls) st m) h).getD j 0=tl at ct tz sh'
    have tp:∀j',Dd.out j=.seat j'->0 < tl:=fun j' z=>nomatch z
    have beh:∀(k:Nat) q0 y,ls[k]?=some q0->st[k]?=some y->(st)[k]?=some (CC m qu (.out j) tl (BC (Aw q0.2.2.1 m) y) h ((BC (Aw q0.2.2.1 m) y).getD h 0),(List.range h).map (CF m qu (.out j) tl (BC (Aw q0.2.2.1 m) y))):=fun k q0 y hq hy=>by
     have hd0:(Ao ls)[k]?=some (q0.2.2.1,q0.2.2.2):=by unfold Ao;rw [List.getElem?_map,hq];rfl
     have ym:=mem_of_getElem? hy
     have ok0:=(okl q0 (mem_of_getElem? hq)).1.1
     rw [L3 (by omega) ok0 (fs.len y ym) (fs.zero y ym)]
     exact hy
    have rwl:(rwv r.2.1.2).length=ls.length:=by unfold rwv;rw [length_map];exact rl.symm
    subst_eqs
    refine ⟨⟨_,SqL.of hrl3⟩,?_⟩
    refine Bk (xs:=rwv r.2.1.2) (by rw [rwl];exact AL (by omega)) (fun D' k ys J'=>∃dus':List Du,ys=duv dus'/\dus'.length=k/\Az J3 J'/\J' D'=some (.lst ys)/\(∀x∈dus',DuG J' x/\x.2.1.1≠D')/\∀(k':Nat) x y,dus'[k']?=some x->(st)[k']?=some y->DuV x y) (fun D' hD'=>⟨[],rfl,rfl,Af hD' _,Ab,(fun _ k=>nomatch k),(fun k' x y e=>nomatch e)⟩) (fun D' k ys J' hq_=>by obtain ⟨dus',f1,f2,_,f4,_⟩:=hq_;exact ⟨f4,by rw [f1];unfold duv;rw [length_map,f2];exact Nat.le_refl _⟩) (fun D' k ys J' hD' hq_=>by obtain ⟨_,_,_,f3,_⟩:=hq_;exact SqL.of (f3 _ _ hrl3)) ?_ ?_
    ·rintro D' k y0 ys J' K1 K2 hD' hy0 ⟨dus',rfl,dl',sJ',eD',gd2,gv2⟩ kk1 kk2
     unfold rwv at hy0
     rw [List.getElem?_map] at hy0
     obtain ⟨rw0,hrw,rfl⟩:=Option.map_eq_some_iff.mp hy0
     obtain ⟨w,hw,wv,wl,wz,rl2⟩:=rv.get hrw
     have kl':k < ls.length:=by have:=(List.getElem?_eq_some_iff.mp hrw).1;omega
     obtain ⟨q0,hq⟩:∃f,ls[k]?=some f:=⟨_,List.getElem?_eq_getElem kl'⟩
     obtain ⟨y,hy⟩:∃f,st[k]?=some f:=⟨_,List.getElem?_eq_getElem (by rw [stl,dsl];exact kl')⟩
     have we:w=BC (Aw q0.2.2.1 m) y:=by
      have hd:(Ao ls)[k]?=some (q0.2.2.1,q0.2.2.2):=by unfold Ao;rw [List.getElem?_map,hq];rfl
      unfold AE at hw
      rw [List.getElem?_map,show ((Ao ls).zip st)[k]?=some ((q0.2.2.1,q0.2.2.2),y) from List.getElem?_zip_eq_some.mpr ⟨hd,hy⟩] at hw
      exact (Option.some.inj hw).symm
     have bk:=beh k q0 y hq hy
     rw [<- we] at bk
     have gdJ:=sJ' _ _ gd'
     have hslJ:=sJ' _ _ hsl3
     obtain ⟨rg,rf⟩:=((g.rg rw0 (mem_of_getElem? hrw)).same (j02.trans j3)).same sJ'
     have gta:=((g.sg ta (mem_of_getElem? bt)).same (j02.trans j3)).same sJ'
     have fn:=(fos.fr _ (mem_of_getElem? bk)).1
     subst_eqs
     refine ⟨r.2.2.1.1,_,_,_,rfl,rfl,SqL.of hslJ,BU bt,?_⟩
     subst_eqs
     refine ⟨rw0.1,r.2.2.2.1,h,w,rw0.2,m,qu,.out j,tl,ta,rfl,rg,rf,wv,wl,wz,gdJ,gta,ct,tz,tp,h5,qz,fn,fun x' J'' hn s'' g'' v1 v2 v3=>?_⟩
     have eD2:=s'' _ _ eD'
     have nD:x'.2.1.1≠D':=fun z=>by rw [z,eD'] at hn;cases hn
     have up:∀x:Du,DuG J'' x->x.2.1.1≠D'->DuG (upd J'' D' (.lst (duv dus'++[V.ref x'.1]))) x:=fun x g n=>⟨by rw [Ap (BV g.t eD2 (fun z=>by cases z))];exact g.t,by rw [Ap n];exact g.l,fun f k=>FqG.upd (g.k f k) eD2,FqG.upd g.f eD2⟩
     refine kk1 _ _ eD2 ⟨dus'++[x'],(by unfold duv;rw [map_append];rfl),(by rw [length_append,dl'];rfl),A0 (sJ'.trans s'') hD',Ab,(fun x kx=>?_),fun k' x y' ex ey=>?_⟩
     ·rcases mem_append.mp kx with kx | kx
      ·exact ⟨up x ((gd2 x kx).1.same s'') (gd2 x kx).2,(gd2 x kx).2⟩
      ·rw [mem_singleton.mp kx]
       exact ⟨up _ g'' nD,nD⟩
     ·by_cases c:k' < dus'.length
      ·rw [List.getElem?_append_left c] at ex
       exact gv2 k' x y' ex ey
      ·have ek:k'=k:=by
        have:=(List.getElem?_eq_some_iff.mp ex).1
        rw [length_append] at this
        have:k' < dus'.length+1:=this
        omega
       subst ek
       rw [List.getElem?_append_right (by omega),dl',Nat.sub_self] at ex
       have:x'=x:=Option.some.inj ex
       subst this
       rw [bk] at ey
       have:_=y':=Option.some.inj ey
       subst this
       exact ⟨v1,v2,v3⟩
    rintro D' ys J4 hD' ⟨dus',rfl,dl',s34,eD',gd2,gv2⟩
    rw [rwl] at dl'
    have gd4:=s34 _ _ gd'
    subst_eqs
    refine ⟨F7 (by omega),?_⟩
    subst_eqs
    refine .inr ⟨_,rfl,?_⟩
    refine ⟨_,_,rfl,rfl,?_⟩
    have e1:(1:Int)*2 ^ ((j:Int)).toNat=2 ^ j:=by rw [Int.toNat_natCast,Int.one_mul]
    have e2:(pn:Int) - (if decide (V.str "out"=V.str "seat")=true then 1 else 0)=((pn:Nat):Int):=by
     rw [if_neg (by rw [decide_eq_false fun z=>absurd (V.str.inj z) (by decide)];decide)];omega
    refine ⟨some (.int (i:Int)),some (.ref r.2.1.1),some (.ref r.2.2.1.1),some (.ref r.2.2.2.1),D',dus',st,m - 2 ^ j,pn,?_,sJ3.trans s34,⟨eD',fun x k=>(gd2 x k).1,gv2⟩,dl',fo2⟩
    show ([some (.ref p),some (.ref sh),some (.int (h:Int)),some (.int (s:Int)),some (.ref lo),some (.int qu),some (.int (m - 1*2 ^ ((j:Int)).toNat)),some (.int ((pn:Int) - (if decide (V.str "out"=V.str "seat")=true then 1 else 0))),some (.ref D'),some (.int (i:Int)),some (.ref r.2.1.1),some (.ref r.2.2.1.1),some (.ref r.2.2.2.1)]:St)=_
    rw [e1,e2]
 rintro σ' J ⟨v9,v10,v11,v12,D,dus,st,m,pn,rfl,sJ,du,dl,fi⟩
 rw [show (((rqs ps).length:Nat):Int).toNat=F.length from by rw [pl];omega,drop_eq_nil_of_le (Nat.le_refl _)] at fi
 exact fi.elim
theorem Ib (T:Tx K mg ad):A8 P w K mg base CX0 4 ad.f_Seats_init ad.d_Seats_init ["self","hands","seats","lots"] (N5 K):=by
 refine T.F_Seats_init.ok HW (fun vs H Q E h=>?_) (fun cdv A outer s H vs Q E hr h=>?_)
 ·obtain ⟨a,C,dx,h,s,lv,ns,rfl,_⟩:=h
  rfl
 obtain ⟨a,C,dx,h,s,lv,ns,rfl,ha,cl,n1,n2,n3,h1,h12,s1,s6,lo,q⟩:=h
 refine ⟨_,(@Ae _ _ _ _ _ (@BQ _ _ _ _ (Sd (KL T) (hr.mono (by decide)) rfl T.m_Way T.cf_Way_init__ T.F_Way_init.kp T.b_Way_init .nil As (@Aa _ _ _ _ _ (pv 0) (@Aa _ _ _ _ _ (pv 1) (@Aa _ _ _ _ _ (pv 2) (@Aa _ _ _ _ _ (pv 3) Ad (by rfl)) (by rfl)) (by rfl)) (by rfl))) (by rfl)) (@Ag _ _ _ (@AB _ _ _ _ _ _ _ _ (@Ax _ _ _ _ _ _ _ _ FZ (pv 2) (Jw (v:=.int 6) rfl T.k_MOST_PLACES ⟨_,rfl⟩) (Ay _)) (@Ag _ _ _ DW) Av))),?_⟩
 and_intros
 refine ⟨a,C,dx,h,s,lv,ns,rfl,ha,cl,n1,n2,n3,h1,h12,s1,by omega,lo,fun l' H1 la hl' g1 a1 l1=>?_⟩
 and_intros
 refine ifF (decide_eq_false (by omega)) ?_
 exact q l' H1 g1 a1 l1
theorem ER (T:Tx K mg ad):A8 P w K mg base CX0 4 ad.f_Seats_deed_due ad.d_Seats_deed_due ["self","sums","standing","places","quota"] (Qb ad.c_Seats):=by
 refine T.F_Seats_deed_due.ok CU (fun vs H Q E h=>?_) (fun cdv A outer s H vs Q E hr h=>?_)
 ·obtain ⟨a,l,h,s,xs,m,qu,pl,fs,su,rfl,_⟩:=h
  rfl
 obtain ⟨a,l,h,s,xs,m,qu,pl,fs,su,rfl,is,sg,hx,x12,m0,m1,hb,szq,q⟩:=h
 refine ⟨_,(@Ae _ _ _ _ _ (@AB _ _ _ _ _ _ _ _ (@Ax _ _ _ _ _ _ _ _ GL (@Ak _ _ _ _ _ _ _ _ _ _ _ _ _ _ _ _ (Mn T) (hr.mono (by decide)) rfl T.m_size T.F_size.kp T.b_size .nil As (@Aa _ _ _ _ _ (pv 2) Ad (by rfl)) (by decide) (by rfl) (by rfl)) (pv 3) (Ay _)) (@Ag _ _ _ (@An _ _ _ _ (@A2 _ _ _ _ _ (@Aa _ _ _ _ _ C4 (@Aa _ _ _ _ _ D4 Ad (by rfl)) (by rfl))))) Av) (@Ae _ _ _ _ _ (@AB _ _ _ _ _ _ _ _ (@Ax _ _ _ _ _ _ _ _ BX (pv 3) Ac (Ay _)) (@Ag _ _ _ (@An _ _ _ _ (@A2 _ _ _ _ _ (@Aa _ _ _ _ _ C4 (@Aa _ _ _ _ _ D4 Ad (by rfl)) (by rfl))))) Av) (@Ae _ _ _ _ _ (@Am _ _ (5) _ _ _ _ CU.nd rfl (Or.inl rfl) (Cw (pv 0) T.cl_Seats T.me_Seats_greatest (ES T) (hr.mono (by decide)) T.b_Seats_greatest .nil As (@Aa _ _ _ _ _ (pv 1) (@Aa _ _ _ _ _ (pv 2) Ad (by rfl)) (by rfl))) (by rfl) (by first | exact .inl rfl | exact .inr rfl | assumption)) (@Ae _ _ _ _ _ (@AB _ _ _ _ _ _ _ _ (@AQ _ _ _ _ (@AH _ _ _ (@Ak _ _ _ _ _ _ _ _ _ _ _ _ _ _ _ _ (EK T) (hr.mono (by decide)) rfl T.m_under T.F_under.kp T.b_under .nil As (@Aa _ _ _ _ _ (@Ai _ _ _ _ _ _ _ Au (pv 1) (pv 5) (fun _ _=>rfl)) (@Aa _ _ _ _ _ (@A2 _ _ _ _ _ (@Aa _ _ _ _ _ (pv 4) (@Aa _ _ _ _ _ Ac Ad (by rfl)) (by rfl))) Ad (by rfl)) (by rfl)) (by decide) (by rfl) (by rfl)) (by intro _;rfl))) (@Ag _ _ _ (@An _ _ _ _ (@A2 _ _ _ _ _ (@Aa _ _ _ _ _ C4 (@Aa _ _ _ _ _ (pv 5) Ad (by rfl)) (by rfl))))) Av) (@Ag _ _ _ (@An _ _ _ _ (@A2 _ _ _ _ _ (@Aa _ _ _ _ _ C4 (@Aa _ _ _ _ _ (Cw (pv 0) T.cl_Seats T.me_Seats_lowest (Gq T) (hr.mono (by decide)) T.b_Seats_lowest .nil As (@Aa _ _ _ _ _ (pv 1) (@Aa _ _ _ _ _ (pv 2) Ad (by rfl)) (by rfl))) Ad (by rfl)) (by rfl))))))))),?_⟩
 have is':=id is
 obtain ⟨dx,lo,k1,k2⟩:=is'
 unfold Db at q
 subst_eqs
 refine ⟨m0,m1,fun H1 s1=>?_⟩
 have k11:=s1 _ _ k1
 by_cases c1:(hands 12 (bit m)).length<=pl
 ·rw [if_pos c1] at q
  subst_eqs
  refine ifT (decide_eq_true (by omega)) ?_
  subst_eqs
  refine ⟨(by show 2<=sizeLine;decide),fun t ht=>?_⟩
  exact q t _ (none_of s1 ht) (s1.trans (Af ht _)) Ab
 rw [if_neg c1] at q
 subst_eqs
 refine ifF (decide_eq_false (by omega)) ?_
 subst_eqs
 by_cases c2:pl=0
 ·rw [if_pos c2] at q
  refine ifT (KY (by omega)) ?_
  subst_eqs
  refine ⟨(by show 2<=sizeLine;decide),fun t ht=>?_⟩
  exact q t _ (none_of s1 ht) (s1.trans (Af ht _)) Ab
 rw [if_neg c2] at q
 refine ifF (KZ (by omega)) ?_
 have ne:A6 xs m≠[]:=fun e=>by
  have:hands 12 (bit m)≠[]:=fun z=>by rw [z] at c1;exact c1 (Nat.zero_le _)
  obtain ⟨z,zm⟩:=exists_mem_of_ne_nil _ this
  obtain ⟨j,j12,bj,rfl⟩:=Bi.mp zm
  have:(j:Int)∈A6 xs m:=mem_filter.mpr ⟨hb j bj,by rw [Int.toNat_natCast];exact bj⟩
  rw [e] at this
  exact nomatch this
 have bm:=Kq (su:=su) ne
 have wm:=Im (su:=su) ne
 have bx:=hx _ (mem_filter.mp bm).1
 have wx:=hx _ (mem_filter.mp wm).1
 subst_eqs
 refine ⟨a,dx,_,rfl,k11,rfl,?_⟩
 subst_eqs
 refine ⟨a,l,h,s,xs,m,fs,su,rfl,is.same s1,sg.same s1,hx,x12,ne,fun H2 s2=>?_⟩
 have s12:=s1.trans s2
 have sg2:=sg.same s12
 have l2:=sg2.l
 obtain ⟨ab,a1,a2,a3,a4⟩:=sg2.at bx.1 bx.2
 subst_eqs
 refine ⟨l,_,_,_,rfl,rfl,SqL.of l2,a1,?_⟩
 subst_eqs
 refine ⟨(by show 2<=sizeLine;decide),fun t0 ht0=>?_⟩
 have s3:=Af ht0 (.tup [V.int qu,V.int 1])
 have e3:(upd H2 t0 (.tup [V.int qu,V.int 1])) t0=some (.tup [V.int qu,V.int 1]):=Ab
 generalize upd H2 t0 (.tup [V.int qu,V.int 1])=H3 at s3 e3 ⊢
 have s13:=s12.trans s3
 subst_eqs
 refine ⟨ab,t0,_,_,qu,1,rfl,s3 _ _ a2,e3,a3,a4,szq.mono (by decide),(AK (by decide) (by decide):Sz 64 (1:Int)).mono (by decide),?_⟩
 rw [show decide ((pr (at0 su (DG su (A6 xs m)))).1*1 < qu*(pr (at0 su (DG su (A6 xs m)))).2)=decide (at0 su (DG su (A6 xs m)) < (qu:Rat)) from decide_eq_decide.mpr (HB _ (qu:Rat))]
 by_cases c3:at0 su (DG su (A6 xs m)) < (qu:Rat)
 ·rw [if_pos c3] at q
  rw [decide_eq_true c3]
  have k13:=s13 _ _ k1
  subst_eqs
  refine ⟨a,dx,_,rfl,k13,rfl,?_⟩
  subst_eqs
  refine ⟨a,l,h,s,xs,m,fs,su,rfl,is.same s13,sg.same s13,hx,x12,ne,fun H4 s4=>?_⟩
  refine ⟨(by show 2<=sizeLine;decide),fun t ht=>?_⟩
  refine q t _ (none_of (s13.trans s4) ht) ((s13.trans s4).trans (Af ht _)) ?_
  rw [Ab]
  show _=some (HO.tup [V.str "out",V.int ((E4 su (A6 xs m)).toNat:Int)])
  rw [Int.toNat_of_nonneg wx.1]
 ·rw [if_neg c3] at q
  rw [decide_eq_false c3]
  subst_eqs
  refine ⟨(by show 2<=sizeLine;decide),fun t ht=>?_⟩
  refine q t _ (none_of s13 ht) (s13.trans (Af ht _)) ?_
  rw [Ab]
  show _=some (HO.tup [V.str "seat",V.int ((DG su (A6 xs m)).toNat:Int)])
  rw [Int.toNat_of_nonneg bx.1]
theorem LI (T:Tx K mg ad):A8 P w K mg base CX0 5 ad.f_kept_by ad.d_kept_by ["sheet","state","standing","hand","quota"] Qu:=by
 refine T.F_kept_by.ok B3 (fun vs H Q E h=>?_) (fun cdv A outer s H vs Q E hr h=>?_)
 ·obtain ⟨l,st,h,hd,ls,xs,s,qu,M,rfl,_⟩:=h
  rfl
 obtain ⟨l,st,h,hd,ls,xs,s,qu,M,rfl,hl,gl,hs,gx,M0,Mz,le,l60,h12,hh,q1,szq,li,q⟩:=h
 refine ⟨_,(@Ae _ _ _ _ _ (Km (j:=5) (fsc:=Ah Fx) (N:=["sheet","state","standing","hand","quota","shares","part","reckoned","behind","one","share","asked","given"]) (Nc:=["sheet","state","standing","hand","quota","shares","part","reckoned","behind",".s9","share","asked","given","line","one"]) rfl rfl ⟨rfl,by decide +kernel,by decide +kernel,by decide +kernel,by decide +kernel,rfl,by decide +kernel,rfl,by decide +kernel⟩ rfl B3.nd rfl rfl (Jx rfl T.z_zip (@Aa _ _ _ _ _ (pv 0) (@Aa _ _ _ _ _ (pv 1) Ad (by rfl)) (by rfl))) (fun _ _ _ _=>Bg) (fun _ _ _ _=>(@Ak _ _ _ _ _ _ _ _ _ _ _ _ _ _ _ _ (JZ T) (hr.mono (by decide)) rfl T.m_share_at T.F_share_at.kp T.b_share_at .nil As (@Aa _ _ _ _ _ (@Ai _ _ _ _ _ _ _ (D6 K) (pv 13) Ac (fun _ _=>rfl)) (@Aa _ _ _ _ _ (@Ai _ _ _ _ _ _ _ (D6 K) (pv 14) Ac (fun _ _=>rfl)) (@Aa _ _ _ _ _ (pv 2) (@Aa _ _ _ _ _ (pv 3) Ad (by rfl)) (by rfl)) (by rfl)) (by rfl)) (by decide) (by rfl) (by rfl))) rfl) (@Ae _ _ _ _ _ (@Am _ _ (6) _ _ _ _ B3.nd rfl (Or.inl rfl) (@Ak _ _ _ _ _ _ _ _ _ _ _ _ _ _ _ _ (IZ T) (hr.mono (by decide)) rfl T.m_part_kept T.F_part_kept.kp T.b_part_kept .nil As (@Aa _ _ _ _ _ (@Ak _ _ _ _ _ _ _ _ _ _ _ _ _ _ _ _ (Hy T) (hr.mono (by decide)) rfl T.m_weighed T.F_weighed.kp T.b_weighed .nil As (@Aa _ _ _ _ _ (pv 0) (@Aa _ _ _ _ _ (pv 5) Ad (by rfl)) (by rfl)) (by decide) (by rfl) (by rfl)) (@Aa _ _ _ _ _ (pv 4) Ad (by rfl)) (by rfl)) (by decide) (by rfl) (by rfl)) (by rfl) (by first | exact .inl rfl | exact .inr rfl | assumption)) (@Ae _ _ _ _ _ (@Am _ _ (7) _ _ _ _ B3.nd rfl (Or.inl rfl) Pt (by rfl) (by first | exact .inl rfl | exact .inr rfl | assumption)) (@Ae _ _ _ _ _ (@Am _ _ (8) _ _ _ _ B3.nd rfl (Or.inl rfl) (@BL _ _ _ _ Ad) (by rfl) (by first | exact .inl rfl | exact .inr rfl | assumption)) (@Ae _ _ _ _ _ (By PassesOwn.never rfl (Jx rfl T.z_zip (@Aa _ _ _ _ _ (pv 1) (@Aa _ _ _ _ _ (pv 5) Ad (by rfl)) (by rfl))) (FG rfl (Bo (AD (i:=9) B3.nd rfl (Or.inl rfl)) (Bo (AD (i:=10) B3.nd rfl (Or.inl rfl)) Eg))) (@Ae _ _ _ _ _ (@Am _ _ (11) _ _ _ _ B3.nd rfl (Or.inl rfl) (@A2 _ _ _ _ _ (@Aa _ _ _ _ _ (@Ai _ _ _ _ _ _ _ Al (pv 9) Ac (fun _ _=>rfl)) (@Aa _ _ _ _ _ (pv 10) Ad (by rfl)) (by rfl))) (by rfl) (by first | exact .inl rfl | exact .inr rfl | assumption)) (@Ae _ _ _ _ _ (@Ft _ _ _ _ _ _ _ _ (@Ax _ _ _ _ _ _ _ _ (Nv (u2 hr.units)) (pv 11) (pv 7) (by with_unfolding_all rfl)) (@Ae _ _ _ _ _ (@Am _ _ (12) _ _ _ _ B3.nd rfl (Or.inl rfl) (@Ak _ _ _ _ _ _ _ _ _ _ _ _ _ _ _ _ (On T) (hr.mono (by decide)) rfl T.m_times T.F_times.kp T.b_times .nil As (@Aa _ _ _ _ _ (pv 10) (@Aa _ _ _ _ _ (pv 6) Ad (by rfl)) (by rfl)) (by decide) (by rfl) (by rfl)) (by rfl) (by first | exact .inl rfl | exact .inr rfl | assumption)) (@Ag _ _ _ (P6 (u2 hr.units) (pv 7) (pv 11) (@A2 _ _ _ _ _ (@Aa _ _ _ _ _ (pv 12) (@Aa _ _ _ _ _ (@Ak _ _ _ _ _ _ _ _ _ _ _ _ _ _ _ _ (Pu T) (hr.mono (by decide)) rfl T.m_minus T.F_minus.kp T.b_minus .nil As (@Aa _ _ _ _ _ (@Ai _ _ _ _ _ _ _ Al (pv 9) Ac (fun _ _=>rfl)) (@Aa _ _ _ _ _ (pv 12) Ad (by rfl)) (by rfl)) (by decide) (by rfl) (by rfl)) Ad (by rfl)) (by rfl))) rfl))) Av) (@Ag _ _ _ (@BQ _ _ _ _ (DN PySem.F.plainAttrs_list PySem.F.slot_list_append PySem.F.type_list_append Bu (pv 8) (@Aa _ _ _ _ _ (@A2 _ _ _ _ _ (@Aa _ _ _ _ _ (@Ai _ _ _ _ _ _ _ Al (Ka (u2 hr.units) (pv 7) (pv 11) (fun _ _=>rfl)) Ac (fun _ _=>rfl)) (@Aa _ _ _ _ _ (@Ak _ _ _ _ _ _ _ _ _ _ _ _ _ _ _ _ (J9 T) (hr.mono (by decide)) rfl T.m_with_kept T.F_with_kept.kp T.b_with_kept .nil As (@Aa _ _ _ _ _ (@Ai _ _ _ _ _ _ _ Al (pv 9) Ac (fun _ _=>rfl)) (@Aa _ _ _ _ _ (pv 3) (@Aa _ _ _ _ _ (@Ai _ _ _ _ _ _ _ Al (Ka (u2 hr.units) (pv 7) (pv 11) (fun _ _=>rfl)) Ac (fun _ _=>rfl)) Ad (by rfl)) (by rfl)) (by rfl)) (by decide) (by rfl) (by rfl)) Ad (by rfl)) (by rfl))) Ad (by rfl))) (by rfl)))))) (@Ag _ _ _ (@An _ _ _ _ (pv 8)))))))),?_⟩
 have vl:=BI ls
 have xl:(shv xs).length=xs.length:=length_map ..
 have zl:(B5 ls xs s hd).length=ls.length:=by unfold B5;rw [length_map,length_zip,le,Nat.min_self]
 subst_eqs
 refine ⟨l,st,rfl,⟨_,SqL.of hl⟩,⟨_,SqL.of hs⟩,?_⟩
 refine JT (xs:=vls ls) (zs:=shv xs) rfl rfl (by omega) (by rw [vl];exact AL (by omega)) (fun D i ys J=>∃fs:List Fq,ys=fqv fs/\J D=some (.lst ys)/\fs.length=i/\Az H J/\(∀f∈fs,FqG J f)/\fs.map (·.2)=(B5 ls xs s hd).take i) (fun D hD=>⟨[],rfl,Ab,rfl,Af hD _,(fun _ m=>absurd m List.not_mem_nil),rfl⟩) (fun D i ys J hq_=>by obtain ⟨fs,f1,f2,f3,_⟩:=hq_;exact ⟨f2,by rw [f1];unfold fqv;rw [length_map,f3];exact Nat.le_refl _⟩) (fun D i ys J hD hq_=>by obtain ⟨_,_,_,_,f4,_⟩:=hq_;exact ⟨SqL.of (f4 _ _ hl),SqL.of (f4 _ _ hs)⟩) ?_ ?_
 ·rintro D i x y T ys J K1 K2 hD hx hy ⟨fs,rfl,n1,n2,n3,n4,n5⟩ hT kk1 kk2
  obtain ⟨f,hf,rfl,fm,et⟩:=Ff hx
  unfold shv at hy
  rw [List.getElem?_map] at hy
  obtain ⟨g,hg,rfl⟩:=Option.map_eq_some_iff.mp hy
  obtain ⟨gg,gb,ggc,gl'⟩:=gx g (mem_of_getElem? hg)
  have s1:=Af hT (.tup [V.ref f.1,V.ref g.1])
  generalize upd J T (.tup [V.ref f.1,V.ref g.1])=J1 at s1 ⊢
  have sJ:=n3.trans s1
  refine yes (ifT rfl ?_)
  refine ⟨_,rfl,f.1,_,_,_,rfl,rfl,SqT.of (sJ _ _ (gl f fm).1),rfl,?_⟩
  refine ⟨_,rfl,g.1,_,_,_,rfl,rfl,SqT.of (sJ _ _ gg.t),rfl,?_⟩
  refine ⟨_,rfl,_,rfl,?_⟩
  refine ⟨f.2.1,h,hd,f.2.2.1,g.2.1,s,rfl,sJ _ _ (gl f fm).2,gg.f.same sJ,gb.fq M0 (Mz.mono (by decide)),h12,hh,(li f fm).1,fun a J2 s2 g2=>?_⟩
  have n1':=(s1.trans s2) _ _ n1
  refine kk1 _ _ n1' ⟨fs++[(a,BM f.2.2.1 s hd g.2.1.2)],by unfold fqv;rw [map_append];rfl,Ab,by rw [length_append,n2];rfl,A0 (n3.trans (s1.trans s2)) hD,(fun f m=>FqG.upd ?_ n1'),?_⟩
  ·rcases mem_append.mp m with m | m
   ·exact (n4 f m).same (s1.trans s2)
   ·rw [mem_singleton.mp m];exact g2
  ·have tz:(B5 ls xs s hd)[i]?=some (BM f.2.2.1 s hd g.2.1.2):=by
    unfold B5
    rw [List.getElem?_map,show (ls.zip xs)[i]?=some (f,g) from List.getElem?_zip_eq_some.mpr ⟨hf,hg⟩]
    rfl
   rw [take_add_one,tz,map_append,n5]
   rfl
 rintro D ys H1 hD ⟨fs,rfl,e1,fl,s1,g1,v1⟩
 rw [vl,<- zl,take_of_length_le (Nat.le_refl _)] at v1
 rw [vl] at fl
 have M1:0 < M*27720:=by omega
 have Mz1:Sz 2225 (M*27720):=(Mz.mul (AK (by decide) (by decide):Sz 15 (27720:Int))).mono (by decide)
 have flow:∀f∈fs,FqM (M*27720) f.2/\A7 f.2.1 f.2.2=1:=fun f m=>by
  have:f.2∈fs.map (·.2):=mem_map.mpr ⟨f,m,rfl⟩
  rw [v1] at this
  obtain ⟨p,pm,e⟩:=mem_map.mp this
  rw [<- e]
  obtain ⟨_,pm1,pm2,_⟩:=gx p.2 (of_mem_zip pm).2
  obtain ⟨a1,a2,_⟩:=Md (ts:=p.1.2.2.1) (s:=s) (hd:=hd) (by omega) M0 pm1 pm2
  exact ⟨a1,a2⟩
 subst_eqs
 refine ⟨l,D,ls,fs,M*27720,rfl,s1 _ _ hl,(fun q m=>⟨s1 _ _ (gl q m).1,s1 _ _ (gl q m).2⟩),e1,(fun f m=>⟨g1 f m,(flow f m).1⟩),M1,Mz1.mono (by decide),by omega,l60,(fun q m=>(li q m).2),fun T v H2 s2 wi g2=>?_⟩
 obtain ⟨t0v,v0,vg,vzb,_,vzt⟩:=R3 wi M1 Mz1 (fun q m=>(li q m).2) (fun f m=>(flow f m).1) l60
 subst_eqs
 refine ⟨(T,v),qu,rfl,g2,v0,q1,szq.mono (by decide),vzt.mono (by decide),vzb.mono (by decide),fun pa H3 s3 g3=>?_⟩
 have pr:=RU (n:=0) v0 q1 vzt
 generalize hpt:Dp v qu=part at g3 pr
 have s13:=s2.trans s3
 have s03:=s1.trans s13
 have g3':H3 pa=some (.tup [.int part.1,.int part.2]):=g3
 subst_eqs
 intro d ob hd0 nt0
 have s4:=Af hd0 (hoF d ob)
 generalize upd H3 d (hoF d ob)=H4 at s4 nt0 ⊢
 subst_eqs
 refine ⟨(by show 0<=sizeLine;decide),fun bh hbh=>?_⟩
 have s5:=Af hbh (.lst [])
 have e5:(upd H4 bh (.lst [])) bh=some (.lst []):=Ab
 generalize upd H4 bh (.lst [])=H5 at s5 e5 ⊢
 have dH:H d=none:=none_of s03 hd0
 have bH:H bh=none:=none_of (s03.trans s4) hbh
 subst_eqs
 refine ⟨st,D,rfl,⟨_,SqL.of ((s03.trans (s4.trans s5)) _ _ hs)⟩,⟨_,SqL.of ((s13.trans (s4.trans s5)) _ _ e1)⟩,?_⟩
 refine Mi (xs:=shv xs) (ys:=fqv fs) (by unfold fqv;rw [xl,length_map];omega) (fun i σ' J=>∃(v9 v10 v11 v12:Option V) (kvs:List (List (List Key) × V)) (ys:List Sh),σ'=[some (.ref l),some (.ref st),some (.int s),some (.int (hd:Int)),some (.int qu),some (.ref D),some (.ref pa),some (.ref d),some (.ref bh),v9,v10,v11,v12]/\Az H3 J/\NT P w J d kvs/\kvs.length<=i/\RIn part J kvs/\J bh=some (.lst (shv ys))/\ys.length=i/\(∀y∈ys,ShG J y/\H y.2.2.1=none/\y.2.2.1≠bh)/\(ys.map fun y=>y.2.2.1).Nodup/\ys.map shV=((xs.zip (B5 ls xs s hd)).take i).map fun p=>Ip hd p.2 part (shV p.1)) ⟨none,none,none,none,[],[],rfl,s4.trans s5,nt0.same s5,Nat.le_refl _,(fun k v z=>nomatch z),e5,rfl,(fun _ m=>absurd m List.not_mem_nil),nodup_nil,rfl⟩ (fun i σ' J _ hq_=>by obtain ⟨_,_,_,_,_,_,_,e,_⟩:=hq_;exact ⟨SqL.of (e _ _ (s03 _ _ hs)),SqL.of (e _ _ (s13 _ _ e1))⟩) ?_ ?_
 ·rintro i x0 y0 T0 σ' J hx hy ⟨v9,v10,v11,v12,kvs,ys,rfl,sJ,nt,kl,ri,eb,yl,gy,nd,vy⟩ hT0
  unfold shv at hx
  rw [List.getElem?_map] at hx
  obtain ⟨x,hx',rfl⟩:=Option.map_eq_some_iff.mp hx
  unfold fqv at hy
  rw [List.getElem?_map] at hy
  obtain ⟨f,hf,rfl⟩:=Option.map_eq_some_iff.mp hy
  obtain ⟨gx0,lx,lxg,lenx⟩:=gx x (mem_of_getElem? hx')
  have fm:=mem_of_getElem? hf
  obtain ⟨lf,lfg⟩:=flow f fm
  have lzt:=lf.szt M1 Mz1
  have lzb:=lf.szb M1 Mz1
  obtain ⟨glo,gle⟩:=PU lf.t0 lf.b0 lzt lzb pr
  have s6:=Af hT0 (.tup [V.ref x.1,V.ref f.1])
  have e6:(upd J T0 (.tup [V.ref x.1,V.ref f.1])) T0=some (.tup [V.ref x.1,V.ref f.1]):=Ab
  generalize upd J T0 (.tup [V.ref x.1,V.ref f.1])=J1 at s6 e6 ⊢
  have xt1:=(s03.trans (sJ.trans s6)) _ _ gx0.t
  refine ⟨T0,_,rfl,SqT.of e6,rfl,_,_,rfl,_,_,rfl,rfl,?_⟩
  subst_eqs
  refine ⟨(by show 2<=sizeLine;decide),fun A hA=>?_⟩
  have s7:=Af hA (.tup [V.ref x.2.1.1,V.ref f.1])
  have e7:(upd J1 A (.tup [V.ref x.2.1.1,V.ref f.1])) A=some (.tup [V.ref x.2.1.1,V.ref f.1]):=Ab
  generalize upd J1 A (.tup [V.ref x.2.1.1,V.ref f.1])=J2 at s7 e7 ⊢
  have s67:=s6.trans s7
  have sJ2:=sJ.trans s67
  have gxJ:=gx0.same (s03.trans sJ2)
  have gfJ:=(g1 f fm).same (s13.trans sJ2)
  have key:=QG (f:=x.2.1) (s:=f) e7 gxJ.f gfJ
  have nt2:=nt.same s67
  have ri2:=ri.same s67
  have xt2:=gxJ.t
  have ge:L2' (Bh f.2 part) x.2.1.2:=by
   refine L2'.trans lf.b0 (Int.le_of_lt glo.b0) (Int.le_of_lt lx.b0) gle ?_
   have:f.2∈fs.map (·.2):=mem_map.mpr ⟨f,fm,rfl⟩
   have hz:(B5 ls xs s hd)[i]?=some f.2:=by rw [<- v1,List.getElem?_map,hf];rfl
   unfold B5 at hz
   rw [List.getElem?_map] at hz
   obtain ⟨pp,hp,e⟩:=Option.map_eq_some_iff.mp hz
   obtain ⟨p1,p2⟩:=List.getElem?_zip_eq_some.mp hp
   have:pp.2=x:=Option.some.inj (p2.symm.trans hx')
   rw [<- e,this]
   exact (Md (by omega) M0 lx lxg).2.2
  obtain ⟨ob2,hob2⟩:∃ob,J2 d=some (hoF d ob):=by obtain ⟨ob,z,_⟩:=id nt2;exact ⟨ob,z⟩
  subst_eqs
  refine ⟨fun σ' J3=>∃(v12:Option V) (kvs':List (List (List Key) × V)),σ'=[some (.ref l),some (.ref st),some (.int s),some (.int (hd:Int)),some (.int qu),some (.ref D),some (.ref pa),some (.ref d),some (.ref bh),some (.ref x.1),some (.ref f.1),some (.ref A),v12]/\L8 d J2 J3/\NT P w J3 d kvs'/\kvs'.length<=i+1/\RIn part J3 kvs'/\∃u,AZ kvs' (nk x.2.1.2 f.2)=some u,?_,?_⟩
  ·subst_eqs
   refine ⟨d,A,kvs,nk x.2.1.2 f.2,rfl,rfl,nt2,key,?_⟩
   cases hv:AZ kvs (nk x.2.1.2 f.2) with
   | some u =>
     subst_eqs
     exact ⟨_,kvs,rfl,(fun b u e _=>e),nt2,by omega,ri2,u,hv⟩
   | none =>
     subst_eqs
     refine ⟨f.1,pa,f.2.1,f.2.2,part.1,part.2,rfl,gfJ,sJ2 _ _ g3,(by show f.2.2*part.2≠0;exact Int.ne_of_gt (Int.mul_pos lf.b0 pr.b0)),lzt.mono (by decide),lzb.mono (by decide),pr.szt.mono (by decide),pr.szb.mono (by decide),fun g J4 s8 g8=>?_⟩
     have g8':FqG J4 (g,Bh f.2 part):=g8
     have xt4:=s8 _ _ xt2
     subst_eqs
     refine ⟨x.2.1.1,g,x.2.1.2.1,x.2.1.2.2,(Bh f.2 part).1,(Bh f.2 part).2,rfl,s8 _ _ gxJ.f,g8',(by show x.2.1.2.2*(Bh f.2 part).2≠0;exact Int.ne_of_gt (Int.mul_pos lx.b0 glo.b0)),(lx.szt M0 Mz).mono (by decide),(lx.szb M0 Mz).mono (by decide),glo.szt.mono (by decide),glo.szb.mono (by decide),fun r J5 s9 g9=>?_⟩
     have g9':FqG J5 (r,Eo x.2.1.2 (Bh f.2 part)):=g9
     subst_eqs
     refine ⟨(by show 2<=sizeLine;decide),fun tt htt=>?_⟩
     have s10:=Af htt (.tup [V.ref g,V.ref r])
     have e10:(upd J5 tt (.tup [V.ref g,V.ref r])) tt=some (.tup [V.ref g,V.ref r]):=Ab
     generalize upd J5 tt (.tup [V.ref g,V.ref r])=J6 at s10 e10 ⊢
     have s26:=s8.trans (s9.trans s10)
     subst_eqs
     refine ⟨d,A,kvs,nk x.2.1.2 f.2,rfl,rfl,nt2.same s26,key.same s26,Nat.lt_of_le_of_lt kl (Nat.lt_of_lt_of_le (List.getElem?_eq_some_iff.mp hf).1 (by rw [fl];exact AL (by omega))),fun ob3 nt3=>?_⟩
     have hob6:J6 d=some (hoF d ob2):=s26 _ _ hob2
     have tk:∀b zs,J6 b=some (.tup zs)->(upd J6 d (hoF d ob3)) b=some (.tup zs):=fun b zs e=>by rw [Ap (BV e hob6 (fun z=>by cases z))];exact e
     refine ⟨_,_,rfl,(fun b u e n=>by rw [Ap n];exact s26 _ _ e),nt3,Nat.le_trans (BY ..) (by omega),((ri2.same s26).put e10 (g8'.same (s9.trans s10)) (g9'.same s10)).tups tk,.ref tt,?_⟩
     rw [GO,if_pos rfl]
  rintro σ' J3 ⟨v12',kvs',rfl,oD,nt3,kl3,ri3,u,hu⟩
  obtain ⟨fr,sh,tt,g,r,k1,rfl,k3,k4,k5⟩:=ri3 _ _ hu
  obtain ⟨rfl,rfl⟩:=RD k1
  have eb3:=oD.lst hob2 _ _ (s67 _ _ eb)
  have gx3:=oD.sh hob2 gxJ
  have xt3:=gx3.t
  have key3:=key.tups (oD.tup hob2)
  subst_eqs
  refine ⟨.inl ⟨rfl,_,SqL.of eb3⟩,?_⟩
  subst_eqs
  refine ⟨d,A,kvs',nk x.2.1.2 f.2,.ref tt,rfl,rfl,nt3,key3,hu,?_⟩
  subst_eqs
  refine ⟨d,A,kvs',nk x.2.1.2 f.2,.ref tt,rfl,rfl,nt3,key3,hu,?_⟩
  subst_eqs
  refine ⟨x.2.2.1,hd,x.2.2.2,(g,Bh f.2 part),rfl,gx3.l,gx3.k,k4,by omega,by omega,fun kl2 J4 hkl s8 e8=>?_⟩
  refine ⟨(by show 2<=sizeLine;decide),fun t2 ht2=>?_⟩
  have s9:=Af ht2 (.tup [V.ref r,V.ref kl2])
  have e9:(upd J4 t2 (.tup [V.ref r,V.ref kl2])) t2=some (.tup [V.ref r,V.ref kl2]):=Ab
  generalize upd J4 t2 (.tup [V.ref r,V.ref kl2])=J5 at s9 e9 ⊢
  have s89:=s8.trans s9
  have eb5:=s89 _ _ eb3
  have klb:kl2≠bh:=fun z=>by rw [z,eb3] at hkl;cases hkl
  have sJ3:∀b u,H3 b=some u->J3 b=some u:=fun b u e=>oD b u (sJ2 _ _ e) (AV e hd0)
  have klH:H kl2=none:=none_of (show Az H J3 from fun b u e=>sJ3 b u (s03 _ _ e)) hkl
  have tz:(xs.zip (B5 ls xs s hd))[i]?=some (x,f.2):=List.getElem?_zip_eq_some.mpr ⟨hx',by rw [<- v1,List.getElem?_map,hf];rfl⟩
  refine ⟨bh,_,_,rfl,rfl,eb5,(by unfold shv;rw [length_map,yl];exact AT (by have:=(List.getElem?_eq_some_iff.mp hf).1;omega)),?_⟩
  refine ⟨_,_,_,_,kvs',ys++[(t2,(r,Eo x.2.1.2 (Bh f.2 part)),kl2,x.2.2.2.set hd (g,Bh f.2 part))],rfl,A0 (fun b u e=>s89 _ _ (sJ3 b u e)) (none_of s4 hbh),?_,kl3,?_,(by rw [Ab];unfold shv;rw [map_append];rfl),by rw [length_append,yl];rfl,(fun y k=>?_),?_,?_⟩
  ·obtain ⟨ob5,z1,z2,z3,xs5,z4,z5⟩:=nt3.same s89
   exact ⟨ob5,by rw [Ap (fun z=>by rw [z,eb5] at z1;cases z1)];exact z1,z2,z3,xs5,z4.tups fun c cs e=>by rw [Ap (BV e eb5 (fun z=>by cases z))];exact e,z5⟩
  ·exact (ri3.same s89).tups fun c cs e=>by rw [Ap (BV e eb5 (fun z=>by cases z))];exact e
  ·rcases mem_append.mp k with k | k
   ·obtain ⟨a1,a2,a3⟩:=gy y k
    exact ⟨(((oD.sh hob2 (a1.same s67)).same s89)).upd eb5 a3,a2,a3⟩
   ·rw [mem_singleton.mp k]
    refine ⟨ShG.upd ⟨e9,k5.same s89,s9 _ _ e8,fun z zm=>?_⟩ eb5 klb,klH,klb⟩
    rcases mem_or_eq_of_mem_set zm with zm | rfl
    ·exact (gx3.k z zm).same s89
    ·exact k4.same s89
  ·rw [map_append,nodup_append]
   refine ⟨nd,nodup_cons.mpr ⟨(fun m=>nomatch m),nodup_nil⟩,fun y m z k e=>?_⟩
   obtain ⟨y',ym,rfl⟩:=mem_map.mp m
   rw [mem_singleton.mp k] at e
   have:=(oD.sh hob2 ((gy y' ym).1.same s67)).l
   rw [e] at this
   rw [hkl] at this
   cases this
  ·rw [take_add_one,tz,map_append,map_append,vy]
   show _++[_]=_++[_]
   congr 2
   show ((Eo x.2.1.2 (Bh f.2 part)),(x.2.2.2.set hd (g,Bh f.2 part)).map (·.2))=(Eo x.2.1.2 (Bh f.2 part),(x.2.2.2.map (·.2)).set hd (Bh f.2 part))
   rw [map_set]
 rintro σ' J ⟨v9,v10,v11,v12,kvs,ys,rfl,sJ,nt,kl,ri,eb,yl,gy,nd,vy⟩
 rw [xl,take_of_length_le (by rw [length_zip,zl,le,Nat.min_self];exact Nat.le_refl _)] at vy
 subst_eqs
 rw [<- hpt] at vy
 exact q bh ys fs v J bH (s03.trans sJ) eb gy nd v1 wi vy
theorem Gr (T:Tx K mg ad):A8 P w K mg base CX0 6 ad.f_state_behind ad.d_state_behind ["sheet","state","standing","deed","quota"] L4:=by
 refine T.F_state_behind.ok Gp (fun vs H Q E h=>?_) (fun cdv A outer s H vs Q E hr h=>?_)
 ·obtain ⟨l,st,dt,h,ls,xs,rs,s,qu,M,d,rfl,_⟩:=h
  rfl
 obtain ⟨l,st,dt,h,ls,xs,rs,s,qu,M,d,rfl,hd,hm,hl,gl,hs,gx,xv,si,M0,le,l60,h12,q1,szq,li,q⟩:=h
 refine ⟨_,(@Ae _ _ _ _ _ (@AB _ _ _ _ _ _ _ _ (@Ax _ _ _ _ _ _ _ _ BX (@Ai _ _ _ _ _ _ _ Al (pv 3) Ac (fun _ _=>rfl)) C4 (Ay _)) (@Ag _ _ _ (@An _ _ _ _ (@Ak _ _ _ _ _ _ _ _ _ _ _ _ _ _ _ _ (LI T) (hr.mono (by decide)) rfl T.m_kept_by T.F_kept_by.kp T.b_kept_by .nil As (@Aa _ _ _ _ _ (pv 0) (@Aa _ _ _ _ _ (pv 1) (@Aa _ _ _ _ _ (pv 2) (@Aa _ _ _ _ _ (@Ai _ _ _ _ _ _ _ Al (pv 3) Ac (fun _ _=>rfl)) (@Aa _ _ _ _ _ (pv 4) Ad (by rfl)) (by rfl)) (by rfl)) (by rfl)) (by rfl)) (by decide) (by rfl) (by rfl)))) Av) (@Ag _ _ _ (@An _ _ _ _ (pv 1)))),?_⟩
 have hn:∀p∈Ao ls,0<=p.2:=fun p m=>by obtain ⟨x,xm,rfl⟩:=mem_map.mp m;exact (li x xm).2.1
 have h0:∀x∈rs,0<=x.1:=fun x m=>(si.free x m).1
 have xin:∀x∈xs,FqM M x.2.1.2/\A7 x.2.1.2.1 x.2.1.2.2=1/\x.2.2.2.length=h:=fun x m=>by
  have:shV x∈rs.map Dk:=by rw [<- xv];exact mem_map.mpr ⟨x,m,rfl⟩
  obtain ⟨r,rm,e⟩:=mem_map.mp this
  obtain ⟨f0,f1,f2⟩:=si.free r rm
  have e1:pr r.1=x.2.1.2:=congrArg Prod.fst e
  have e2:r.2.map pr=x.2.2.2.map (·.2):=congrArg Prod.snd e
  refine ⟨by rw [<- e1];exact LN f0 f1 f2,by rw [<- e1];exact FI _,?_⟩
  have:=congrArg List.length e2
  rw [length_map,length_map,si.len r rm] at this
  exact this.symm
 cases d with
 | seat hd' =>
   obtain ⟨hh,Mz⟩:=hm hd' rfl
   have hd1:H dt=some (.tup [.str "seat",.int (hd':Int)]):=hd
   and_intros
   refine ⟨l,st,h,hd',ls,xs,s,qu,M,rfl,hl,gl,hs,(fun x m=>⟨gx x m,xin x m⟩),M0,Mz,le,l60,h12,hh,q1,szq,li,fun a ys fs v H' ha s' e' g' nd fv wm vy=>?_⟩
   refine q a ys H' s' e' (fun y m=>⟨(g' y m).1,.inl (g' y m).2.1⟩) (.inl ha) ?_
   rw [IL (by omega) xv h0] at fv
   have sn:∀r∈AA (Ao ls) rs s hd',0<=r:=fun r m=>by
    obtain ⟨p,pm,rfl⟩:=mem_map.mp m
    exact (Dv (h0 _ (of_mem_zip pm).2) (by omega)).1
   rw [vy,Rs wm fv hn sn]
   exact QS (by omega) q1 xv h0 hn
 | out hd' =>
   have hd1:H dt=some (.tup [.str "out",.int (hd':Int)]):=hd
   and_intros
   exact q st xs H (fun _ _ e=>e) hs (fun x m=>⟨gx x m,.inr ⟨x,m,rfl⟩⟩) (.inr rfl) xv
 | rest =>
   have hd1:H dt=some (.tup [.str "rest",.non]):=hd
   and_intros
   exact q st xs H (fun _ _ e=>e) hs (fun x m=>⟨gx x m,.inr ⟨x,m,rfl⟩⟩) (.inr rfl) xv
 | fin =>
   have hd1:H dt=some (.tup [.str "end",.non]):=hd
   and_intros
   exact q st xs H (fun _ _ e=>e) hs (fun x m=>⟨gx x m,.inr ⟨x,m,rfl⟩⟩) (.inr rfl) xv
theorem BJ (T:Tx K mg ad):A8 P w K mg base CX0 7 ad.f_Seats_counted ad.d_Seats_counted ["self","sheet"] (Nt ad.c_Seats):=by
 refine T.F_Seats_counted.ok A4 (fun vs H Q E h=>?_) (fun cdv A outer s H vs Q E hr h=>?_)
 ·obtain ⟨a,l,h,s,xs,ls,rfl,_⟩:=h
  rfl
 obtain ⟨a,l,h,s,xs,ls,rfl,is,h1,h12,s1,s6,pm,hl,gl,okl,l60,nN,q⟩:=h
 refine ⟨_,(@Ae _ _ _ _ _ (@Am _ _ (2) _ _ _ _ A4.nd rfl (Or.inl rfl) (Cw (pv 0) T.cl_Seats T.me_Seats_quota (Ho T) (hr.mono (by decide)) T.b_Seats_quota .nil As (@Aa _ _ _ _ _ (@Ak _ _ _ _ _ _ _ _ _ _ _ _ _ _ _ _ (Id T) (hr.mono (by decide)) rfl T.m_ballots_in T.F_ballots_in.kp T.b_ballots_in .nil As (@Aa _ _ _ _ _ (pv 1) Ad (by rfl)) (by decide) (by rfl) (by rfl)) Ad (by rfl))) (by rfl) (by first | exact .inl rfl | exact .inr rfl | assumption)) (@Ae _ _ _ _ _ (@Am _ _ (3) _ _ _ _ A4.nd rfl (Or.inl rfl) (@Ak _ _ _ _ _ _ _ _ _ _ _ _ _ _ _ _ (Oc T) (hr.mono (by decide)) rfl T.m_begin T.F_begin.kp T.b_begin .nil As (@Aa _ _ _ _ _ (pv 1) (@Aa _ _ _ _ _ (F1 (pv 0) rfl) Ad (by rfl)) (by rfl)) (by decide) (by rfl) (by rfl)) (by rfl) (by first | exact .inl rfl | exact .inr rfl | assumption)) (@Ae _ _ _ _ _ (@Am _ _ (4) _ _ _ _ A4.nd rfl (Or.inl rfl) (@Ak _ _ _ _ _ _ _ _ _ _ _ _ _ _ _ _ (NR T) (hr.mono (by decide)) rfl T.m_all_of T.F_all_of.kp T.b_all_of .nil As (@Aa _ _ _ _ _ (F1 (pv 0) rfl) Ad (by rfl)) (by decide) (by rfl) (by rfl)) (by rfl) (by first | exact .inl rfl | exact .inr rfl | assumption)) (@Ae _ _ _ _ _ (@Am _ _ (5) _ _ _ _ A4.nd rfl (Or.inl rfl) (F1 (pv 0) rfl) (by rfl) (by first | exact .inl rfl | exact .inr rfl | assumption)) (@Ae _ _ _ _ _ (@Am _ _ (6) _ _ _ _ A4.nd rfl (Or.inl rfl) (@BL _ _ _ _ Ad) (by rfl) (by first | exact .inl rfl | exact .inr rfl | assumption)) (@Ag _ _ _ (E8 PassesOwn.never (@AH _ _ _ Cm (by intro _;rfl)) (@Ae _ _ _ _ _ (@Am _ _ (7) _ _ _ _ A4.nd rfl (Or.inl rfl) (@Ak _ _ _ _ _ _ _ _ _ _ _ _ _ _ _ _ (O0 T) (hr.mono (by decide)) rfl T.m_table T.F_table.kp T.b_table .nil As (@Aa _ _ _ _ _ (pv 1) (@Aa _ _ _ _ _ (pv 3) (@Aa _ _ _ _ _ (pv 4) Ad (by rfl)) (by rfl)) (by rfl)) (by decide) (by rfl) (by rfl)) (by rfl) (by first | exact .inl rfl | exact .inr rfl | assumption)) (@Ae _ _ _ _ _ (@Am _ _ (8) _ _ _ _ A4.nd rfl (Or.inl rfl) (@Ak _ _ _ _ _ _ _ _ _ _ _ _ _ _ _ _ (Le T) (hr.mono (by decide)) rfl T.m_tallies T.F_tallies.kp T.b_tallies .nil As (@Aa _ _ _ _ _ (pv 1) (@Aa _ _ _ _ _ (pv 7) (@Aa _ _ _ _ _ (F1 (pv 0) rfl) Ad (by rfl)) (by rfl)) (by rfl)) (by decide) (by rfl) (by rfl)) (by rfl) (by first | exact .inl rfl | exact .inr rfl | assumption)) (@Ae _ _ _ _ _ (@Am _ _ (9) _ _ _ _ A4.nd rfl (Or.inl rfl) (Cw (pv 0) T.cl_Seats T.me_Seats_deed_due (ER T) (hr.mono (by decide)) T.b_Seats_deed_due .nil As (@Aa _ _ _ _ _ (pv 8) (@Aa _ _ _ _ _ (pv 4) (@Aa _ _ _ _ _ (pv 5) (@Aa _ _ _ _ _ (pv 2) Ad (by rfl)) (by rfl)) (by rfl)) (by rfl))) (by rfl) (by first | exact .inl rfl | exact .inr rfl | assumption)) (@Ae _ _ _ _ _ (@BQ _ _ _ _ (DN PySem.F.plainAttrs_list PySem.F.slot_list_append PySem.F.type_list_append Bu (pv 6) (@Aa _ _ _ _ _ (@A2 _ _ _ _ _ (@Aa _ _ _ _ _ (pv 7) (@Aa _ _ _ _ _ (pv 8) (@Aa _ _ _ _ _ (pv 9) Ad (by rfl)) (by rfl)) (by rfl))) Ad (by rfl))) (by rfl)) (@Ae _ _ _ _ _ (@AB _ _ _ _ _ _ _ _ (@Ax _ _ _ _ _ _ _ _ IX (@Ai _ _ _ _ _ _ _ Al (pv 9) Ac (fun _ _=>rfl)) D4 (Ay _)) (@Ag _ _ _ (@An _ _ _ _ (pv 6))) Av) (@Ae _ _ _ _ _ (@Am _ _ (3) _ _ _ _ A4.nd rfl (Or.inl rfl) (@Ak _ _ _ _ _ _ _ _ _ _ _ _ _ _ _ _ (Gr T) (hr.mono (by decide)) rfl T.m_state_behind T.F_state_behind.kp T.b_state_behind .nil As (@Aa _ _ _ _ _ (pv 1) (@Aa _ _ _ _ _ (pv 3) (@Aa _ _ _ _ _ (pv 4) (@Aa _ _ _ _ _ (pv 9) (@Aa _ _ _ _ _ (pv 2) Ad (by rfl)) (by rfl)) (by rfl)) (by rfl)) (by rfl)) (by decide) (by rfl) (by rfl)) (by rfl) (by first | exact .inl rfl | exact .inr rfl | assumption)) (@Ae _ _ _ _ _ (@Am _ _ (4) _ _ _ _ A4.nd rfl (Or.inl rfl) (@Ak _ _ _ _ _ _ _ _ _ _ _ _ _ _ _ _ (LD T) (hr.mono (by decide)) rfl T.m_without T.F_without.kp T.b_without .nil As (@Aa _ _ _ _ _ (pv 4) (@Aa _ _ _ _ _ (@Ai _ _ _ _ _ _ _ Al (pv 9) Ac (fun _ _=>rfl)) Ad (by rfl)) (by rfl)) (by decide) (by rfl) (by rfl)) (by rfl) (by first | exact .inl rfl | exact .inr rfl | assumption)) (@Ag _ _ _ (@AB _ _ _ _ _ _ _ _ (@Ax _ _ _ _ _ _ _ _ BX (@Ai _ _ _ _ _ _ _ Al (pv 9) Ac (fun _ _=>rfl)) C4 (Ay _)) (@Ag _ _ _ (@Am _ _ (5) _ _ _ _ A4.nd rfl (Or.inl rfl) (@Aj _ _ _ _ _ _ _ _ C9 (pv 5) Ac) (by rfl) (by first | exact .inl rfl | exact .inr rfl | assumption))) Av)))))))))))))))),?_⟩
 have is':=id is
 obtain ⟨dx,lo,k1,k2⟩:=is'
 have hn:∀p∈Ao ls,0<=p.2:=fun p m=>by obtain ⟨x,xm,rfl⟩:=mem_map.mp m;exact (okl x xm).2.1
 have N0:0<=AG (Ao ls):=by
  have:=DO (ds:=Ao ls) (rs:=[]) hn (fun _ m=>absurd m List.not_mem_nil)
  have e:Bs (Ao ls) []=0:=by unfold Bs;rw [zip_nil_right];rfl
  rw [e] at this
  exact Rat.intCast_nonneg.mp this
 have hx:∀x∈xs,0<=x/\x < h:=fun x m=>Fj.mp (pm.mem_iff.mp m)
 have xl:xs.length=h:=by rw [pm.length_eq,Jc]
 have dl:(Ao ls).length=ls.length:=by unfold Ao;rw [length_map]
 subst_eqs
 refine ⟨a,dx,_,rfl,k1,rfl,?_⟩
 subst_eqs
 refine ⟨l,ls,rfl,hl,gl,by omega,fun H1 t1=>?_⟩
 subst_eqs
 refine ⟨a,(h:Int),(s:Int),xs,_,rfl,is.same t1,by omega,by omega,?_⟩
 generalize hqu:(((Ao ls).map (fun x:List Int × Int=>x.2)).sum).fdiv ((s:Int)+1)+1=qu
 have qb:1<=qu/\Sz 64 qu:=by
  have e:((Ao ls).map (fun x:List Int × Int=>x.2)).sum=AG (Ao ls):=rfl
  rw [e] at hqu
  have d:=Int.fdiv_eq_ediv_of_nonneg (AG (Ao ls)) (show (0:Int)<=(s:Int)+1 by omega)
  rw [d] at hqu
  have a1:0<=AG (Ao ls) / ((s:Int)+1):=Int.ediv_nonneg N0 (by omega)
  have a2:AG (Ao ls) / ((s:Int)+1)<=AG (Ao ls):=Int.ediv_le_self _ N0
  have n40:AG (Ao ls) < 1099511627776:=nN
  exact ⟨by omega,AK (by omega) (by omega)⟩
 have k11:=t1 _ _ k1
 subst_eqs
 refine ⟨a,_,dx,_,_,rfl,k11,T.cl_Seats,T.na_Seats_hands,rfl,?_⟩
 subst_eqs
 refine ⟨l,h,ls,rfl,t1 _ _ hl,l60,h12,fun sa xh H2 hsa t2 e2 g2 nd2 xl2=>?_⟩
 have k12:=t2 _ _ k11
 have t12:=t1.trans t2
 subst_eqs
 refine ⟨a,_,dx,_,_,rfl,k12,T.cl_Seats,T.na_Seats_hands,rfl,?_⟩
 subst_eqs
 refine ⟨by omega,by omega,?_⟩
 subst_eqs
 refine ⟨a,_,dx,_,_,rfl,k12,T.cl_Seats,T.na_Seats_seats,rfl,?_⟩
 subst_eqs
 refine ⟨(by show 0<=sizeLine;decide),fun p hp=>?_⟩
 have t3:=Af hp (.lst [])
 have e3:(upd H2 p (.lst [])) p=some (.lst []):=Ab
 generalize upd H2 p (.lst [])=H3 at t3 e3 ⊢
 have t13:=t12.trans t3
 have pH:H p=none:=none_of t12 hp
 have xv2:xh.map shV=(CK ls.length h).map Dk:=by
  unfold CK
  rw [map_replicate]
  refine ext_getElem? fun i=>?_
  rw [List.getElem?_map,List.getElem?_replicate]
  by_cases c:i < ls.length
  ·obtain ⟨x,hx'⟩:∃x,xh[i]?=some x:=⟨_,List.getElem?_eq_getElem (by omega)⟩
   obtain ⟨_,a1,a2,_⟩:=g2 x (mem_of_getElem? hx')
   rw [hx',if_pos c]
   show some (shV x)=some (Dk (1,List.replicate h 0))
   unfold shV Dk
   rw [a1,a2,map_replicate]
   rfl
  ·rw [List.getElem?_eq_none (by omega),if_neg c]
   rfl
 have F0:Bz (Ao ls) h xs s=Bb (Ao ls) h xs qu (h+1) (CK ls.length h) (2 ^ h - 1) s:=by
  unfold Bz
  rw [dl,<- hqu]
  rfl
 have sap:sa≠p:=fun z=>by rw [z,hp] at e2;cases e2
 have start1:(1:Int)*2 ^ (h:Int).toNat - 1=2 ^ h - 1:=by rw [Int.one_mul,Int.toNat_natCast]
 have p2h:(2:Int) ^ h<=4096:=by
  have:=Nat.pow_le_pow_right (show 0 < 2 by decide) h12
  exact_mod_cast this
 have p20:(0:Int) < 2 ^ h:=Int.pow_pos (by decide)
 subst_eqs
 refine ED (fun σ' J=>∃(sa:Addr) (m:Int) (pl n:Nat) (v7 v8 v9:Option V) (ps:List Rq) (xh:List Sh) (st:List Sr) (M:Int),σ'=[some (.ref a),some (.ref l),some (.int qu),some (.ref sa),some (.int m),some (.int (pl:Int)),some (.ref p),v7,v8,v9]/\Az H J/\J p=some (.lst (rqs ps))/\ps.length+n=h+1/\((∀r∈ps,RqG J r/\JQ p r/\Ge H r)/\ps.Pairwise Apt)/\J sa=some (.lst (shv xh))/\sa≠p/\(∀x∈xh,ShG J x/\x.2.2.1≠p)/\xh.map shV=st.map Dk/\StI M h st/\0 < M/\Sz (mB (s - pl)) M/\pl<=s/\st.length=ls.length/\0<=m/\m < 2 ^ h/\(hands 12 (bit m)).length < n/\ps.map rqV++(Bb (Ao ls) h xs qu n st m pl).map DJ=(Bz (Ao ls) h xs s).map DJ) (fun σ' _=>match σ' with | [_,_,_,_,some (.int m),_,_,_,_,_]=>(hands 12 (bit m)).length | _=>0) ⟨sa,2 ^ h - 1,s,h+1,none,none,none,[],xh,CK ls.length h,1,(by rw [start1];rfl),t13,e3,by show 0+(h+1)=h+1;omega,⟨(fun _ m=>absurd m List.not_mem_nil),List.Pairwise.nil⟩,t3 _ _ e2,sap,(fun x k=>⟨(g2 x k).1.same t3,fun z=>by have:=(g2 x k).1.l;rw [z,hp] at this;cases this⟩),xv2,JY _ _,by decide,by rw [Nat.sub_self];exact (AK (by decide) (by decide):Sz 1 (1:Int)),Nat.le_refl _,length_replicate ..,by omega,by omega,?_,by rw [F0];rfl⟩ ?_ KS
 ·exact Nat.lt_of_le_of_lt (by rw [JP h12];exact Nat.le_refl _) (Nat.lt_succ_self h)
 rintro σ1 J ⟨sa,m,pl,n,v7,v8,v9,ps,xh,st,M,rfl,sJ,eJ,pn,⟨gps,fps⟩,esa,sap,gxh,xv,si,M0,Mz,pls,stl,m0,m1,hlen,eqF⟩
 have hlJ:=sJ _ _ hl
 have glJ:Br J ls:=gl.same sJ
 have k1J:=sJ _ _ k1
 have Mz4:Sz 4480 M:=Mz.mono (Sm (by omega))
 have xin:∀x∈xh,FqM M x.2.1.2/\A7 x.2.1.2.1 x.2.1.2.2=1/\x.2.2.2.length=h:=fun x k=>by
  have:shV x∈st.map Dk:=by rw [<- xv];exact mem_map.mpr ⟨x,k,rfl⟩
  obtain ⟨r,rm,e⟩:=mem_map.mp this
  obtain ⟨f0,f1,f2⟩:=si.free r rm
  have e1:pr r.1=x.2.1.2:=congrArg Prod.fst e
  have e2:r.2.map pr=x.2.2.2.map (·.2):=congrArg Prod.snd e
  refine ⟨by rw [<- e1];exact LN f0 f1 f2,by rw [<- e1];exact FI _,?_⟩
  have:=congrArg List.length e2
  rw [length_map,length_map,si.len r rm] at this
  exact this.symm
 have hbm:∀j,bit m j=true->(j:Int)∈xs:=fun j b=>by
  rcases (by omega:j < h\/h<=j) with c | c
  ·exact pm.mem_iff.mpr (Fj.mpr ⟨by omega,by omega⟩)
  ·have:(2:Int) ^ h<=2 ^ j:=by
    have:=Nat.pow_le_pow_right (show 0 < 2 by decide) c
    exact_mod_cast this
   rw [DQ m0 (by omega)] at b
   cases b
 have h0st:∀x∈st,0<=x.1:=fun x k=>(si.free x k).1
 have lesz:ls.length=xh.length:=by
  have:=congrArg List.length xv
  rw [length_map,length_map] at this
  have l2:st.length=ls.length:=stl
  omega
 refine ⟨_,rfl,ifT rfl ?_⟩
 subst_eqs
 refine ⟨l,sa,h,ls,xh,m,rfl,hlJ,glJ,esa,(fun x k=>⟨(gxh x k).1,(xin x k).1.fq M0 (Mz4.mono (by decide)),(xin x k).2.2⟩),lesz,l60,h12,(fun q k=>Jf (okl q k).1),fun r rs J1 hr1 u1 f1 gr vr=>?_⟩
 rw [RI xv h0st] at vr
 have M1:0 < M*27720:=by omega
 have Mz5:Sz 4500 (M*27720):=(Mz4.mul (AK (by decide) (by decide):Sz 15 (27720:Int))).mono (by decide)
 have rin:∀x∈rs,x.2.length=h+1/\∀f∈x.2,FqM (M*27720) f.2:=fun x k=>by
  have:x.2.map (·.2)∈(AE (Ao ls) st m).map (fun r=>r.map pr):=by rw [<- vr];exact mem_map.mpr ⟨x,k,rfl⟩
  obtain ⟨y,ym,e⟩:=mem_map.mp this
  obtain ⟨yl,yz⟩:=GF (ds:=Ao ls) (s:=m) si y ym
  refine ⟨?_,fun f fm=>?_⟩
  ·have:=congrArg List.length e
   rw [length_map,length_map,yl] at this
   exact this.symm
  ·have:f.2∈y.map pr:=by rw [e];exact mem_map.mpr ⟨f,fm,rfl⟩
   obtain ⟨z,zm,ez⟩:=mem_map.mp this
   rw [<- ez]
   exact LN (yz z zm).1 (yz z zm).2.1 (yz z zm).2.2
 have rsl:ls.length=rs.length:=by
  have:=congrArg List.length vr
  rw [length_map,length_map] at this
  rw [this]
  unfold AE
  rw [length_map,length_zip,dl]
  have l2:st.length=ls.length:=stl
  omega
 have k1J1:=u1 _ _ k1J
 subst_eqs
 refine ⟨a,_,dx,_,_,rfl,k1J1,T.cl_Seats,T.na_Seats_hands,rfl,?_⟩
 subst_eqs
 have hn2:∀q∈ls,0<=q.2.2.2/\Sz 64 q.2.2.2:=fun q k=>(okl q k).2
 refine ⟨l,r,h,ls,rs,M*27720,rfl,u1 _ _ hlJ,glJ.same u1,f1,(fun x k=>⟨(gr x k).1,rin x k⟩),M1,Mz5,rsl,l60,h12,hn2,fun su fs J2 hsu' u2 f2 gf fl wm=>?_⟩
 have u12:=u1.trans u2
 have colv:∀j,(C5 rs j).map (·.2)=((AE (Ao ls) st m).map fun r=>r.getD j 0).map pr:=fun j=>by
  have e1:(C5 rs j).map (·.2)=(rs.map fun x=>x.2.map (·.2)).map fun vs=>vs.getD j (0,1):=by
   unfold C5
   rw [map_map,map_map]
   refine map_congr_left fun r _=>?_
   show (r.2.getD j (0,0,1)).2=(r.2.map (·.2)).getD j (0,1)
   rw [getD_eq_getElem?_getD,getD_eq_getElem?_getD,List.getElem?_map]
   cases r.2[j]? <;> rfl
  rw [e1,vr,map_map,map_map]
  refine map_congr_left fun r _=>?_
  show (r.map pr).getD j (0,1)=pr (r.getD j 0)
  rw [getD_eq_getElem?_getD,getD_eq_getElem?_getD,List.getElem?_map]
  cases r[j]? <;> rfl
 have coln:∀j,∀r∈(AE (Ao ls) st m).map fun r=>r.getD j 0,0<=r:=fun j r k=>by
  obtain ⟨y,ym,rfl⟩:=mem_map.mp k
  obtain ⟨yl,yz⟩:=GF (ds:=Ao ls) (s:=m) si y ym
  rw [getD_eq_getElem?_getD]
  cases e:y[j]? with
  | none=>exact Rat.le_refl
  | some z=>exact (yz z (mem_of_getElem? e)).1
 have fv:fs.map (·.2)=(Bc (Ao ls) (AE (Ao ls) st m) h).map pr:=by
  refine ext_getElem? fun j=>?_
  unfold Bc
  rw [List.getElem?_map,List.getElem?_map,List.getElem?_map]
  by_cases c:j < h+1
  ·obtain ⟨f,hf⟩:∃f,fs[j]?=some f:=⟨_,List.getElem?_eq_getElem (by omega)⟩
   rw [hf,List.getElem?_range c]
   show some f.2=some (pr _)
   rw [Rs (wm j f hf) (colv j) hn (coln j)]
  ·rw [List.getElem?_eq_none (by omega),List.getElem?_eq_none (by rw [length_range];omega)]
   rfl
 have colm:∀j,j < h+1->∀f∈C5 rs j,FqM (M*27720) f.2:=fun j hj f k=>by
  obtain ⟨x,xm,rfl⟩:=mem_map.mp k
  exact (rin x xm).2 _ (mem_of_getElem? (Pc (by have:=(rin x xm).1;omega)))
 have sg:SuG J2 su fs (Bc (Ao ls) (AE (Ao ls) st m) h):=⟨f2,gf,fv,fun r k=>by
  have:pr r∈fs.map (·.2):=by rw [fv];exact mem_map.mpr ⟨r,k,rfl⟩
  obtain ⟨f,fm,e⟩:=mem_map.mp this
  obtain ⟨j,hj⟩:=mem_iff_getElem?.mp fm
  have jl:=(List.getElem?_eq_some_iff.mp hj).1
  obtain ⟨_,_,_,z1,_,z2⟩:=R3 (wm j f hj) M1 Mz5 hn2 (colm j (by omega)) l60
  rw [<- e]
  exact ⟨z2.mono (by decide),z1.mono (by decide)⟩⟩
 have sl:(Bc (Ao ls) (AE (Ao ls) st m) h).length=h+1:=by unfold Bc;rw [length_map,length_range]
 have k1J2:=u2 _ _ k1J1
 subst_eqs
 refine ⟨a,dx,_,rfl,k1J2,rfl,?_⟩
 subst_eqs
 refine ⟨a,su,(h:Int),(s:Int),xs,m,qu,pl,fs,_,rfl,is.same (sJ.trans u12),sg,(fun x k=>⟨(hx x k).1,by rw [sl];have:=(hx x k).2;have:=(hx x k).1;omega⟩),by omega,m0,by omega,hbm,qb.2,fun dt J3 hdt u3 e3'=>?_⟩
 generalize hsu:Bc (Ao ls) (AE (Ao ls) st m) h=sums at e3' sg fv sl
 generalize hD:Db xs sums m pl qu=D at e3'
 have u13:=u12.trans u3
 have eJ3:=u13 _ _ eJ
 subst_eqs
 refine ⟨.inl ⟨rfl,_,SqL.of eJ3⟩,?_⟩
 subst_eqs
 refine ⟨(by show 3<=sizeLine;decide),fun tt htt=>?_⟩
 have u4:=Af htt (.tup [V.ref r,V.ref su,V.ref dt])
 have e4:(upd J3 tt (.tup [V.ref r,V.ref su,V.ref dt])) tt=some (.tup [V.ref r,V.ref su,V.ref dt]):=Ab
 generalize upd J3 tt (.tup [V.ref r,V.ref su,V.ref dt])=J4 at u4 e4 ⊢
 have u14:=u13.trans u4
 have eJ4:=u4 _ _ eJ3
 have rqsl:(rqs ps).length=ps.length:=length_map ..
 refine ⟨p,_,_,rfl,rfl,eJ4,(by rw [rqsl];exact AT (by omega)),?_⟩
 have rp:r≠p:=fun z=>by rw [z,eJ] at hr1;cases hr1
 have sup:su≠p:=fun z=>by rw [z,u1 _ _ eJ] at hsu';cases hsu'
 have gnew:RqG J4 (tt,(r,rs),(su,fs),(dt,D)):=⟨e4,(u2.trans (u3.trans u4)) _ _ f1,(fun x k=>(gr x k).1.same (u2.trans (u3.trans u4))),(u3.trans u4) _ _ f2,(fun f k=>(gf f k).same (u3.trans u4)),u4 _ _ e3'⟩
 have anew:JQ p (tt,(r,rs),(su,fs),(dt,D)):=⟨rp,sup,fun x k z=>by have:=(gr x k).2;rw [z,eJ] at this;cases this⟩
 have fnew:Ge J (tt,(r,rs),(su,fs),(dt,D)):=⟨hr1,none_of u1 hsu',fun x k=>(gr x k).2⟩
 have gps':∀x∈ps++[(tt,(r,rs),(su,fs),(dt,D))],RqG (upd J4 p (.lst (rqs ps++[V.ref tt]))) x/\JQ p x/\Ge H x:=fun x k=>by
  rcases mem_append.mp k with k | k
  ·exact ⟨((gps x k).1.same u14).upd eJ4 (gps x k).2.1,(gps x k).2⟩
  ·rw [mem_singleton.mp k]
   exact ⟨gnew.upd eJ4 anew,anew,none_of sJ fnew.1,none_of sJ fnew.2.1,fun x k=>none_of sJ (fnew.2.2 x k)⟩
 have fps':(ps++[(tt,(r,rs),(su,fs),(dt,D))]).Pairwise Apt:=pairwise_append.mpr ⟨fps,pairwise_singleton _ _,fun x mx y my=>by rw [mem_singleton.mp my];exact ⟨J,(gps x mx).1,fnew⟩⟩
 have eP:(upd J4 p (.lst (rqs ps++[V.ref tt]))) p=some (.lst (rqs (ps++[(tt,(r,rs),(su,fs),(dt,D))]))):=by rw [Ab];unfold rqs;rw [map_append];rfl
 have sP:Az H (upd J4 p (.lst (rqs ps++[V.ref tt]))):=A0 (sJ.trans u14) pH
 have tupP:∀c cs,J4 c=some (.tup cs)->(upd J4 p (.lst (rqs ps++[V.ref tt]))) c=some (.tup cs):=fun c cs ec=>by rw [Ap (BV ec eJ4 (fun z=>by cases z))];exact ec
 have dtP:=tupP _ _ (u4 _ _ e3')
 have saP:(upd J4 p (.lst (rqs ps++[V.ref tt]))) sa=some (.lst (shv xh)):=by rw [Ap sap];exact u14 _ _ esa
 have gxP:∀x∈xh,ShG (upd J4 p (.lst (rqs ps++[V.ref tt]))) x:=fun x k=>((gxh x k).1.same u14).upd eJ4 (gxh x k).2
 generalize upd J4 p (.lst (rqs ps++[V.ref tt]))=J5 at gps' eP sP tupP dtP saP gxP ⊢
 obtain ⟨n',rfl⟩:∃n',n=n'+1:=⟨n - 1,by omega⟩
 have hnew:rqV (tt,(r,rs),(su,fs),(dt,D))=DJ (C1 (Ao ls) h xs qu st m pl):=by
  unfold rqV DJ C1
  rw [hsu,hD]
  show (rs.map fun x=>x.2.map (·.2),fs.map (·.2),D)=_
  rw [vr,fv]
 have hD':(C1 (Ao ls) h xs qu st m pl).2.2=D:=by unfold C1;rw [hsu,hD]
 have fin:(D=.rest\/D=.fin)->(ps++[(tt,(r,rs),(su,fs),(dt,D))]).map rqV=(Bz (Ao ls) h xs s).map DJ:=fun c=>by
  rw [<- eqF,map_append,map_cons,map_nil,hnew]
  congr 1
  show _=(C1 (Ao ls) h xs qu st m pl :: _).map DJ
  rw [hD']
  rcases c with rfl | rfl <;> rfl
 cases D with
 | rest =>
   have dtP':J5 dt=some (.tup [.str "rest",.non]):=dtP
   subst_eqs
   exact q p _ J5 pH sP eP gps' fps' (fin (.inl rfl))
 | fin =>
   have dtP':J5 dt=some (.tup [.str "end",.non]):=dtP
   subst_eqs
   exact q p _ J5 pH sP eP gps' fps' (fin (.inr rfl))
 | out hd =>
   have dtP':J5 dt=some (.tup [.str "out",.int (hd:Int)]):=dtP
   subst_eqs
   have bi:=Lu (fun x k=>(hx x k).1) hbm (.inr hD)
   have hdh:=(hx _ (hbm hd bi.1)).2
   have hd12:hd < 12:=by omega
   obtain ⟨lm0,lb,ll⟩:=He m0 bi.1 hd12
   have k1P:=sP _ _ k1
   refine ⟨l,sa,dt,h,ls,xh,st,m,qu,M,Dd.out hd,rfl,dtP',(fun _ e=>nomatch e),sP _ _ hl,gl.same sP,saP,gxP,xv,si,M0,lesz,l60,h12,qb.1,qb.2,(fun q k=>⟨Jf (okl q k).1,(okl q k).2⟩),fun a2 ys J6 u6 e6 g6 n6 v6=>?_⟩
   have dt6:=u6 _ _ dtP'
   subst_eqs
   refine ⟨m,(hd:Int),rfl,by omega,by omega,?_⟩
   rw [Int.toNat_natCast,MS,if_pos bi.1,Int.mul_one]
   subst_eqs
   have a2p:a2≠p:=by
    rcases n6 with z | z
    ·exact fun e=>by rw [e,eP] at z;cases z
    ·rw [z];exact sap
   have gy:∀y∈ys,ShG J6 y/\y.2.2.1≠p:=fun y k=>by
    obtain ⟨y1,y2⟩:=g6 y k
    refine ⟨y1,?_⟩
    rcases y2 with z | ⟨x,xm,z⟩
    ·exact fun e=>by rw [e,eP] at z;cases z
    ·rw [<- z];exact (gxh x xm).2
   have eqF':(ps++[(tt,(r,rs),(su,fs),(dt,Dd.out hd))]).map rqV++(Bb (Ao ls) h xs qu n' st (m - 2 ^ hd) pl).map DJ=(Bz (Ao ls) h xs s).map DJ:=by
    rw [<- eqF,map_append,map_cons,map_nil,hnew,append_assoc]
    congr 1
    show _=(C1 (Ao ls) h xs qu st m pl :: _).map DJ
    rw [hD']
    rfl
   refine ⟨⟨a2,m - 2 ^ hd,pl,n',_,_,_,ps++[(tt,(r,rs),(su,fs),(dt,Dd.out hd))],ys,st,M,rfl,sP.trans u6,u6 _ _ eP,by rw [length_append];show ps.length+1+n'=h+1;omega,⟨(fun x k=>⟨(gps' x k).1.same u6,(gps' x k).2⟩),fps'⟩,e6,a2p,gy,v6,si,M0,Mz,by omega,stl,lm0,by have:(0:Int) < 2 ^ hd:=Int.pow_pos (by decide);omega,by omega,eqF'⟩,?_⟩
   show (hands 12 (bit (m - 2 ^ hd))).length < (hands 12 (bit m)).length
   exact ll
 | seat hd =>
   have dtP':J5 dt=some (.tup [.str "seat",.int (hd:Int)]):=dtP
   subst_eqs
   have bi:=Lu (fun x k=>(hx x k).1) hbm (.inl hD)
   have hdh:=(hx _ (hbm hd bi.1)).2
   have hd12:hd < 12:=by omega
   obtain ⟨lm0,lb,ll⟩:=He m0 bi.1 hd12
   have k1P:=sP _ _ k1
   refine ⟨l,sa,dt,h,ls,xh,st,m,qu,M,Dd.seat hd,rfl,dtP',(fun hd2 e=>by injection e with e;subst e;exact ⟨by omega,Mz.mono (Rm (by omega))⟩),sP _ _ hl,gl.same sP,saP,gxP,xv,si,M0,lesz,l60,h12,qb.1,qb.2,(fun q k=>⟨Jf (okl q k).1,(okl q k).2⟩),fun a2 ys J6 u6 e6 g6 n6 v6=>?_⟩
   have dt6:=u6 _ _ dtP'
   subst_eqs
   refine ⟨m,(hd:Int),rfl,by omega,by omega,?_⟩
   rw [Int.toNat_natCast,MS,if_pos bi.1,Int.mul_one]
   subst_eqs
   have a2p:a2≠p:=by
    rcases n6 with z | z
    ·exact fun e=>by rw [e,eP] at z;cases z
    ·rw [z];exact sap
   have gy:∀y∈ys,ShG J6 y/\y.2.2.1≠p:=fun y k=>by
    obtain ⟨y1,y2⟩:=g6 y k
    refine ⟨y1,?_⟩
    rcases y2 with z | ⟨x,xm,z⟩
    ·exact fun e=>by rw [e,eP] at z;cases z
    ·rw [<- z];exact (gxh x xm).2
   have eqF':(ps++[(tt,(r,rs),(su,fs),(dt,Dd.seat hd))]).map rqV++(Bb (Ao ls) h xs qu n' (Bw (Ao ls) st m hd qu) (m - 2 ^ hd) (pl - 1)).map DJ=(Bz (Ao ls) h xs s).map DJ:=by
    rw [<- eqF,map_append,map_cons,map_nil,hnew,append_assoc]
    congr 1
    show _=(C1 (Ao ls) h xs qu st m pl :: _).map DJ
    rw [hD']
    rfl
   obtain ⟨M2,M20,Mz2,si2⟩:=si.step (k:=s - pl) (ds:=Ao ls) (s:=m) (q:=qu) M0 Mz hd12 qb.1 hn nN
   refine ⟨⟨a2,m - 2 ^ hd,(pl - 1),n',_,_,_,ps++[(tt,(r,rs),(su,fs),(dt,Dd.seat hd))],ys,(Bw (Ao ls) st m hd qu),M2,(by rw [show ((pl - 1:Nat):Int)=(pl:Int) - 1 from by omega];rfl),sP.trans u6,u6 _ _ eP,by rw [length_append];show ps.length+1+n'=h+1;omega,⟨(fun x k=>⟨(gps' x k).1.same u6,(gps' x k).2⟩),fps'⟩,e6,a2p,gy,v6,si2,M20,(by rw [show s - (pl - 1)=s - pl+1 from by omega];exact Mz2),by omega,(by unfold Bw AA;rw [length_map,length_zip,length_map,length_zip,dl,stl];omega),lm0,by have:(0:Int) < 2 ^ hd:=Int.pow_pos (by decide);omega,by omega,eqF'⟩,?_⟩
   show (hands 12 (bit (m - 2 ^ hd))).length < (hands 12 (bit m)).length
   exact ll
theorem S7 (T:Tx K mg ad):A8 P w K mg base CX0 8 ad.f_law ad.d_law ["_law_script"] (MM K):=by
 refine T.F_law.ok Cu (fun vs H Q E h=>?_) (fun cdv A outer s H vs Q E hr h=>?_)
 ·obtain ⟨p,ns,rfl,_⟩:=h
  rfl
 obtain ⟨p,ns,rfl,hS,h63,q⟩:=h
 refine ⟨_,(@Ae _ _ _ _ _ (@Am _ _ (1) _ _ _ _ Cu.nd rfl (Or.inl rfl) (@Aj _ _ _ _ _ _ _ _ AS Ac (@Aj _ _ _ _ _ _ _ _ AN (@Ak _ _ _ _ _ _ _ _ _ _ _ _ _ _ _ _ (Bn T) (hr.mono (by decide)) rfl T.m_law_cell T.F_law_cell.kp T.b_law_cell .nil As (@Aa _ _ _ _ _ (pv 0) (@Aa _ _ _ _ _ Ac Ad (by rfl)) (by rfl)) (by decide) (by rfl) (by rfl)) Ac)) (by rfl) (by first | exact .inl rfl | exact .inr rfl | assumption)) (@Ae _ _ _ _ _ (@Am _ _ (2) _ _ _ _ Cu.nd rfl (Or.inl rfl) (@Aj _ _ _ _ _ _ _ _ AS Ac (@Aj _ _ _ _ _ _ _ _ AN (@Ak _ _ _ _ _ _ _ _ _ _ _ _ _ _ _ _ (Bn T) (hr.mono (by decide)) rfl T.m_law_cell T.F_law_cell.kp T.b_law_cell .nil As (@Aa _ _ _ _ _ (pv 0) (@Aa _ _ _ _ _ Ac Ad (by rfl)) (by rfl)) (by decide) (by rfl) (by rfl)) (@Ai _ _ _ _ _ _ _ Au (@BL _ _ _ _ (@Aa _ _ _ _ _ Ac (@Aa _ _ _ _ _ Ac Ad (by rfl)) (by rfl))) (@Aj _ _ _ _ _ _ _ _ AN (@Aj _ _ _ _ _ _ _ _ Bj (@Ak _ _ _ _ _ _ _ _ _ _ _ _ _ _ _ _ (Bn T) (hr.mono (by decide)) rfl T.m_law_cell T.F_law_cell.kp T.b_law_cell .nil As (@Aa _ _ _ _ _ (pv 0) (@Aa _ _ _ _ _ Ac Ad (by rfl)) (by rfl)) (by decide) (by rfl) (by rfl)) Ac) Ac) (fun _ _=>rfl)))) (by rfl) (by first | exact .inl rfl | exact .inr rfl | assumption)) (@Ae _ _ _ _ _ (@Am _ _ (3) _ _ _ _ Cu.nd rfl (Or.inl rfl) (@Ak _ _ _ _ _ _ _ _ _ _ _ _ _ _ _ _ (JL T) (hr.mono (by decide)) rfl T.m_law_lots T.F_law_lots.kp T.b_law_lots .nil As (@Aa _ _ _ _ _ (@Ak _ _ _ _ _ _ _ _ _ _ _ _ _ _ _ _ (Bn T) (hr.mono (by decide)) rfl T.m_law_cell T.F_law_cell.kp T.b_law_cell .nil As (@Aa _ _ _ _ _ (pv 0) (@Aa _ _ _ _ _ Ac Ad (by rfl)) (by rfl)) (by decide) (by rfl) (by rfl)) (@Aa _ _ _ _ _ (pv 1) Ad (by rfl)) (by rfl)) (by decide) (by rfl) (by rfl)) (by rfl) (by first | exact .inl rfl | exact .inr rfl | assumption)) (@Ae _ _ _ _ _ (@Am _ _ (4) _ _ _ _ Cu.nd rfl (Or.inl rfl) (@Ai _ _ _ _ _ _ _ Au (@BL _ _ _ _ (@Aa _ _ _ _ _ Ac (@Aa _ _ _ _ _ (@Aj _ _ _ _ _ _ _ _ IP Ac Ac) Ad (by rfl)) (by rfl))) (@Aj _ _ _ _ _ _ _ _ AN (@Aj _ _ _ _ _ _ _ _ Bj (@Ak _ _ _ _ _ _ _ _ _ _ _ _ _ _ _ _ (Bn T) (hr.mono (by decide)) rfl T.m_law_cell T.F_law_cell.kp T.b_law_cell .nil As (@Aa _ _ _ _ _ (pv 0) (@Aa _ _ _ _ _ Ac Ad (by rfl)) (by rfl)) (by decide) (by rfl) (by rfl)) Ac) Ac) (fun _ _=>rfl)) (by rfl) (by first | exact .inl rfl | exact .inr rfl | assumption)) (@Ae _ _ _ _ _ (@Am _ _ (5) _ _ _ _ Cu.nd rfl (Or.inr rfl) (@Ak _ _ _ _ _ _ _ _ _ _ _ _ _ _ _ _ (JD T) (hr.mono (by decide)) rfl T.m_law_sheet T.F_law_sheet.kp T.b_law_sheet .nil As (@Aa _ _ _ _ _ (pv 0) (@Aa _ _ _ _ _ Ac (@Aa _ _ _ _ _ (pv 1) (@Aa _ _ _ _ _ (@Aj _ _ _ _ _ _ _ _ AS Ac (@Aj _ _ _ _ _ _ _ _ AN (@Aj _ _ _ _ _ _ _ _ Bj (@Ak _ _ _ _ _ _ _ _ _ _ _ _ _ _ _ _ (Bn T) (hr.mono (by decide)) rfl T.m_law_cell T.F_law_cell.kp T.b_law_cell .nil As (@Aa _ _ _ _ _ (pv 0) (@Aa _ _ _ _ _ Ac Ad (by rfl)) (by rfl)) (by decide) (by rfl) (by rfl)) Ac) Ac)) (@Aa _ _ _ _ _ (pv 4) Ad (by rfl)) (by rfl)) (by rfl)) (by rfl)) (by rfl)) (by decide) (by rfl) (by rfl)) (by rfl) (by first | exact .inl rfl | exact .inr rfl | assumption)) (@Ae _ _ _ _ _ (@Ft _ _ _ _ _ _ _ _ (@Ax _ _ _ _ _ _ _ _ BX (@Aj _ _ _ _ _ _ _ _ AN (@Aj _ _ _ _ _ _ _ _ Bj (@Ak _ _ _ _ _ _ _ _ _ _ _ _ _ _ _ _ (Bn T) (hr.mono (by decide)) rfl T.m_law_cell T.F_law_cell.kp T.b_law_cell .nil As (@Aa _ _ _ _ _ (pv 0) (@Aa _ _ _ _ _ Ac Ad (by rfl)) (by rfl)) (by decide) (by rfl) (by rfl)) Ac) Ac) Ac (Ay _)) (@Ag _ _ _ (@Am _ _ (5) _ _ _ _ Cu.nd rfl (Or.inr rfl) (@BL _ _ _ _ Ad) (by rfl) (by first | exact .inl rfl | exact .inr rfl | assumption))) Av) (@Ae _ _ _ _ _ (@Am _ _ (6) _ _ _ _ Cu.nd rfl (Or.inl rfl) (Q9 T.mk_Seats (Ib T) (hr.mono (by decide)) rfl T.m_Seats T.b_Seats_init .nil As (@Aa _ _ _ _ _ (pv 1) (@Aa _ _ _ _ _ (pv 2) (@Aa _ _ _ _ _ (@Bv _ _ _ _ _ _ _ _ _ BF (by rfl) T.z_list PyProof.Rows.boot_list (@Aa _ _ _ _ _ (pv 3) Ad (by rfl)) (by decide) (by decide) (by rfl) (by rfl)) Ad (by rfl)) (by rfl)) (by rfl))) (by rfl) (by first | exact .inl rfl | exact .inr rfl | assumption)) (@Ae _ _ _ _ _ (@Am _ _ (7) _ _ _ _ Cu.nd rfl (Or.inl rfl) (@Bv _ _ _ _ _ _ _ _ _ BF (by rfl) T.z_list PyProof.Rows.boot_list (@Aa _ _ _ _ _ (pv 5) Ad (by rfl)) (by decide) (by decide) (by rfl) (by rfl)) (by rfl) (by first | exact .inl rfl | exact .inr rfl | assumption)) (@Ae _ _ _ _ _ (@Am _ _ (8) _ _ _ _ Cu.nd rfl (Or.inl rfl) (Cw (pv 6) T.cl_Seats T.me_Seats_counted (BJ T) (hr.mono (by decide)) T.b_Seats_counted .nil As (@Aa _ _ _ _ _ (pv 7) Ad (by rfl))) (by rfl) (by first | exact .inl rfl | exact .inr rfl | assumption)) (@Ae _ _ _ _ _ (@AB _ _ _ _ _ _ _ _ (PW.pt (@Cn _ _ _ _ _ _ _ (@Ax _ _ _ _ _ _ _ _ (LO (K:=K) hr.units) (pv 7) (pv 5) (Ay _)) (@Cn _ _ _ _ _ _ _ (@AQ _ _ _ _ (@AH _ _ _ (@Aq _ _ _ _ _ _ _ _ _ Bx (by rfl) T.z_isinstance PyProof.Rows.boot_isinstance (@Aa _ _ _ _ _ (pv 8) (@Aa _ _ _ _ _ (BH (v:=.ty "list") rfl T.z_list PyProof.Rows.boot_list rfl) Ad (by rfl)) (by rfl)) (by decide) (by decide) (by rfl) (by rfl)) (by intro _;rfl))) (@Cc _ _ _ _ (@AQ _ _ _ _ (@AH _ _ _ (@Ak _ _ _ _ _ _ _ _ _ _ _ _ _ _ _ _ (Ep T) (hr.mono (by decide)) rfl T.m_law_walked T.F_law_walked.kp T.b_law_walked .nil As (@Aa _ _ _ _ _ (pv 8) (@Aa _ _ _ _ _ (pv 5) (@Aa _ _ _ _ _ (pv 1) (@Aa _ _ _ _ _ (pv 2) (@Aa _ _ _ _ _ (pv 3) Ad (by rfl)) (by rfl)) (by rfl)) (by rfl)) (by rfl)) (by decide) (by rfl) (by rfl)) (by intro _;rfl))))))) (@Ag _ _ _ (@An _ _ _ _ Cm)) Av) (@Ae _ _ _ _ _ (O3 (j:=9) (fsc:=Ah Ky) (N:=["_law_script","_law_hands","_law_seats","_law_lots_here","_law_most","_law_sheet_here","_law_way","_law_lent","_law_paper","_law_kept","_law_row","_law_more"]) (Nc:=["_law_script","_law_hands","_law_seats","_law_lots_here","_law_most","_law_sheet_here","_law_way","_law_lent","_law_paper","_law_kept","_law_row","_law_more","_law_rows","_law_sums","_law_deed"]) rfl rfl ⟨rfl,by decide +kernel,by decide +kernel,by decide +kernel,by decide +kernel,rfl,by decide +kernel,rfl,by decide +kernel⟩ rfl Cu.nd rfl rfl (Bd (pv 8)) (fun _ _ _ _=>Bg) (fun _ _ _ _=>(@A2 _ _ _ _ _ (@Aa _ _ _ _ _ (by exact (GZ (fsc:=Ah Ky) (Nc:=["_law_script","_law_hands","_law_seats","_law_lots_here","_law_most","_law_sheet_here","_law_way","_law_lent","_law_paper","_law_kept","_law_row","_law_more","_law_rows","_law_sums","_law_deed"]) (Nd:=["_law_script","_law_hands","_law_seats","_law_lots_here","_law_most","_law_sheet_here","_law_way","_law_lent","_law_paper","_law_kept",".s10","_law_more","_law_rows","_law_sums","_law_deed","_law_row"]) rfl ⟨rfl,by decide +kernel,by decide +kernel,rfl,by decide +kernel,rfl,by decide +kernel,rfl,by decide +kernel⟩ rfl (K7 K (pv 12)) (fun _ _ _ _=>Bg) (fun _ _ _ _=>(@Bv _ _ _ _ _ _ _ _ _ (De K) (by rfl) T.z_list PyProof.Rows.boot_list (@Aa _ _ _ _ _ (pv 15) Ad (by rfl)) (by decide) (by decide) (by rfl) (by rfl))))) (@Aa _ _ _ _ _ (@Bv _ _ _ _ _ _ _ _ _ (De K) (by rfl) T.z_list PyProof.Rows.boot_list (@Aa _ _ _ _ _ (pv 13) Ad (by rfl)) (by decide) (by decide) (by rfl) (by rfl)) (@Aa _ _ _ _ _ (pv 14) Ad (by rfl)) (by rfl)) (by rfl)))) rfl) (@Ae _ _ _ _ _ (@BQ _ _ _ _ (Cw (pv 6) T.cl_Seats T.me_Seats_counted (BJ T) (hr.mono (by decide)) T.b_Seats_counted .nil As (@Aa _ _ _ _ _ (@BL _ _ _ _ (@Aa _ _ _ _ _ (@A2 _ _ _ _ _ (@Aa _ _ _ _ _ (@A2 _ _ _ _ _ (@Aa _ _ _ _ _ Ac Ad (by rfl))) (@Aa _ _ _ _ _ Ac Ad (by rfl)) (by rfl))) (@Aa _ _ _ _ _ (@A2 _ _ _ _ _ (@Aa _ _ _ _ _ (@A2 _ _ _ _ _ (@Aa _ _ _ _ _ Ac (@Aa _ _ _ _ _ Ac Ad (by rfl)) (by rfl))) (@Aa _ _ _ _ _ Ac Ad (by rfl)) (by rfl))) Ad (by rfl)) (by rfl))) Ad (by rfl))) (by rfl)) (@Ae _ _ _ _ _ (By PassesOwn.never rfl (Bd (@Ai _ _ _ _ _ _ _ Al (@Ai _ _ _ _ _ _ _ Au (pv 8) Ac (fun _ _=>rfl)) Ac (fun _ _=>rfl))) (AD (i:=10) Cu.nd rfl (Or.inl rfl)) (@Ag _ _ _ (@BQ _ _ _ _ (DN PySem.F.plainAttrs_list PySem.F.slot_list_append PySem.F.type_list_append Bu (pv 10) (@Aa _ _ _ _ _ (@A2 _ _ _ _ _ (@Aa _ _ _ _ _ Ac (@Aa _ _ _ _ _ Ac Ad (by rfl)) (by rfl))) Ad (by rfl))) (by rfl)))) (@Ae _ _ _ _ _ (@BQ _ _ _ _ (DN PySem.F.plainAttrs_list PySem.F.slot_list_append PySem.F.type_list_append Bu (@Ai _ _ _ _ _ _ _ Al (@Ai _ _ _ _ _ _ _ Au (pv 8) Ac (fun _ _=>rfl)) Ac (fun _ _=>rfl)) (@Aa _ _ _ _ _ (@BL _ _ _ _ Ad) Ad (by rfl))) (by rfl)) (@Ae _ _ _ _ _ (@BQ _ _ _ _ (DN PySem.F.plainAttrs_list PySem.F.slot_list_append PySem.F.type_list_append Bu (@Ai _ _ _ _ _ _ _ Al (@Ai _ _ _ _ _ _ _ Au (pv 8) Ac (fun _ _=>rfl)) Ac (fun _ _=>rfl)) (@Aa _ _ _ _ _ (@A2 _ _ _ _ _ (@Aa _ _ _ _ _ Ac (@Aa _ _ _ _ _ Ac Ad (by rfl)) (by rfl))) Ad (by rfl))) (by rfl)) (@Ae _ _ _ _ _ (@AB _ _ _ _ _ _ _ _ (@Ax _ _ _ _ _ _ _ _ (LO (K:=K) hr.units) (Kh ML (pv 8) (M4 Ac) Mu) (Kh ML (pv 9) (M4 Ac) Mu) (Ay _)) (@Ag _ _ _ (@An _ _ _ _ Cm)) Av) (@Ae _ _ _ _ _ (@BQ _ _ _ _ (Lg PySem.F.plainAttrs_list PySem.F.slot_list_pop PySem.F.type_list_pop RB (pv 8)) (by rfl)) (@Ae _ _ _ _ _ (Km (j:=11) (fsc:=Ah Ky) (N:=["_law_script","_law_hands","_law_seats","_law_lots_here","_law_most","_law_sheet_here","_law_way","_law_lent","_law_paper","_law_kept","_law_row","_law_more"]) (Nc:=["_law_script","_law_hands","_law_seats","_law_lots_here","_law_most","_law_sheet_here","_law_way","_law_lent","_law_paper","_law_kept","_law_row","_law_more","_law_slip_here","_law_number_here"]) rfl rfl ⟨rfl,by decide +kernel,by decide +kernel,by decide +kernel,by decide +kernel,rfl,by decide +kernel,rfl,by decide +kernel⟩ rfl Cu.nd rfl rfl (Bd (pv 5)) (fun _ _ _ _=>Bg) (fun _ _ _ _=>(@A2 _ _ _ _ _ (@Aa _ _ _ _ _ (pv 12) (@Aa _ _ _ _ _ (@Aj _ _ _ _ _ _ _ _ AS (pv 13) (@Bv _ _ _ _ _ _ _ _ _ Ij (by rfl) T.z_int PyProof.Rows.boot_int (@Aa _ _ _ _ _ (@BP _ _ _ _ _ _ _ _ (Fs (K:=K) hr.units) (pv 12) (@Ai _ _ _ _ _ _ _ (D6 K) (@Ai _ _ _ _ _ _ _ (Hj K) (pv 5) Ac (fun _ _=>rfl)) Ac (fun _ _=>rfl)) (Ay _)) Ad (by rfl)) (by decide) (by decide) (by rfl) (by rfl))) Ad (by rfl)) (by rfl)))) rfl) (@Ae _ _ _ _ _ (@AB _ _ _ _ _ _ _ _ (@AQ _ _ _ _ (@AH _ _ _ (@Ak _ _ _ _ _ _ _ _ _ _ _ _ _ _ _ _ (Ep T) (hr.mono (by decide)) rfl T.m_law_walked T.F_law_walked.kp T.b_law_walked .nil As (@Aa _ _ _ _ _ (Cw (pv 6) T.cl_Seats T.me_Seats_counted (BJ T) (hr.mono (by decide)) T.b_Seats_counted .nil As (@Aa _ _ _ _ _ (pv 11) Ad (by rfl))) (@Aa _ _ _ _ _ (pv 11) (@Aa _ _ _ _ _ (pv 1) (@Aa _ _ _ _ _ (pv 2) (@Aa _ _ _ _ _ (pv 3) Ad (by rfl)) (by rfl)) (by rfl)) (by rfl)) (by rfl)) (by decide) (by rfl) (by rfl)) (by intro _;rfl))) (@Ag _ _ _ (@An _ _ _ _ Cm)) Av) (@Ag _ _ _ (@An _ _ _ _ (@E1 _ _ _ _ _ _ _ (@BP _ _ _ _ _ _ _ _ (Fs (K:=K) hr.units) (Cw (pv 6) T.cl_Seats T.me_Seats_counted (BJ T) (hr.mono (by decide)) T.b_Seats_counted .nil As (@Aa _ _ _ _ _ (pv 7) Ad (by rfl))) (pv 9) (Ay _)) (@DM _ _ _ _ _ (@BP _ _ _ _ _ _ _ _ (Fs (K:=K) hr.units) (pv 7) (pv 5) (Ay _))))))))))))))))))))))))),?_⟩
 subst_eqs
 refine ⟨p,ns,0,rfl,hS,h63,by decide,by decide,fun c0 c00 c01=>?_⟩
 subst_eqs
 dsimp only
 have m0:=AW c0 (show (0:Int) < 4 by decide)
 have hh:2<=2+c0.fmod 4/\2+c0.fmod 4<=5:=by omega
 generalize 2+c0.fmod 4=h' at hh ⊢
 obtain ⟨h,rfl⟩:∃h:Nat,h'=(h:Int):=⟨h'.toNat,by omega⟩
 subst_eqs
 refine ⟨p,ns,1,rfl,hS,h63,by decide,by decide,fun c1 c10 c11=>?_⟩
 subst_eqs
 refine ⟨(by show 2<=sizeLine;decide),fun b hb=>?_⟩
 have s1:=Af hb (.lst [V.int 4,V.int 2])
 have e1:(upd H b (.lst [V.int 4,V.int 2])) b=some (.lst [V.int 4,V.int 2]):=Ab
 generalize upd H b (.lst [V.int 4,V.int 2])=H1 at s1 e1 ⊢
 subst_eqs
 refine ⟨p,ns,1,rfl,s1.seq hS,h63,by decide,by decide,fun c2 c20 c21=>?_⟩
 subst_eqs
 have m2:=AW (c2.fdiv 4) (show (0:Int) < 2 by decide)
 obtain ⟨sm,hsm,sm1,sm2⟩:=Ru (x0:=4) (x1:=2) (fun v=>1<=v/\v<=4) _ m2.1 m2.2 (by decide) (by decide)
 refine ⟨b,_,_,_,rfl,rfl,SqL.of e1,hsm,?_⟩
 subst_eqs
 refine ⟨(by show (_:Int)≠0;omega),?_⟩
 subst_eqs
 dsimp only
 have m1:=AW c1 (show (0:Int) < sm by omega)
 have ss:1<=1+c1.fmod sm/\1+c1.fmod sm<=4:=by omega
 generalize 1+c1.fmod sm=s' at ss ⊢
 obtain ⟨s,rfl⟩:∃h:Nat,s'=(h:Int):=⟨s'.toNat,by omega⟩
 subst_eqs
 refine ⟨p,ns,2,rfl,s1.seq hS,h63,by decide,by decide,fun c3 c30 c31=>?_⟩
 subst_eqs
 refine ⟨c3,(h:Int),rfl,LK c30 c31,by omega,by omega,fun lo xs H2 s2 e2 px=>?_⟩
 rw [Int.toNat_natCast] at px
 have s02:=s1.trans s2
 subst_eqs
 refine ⟨(by show 2<=sizeLine;decide),fun b2 hb2=>?_⟩
 have s3:=Af hb2 (.lst [V.int 30,V.int (10 ^ (9:Int).toNat)])
 have e3:(upd H2 b2 (.lst [V.int 30,V.int (10 ^ (9:Int).toNat)])) b2=some (.lst [V.int 30,V.int (10 ^ (9:Int).toNat)]):=Ab
 generalize upd H2 b2 (.lst [V.int 30,V.int (10 ^ (9:Int).toNat)])=H3 at s3 e3 ⊢
 have s03:=s02.trans s3
 subst_eqs
 refine ⟨p,ns,1,rfl,s03.seq hS,h63,by decide,by decide,fun c4 c40 c41=>?_⟩
 subst_eqs
 have m4:=AW (c4.fdiv 4) (show (0:Int) < 2 by decide)
 obtain ⟨most,hmo,mo1,mo2⟩:=Ru (x0:=30) (x1:=10 ^ (9:Int).toNat) (fun v=>1<=v/\v<=10 ^ 9) _ m4.1 m4.2 (by decide) (by decide)
 refine ⟨b2,_,_,_,rfl,rfl,SqL.of e3,hmo,?_⟩
 subst_eqs
 refine ⟨p,ns,0,rfl,s03.seq hS,h63,by decide,by decide,fun c5 c50 c51=>?_⟩
 subst_eqs
 have m5:=AW (c5.fdiv 4) (show (0:Int) < 5 by decide)
 have mm:1<=1+(c5.fdiv 4).fmod 5/\1+(c5.fdiv 4).fmod 5<=5:=by omega
 dsimp only
 generalize 1+(c5.fdiv 4).fmod 5=m' at mm ⊢
 obtain ⟨m,rfl⟩:∃h:Nat,m'=(h:Int):=⟨m'.toNat,by omega⟩
 refine ⟨p,ns,3,h,m,most,rfl,s03.seq hS,h63,by decide,by decide,by omega,by omega,by omega,by omega,mo1,mo2,fun sh0 ls0 H4 hsh0 s4 e4 g4 dr=>?_⟩
 have s04:=s03.trans s4
 have s24:=s3.trans s4
 have lo4:=s24 _ _ e2
 subst_eqs
 refine ⟨fun σ' J=>∃(sh:Addr) (ls:Ls),σ'=[some (.ref p),some (.int (h:Int)),some (.int (s:Int)),some (.ref lo),some (.int most),some (.ref sh),none,none,none,none,none,none]/\Az H4 J/\J sh=some (.lst (vls ls))/\Br J ls/\(ls=ls0\/ls=[]),?_,?_⟩
 ·subst_eqs
  refine ⟨p,ns,1,rfl,s04.seq hS,h63,by decide,by decide,fun c6 c60 c61=>?_⟩
  subst_eqs
  by_cases c:(c6.fdiv 8).fmod 9=4
  ·refine ifT (KY c) ?_
   subst_eqs
   refine ⟨(by show 0<=sizeLine;decide),fun z hz=>?_⟩
   exact ⟨z,[],rfl,Af hz _,Ab,(fun _ k=>nomatch k),.inr rfl⟩
  ·refine ifF (KZ c) ?_
   exact ⟨sh0,ls0,rfl,fun _ _ e=>e,e4,g4,.inl rfl⟩
 rintro σ' J ⟨sh,ls,rfl,s5,e5,g5,lc⟩
 have s05:=s04.trans s5
 have lo5:=s5 _ _ lo4
 have vl:=BI ls
 have dl0:(Ao ls0).length=ls0.length:=by unfold Ao;rw [length_map]
 have okl:∀q∈ls,OkT h q.2.2.1/\0<=q.2.2.2/\Sz 64 q.2.2.2:=fun q k=>by
  rcases lc with rfl | rfl
  ·obtain ⟨k1,k2,k3⟩:=dr.ok (q.2.2.1,q.2.2.2) (mem_map.mpr ⟨q,k,rfl⟩)
   have k2':1<=q.2.2.2:=k2
   have k3':q.2.2.2<=64*most:=k3
   exact ⟨k1,by omega,AK (by omega) (by omega)⟩
  ·exact nomatch k
 have l13:ls.length<=13:=by
  rcases lc with rfl | rfl
  ·have:=dr.len;omega
  ·exact Nat.zero_le _
 have nN:0<=AG (Ao ls)/\AG (Ao ls) < 2 ^ 40:=by
  rcases lc with rfl | rfl
  ·have nb:=MO (ds:=Ao ls) (fun q k=>(dr.ok q k).2) mo2
   have:((Ao ls).length:Int)<=13:=by rw [dl0];omega
   have e:(2:Int) ^ 40=1099511627776:=rfl
   have:=nb.2
   exact ⟨by have:=nb.1;omega,by omega⟩
  ·exact ⟨Int.le_refl _,by decide⟩
 subst_eqs
 intro b3 hb3
 have s6:=Af hb3 (.lst (xs.map V.int))
 have e6:(upd J b3 (.lst (xs.map V.int))) b3=some (.lst (xs.map V.int)):=Ab
 generalize upd J b3 (.lst (xs.map V.int))=H6 at s6 e6 ⊢
 intro a dx ha hdx ne
 have k1:Az H6 (upd (upd H6 dx (.own a)) a (.ins ad.c_Seats dx [])):=(Af hdx _).trans (Af (by rw [Ap (Ne.symm ne)];exact ha) _)
 refine ⟨a,ad.c_Seats,dx,h,s,_,xs,rfl,Ab,T.cl_Seats,T.na_Seats_hands,T.na_Seats_seats,T.na_Seats_lots,by omega,by omega,by omega,by omega,.inr ⟨b3,rfl,k1 _ _ e6,px⟩,fun l8 H8 s9 am l8m=>?_⟩
 rw [Q0] at s9
 have s68:=(RL (Af hdx (.own a)) ha).trans s9
 refine ⟨rfl,?_⟩
 have isA:IsS ad.c_Seats H8 a (h:Int) (s:Int) xs:=⟨dx,l8,am,l8m⟩
 clear k1 s9 ha hdx ne
 have s58:=s6.trans s68
 have sh8:=s58 _ _ e5
 have lo8:=s58 _ _ lo5
 subst_eqs
 intro le hle
 have s9:=Af hle (.lst (vls ls))
 have e9:(upd H8 le (.lst (vls ls))) le=some (.lst (vls ls)):=Ab
 generalize upd H8 le (.lst (vls ls))=H9 at s9 e9 ⊢
 subst_eqs
 refine ⟨a,dx,_,rfl,s9 _ _ am,rfl,?_⟩
 subst_eqs
 have s59:=s58.trans s9
 refine ⟨a,le,h,s,xs,ls,rfl,isA.same s9,by omega,by omega,by omega,by omega,px,e9,g5.same s59,okl,by omega,nN.2,fun pa ps H10 hpa s10 e10 g10 w10 v10=>?_⟩
 have s510:=s59.trans s10
 have lnx:(Bz (Ao ls) h xs s).length<=900:=by
  unfold Bz
  refine Nat.le_trans (CD ..).1 ?_
  omega
 subst_eqs
 refine ⟨.list (ls.map lnD),.list (ls.map lnD),.lst (SqL.of (s10 _ _ e9)) (GD (g5.same s510)),.lst (SqL.of (s510 _ _ e5)) (GD (g5.same s510)),(Ei ls).shaped (by decide),(Ei ls).shaped (by decide),?_⟩
 rw [(Ei ls).eqv]
 subst_eqs
 refine ⟨_,_,_,_,rfl,BO.lst e10,BN,?_⟩
 subst_eqs
 refine ⟨pa,sh,lo,h,s,ps,ls,xs,rfl,e10,(fun r m=>(g10 r m).1),v10,s510 _ _ e5,g5.same s510,okl,l13,nN.1,nN.2,s510 _ _ lo5,px,by omega,by omega,by omega,lnx,fun H11 s11=>?_⟩
 have s511:=s510.trans s11
 subst_eqs
 have g11:∀r∈ps,RqG H11 r:=fun r m=>((g10 r m).1).same s11
 have e11:=s11 _ _ e10
 have cl:=CD (Ao ls) h xs ((AG (Ao ls)).fdiv ((s:Int)+1)+1) (h+1) (CK (Ao ls).length h) (2 ^ h - 1) s
 have pl:ps.length=(Bz (Ao ls) h xs s).length:=by
  have:=congrArg List.length v10
  rwa [length_map,length_map] at this
 have p6:ps.length<=6:=by have:(Bz (Ao ls) h xs s).length<=h+1:=cl.1;omega
 have dl:(Ao ls).length=ls.length:=by unfold Ao;rw [length_map]
 have zr:∀r∈ps,r.2.1.2.length<=13/\r.2.2.1.2.length=h+1/\∀y∈r.2.1.2,y.2.length=h+1:=fun r m=>by
  have:rqV r∈(Bz (Ao ls) h xs s).map DJ:=by rw [<- v10];exact mem_map.mpr ⟨r,m,rfl⟩
  obtain ⟨x,xm,ex⟩:=mem_map.mp this
  obtain ⟨z1,z2,z3⟩:=JC _ _ _ _ _ _ _ _ (fun x k=>by rw [eq_of_mem_replicate k];exact length_replicate ..) x xm
  have q1:=congrArg (fun z:Rv=>z.1.length) ex
  have q2:=congrArg (fun z:Rv=>z.2.1.length) ex
  have q3:x.1.map (fun r=>r.map pr)=r.2.1.2.map fun x=>x.2.map (·.2):=congrArg (fun z:Rv=>z.1) ex
  unfold DJ rqV at q1 q2
  dsimp only at q1 q2
  rw [length_map,length_map] at q1 q2
  refine ⟨by omega,by omega,fun y ym=>?_⟩
  have:y.2.map (·.2)∈x.1.map (fun r=>r.map pr):=by rw [q3];exact mem_map.mpr ⟨y,ym,rfl⟩
  obtain ⟨w,wm,ew⟩:=mem_map.mp this
  have:=congrArg List.length ew
  rw [length_map,length_map,z3 w wm] at this
  exact this.symm
 have rql:(rqs ps).length=ps.length:=length_map ..
 refine ⟨⟨_,SqL.of e11⟩,?_⟩
 refine Lf (zs:=rqs ps) rfl rfl rfl (by rw [rql];exact AL (by omega)) (fun D i ys G=>∃cs:List Rq,ys=rqs cs/\G D=some (.lst ys)/\Az H11 G/\(∀r∈cs,RqG G r/\Ge H11 r/\JQ D r)/\cs.map rqV=(ps.take i).map rqV) (fun D hD=>⟨[],rfl,Ab,Af hD _,(fun _ m=>absurd m List.not_mem_nil),rfl⟩) (fun D i ys G hq=>by
  obtain ⟨cs,f1,f2,_,_,f5⟩:=hq
  refine ⟨f2,?_⟩
  have a:=congrArg List.length f5
  rw [length_map,length_map] at a
  rw [f1]
  unfold rqs
  rw [length_map,a]
  exact length_take_le _ _) (fun D i ys G hD hq=>by
  obtain ⟨_,_,_,f3,_⟩:=hq
  exact SqL.of (f3 _ _ e11)) ?_ ?_
 ·rintro L i w ys J K1 K2 hL hw ⟨cs,rfl,eL,sJ,gc,ec⟩ kk1 kk2
  obtain ⟨r,hr0,rfl⟩:∃r,ps[i]?=some r/\w=.ref r.1:=by
   unfold rqs at hw
   rw [List.getElem?_map] at hw
   obtain ⟨r,h1,h2⟩:=Option.map_eq_some_iff.mp hw
   exact ⟨r,h1,h2.symm⟩
  have rm:=mem_of_getElem? hr0
  have g:=(g11 r rm).same sJ
  have r6:=(zr r rm).1
  have grl:=g.rl
  have gsl:=g.sl
  refine ⟨r.1,_,_,_,rfl,SqT.of g.t,?_⟩
  refine yes (ifT rfl ?_)
  subst_eqs
  refine ⟨⟨_,SqL.of grl⟩,?_⟩
  refine Bk (xs:=rwv r.2.1.2) (by unfold rwv;rw [length_map];exact AL (by omega)) (fun D k ys G=>∃ws:List Rw,ys=rwv ws/\G D=some (.lst ys)/\Az J G/\(∀x∈ws,RwG G x/\J x.1=none/\x.1≠D)/\ws.map (fun x=>x.2.map (·.2))=(r.2.1.2.take k).map fun x=>x.2.map (·.2)) (fun D hD=>⟨[],rfl,Ab,Af hD _,(fun _ m=>absurd m List.not_mem_nil),rfl⟩) (fun D k ys G hq=>by
   obtain ⟨ws,f1,f2,_,_,f5⟩:=hq
   refine ⟨f2,?_⟩
   have a:=congrArg List.length f5
   rw [length_map,length_map] at a
   rw [f1]
   unfold rwv
   rw [length_map,a]
   exact length_take_le _ _) (fun D k ys G hD hq=>by
   obtain ⟨_,_,_,f3,_⟩:=hq
   exact SqL.of (f3 _ _ grl)) ?_ ?_
  ·rintro D k y ys G K3 K4 hD hy ⟨ws,rfl,f2,f3,f4,f5⟩ kk3 kk4
   obtain ⟨x,hx,rfl⟩:∃x,r.2.1.2[k]?=some x/\y=.ref x.1:=by
    unfold rwv at hy
    rw [List.getElem?_map] at hy
    obtain ⟨x,h1,h2⟩:=Option.map_eq_some_iff.mp hy
    exact ⟨x,h1,h2.symm⟩
   have xm:=mem_of_getElem? hx
   have xl:=f3 _ _ (g.rg x xm).1
   refine yes (ifT rfl ?_)
   subst_eqs
   intro c hc
   have g1:=Af hc (.lst (fqv x.2))
   have ec1:(upd G c (.lst (fqv x.2))) c=some (.lst (fqv x.2)):=Ab
   generalize upd G c (.lst (fqv x.2))=G1 at g1 ec1 ⊢
   have eD:=g1 _ _ f2
   have cD:c≠D:=fun z=>by rw [z,f2] at hc;cases hc
   have up:∀{x:Rw},RwG G1 x->x.1≠D->RwG (upd G1 D (.lst (rwv ws++[V.ref c]))) x:=fun {x} k n=>⟨by rw [Ap n];exact k.1,fun f fm=>by rw [FqG,Ap (BV (k.2 f fm) eD (fun z=>by cases z))];exact k.2 f fm⟩
   refine kk3 _ _ eD ⟨ws++[(c,x.2)],by unfold rwv;rw [map_append];rfl,Ab,A0 (f3.trans g1) hD,fun z m=>?_,?_⟩
   ·rcases mem_append.mp m with m | m
    ·exact ⟨up ⟨g1 _ _ (f4 z m).1.1,fun f fm=>g1 _ _ ((f4 z m).1.2 f fm)⟩ (f4 z m).2.2,(f4 z m).2.1,(f4 z m).2.2⟩
    ·rw [mem_singleton.mp m]
     exact ⟨up ⟨ec1,fun f fm=>(f3.trans g1) _ _ ((g.rg x xm).2 f fm)⟩ cD,none_of f3 hc,cD⟩
   ·rw [map_append,f5,take_succ,hx,map_append]
    rfl
  rintro D ys G hD ⟨ws,rfl,f2,f3,f4,f5⟩
  rw [show (rwv r.2.1.2).length=r.2.1.2.length from length_map _,take_length] at f5
  have gsl1:=f3 _ _ gsl
  subst_eqs
  intro c hc
  have g1:=Af hc (.lst (fqv r.2.2.1.2))
  have ec1:(upd G c (.lst (fqv r.2.2.1.2))) c=some (.lst (fqv r.2.2.1.2)):=Ab
  generalize upd G c (.lst (fqv r.2.2.1.2))=G1 at g1 ec1 ⊢
  subst_eqs
  refine ⟨(by show 3<=sizeLine;decide),fun t ht=>?_⟩
  have g2:=Af ht (.tup [V.ref D,V.ref c,V.ref r.2.2.2.1])
  have et:(upd G1 t (.tup [V.ref D,V.ref c,V.ref r.2.2.2.1])) t=some (.tup [V.ref D,V.ref c,V.ref r.2.2.2.1]):=Ab
  generalize upd G1 t (.tup [V.ref D,V.ref c,V.ref r.2.2.2.1])=G2 at g2 et ⊢
  have s2:=(f3.trans g1).trans g2
  have eL2:=s2 _ _ eL
  have nL:∀{z:Addr},J z=none->z≠L:=fun e z=>by rw [z,eL] at e;cases e
  have cJ:J c=none:=none_of f3 hc
  have nw:RqG G2 (t,(D,ws),(c,r.2.2.1.2),r.2.2.2):=⟨et,(g1.trans g2) _ _ f2,fun x m=>⟨(g1.trans g2) _ _ (f4 x m).1.1,fun f fm=>(g1.trans g2) _ _ ((f4 x m).1.2 f fm)⟩,g2 _ _ ec1,fun f fm=>s2 _ _ (g.sg f fm),s2 _ _ g.d⟩
  have aw:JQ L (t,(D,ws),(c,r.2.2.1.2),r.2.2.2):=⟨nL hD,nL cJ,fun x m=>nL (f4 x m).2.1⟩
  refine kk1 _ _ eL2 ⟨cs++[(t,(D,ws),(c,r.2.2.1.2),r.2.2.2)],by unfold rqs;rw [map_append];rfl,Ab,A0 (sJ.trans s2) hL,fun z m=>?_,?_⟩
  ·rcases mem_append.mp m with m | m
   ·exact ⟨((gc z m).1.same s2).upd eL2 (gc z m).2.2,(gc z m).2.1,(gc z m).2.2⟩
   ·rw [mem_singleton.mp m]
    exact ⟨nw.upd eL2 aw,⟨none_of sJ hD,none_of sJ cJ,fun x m=>none_of sJ (f4 x m).2.1⟩,aw⟩
  ·rw [map_append,ec,take_succ,hr0,map_append]
   show _++[_]=_++[_]
   unfold rqV
   dsimp only
   rw [f5]
 rintro D ys H12 hD ⟨cs,rfl,eD,s12,gc,ec⟩
 rw [rql,take_length] at ec
 have s512:=s511.trans s12
 have am12:=(((s9.trans s10).trans s11).trans s12) _ _ am
 subst_eqs
 refine ⟨a,dx,_,rfl,am12,rfl,?_⟩
 subst_eqs
 refine ⟨(by show 1<=sizeLine;decide),fun x1 hx1=>?_⟩
 have q1:=Af hx1 (.tup [V.int 1])
 have ex1:(upd H12 x1 (.tup [V.int 1])) x1=some (.tup [V.int 1]):=Ab
 generalize upd H12 x1 (.tup [V.int 1])=Q1 at q1 ex1 ⊢
 subst_eqs
 refine ⟨(by show 2<=sizeLine;decide),fun x2 hx2=>?_⟩
 have q2:=Af hx2 (.tup [V.ref x1,V.int 5])
 have ex2:(upd Q1 x2 (.tup [V.ref x1,V.int 5])) x2=some (.tup [V.ref x1,V.int 5]):=Ab
 generalize upd Q1 x2 (.tup [V.ref x1,V.int 5])=Q2 at q2 ex2 ⊢
 subst_eqs
 refine ⟨(by show 2<=sizeLine;decide),fun x3 hx3=>?_⟩
 have q3:=Af hx3 (.tup [V.int 2,V.int 1])
 have ex3:(upd Q2 x3 (.tup [V.int 2,V.int 1])) x3=some (.tup [V.int 2,V.int 1]):=Ab
 generalize upd Q2 x3 (.tup [V.int 2,V.int 1])=Q3 at q3 ex3 ⊢
 subst_eqs
 refine ⟨(by show 2<=sizeLine;decide),fun x4 hx4=>?_⟩
 have q4:=Af hx4 (.tup [V.ref x3,V.int 4])
 have ex4:(upd Q3 x4 (.tup [V.ref x3,V.int 4])) x4=some (.tup [V.ref x3,V.int 4]):=Ab
 generalize upd Q3 x4 (.tup [V.ref x3,V.int 4])=Q4 at q4 ex4 ⊢
 subst_eqs
 refine ⟨(by show 2<=sizeLine;decide),fun x5 hx5=>?_⟩
 have q5:=Af hx5 (.lst [V.ref x2,V.ref x4])
 have ex5:(upd Q4 x5 (.lst [V.ref x2,V.ref x4])) x5=some (.lst [V.ref x2,V.ref x4]):=Ab
 generalize upd Q4 x5 (.lst [V.ref x2,V.ref x4])=Q5 at q5 ex5 ⊢
 subst_eqs
 have q15:=(((q1.trans q2).trans q3).trans q4).trans q5
 have p2h:(4:Int)<=2 ^ h:=by
  have:=Nat.pow_le_pow_right (show 0 < 2 by decide) (show 2<=h by omega)
  exact_mod_cast this
 refine ⟨a,x5,h,s,xs,[(x2,x1,[1],5),(x4,x3,[2,1],4)],rfl,isA.same ((((s9.trans s10).trans s11).trans s12).trans q15),by omega,by omega,by omega,by omega,px,ex5,(fun q m=>?_),(fun q m=>?_),(by show 2<=60;decide),(by show (5+(4+0):Int) < 2 ^ 40;decide),fun pb ps2 H13 _ s13' _ _ _ _=>?_⟩
 ·rcases mem_cons.mp m with rfl | m
  ·exact ⟨((q3.trans q4).trans q5) _ _ ex2,(((q2.trans q3).trans q4).trans q5) _ _ ex1⟩
  ·rw [mem_singleton.mp m]
   exact ⟨q5 _ _ ex4,(q4.trans q5) _ _ ex3⟩
 ·rcases mem_cons.mp m with rfl | m
  ·exact ⟨⟨fun x k=>by rw [mem_singleton.mp k];exact ⟨by decide,by omega⟩,(by show 1<=12;decide)⟩,(by show (0:Int)<=5;decide),AK (by show (-(2 ^ _):Int) < 5;decide) (by show (5:Int) < 2 ^ _;decide)⟩
  ·rw [mem_singleton.mp m]
   refine ⟨⟨fun x k=>?_,(by show 2<=12;decide)⟩,(by show (0:Int)<=4;decide),AK (by show (-(2 ^ _):Int) < 4;decide) (by show (4:Int) < 2 ^ _;decide)⟩
   rcases mem_cons.mp k with rfl | k
   ·exact ⟨by decide,by omega⟩
   ·rw [mem_singleton.mp k];exact ⟨by decide,by omega⟩
 have s13:=q15.trans s13'
 obtain ⟨r0,rest,eps⟩:∃r0 rest,ps=r0 :: rest:=exists_cons_of_ne_nil (fun z=>(cl.2 (by omega)) (length_eq_zero_iff.mp (by show (Bz (Ao ls) h xs s).length=0;rw [<- pl,z];rfl)))
 have r0m:r0∈ps:=by rw [eps];exact mem_cons_self ..
 have g13:∀r∈ps,RqG H13 r:=fun r m=>(g11 r m).same (s12.trans s13)
 have e13:=(s12.trans s13) _ _ e11
 have g0:=g13 r0 r0m
 have gt0:=g0.t
 have grl0:=g0.rl
 have at0':atI (rqs ps) 0=some (.ref r0.1):=by rw [eps];exact Cb (j:=0) rfl
 have rf:=zr r0 r0m
 have aw0:=(g10 r0 r0m).2.1
 have apt:=O1 g0 (fun z=>by rw [z] at rf;exact absurd rf.2.1 (by show ¬ (0=_);omega))
 have ll:=Ms e13 g0
 have rwl:(rwv r0.2.1.2).length=r0.2.1.2.length:=length_map ..
 clear q1 q2 q3 q4 q5 ex1 ex2 ex3 ex4 ex5 hx1 hx2 hx3 hx4 hx5 s13' q15
 subst_eqs
 refine ⟨pa,_,_,_,rfl,rfl,SqL.of e13,at0',?_⟩
 refine ⟨r0.1,_,_,_,rfl,rfl,SqT.of gt0,rfl,?_⟩
 refine ⟨_,rfl,⟨_,SqL.of grl0⟩,Dl (xs:=rwv r0.2.1.2) (fun i σ' G=>∃v10:Option V,σ'=[some (.ref p),some (.int (h:Int)),some (.int (s:Int)),some (.ref lo),some (.int most),some (.ref sh),some (.ref a),some (.ref le),some (.ref pa),some (.ref D),v10,none]/\DI (chg pa r0) H13 G/\G pa=some (.lst (rqs ps))/\G r0.2.1.1=some (.lst (rwv r0.2.1.2))/\∀c,(c=r0.2.2.1.1\/∃x∈r0.2.1.2,x.1=c)->∃vs,G c=some (.lst vs)/\vs.length<=20+i) ⟨none,rfl,DI.refl _ _,e13,grl0,fun c k=>?_⟩ (fun i σ' J _ hq_=>by obtain ⟨_,_,_,_,e,_⟩:=hq_;exact SqL.of e) ?_ ?_⟩
 ·rcases k with rfl | ⟨x,xm,rfl⟩
  ·exact ⟨_,g0.sl,by unfold fqv;rw [length_map,rf.2.1];omega⟩
  ·exact ⟨_,(g0.rg x xm).1,by unfold fqv;rw [length_map,rf.2.2 x xm];omega⟩
 ·rintro i w σ' G hw ⟨v10',rfl,oG,epG,erG,lG⟩
  have i13:i < 13:=by
   have:=(List.getElem?_eq_some_iff.mp hw).1
   omega
  obtain ⟨x,hx,rfl⟩:∃x,r0.2.1.2[i]?=some x/\w=.ref x.1:=by
   unfold rwv at hw
   rw [List.getElem?_map] at hw
   obtain ⟨x,h1,h2⟩:=Option.map_eq_some_iff.mp hw
   exact ⟨x,h1,h2.symm⟩
  have xm:=mem_of_getElem? hx
  obtain ⟨vs,ev,vl'⟩:=lG x.1 (.inr ⟨x,xm,rfl⟩)
  subst_eqs
  refine ⟨.inl ⟨rfl,_,SqL.of ev⟩,?_⟩
  subst_eqs
  refine ⟨(by show 2<=sizeLine;decide),fun t ht=>?_⟩
  have g1:=Af ht (.tup [V.int 0,V.int 1])
  have et:(upd G t (.tup [V.int 0,V.int 1])) t=some (.tup [V.int 0,V.int 1]):=Ab
  generalize upd G t (.tup [V.int 0,V.int 1])=G1 at g1 et ⊢
  subst_eqs
  refine ⟨x.1,_,_,rfl,rfl,g1 _ _ ev,AT (by omega),?_⟩
  have mx:x.1∈chg pa r0:=mem_cons_of_mem _ (mem_cons_of_mem _ (mem_cons_of_mem _ (mem_map.mpr ⟨x,xm,rfl⟩)))
  refine ⟨some (.ref x.1),rfl,(oG.same g1).upd mx,by rw [Ap (Ne.symm (aw0.2.2 x xm))];exact g1 _ _ epG,by rw [Ap (apt.1 x xm)];exact g1 _ _ erG,fun c k=>?_⟩
  by_cases e:c=x.1
  ·rw [e]
   exact ⟨_,Ab,by rw [length_append];show vs.length+1<=_;omega⟩
  ·obtain ⟨us,eu,ul⟩:=lG c k
   exact ⟨us,by rw [Ap e];exact g1 _ _ eu,by omega⟩
 rintro σ' G ⟨v10',rfl,oG,epG,erG,lG⟩
 have gtG:=oG.tup ll gt0
 rw [rwl] at lG
 subst_eqs
 refine ⟨pa,_,_,_,rfl,rfl,SqL.of epG,at0',?_⟩
 refine ⟨r0.1,_,_,_,rfl,rfl,SqT.of gtG,rfl,?_⟩
 refine ⟨.inl ⟨rfl,_,SqL.of erG⟩,?_⟩
 subst_eqs
 refine ⟨(by show 0<=sizeLine;decide),fun z1 hz1=>?_⟩
 have g1:=Af hz1 (.lst [])
 have ez1:(upd G z1 (.lst [])) z1=some (.lst []):=Ab
 generalize upd G z1 (.lst [])=G1 at g1 ez1 ⊢
 refine ⟨r0.2.1.1,_,_,rfl,rfl,g1 _ _ erG,(by rw [rwl];exact AT (by omega)),?_⟩
 have oG1:DI (chg pa r0) H13 (upd G1 r0.2.1.1 (.lst (rwv r0.2.1.2++[V.ref z1]))):=(oG.same g1).upd (mem_cons_of_mem _ (mem_cons_self ..))
 have epG1:(upd G1 r0.2.1.1 (.lst (rwv r0.2.1.2++[V.ref z1]))) pa=some (.lst (rqs ps)):=by rw [Ap (Ne.symm aw0.1)];exact g1 _ _ epG
 obtain ⟨us,eu,ul⟩:=lG r0.2.2.1.1 (.inl rfl)
 have eu1:(upd G1 r0.2.1.1 (.lst (rwv r0.2.1.2++[V.ref z1]))) r0.2.2.1.1=some (.lst us):=by rw [Ap (Ne.symm apt.2)];exact g1 _ _ eu
 generalize upd G1 r0.2.1.1 (.lst (rwv r0.2.1.2++[V.ref z1]))=G2 at oG1 epG1 eu1 ⊢
 have gtG2:=oG1.tup ll gt0
 subst_eqs
 refine ⟨pa,_,_,_,rfl,rfl,SqL.of epG1,at0',?_⟩
 refine ⟨r0.1,_,_,_,rfl,rfl,SqT.of gtG2,rfl,?_⟩
 refine ⟨.inl ⟨rfl,_,SqL.of eu1⟩,?_⟩
 subst_eqs
 refine ⟨(by show 2<=sizeLine;decide),fun z2 hz2=>?_⟩
 have g3:=Af hz2 (.tup [V.int 1,V.int 2])
 have ez2:(upd G2 z2 (.tup [V.int 1,V.int 2])) z2=some (.tup [V.int 1,V.int 2]):=Ab
 generalize upd G2 z2 (.tup [V.int 1,V.int 2])=G3 at g3 ez2 ⊢
 refine ⟨r0.2.2.1.1,_,_,rfl,rfl,g3 _ _ eu1,AT (by omega),?_⟩
 have o4:DI (chg pa r0) H13 (upd G3 r0.2.2.1.1 (.lst (us++[V.ref z2]))):=(oG1.same g3).upd (mem_cons_of_mem _ (mem_cons_of_mem _ (mem_cons_self ..)))
 have ep4:(upd G3 r0.2.2.1.1 (.lst (us++[V.ref z2]))) pa=some (.lst (rqs ps)):=by rw [Ap (Ne.symm aw0.2.1)];exact g3 _ _ epG1
 generalize upd G3 r0.2.2.1.1 (.lst (us++[V.ref z2]))=G4 at o4 ep4 ⊢
 have ll11:=Ms e11 (g11 r0 r0m)
 have nD:D ∉ chg pa r0:=fun m=>by
  obtain ⟨ys,z⟩:=ll11 D m
  rw [hD] at z
  cases z
 have s913:=((s10.trans s11).trans s12).trans s13
 have late:∀{G:Hp},DI (chg pa r0) H13 G->G D=some (.lst (rqs cs))/\(∀r∈cs,RqG G r)/\Az H9 G:=fun {G} o=>⟨o _ _ (s13 _ _ eD) nD,fun r m=>((gc r m).1.same s13).offs o ll (MX ll11 (gc r m).2.1),Nx s913 o hpa (g10 r0 r0m).2.2⟩
 have gR:∀r∈rest,RqG G4 r:=fun r m=>by
  have rm:r∈ps:=by rw [eps];exact mem_cons_of_mem _ m
  have ap:Apt r0 r:=by rw [eps] at w10;exact (pairwise_cons.mp w10).1 r m
  exact (g13 r rm).offs o4 ll (NM ap (g10 r rm).2.1)
 obtain ⟨eK4,gK4,sB4⟩:=late o4
 have ecd:(cs.drop 1).map rqV=rest.map rqV:=by rw [map_drop,ec,eps];rfl
 subst_eqs
 refine ⟨pa,_,rfl,SqL.of ep4,fun y1 hy1=>?_⟩
 rw [show HU (rqs ps) (some 1) none=rqs rest from by rw [show HU (rqs ps) (some 1) none=(rqs ps).drop 1 from KA (j:=1),eps];rfl]
 have g5':=Af hy1 (.lst (rqs rest))
 have ey1:(upd G4 y1 (.lst (rqs rest))) y1=some (.lst (rqs rest)):=Ab
 generalize upd G4 y1 (.lst (rqs rest))=G5 at g5' ey1 ⊢
 subst_eqs
 refine ⟨D,_,rfl,SqL.of (g5' _ _ eK4),fun y2 hy2=>?_⟩
 rw [show HU (rqs cs) (some 1) none=rqs (cs.drop 1) from by rw [show HU (rqs cs) (some 1) none=(rqs cs).drop 1 from KA (j:=1)];unfold rqs;rw [map_drop]]
 have g6:=Af hy2 (.lst (rqs (cs.drop 1)))
 have ey2:(upd G5 y2 (.lst (rqs (cs.drop 1)))) y2=some (.lst (rqs (cs.drop 1))):=Ab
 generalize upd G5 y2 (.lst (rqs (cs.drop 1)))=G6 at g6 ey2 ⊢
 have g46:=g5'.trans g6
 have rp1:=Gv (K:=K) (g6 _ _ ey1) (fun r m=>(gR r m).same g46)
 have rp2:=Gv (K:=K) ey2 (fun r m=>(gK4 r (mem_of_mem_drop m)).same g46)
 rw [ecd] at rp2
 refine ⟨_,_,rp1,rp2,(Ec _).shaped (by decide),(Ec _).shaped (by decide),?_⟩
 rw [(Ec _).eqv]
 have o6:=o4.same g46
 have ep6:=g46 _ _ ep4
 clear rp1 rp2 ey1 ey2 ecd gR eK4 gK4 sB4
 subst_eqs
 refine ⟨.inl ⟨rfl,_,SqL.of ep6⟩,?_⟩
 refine ⟨pa,_,_,rfl,rfl,ep6,List.getElem?_eq_getElem (by rw [rql,eps];show _+1 - 1 < _+1;omega),?_⟩
 have o7:DI (chg pa r0) H13 (upd G6 pa (.lst (rqs ps).dropLast)):=o6.upd (mem_cons_self ..)
 generalize upd G6 pa (.lst (rqs ps).dropLast)=G7 at o7 ⊢
 obtain ⟨eK7,gK7,sB7⟩:=late o7
 clear late ll11 nD gc eD s13 o6 ep6 ep4 o4 eu1 epG1 oG1 lG erG epG oG gtG gtG2 g46 g6 g5' g1 g3 apt ll aw0 grl0 gt0 g0 g13 e13 s12 hD g11 e11 w10
 have e97:=(s59.trans sB7) _ _ e5
 have g97:=g5.same (s59.trans sB7)
 have nb:∀q∈ls,q.2.2.2<=64*10 ^ 9:=fun q k=>by
  rcases lc with rfl | rfl
  ·have k3:q.2.2.2<=64*most:=(dr.ok (q.2.2.1,q.2.2.2) (mem_map.mpr ⟨q,k,rfl⟩)).2.2
   have e:(10:Int) ^ 9=1000000000:=rfl
   omega
  ·exact nomatch k
 subst_eqs
 refine ⟨⟨_,SqL.of e97⟩,?_⟩
 refine Ex (zs:=vls ls) rfl rfl (by rw [vl];exact AL (by omega)) (fun D2 i ys G=>∃ms:Ls,ys=vls ms/\ms.length=i/\G D2=some (.lst ys)/\Az G7 G/\Br G ms/\(∀q∈ms,OkT h q.2.2.1/\0<=q.2.2.2/\q.2.2.2<=64*10 ^ 9+1)) (fun D2 hD2=>⟨[],rfl,rfl,Ab,Af hD2 _,(fun _ m=>absurd m List.not_mem_nil),(fun _ m=>absurd m List.not_mem_nil)⟩) (fun D2 i ys G hq=>by
  obtain ⟨ms,f1,f2,f3,_⟩:=hq
  exact ⟨f3,by rw [f1,BI,f2];exact Nat.le_refl _⟩) (fun D2 i ys G hD2 hq=>by
  obtain ⟨_,_,_,_,f4,_⟩:=hq
  exact SqL.of (f4 _ _ e97)) ?_ ?_
 ·rintro D2 i w ys G K1 K2 hD2 hw ⟨ms,rfl,ml,eM,sM,gM,oM⟩ kk1 kk2
  obtain ⟨q0,hq0,rfl⟩:∃x,ls[i]?=some x/\w=.ref x.1:=by
   unfold vls at hw
   rw [List.getElem?_map] at hw
   obtain ⟨x,h1,h2⟩:=Option.map_eq_some_iff.mp hw
   exact ⟨x,h1,h2.symm⟩
  have qm:=mem_of_getElem? hq0
  have gG:=g97.same sM
  have gq:=gG q0 qm
  obtain ⟨f0,lr,els⟩:∃f0 lr,ls=f0 :: lr:=exists_cons_of_ne_nil (fun z=>by rw [z] at qm;exact nomatch qm)
  have gf:=gG f0 (by rw [els];exact mem_cons_self ..)
  have at0:atI (vls ls) 0=some (.ref f0.1):=by rw [els];exact Cb (j:=0) rfl
  refine ⟨q0.1,_,_,rfl,SqT.of gq.1,?_⟩
  refine yes (ifT rfl ?_)
  subst_eqs
  refine ⟨sh,_,_,_,rfl,rfl,SqL.of (sM _ _ e97),at0,?_⟩
  refine ⟨f0.1,_,_,_,rfl,rfl,SqT.of gf.1,rfl,?_⟩
  refine ⟨_,_,.tup (SqT.of gq.2) (.ints _),.tup (SqT.of gf.2) (.ints _),(EL (lay_ints 0 _)).shaped (by decide),(EL (lay_ints 0 _)).shaped (by decide),?_⟩
  generalize PyData.eqv _ _=bb
  refine .inr ⟨_,rfl,?_⟩
  refine ⟨_,_,rfl,rfl,?_⟩
  refine ⟨(by show 2<=sizeLine;decide),fun t ht=>?_⟩
  have g1:=Af ht (.tup [V.ref q0.2.1,V.int (q0.2.2.2+if bb=true then 1 else 0)])
  have et:(upd G t (.tup [V.ref q0.2.1,V.int (q0.2.2.2+if bb=true then 1 else 0)])) t=some (.tup [V.ref q0.2.1,V.int (q0.2.2.2+if bb=true then 1 else 0)]):=Ab
  generalize upd G t (.tup [V.ref q0.2.1,V.int (q0.2.2.2+if bb=true then 1 else 0)])=G1 at g1 et ⊢
  have eM1:=g1 _ _ eM
  have tu:∀{c:Addr} {us:List V},G1 c=some (.tup us)->(upd G1 D2 (.lst (vls ms++[V.ref t]))) c=some (.tup us):=fun ec=>by rw [Ap (BV ec eM1 (fun z=>by cases z))];exact ec
  refine kk1 _ _ eM1 ⟨ms++[(t,q0.2.1,q0.2.2.1,q0.2.2.2+if bb=true then 1 else 0)],by unfold vls;rw [map_append];rfl,by rw [length_append,ml];rfl,Ab,A0 (sM.trans g1) hD2,fun z m=>?_,fun z m=>?_⟩
  ·rcases mem_append.mp m with m | m
   ·exact ⟨tu (g1 _ _ (gM z m).1),tu (g1 _ _ (gM z m).2)⟩
   ·rw [mem_singleton.mp m]
    exact ⟨tu et,tu (g1 _ _ gq.2)⟩
  ·rcases mem_append.mp m with m | m
   ·exact oM z m
   ·rw [mem_singleton.mp m]
    have k1:=okl q0 qm
    have k2:=nb q0 qm
    refine ⟨k1.1,?_⟩
    dsimp only
    split <;> omega
 rintro M ys G8 hM ⟨ms,rfl,ml,eM,s8,gM,oM⟩
 rw [vl] at ml
 have s98:=sB7.trans s8
 have e9':(10:Int) ^ 9=1000000000:=rfl
 have okm:∀q∈ms,OkT h q.2.2.1/\0<=q.2.2.2/\Sz 64 q.2.2.2:=fun q k=>by
  obtain ⟨k1,k2,k3⟩:=oM q k
  exact ⟨k1,k2,AK (by omega) (by omega)⟩
 have nM:=Io (B:=64*10 ^ 9+1) (by decide) (ds:=Ao ms) fun q k=>by
  obtain ⟨x,xm,rfl⟩:=mem_map.mp k
  exact (oM x xm).2
 have dm:(Ao ms).length=ms.length:=by unfold Ao;rw [length_map]
 have nM2:AG (Ao ms) < 2 ^ 40:=by
  have:=Int.mul_le_mul_of_nonneg_right (show (((Ao ms).length:Nat):Int)<=13 by omega) (show (0:Int)<=64*10 ^ 9+1 by decide)
  have e:(2:Int) ^ 40=1099511627776:=rfl
  omega
 have lnm:(Bz (Ao ms) h xs s).length<=900:=by
  unfold Bz
  refine Nat.le_trans (CD ..).1 ?_
  omega
 have am8:=(s9.trans s98) _ _ am
 subst_eqs
 refine ⟨a,dx,_,rfl,am8,rfl,?_⟩
 subst_eqs
 refine ⟨a,M,h,s,xs,ms,rfl,isA.same (s9.trans s98),by omega,by omega,by omega,by omega,px,eM,gM,okm,by omega,nM2,fun pc pt H14 _ s14 e14 g14 _ v14=>?_⟩
 subst_eqs
 refine ⟨pc,M,lo,h,s,pt,ms,xs,rfl,e14,(fun r m=>(g14 r m).1),v14,s14 _ _ eM,gM.same s14,okm,by omega,nM.1,nM2,((s59.trans s98).trans s14) _ _ lo5,px,by omega,by omega,by omega,lnm,fun H15 s15=>?_⟩
 have s815:=s14.trans s15
 have s915:=s98.trans s815
 have am15:=s815 _ _ am8
 subst_eqs
 refine ⟨a,dx,_,rfl,am15,rfl,?_⟩
 subst_eqs
 refine ⟨a,le,h,s,xs,ls,rfl,isA.same (s9.trans s915),by omega,by omega,by omega,by omega,px,s915 _ _ e9,g5.same (s59.trans s915),okl,by omega,nN.2,fun pd pu H16 _ s16 e16 g16 _ v16=>?_⟩
 have s716:=(s8.trans s815).trans s16
 have s916:=s915.trans s16
 have rp1:=Gv (K:=K) e16 (fun r m=>(g16 r m).1)
 rw [v16] at rp1
 have rp2:=Gv (K:=K) (s716 _ _ eK7) (fun r m=>(gK7 r m).same s716)
 rw [ec,v10] at rp2
 subst_eqs
 refine ⟨_,_,rp1,rp2,(Ec _).shaped (by decide),(Ec _).shaped (by decide),?_⟩
 rw [(Ec _).eqv]
 refine ⟨_,rfl,ifT rfl ?_⟩
 subst_eqs
 refine ⟨.list (ls.map lnD),.list (ls.map lnD),.lst (SqL.of (s916 _ _ e9)) (GD (g5.same (s59.trans s916))),.lst (SqL.of ((s59.trans s916) _ _ e5)) (GD (g5.same (s59.trans s916))),(Ei ls).shaped (by decide),(Ei ls).shaped (by decide),?_⟩
 rw [(Ei ls).eqv]
 exact q _
end
theorem bindsD {K:PySem.W.Frag} {fd:FuncData} {ps:List Str} {ds:List Value} {m:Nat} (hm:m+ds.length=ps.length) (h:∀s:Shared,K.In s.heap->∀us:List Value,us.length=m->BindsTo s fd ⟨us,[]⟩ (ps.zip (us++ds))):A1 K fd ps ds:=fun s us X hl=>h s X us (by rw [length_append] at hl;omega)
theorem by_len1 {α:Type} {P:List α->Prop} (h:∀x0,P [x0]):∀us:List α,us.length=1->P us
 | [_],_=>h _
theorem by_len2 {α:Type} {P:List α->Prop} (h:∀x0 x1,P [x0,x1]):∀us:List α,us.length=2->P us
 | [_,_],_=>h _ _
theorem by_len3 {α:Type} {P:List α->Prop} (h:∀x0 x1 x2,P [x0,x1,x2]):∀us:List α,us.length=3->P us
 | [_,_,_],_=>h _ _ _
theorem by_len4 {α:Type} {P:List α->Prop} (h:∀x0 x1 x2 x3,P [x0,x1,x2,x3]):∀us:List α,us.length=4->P us
 | [_,_,_,_],_=>h _ _ _ _
theorem by_len5 {α:Type} {P:List α->Prop} (h:∀x0 x1 x2 x3 x4,P [x0,x1,x2,x3,x4]):∀us:List α,us.length=5->P us
 | [_,_,_,_,_],_=>h _ _ _ _ _
theorem all_mk {l:PySem.W.OpenLaw} {w:World} {K:PySem.W.Frag} {h:Heap} {mg:Str->Option Value} {fa:Addr} {ad:Ads} (X:K.In h) (hfa:mg "law"=some (.ref fa)) (T:Tx K mg ad) (hb:∀(s:Shared) (v:Value),BindsTo s ad.d_law ⟨[v],[]⟩ [("_law_script",v)]) :
 ∃fd:FuncData,(∀(s:Shared) (v:Value),BindsTo s fd ⟨[v],[]⟩ [("_law_script",v)])/\∀base:Heap,K.In base->base.Ns mainGlobals mg->A8 l.prog w K mg base CX0 8 fa fd ["_law_script"] (MM K):=by
 have e:=hfa.symm.trans T.m_law
 cases e
 exact ⟨_,hb,fun base _ _=>S7 T⟩
theorem walk {l:PySem.W.OpenLaw} {q:Program} {loose:List Str} {XP:(Str->Option Value)->Heap->Prop} {YP:World->Heap->Prop} {d:DefRec} {K:Params->PySem.W.Frag} (hn:l.most=some 63) (hdf:d.params.defaults=[])
 (hY:∀(w:World) (h:Heap),YP w h->(K w.params).In h)
 (F:∀(w:World) (mg:Str->Option Value) (fa:Addr) (h:Heap),(K w.params).In h->h.Ns mainGlobals mg->mg d.name=some (.ref fa) ->
  ∃fd:FuncData,(∀(s:Shared) (u:Value),BindsTo s fd ⟨[u],[]⟩ [("_law_script",u)])/\∀base:Heap,(K w.params).In base->base.Ns mainGlobals mg->A8 l.prog w (K w.params) mg base CX0 8 fa fd ["_law_script"] (MM (K w.params))) :
 PySem.W.WalkO q loose XP YP l.row.toRowW d [] (fun f vs=>PySem.call f vs) :=
 L2.walk_of (n:=63) (k:=8) (x:="_law_script") (CX:=fun _=>CX0) (sp:=fun w=>MM (K w.params)) hn (by decide) hdf ⟨rfl,by decide,by decide⟩ hY F (fun _ _ a ns hl _ hS=>⟨a,ns,rfl,hS,hl,fun _=>rfl⟩) fun _ _ _ _ _ z=>z
end Law
open PySem PySem.W PyProof.Rows
set_option maxRecDepth 100000 in
set_option maxHeartbeats 0 in
theorem PySem.Challenge.cw_pollproof_k45_rounds_follow_holds : PySem.Challenge.rw_pollproof_k45_rounds_follow.Holds := by
 refine Head.top ?_
 k_fill
 refine Law.walk (l:=PySem.Challenge.rw_pollproof_k45_rounds_follow) rfl rfl (fun w h Y=>PySem.W.kIn_of Y) ?F
 case F =>
  intro w mg fa h KX G hmg
  refine' Law.all_mk (ad:=Law.Ads.mk ..) KX hmg ?T ?hb
  case T =>
   apply Law.Tx.mk
   all_goals try dsimp only
   all_goals first
    | (refine mg_of KX G ?_;k_is)
    | (refine mg_none_of KX G ?_;k_is)
    | k_is
    | (show _=_;first | k_is | k_exc)
    | (apply L2.fun_mk <;> k_is)
    | exact .all (Law.by_len1 fun _=>rfl)
    | exact .all (Law.by_len2 fun _ _=>rfl)
    | exact .all (Law.by_len3 fun _ _ _=>rfl)
    | exact .all (Law.by_len4 fun _ _ _ _=>rfl)
    | exact .all (Law.by_len5 fun _ _ _ _ _=>rfl)
    | (apply L2.fund_mk <;> k_is)
    | (refine Law.bindsD (m:=4) rfl fun s X=>Law.by_len4 fun _ _ _ _=>?_;refine' binds_K X rfl ?ho ?hs ?h1 ?h2;(case ho=>k_is);(case hs=>exact rfl);(case h1=>exact rfl);(case h2=>exact rfl))
    | (constructor <;> k_is)
  case hb=>exact fun s v=>.of_eq rfl
#print axioms PySem.Challenge.cw_pollproof_k45_rounds_follow_holds
