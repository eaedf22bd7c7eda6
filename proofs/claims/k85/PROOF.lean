import PyProof.Rows.All
import Wide.All
import OpenK.AllK
import Wide.FinOn
import Lean
import PyProof.EqAt
import PyProof.EqKinds
import PyProof.TupleCall
import PySem.Challenge.RW_pollproof_k85_papers_of_pairs_margins
open List
set_option Elab.async false
set_option linter.all false
set_option compiler.extract_closed false
set_option maxRecDepth 100000
namespace Head
open PySem PySem.W PyProof.Rows
def Ps (p:Program) (w:World) (n0:Nat) (ann:Option Value):Nat->SharedT->Thread->Option SharedT
 | 0,_,_=>none
 | n+1,s,t=>match through t with
   | true=>some s
   | false=>match stepOk n0 ann t with
     | false=>none
     | true=>match stepT (denote treeTable) p w s t with
       | some (s',t')=>Ps p w n0 ann n s' t'
       | none=>none
theorem Mo {p:Program} {w:World} {n0:Nat} {ann:Option Value}:∀{n:Nat} {s s':SharedT} {t:Thread},Ps p w n0 ann n s t=some s'->topRun treeTable p w n0 ann n s.abs t=some s'.abs
 | 0,_,_,_,h=>by cases h
 | n+1,s,s',t,h=>by
   unfold Ps at h;unfold topRun
   cases he:through t with
   | true=>rw [he] at h;cases h;rfl
   | false =>
     rw [he] at h
     cases hk:stepOk n0 ann t with
     | false=>rw [hk] at h;cases h
     | true =>
       rw [hk] at h
       cases hs:stepT (denote treeTable) p w s t with
       | none=>rw [hs] at h;cases h
       | some r=>obtain ⟨s2,t2⟩:=r;rw [hs] at h;rw [stepT_spec hs];exact Mo h
def MF:List Obj->Nat->BT->Option BT
 | [],_,t=>some t
 | o :: os,n,t=>match ((t.ins n o).get n).isSome with
   | true=>MF os (n+1) (t.ins n o)
   | false=>none
theorem LU {life:Life}:∀{os:List Obj} {n:Nat} {t t':BT} {xs:List Obj},(absHeap t n life)=⟨xs.toArray,life⟩->MF os n t=some t'->absHeap t' (n+os.length) life=⟨(xs++os).toArray,life⟩
 | [],n,t,t',xs,a,h=>by
   cases h
   rw [append_nil];exact a
 | o :: os,n,t,t',xs,a,h=>by
   unfold MF at h
   cases g:((t.ins n o).get n).isSome with
   | false=>rw [g] at h;cases h
   | true =>
     rw [g] at h
     have b:absHeap (t.ins n o) (n+1) life=⟨(xs++[o]).toArray,life⟩:=by
      rw [absHeap_ins g,a];show (⟨xs.toArray.push o,life⟩:Heap)=_;rw [push_toArray]
     have c:=LU b h;rw [append_assoc] at c;rw [length_cons,show n+(os.length+1)=n+1+os.length by omega];exact c
theorem NY {H:Heap} {T:BT} (h:MF H.objs.toList 0 .nil=some T):absHeap T H.objs.size H.life=H:=by
 have c:=LU (life:=H.life) (n:=0) (t:=.nil) (xs:=[]) rfl h;rw [Nat.zero_add,Array.length_toList] at c;rw [c];obtain ⟨a,l⟩:=H;show (⟨([]++a.toList).toArray,l⟩:Heap)=⟨a,l⟩;rw [nil_append,Array.toArray_toList]
theorem left {p q:Program} {loose:List PySem.Str} {Xt:Shared->Bool} {α:Type} {Yf:Shared->α} {Ya:World->α} {N:Nat} {g0:Bool}
 (e:opening p=plainProg p.main.scope.names) (hN:Nat.ble 600 N=true) (f:∀s,fenceModules? p s=some s)
 (h:∀(w:World) (os:OsState),((MF (boot_heap w.params).objs.toList 0 .nil).bind fun T=>(Ps p w (boot_heap w.params).objs.size ((boot_heap w.params).nsMap mainGlobals "__annotations__") N ⟨T,(boot_heap w.params).objs.size,(boot_heap w.params).life,Array.mk [],boot_drawn,boot_toks,os⟩ (topStub p)).map fun s =>
  (((boot_heap w.params).isNs mainGlobals,staticsOk (importedModules p.main.body) (boot_heap w.params) s.abs.heap && namesBound p s.abs.heap && gensDone s.abs && laidKept (boot_heap w.params) s.abs.heap),openSeen q loose (importedModules p.main.body) Xt g0 s.abs,Yf s.abs)) =
  some ((true,true),openGood q loose,Ya w)):LeftO p q loose Xt Yf Ya N g0:=fun w=>by
 obtain ⟨⟨hp,gs,d,k,os⟩,e1,e2⟩:=Option.map_eq_some_iff.mp (boot_open e hN f w);obtain ⟨rfl,rfl,rfl,rfl⟩:hp=boot_heap w.params/\gs=Array.mk []/\d=boot_drawn/\k=boot_toks:=by simpa using e2
 have z:=h w os
 cases gT:MF (boot_heap w.params).objs.toList 0 .nil with
 | none=>rw [gT] at z;cases z
 | some T =>
   rw [gT] at z;obtain ⟨s,r,y⟩:=Option.map_eq_some_iff.mp z;have r':=Mo r;injection y with y1 y2
   injection y1 with y3 y4
   injection y2 with y5 y6
   have a:(⟨T,(boot_heap w.params).objs.size,(boot_heap w.params).life,Array.mk [],boot_drawn,boot_toks,os⟩:SharedT).abs=⟨boot_heap w.params,Array.mk [],boot_drawn,boot_toks,os⟩:=by
    unfold SharedT.abs;rw [NY gT]
   rw [a] at r';unfold openEnds;rw [e1];show (topFrom treeTable p w N _).map _=_
   have t:topFrom treeTable p w N ⟨boot_heap w.params,Array.mk [],boot_drawn,boot_toks,os⟩=some s.abs:=by
    unfold topFrom;dsimp only;rw [y3,r'];show (match staticsOk (importedModules p.main.body) (boot_heap w.params) s.abs.heap && namesBound p s.abs.heap && gensDone s.abs && laidKept (boot_heap w.params) s.abs.heap with | true=>_ | false=>_)=_;rw [y4]
   rw [t];exact congrArg some (Prod.ext y5 y6)
end Head
namespace Head
open PySem PySem.W PyProof.Rows
abbrev q0:Program:=view PySem.Challenge.pw_pollproof_k85_papers_of_pairs_margins [20,57]
abbrev r0:OpenRow:=OpenLaw.row PySem.Challenge.rw_pollproof_k85_papers_of_pairs_margins
local macro_rules | `(tactic| o_head $H)=>do
 let (hl,hw,hc):=(Lean.mkIdent `hl,Lean.mkIdent `hw,Lean.mkIdent `hc)
 `(tactic| (
   refine holds_open (r:=r0) (q:=q0) (loose:=[PySem.Str.ofString "_wall",PySem.Str.ofString "PollError",PySem.Str.ofString "NoWay",PySem.Str.ofString "all_of",PySem.Str.ofString "holds",PySem.Str.ofString "with_one",PySem.Str.ofString "members",PySem.Str.ofString "is_whole",PySem.Str.ofString "down",PySem.Str.ofString "up",PySem.Str.ofString "pairs_by_seats",PySem.Str.ofString "Margin",PySem.Str.ofString "overs",PySem.Str.ofString "hands_of",PySem.Str.ofString "leads_of",PySem.Str.ofString "way_by",PySem.Str.ofString "cut_by",PySem.Str.ofString "is_way",PySem.Str.ofString "is_cut",PySem.Str.ofString "least_link",PySem.Str.ofString "greatest_link",PySem.Str.ofString "PairsMargin",PySem.Str.ofString "MOST_HANDS",PySem.Str.ofString "MOST_SEATS",PySem.Str.ofString "are_hands",PySem.Str.ofString "are_seats",PySem.Str.ofString "are_lots",PySem.Str.ofString "Way",PySem.Str.ofString "shown_from",PySem.Str.ofString "is_beaten",PySem.Str.ofString "Pairs",PySem.Str.ofString "_law_cell",PySem.Str.ofString "_law_mixed",PySem.Str.ofString "_law_twice",PySem.Str.ofString "_law_lots",PySem.Str.ofString "_law_mask",PySem.Str.ofString "_law_slip",PySem.Str.ofString "_law_sheet",PySem.Str.ofString "_law_place",PySem.Str.ofString "_law_leads",PySem.Str.ofString "_law_least_link",PySem.Str.ofString "_law_most_out",PySem.Str.ofString "_law_need",PySem.Str.ofString "_law_one",PySem.Str.ofString "_law_paper",PySem.Str.ofString "_law_other_way",PySem.Str.ofString "_law_spoilt"]) (N:=100000)
    (Xt:=fun s=>xlAt q0 [] s && recOk (RowW.records (OpenRow.toRowW r0)) s)
    (XP:=XL q0 []) (Yf:=Hook.obs $H) (Ya:=Hook.val $H) (YP:=Hook.says $H)
    ?$hl (Hook.of $H) (Hook.keeps $H) (fun s e=>xl_of s (Bool.and_eq_true_iff.mp e).1) XL.keeps
    (by rfl) (by rfl) (by rfl) (fun s e=>recFacts_of (Bool.and_eq_true_iff.mp e).2) (by rfl) (by assumption)
    (by decide +kernel) ⟨rfl,rfl,rfl,rfl,rfl,by decide +kernel⟩ ?$hw ?$hc;
   (next=>(exact left (by kernel_rfl) (by decide) (fun s=>by kernel_rfl) (fun w os=>by kernel_rfl)))))
set_option maxRecDepth 100000 in
set_option maxHeartbeats 0 in
open_top top for PySem.Challenge.rw_pollproof_k85_papers_of_pairs_margins
end Head
local macro_rules | `(tactic| omega)=>`(tactic| first | lia | omega (config:={}))
namespace L2
open PySem PySem.Spec PyProof.Rows
abbrev Key:=Sum Int Str
def Hh:Key->Value->Bool
 | .inl k,v=>Value.isInt k v
 | .inr x,v=>Value.isStrOf x v
def Sf (w:World):Key->Int
 | .inl k=>hashInt k
 | .inr x=>hashStr w x
theorem Bf:∀{k:Key} {v:Value},Hh k v=true->(∃i t,k=Sum.inl i/\v=Value.int i t)\/(∃x t,k=Sum.inr x/\v=Value.str x t)
 | .inl i,v,h=>by
   obtain ⟨t,e⟩:=Value.isInt_shape (k:=i) (v:=v) h;exact .inl ⟨i,t,rfl,e⟩
 | .inr x,v,h=>by
   obtain ⟨t,e⟩:=Value.isStrOf_shape (x:=x) (v:=v) h;exact .inr ⟨x,t,rfl,e⟩
theorem N0 (i:Int) (t:Tok):Hh (.inl i) (.int i t)=true:=by simp [Hh,Value.isInt]
theorem MT (x:Str) (t:Tok):Hh (.inr x) (.str x t)=true:=by simp [Hh,Value.isStrOf]
theorem QP (a b:Int):decide ((Sum.inl a:Key)=Sum.inl b)=(a == b):=by
 by_cases e:a=b
 ·subst e;simp
 ·have h:¬ (Sum.inl a:Key)=Sum.inl b:=fun q=>e (Sum.inl.inj q);rw [decide_eq_false h];exact (beq_eq_false_iff_ne.mpr e).symm
theorem Q4 (a b:Str):decide ((Sum.inr a:Key)=Sum.inr b)=decide (a=b):=by
 by_cases e:a=b
 ·subst e;simp
 ·have h:¬ (Sum.inr a:Key)=Sum.inr b:=fun q=>e (Sum.inr.inj q);rw [decide_eq_false h,decide_eq_false e]
theorem QQ (a:Int) (b:Str):decide ((Sum.inl a:Key)=Sum.inr b)=false:=decide_eq_false (fun q=>nomatch q)
theorem QU (a:Str) (b:Int):decide ((Sum.inr a:Key)=Sum.inl b)=false:=decide_eq_false (fun q=>nomatch q)
def Bu (prog:Program) (w:World):PySem.KeyKind prog w Key where
 is:=Hh
 hash:=Sf w
 inj:=fun v a b ha hb=>by
  rcases Bf ha with ⟨i,t,rfl,rfl⟩ | ⟨x,t,rfl,rfl⟩
  ·rcases Bf hb with ⟨j,u,rfl,e⟩ | ⟨y,u,rfl,e⟩
   ·injection e with e1 _;rw [e1]
   ·exact nomatch e
  ·rcases Bf hb with ⟨j,u,rfl,e⟩ | ⟨y,u,rfl,e⟩
   ·exact nomatch e
   ·injection e with e1 _;rw [e1]
 byValue:=fun k v h=>by
  rcases Bf h with ⟨i,t,rfl,rfl⟩ | ⟨x,t,rfl,rfl⟩ <;> rfl
 pyHash:=fun hv h=>by
  rcases Bf hv with ⟨i,t,rfl,rfl⟩ | ⟨x,t,rfl,rfl⟩
  ·exact wpAny_pyHash_int h
  ·exact wpAny_pyHash_str h
 eqBool:=fun hu hv h=>by
  rcases Bf hu with ⟨i,t,rfl,rfl⟩ | ⟨x,t,rfl,rfl⟩
  ·rcases Bf hv with ⟨j,u,rfl,rfl⟩ | ⟨y,u,rfl,rfl⟩
   ·rw [QP] at h;exact wpAny_eqBool_int h
   ·rw [QQ] at h;exact SeqAt.EqAt.int_str i t y u _ _ _ _ h
  ·rcases Bf hv with ⟨j,u,rfl,rfl⟩ | ⟨y,u,rfl,rfl⟩
   ·rw [QU] at h;exact SeqAt.EqAt.str_int x t j u _ _ _ _ h
   ·rw [Q4] at h;exact wpAny_eqBool_str h
 «strs»:=fun k x t v h=>by
  rcases Bf h with ⟨i,u,rfl,e⟩ | ⟨y,u,rfl,e⟩
  ·exact nomatch e
  ·injection e with e1 _
   subst e1
   cases v <;> rfl
theorem JR (prog:Program) (w:World) (i:Int) (t:Tok):(Bu prog w).is (.inl i) (.int i t)=true:=N0 i t
theorem KR (prog:Program) (w:World) (x:Str) (t:Tok):(Bu prog w).is (.inr x) (.str x t)=true:=MT x t
end L2
namespace L2
open PySem PySem.Spec PyProof.Rows
inductive V where
 | non | bl (b:Bool) | int (i:Int) | str (x:Str) | byt (b:Array UInt8) | flt (b:UInt64) | ref (a:Addr) | ty (n:String)
 deriving DecidableEq
def AE:V->Value->Prop
 | .non,u=>u=Value.none
 | .bl b,u=>u=Value.bool b
 | .int i,u=>∃t,u=Value.int i t
 | .str x,u=>∃t,u=Value.str x t
 | .byt b,u=>∃t,u=Value.bytes b t
 | .flt b,u=>∃t,u=Value.float b t
 | .ref a,u=>u=Value.ref a
 | .ty n,u=>u=Value.type n
abbrev A8:List V->List Value->Prop:=Paired AE
theorem A8.length {xs:List V} {us:List Value} (r:A8 xs us):xs.length=us.length:=Paired.length r
theorem A8.get:∀{xs:List V} {us:List Value} {i:Nat} {x:V},A8 xs us->xs[i]?=some x->∃u,us[i]?=some u/\AE x u
 | _,_,_,_,.nil,e=>by simp at e
 | _,_,0,_,.cons r _,e=>by simp at e;subst e;exact ⟨_,rfl,r⟩
 | _,_,i+1,x,.cons _ t,e=>by
   obtain ⟨u,h1,h2⟩:=A8.get (i:=i) (x:=x) t (by simpa using e);exact ⟨u,by simpa using h1,h2⟩
theorem A8.set {x:V} {u:Value} (r:AE x u):∀{xs:List V} {us:List Value} (i:Nat),A8 xs us->A8 (xs.set i x) (us.set i u)
 | _,_,_,.nil=>.nil
 | _,_,0,.cons _ t=>.cons r t
 | _,_,i+1,.cons q t=>.cons q (A8.set r i t)
theorem A8.append:∀{xs ys:List V} {us ws:List Value},A8 xs us->A8 ys ws->A8 (xs++ys) (us++ws)
 | _,_,_,_,.nil,s=>s
 | _,_,_,_,.cons r t,s=>.cons r (A8.append t s)
theorem A8.take:∀{xs:List V} {us:List Value} (n:Nat),A8 xs us->A8 (xs.take n) (us.take n)
 | _,_,0,_=>.nil
 | _,_,_+1,.nil=>.nil
 | _,_,n+1,.cons r t=>.cons r (A8.take n t)
theorem A8.drop:∀{xs:List V} {us:List Value} (n:Nat),A8 xs us->A8 (xs.drop n) (us.drop n)
 | _,_,0,r=>r
 | _,_,_+1,.nil=>.nil
 | _,_,n+1,.cons _ t=>A8.drop n t
def DH:Option V->Option Value->Prop
 | some v,some u=>AE v u
 | none,none=>True
 | _,_=>False
noncomputable def KV {κ:Type}:List (κ × V)->List (κ × Value)->Prop:=Paired fun (p:κ × V) (q:κ × Value)=>p.1=q.1/\AE p.2 q.2
def kV:Key->V
 | .inl i=>.int i
 | .inr x=>.str x
inductive HO where
 | lst (xs:List V)
 | tup (xs:List V)
 | dK (kvs:List (Key × V)) | dT (kvs:List (List Key × V))
 | set (S:Int->Bool) (n:Nat)
 | ins (C dx:Addr) (fs:List (Str × V))
 | own (x:Addr)
 | xd (fs:List (Str × V))
 | met (f x:Addr)
 | rng (lo hi:Int)
 | frz (o:Obj) (u:HO)
 | tbl (ps:Array Value)
 | ext (φ:Heap->Prop)
abbrev Hp:=Addr->Option HO
noncomputable def upd (H:Hp) (a:Addr) (o:HO):Hp:=fun b=>if b=a then some o else H b
theorem Ab {H:Hp} {a:Addr} {o:HO}:upd H a o a=some o:=by unfold upd;rw [if_pos rfl]
theorem Ak {H:Hp} {a b:Addr} {o:HO} (h:b≠a):upd H a o b=H b:=by unfold upd;rw [if_neg h]
theorem AT {H:Hp} {a:Addr} {o u:HO}:upd (upd H a o) a u=upd H a u:=by
 funext b;unfold upd;split <;> rfl
theorem Du {H:Hp} {a b:Addr} {o u:HO} (h:H a=some o) (h':H b=some u) (d:o≠u):a≠b:=by
 intro e;subst e;rw [h] at h';exact d (Option.some.inj h')
theorem AX {H:Hp} {a b:Addr} {o:HO} (h:H a=some o) (h':H b=none):a≠b:=by
 intro e;subst e;rw [h] at h';cases h'
section
variable (P:Program) (w:World)
def AY (H:Hp) (h:Heap) (a:Addr):HO->Prop
 | .lst xs=>xs.length<=sizeLine/\∃(its:List Value) (n:Nat),A8 xs its/\h.get? a=some { cls:=.type "list",data:=.seq its.toArray n }
 | .tup xs=>xs.length<=sizeLine/\∃its:List Value,A8 xs its/\IsTup h a its.toArray
 | .dK kvs=>kvs.length<=sizeLine/\(a == sysModules)=false/\∃vs,KV kvs vs/\h.DictOf (Bu P w) a vs
 | .dT kvs=>kvs.length<=sizeLine/\(a == sysModules)=false/\∃xs:List (List Key × Addr × Value),
  Paired (fun (p:List Key × V) (q:List Key × Addr × Value)=>p.1=q.1/\H q.2.1=some (.tup (p.1.map kV))/\AE p.2 q.2.2) kvs xs /\
  ∃o es ep,h.get? a=some o/\o.ExactDict/\o.data=.dict es ep/\es.toList=xs.map (entryOfKey (tupleKind (Bu P w)))/\(xs.map (·.1)).Nodup
 | .set S n=>h.SetOf (intKind P w) a S n
 | .ins C dx fs=>H dx=some (.own a)/\fs.length<=1000/\dx≠a/\h.get? a=some (PySem.W.instObj C dx) /\
  ∃mA,h.Ns1 dx mA/\(∀f,DH (fs.lookup f) (mA f))/\PySem.Within mA (fs.map (·.1))
 | .own _=>∃o,h.get? a=some o
 | .xd fs=>∃mA,h.Ns1 a mA/\∀f,DH (fs.lookup f) (mA f)
 | .rng lo hi=>∃t u v,h.get? a=some { cls:=.type "range",data:=.fields #[.int lo t,.int hi u,.int 1 v] }
 | .frz o u=>h.get? a=some o/\AY H h a u
 | .tbl ps=>h.get? a=some { cls:=.none,data:=.fields ps }
 | .met f x=>h.get? a=some (PySem.W.methodObj (.ref f) (.ref x))
 | .ext φ=>φ h/\(∃o,h.get? a=some o)/\∀h1 h2:Heap,φ h1->(∀o,h1.get? a=some o->h2.get? a=some o)->φ h2
noncomputable def HOk (H:Hp) (h:Heap):Prop:=∀a o,H a=some o->AY P w H h a o
end
section
variable {P:Program} {w:World} {H H':Hp} {h h':Heap} {a:Addr} {o:HO}
theorem AY.lt (x:AY P w H h a o):a < h.objs.size:=by
 cases o with
 | lst xs=>obtain ⟨_,_,_,_,e⟩:=x;exact Heap.lt_size e
 | tup xs=>obtain ⟨_,_,_,p⟩:=x;exact p.lt
 | dK kvs=>obtain ⟨_,_,_,_,o,_,_,e,_⟩:=x;exact Heap.lt_size e
 | dT kvs=>obtain ⟨_,_,_,_,o,_,_,e,_⟩:=x;exact Heap.lt_size e
 | set S n=>obtain ⟨o,_,_,_,e,_⟩:=x;exact Heap.lt_size e
 | ins C dx fs=>obtain ⟨_,_,_,e,_⟩:=x;exact Heap.lt_size e
 | own y=>obtain ⟨_,e⟩:=x;exact Heap.lt_size e
 | xd fs=>obtain ⟨_,⟨_,_,_,e,_⟩,_⟩:=x;exact Heap.lt_size e
 | rng lo hi=>obtain ⟨_,_,_,e⟩:=x;exact Heap.lt_size e
 | frz ob u=>obtain ⟨e,_⟩:=x;exact Heap.lt_size e
 | tbl ps=>exact Heap.lt_size (show h.get? a=some _ from x)
 | met f y=>exact Heap.lt_size (show h.get? a=some _ from x)
 | ext φ=>obtain ⟨_,⟨_,e⟩,_⟩:=x;exact Heap.lt_size e
theorem Paired.mapP {α β:Type} {F G:α->β->Prop}:∀{l₁:List α} {l₂:List β},Paired F l₁ l₂->(∀a b,F a b->G a b)->Paired G l₁ l₂
 | _,_,.nil,_=>.nil
 | _,_,.cons r t,f=>.cons (f _ _ r) (Paired.mapP t f)
theorem AY.stay (x:AY P w H h a o) (k:∀b u,(b=a\/H b=some (.own a))->h.get? b=some u->h'.get? b=some u)
 (ho:∀b,H b=some (.own a)->H' b=some (.own a)) (ht:∀b xs,H b=some (.tup xs)->H' b=some (.tup xs)):AY P w H' h' a o:=by
 induction o with
 | lst xs=>obtain ⟨z,its,n,r,e⟩:=x;exact ⟨z,its,n,r,k _ _ (.inl rfl) e⟩
 | tup xs=>obtain ⟨z,its,r,ob,e,c⟩:=x;exact ⟨z,its,r,ob,k _ _ (.inl rfl) e,c⟩
 | dK kvs=>obtain ⟨z,y,vs,r,ob,es,ep,e,c⟩:=x;exact ⟨z,y,vs,r,ob,es,ep,k _ _ (.inl rfl) e,c⟩
 | dT kvs =>
   obtain ⟨z,y,xs,r,ob,es,ep,e,c⟩:=x;exact ⟨z,y,xs,Paired.mapP r fun p q z=>⟨z.1,ht _ _ z.2.1,z.2.2⟩,ob,es,ep,k _ _ (.inl rfl) e,c⟩
 | set S n=>obtain ⟨ob,es,ep,t,e,c⟩:=x;exact ⟨ob,es,ep,t,k _ _ (.inl rfl) e,c⟩
 | ins C dx fs =>
   obtain ⟨d,z,ne,e,mA,⟨od,es,ep,e2,c⟩,r⟩:=x;exact ⟨ho _ d,z,ne,k _ _ (.inl rfl) e,mA,⟨od,es,ep,k _ _ (.inr d) e2,c⟩,r⟩
 | own y=>obtain ⟨ob,e⟩:=x;exact ⟨ob,k _ _ (.inl rfl) e⟩
 | xd fs=>obtain ⟨mA,⟨od,es,ep,e,c⟩,r⟩:=x;exact ⟨mA,⟨od,es,ep,k _ _ (.inl rfl) e,c⟩,r⟩
 | rng lo hi=>obtain ⟨t,u,v,e⟩:=x;exact ⟨t,u,v,k _ _ (.inl rfl) e⟩
 | frz ob u ih=>obtain ⟨e,q⟩:=x;exact ⟨k _ _ (.inl rfl) e,ih q⟩
 | tbl ps =>
   have e:h.get? a=some { cls:=.none,data:=.fields ps }:=x;show h'.get? a=some { cls:=.none,data:=.fields ps };exact k a _ (.inl rfl) e
 | met f y =>
   have e:h.get? a=some (PySem.W.methodObj (.ref f) (.ref y)):=x;show h'.get? a=some (PySem.W.methodObj (.ref f) (.ref y));exact k a _ (.inl rfl) e
 | ext φ=>obtain ⟨p,⟨o,e⟩,st⟩:=x;exact ⟨st _ _ p fun o q=>k _ _ (.inl rfl) q,⟨o,k _ _ (.inl rfl) e⟩,st⟩
theorem HOk.lt (x:HOk P w H h) (e:H a=some o):a < h.objs.size:=(x a o e).lt
theorem HOk.fresh (x:HOk P w H h) (e:h.objs.size<=a):H a=none:=by
 cases q:H a with
 | none=>rfl
 | some u=>exact absurd (Nat.lt_of_lt_of_le (x.lt q) e) (Nat.lt_irrefl _)
theorem HOk.kept (x:HOk P w H h) (k:∀b u,h.get? b=some u->h'.get? b=some u):HOk P w H h':=fun a o e =>
 (x a o e).stay (fun b u _ q=>k b u q) (fun _ q=>q) fun _ _ q=>q
theorem HOk.laid (x:HOk P w H h) (k:∀b u,h.get? b=some u->h'.get? b=some u) (hp:h.objs.size<=a) (new:AY P w (upd H a o) h' a o):HOk P w (upd H a o) h':=fun b u e=>by
 have hn:=x.fresh hp;by_cases hb:b=a
 ·subst hb;rw [Ab] at e;cases e;exact new
 ·rw [Ak hb] at e;exact (x b u e).stay (fun c v _ q=>k c v q) (fun c q=>by rw [Ak (AX q hn)];exact q) fun c xs q=>by rw [Ak (AX q hn)];exact q
end
noncomputable def Rd (H:Hp) (a:Addr) (u:HO):Prop:=H a=some u\/∃o,H a=some (.frz o u)
theorem Rd.ok {P:Program} {w:World} {H:Hp} {h:Heap} {a:Addr} {u:HO} (r:Rd H a u) (x:HOk P w H h):AY P w H h a u:=by
 rcases r with r | ⟨o,r⟩
 ·exact x a u r
 ·obtain ⟨_,q⟩:=x a _ r;exact q
def Mut:Option HO->Prop
 | some (.lst _)=>True
 | some (.dK _)=>True
 | some (.dT _)=>True
 | some (.set _ _)=>True
 | some (.ins _ _ _)=>True
 | some (.ext _)=>True
 | _=>False
section
variable {P:Program} {w:World} {H:Hp} {h h':Heap} {x e:Addr} {o':HO}
theorem HOk.write (ok:HOk P w H h) (mu:Mut (H x)) (he:e=x\/H e=some (.own x)) (k:∀b u,b≠e->h.get? b=some u->h'.get? b=some u) (heo:∃u,h'.get? e=some u)
 (new:AY P w (upd H x o') h' x o'):HOk P w (upd H x o') h':=fun b u q=>by
 have nown:∀c y,H c=some (.own y)->c≠x:=fun c y r z=>by subst z;rw [r] at mu;exact mu
 have ntup:∀c xs,H c=some (.tup xs)->c≠x:=fun c xs r z=>by subst z;rw [r] at mu;exact mu
 by_cases hb:b=x
 ·subst hb;rw [Ab] at q;cases q;exact new
 ·rw [Ak hb] at q;by_cases hbe:b=e
  ·have q':H b=some (.own x):=by
    rcases he with z | z
    ·exact absurd (hbe.trans z) hb
    ·rw [hbe];exact z
   rw [q] at q';cases q';obtain ⟨v,hv⟩:=heo;exact ⟨v,by rw [hbe];exact hv⟩
  ·refine (ok b u q).stay (fun c v hc r=>k c v ?_ r) (fun c r=>by rw [Ak (nown c b r)];exact r) fun c xs r=>by rw [Ak (ntup c xs r)];exact r
   rcases hc with rfl | hc
   ·exact hbe
   ·rintro rfl;rcases he with z | z
    ·exact nown c b hc z
    ·rw [hc] at z;cases z;exact hb rfl
end
structure Un (fs ex:List Addr) (H H':Hp) (h h':Heap):Prop where
 keep:∀b o,h.get? b=some o->H b=none->b ∉ fs->b ∉ ex->h'.get? b=some o
 slot:∀b o,h.get? b=some o->H b=none->b∈fs->b ∉ ex->∃sl,h'.get? b=some { o with slots:=sl }
 free:∀b o,h.get? b=some o->H b=none->b ∉ ex->H' b=none
 there:∀b o,h.get? b=some o->b ∉ ex->∃o',h'.get? b=some o'
 tups:∀b xs,H b=some (.tup xs)->H' b=some (.tup xs)
 frzs:∀b o u,H b=some (.frz o u)->H' b=some (.frz o u)
 tbls:∀b ps,H b=some (.tbl ps)->∃more,H' b=some (.tbl (ps++more))
section
variable {fs fs' ex ex':List Addr} {H H1 H2:Hp} {h h1 h2 h':Heap} {a x e:Addr} {o:HO}
theorem Un.any (u:Un fs ex H H1 h h1) {b:Addr} {ob:Obj} (q:h.get? b=some ob) (n:H b=none) (hx:b ∉ ex):∃sl,h1.get? b=some { ob with slots:=sl }:=by
 by_cases hb:b∈fs
 ·exact u.slot b ob q n hb hx
 ·exact ⟨ob.slots,u.keep b ob q n hb hx⟩
theorem Un.kept (k:∀b u,h.get? b=some u->h'.get? b=some u):Un fs ex H H h h' :=
 ⟨fun b ob q _ _ _=>k b ob q,fun b ob q _ _ _=>⟨ob.slots,k b ob q⟩,fun _ _ _ n _=>n,fun b ob q _=>⟨ob,k b ob q⟩,fun _ _ q=>q,fun _ _ _ q=>q,fun _ ps q=>⟨#[],by rw [q];simp⟩⟩
theorem Un.refl:Un fs ex H H h h:=Un.kept fun _ _ q=>q
theorem Un.laid (k:∀b u,h.get? b=some u->h'.get? b=some u) (hp:h.objs.size<=a) (hn:H a=none):Un fs ex H (upd H a o) h h' where
 keep:=fun b u q _ _ _=>k b u q
 slot:=fun b u q _ _ _=>⟨u.slots,k b u q⟩
 free:=fun b u q n _=>by rw [Ak (Nat.ne_of_lt (Nat.lt_of_lt_of_le (Heap.lt_size q) hp))];exact n
 there:=fun b u q _=>⟨u,k b u q⟩
 tups:=fun b xs q=>by rw [Ak (AX q hn)];exact q
 frzs:=fun b u xs q=>by rw [Ak (AX q hn)];exact q
 tbls:=fun b ps q=>⟨#[],by rw [Ak (AX q hn),q];simp⟩
theorem Un.write (mu:Mut (H x)) (he:e=x\/H e=some (.own x)) (k:∀b u,b≠e->h.get? b=some u->h'.get? b=some u) (heo:∃u,h'.get? e=some u):Un fs ex H (upd H x o) h h':=by
 have hx:∀b,H b=none->b≠x:=fun b n z=>by subst z;rw [n] at mu;exact mu
 have hb:∀b,H b=none->b≠e:=fun b n z=>by
  subst z;rcases he with r | r
  ·exact hx b n r
  ·rw [n] at r;cases r
 have hm:∀b u,H b=some u->¬ Mut (some u)->b≠x:=fun b u q nm z=>by subst z;rw [q] at mu;exact nm mu
 refine ⟨fun b u q n _ _=>k b u (hb b n) q,fun b u q n _ _=>⟨u.slots,k b u (hb b n) q⟩,fun b u q n _=>by rw [Ak (hx b n)];exact n,fun b u q _=>?_,
  fun b xs q=>by rw [Ak (hm b _ q fun z=>z)];exact q,fun b u xs q=>by rw [Ak (hm b _ q fun z=>z)];exact q,fun b ps q=>⟨#[],by rw [Ak (hm b _ q fun z=>z),q];simp⟩⟩
 by_cases hbe:b=e
 ·subst hbe;exact heo
 ·exact ⟨u,k b u hbe q⟩
end
noncomputable def trk (h:Heap) (H:Hp):List Addr:=(List.range h.objs.size).filter fun a=>(H a).isSome
noncomputable def Hn (h:Heap) (H:Hp):Heap:=PySem.W.hideAll h (trk h H)
theorem Ng (h:Heap) (H:Hp):(Hn h H).objs.size=h.objs.size:=PySem.W.hideAll_size _ _
theorem N8 {h:Heap} {H:Hp} {b:Addr} {o:Obj} (e:h.get? b=some o) (n:H b=none):(Hn h H).get? b=some o :=
 PySem.W.hideAll_get _ e fun hm=>by
  have q:(H b).isSome=true:=(mem_filter.mp hm).2;rw [n] at q;simp at q
theorem LW {h:Heap} {H:Hp} {b:Addr} {o:Obj} (e:(Hn h H).get? b=some o):h.get? b=some o/\H b=none:=by
 have e':h.get? b=some o:=PySem.W.of_hideAll (trk h H) e;refine ⟨e',?_⟩
 cases q:H b with
 | none=>rfl
 | some x =>
   have hm:b∈trk h H:=mem_filter.mpr ⟨mem_range.mpr (Heap.lt_size e'),by simp [q]⟩;have z:(Hn h H).get? b=none:=PySem.W.hideAll_none (trk h H) hm;rw [z] at e;cases e
end L2
namespace L2
open PySem PySem.Spec PyProof.Rows
structure Mod (K:PySem.W.Frag) (mg:Str->Option Value) (base:Heap):Prop where
 kin:K.In base
 glob:base.Ns mainGlobals mg
 blt:∃mb,base.Ns builtinsNs mb/\∀x:Str,x≠"__name__"->mb x=bootBuiltins x
 nolimit:base.NoLimit
structure Cx where
 prog:Program
 w:World
 K:PySem.W.Frag
 mg:Str->Option Value
 base:Heap
 A:Around
 N:List Str
 s₀:Shared
 H₀:Hp
 env:Env
 outer:List Env
 stack:List Env
 ex:List Addr
 fn:Str->Bool
 calm:Bool
 pn:List (Addr × Obj)
 xe:Value->Shared->Prop
def frs (l:List Env):List Addr:=l.filterMap (·.frame)
abbrev Cx.fs (X:Cx):List Addr:=frs X.outer
noncomputable def Vis (sc:Scope) (x:Str):Prop:=sc.names.lookup x=some .local\/sc.names.lookup x=some .cell\/sc.names.lookup x=some .free
noncomputable def Loc (sc:Scope) (x:Str):Prop:=sc.names.lookup x=some .local\/sc.names.lookup x=some .cell
noncomputable def Sr (env:Env) (h:Heap) (m:Str->Option Value) (x:Str) (u:Value):Prop :=
 (env.kindOf x=some .local/\m x=some u)\/((env.kindOf x=some .cell\/env.kindOf x=some .free)/\∃c,env.cells.lookup x=some c/\h.IsCell c (some u))
structure Cx.Ok (X:Cx):Prop where
 mod:Mod X.K X.mg X.base
 kind:X.env.scope.kind=.function
 glob:X.env.globals=mainGlobals
 blt:X.env.builtins=builtinsNs
 above:X.s₀.heap.objs.size<=X.env.locals
 inj:∀x y c,X.env.cells.lookup x=some c->X.env.cells.lookup y=some c->x=y
 has:∀x,(X.env.kindOf x=some .cell\/X.env.kindOf x=some .free)->∃c,X.env.cells.lookup x=some c
 cab:∀x c,X.fn x=true->X.env.cells.lookup x=some c->X.s₀.heap.objs.size<=c
 hd:X.calm=true->X.A.handled=none
 frames:X.A.frames=some X.stack
 stk:X.stack=X.outer\/(X.stack=X.env :: X.outer/\X.env.frame=some X.env.locals)
 exf:∀b∈X.ex,b≠X.env.locals/\∀x c,X.env.cells.lookup x=some c->c≠b
 bs:∀b o,X.base.get? b=some o->X.s₀.heap.get? b=some o/\X.H₀ b=none
 bsz:X.base.objs.size<=X.s₀.heap.objs.size
 noex:∀b o,X.base.get? b=some o->b ∉ X.ex
 exfs:∀b∈X.ex,b ∉ X.fs
 funs:X.s₀.heap.FunFrames X.base X.outer
 frf:∀b∈X.fs,X.H₀ b=none
structure Inv (X:Cx) (pins:List (Addr × Obj)) (σ:List (Option V)) (H:Hp) (s:Shared):Prop where
 ok:X.Ok
 os:s.os=X.s₀.os
 bare:AllBare s.gens
 base:Un X.fs X.ex X.H₀ H X.s₀.heap s.heap
 loc:∃m,s.heap.Ns X.env.locals m/\∀(i:Nat) (x:Str) (v:V),X.N[i]?=some x->σ[i]?=some (some v)->Vis X.env.scope x->∃u,AE v u/\Sr X.env s.heap m x u
 cell:∀x c,X.env.cells.lookup x=some c->∃v,s.heap.IsCell c v
 free:H X.env.locals=none
 freeC:∀x c,X.env.cells.lookup x=some c->H c=none
 pin:∀p∈X.pn++pins,s.heap.get? p.1=some p.2/\H p.1=none/\p.1≠X.env.locals/\p.1 ∉ X.fs/\∀v,p.2.data≠.cell v
 hok:HOk X.prog X.w H s.heap
 len:σ.length=X.N.length
section
variable {X:Cx} {pins:List (Addr × Obj)} {σ:List (Option V)} {H H':Hp} {s:Shared} {h':Heap}
theorem Cx.Ok.nofr (ok:X.Ok) {b:Addr} {o:Obj} (e:X.base.get? b=some o):b ∉ X.fs:=fun hb=>by
 have:=(ok.funs.mem hb).1;rw [e] at this;cases this
theorem Inv.bs (I:Inv X pins σ H s):∀b o,X.base.get? b=some o->s.heap.get? b=some o/\H b=none:=fun b o e =>
 ⟨I.base.keep b o (I.ok.bs b o e).1 (I.ok.bs b o e).2 (I.ok.nofr e) (I.ok.noex b o e),I.base.free b o (I.ok.bs b o e).1 (I.ok.bs b o e).2 (I.ok.noex b o e)⟩
theorem Inv.bk (I:Inv X pins σ H s):∀b o,X.base.get? b=some o->s.heap.get? b=some o:=fun b o e=>(I.bs b o e).1
theorem Inv.mod (I:Inv X pins σ H s):Mod X.K X.mg X.base:=I.ok.mod
theorem Inv.kIn (I:Inv X pins σ H s):X.K.In s.heap:=I.ok.mod.kin.keeps I.bk
theorem Inv.nolimit (I:Inv X pins σ H s):s.heap.NoLimit:=I.ok.mod.nolimit.keeps I.bk
theorem Inv.lt (I:Inv X pins σ H s):X.env.locals < s.heap.objs.size:=let ⟨_,hn,_⟩:=I.loc;hn.lt
theorem Inv.sz (I:Inv X pins σ H s):X.s₀.heap.objs.size<=s.heap.objs.size:=Nat.le_trans I.ok.above (Nat.le_of_lt I.lt)
theorem Inv.nofs (I:Inv X pins σ H s) {a:Addr} (h:s.heap.objs.size<=a):a ∉ X.fs:=fun hb=>by
 obtain ⟨_,o,ho,_⟩:=I.ok.funs.mem hb;exact absurd (Nat.lt_of_lt_of_le (Heap.lt_size ho) (Nat.le_trans I.sz h)) (Nat.lt_irrefl _)
theorem Inv.cne (I:Inv X pins σ H s):∀x c,X.env.cells.lookup x=some c->c≠X.env.locals:=fun x c e z=>by
 obtain ⟨v,o,ho,hd⟩:=I.cell x c e;obtain ⟨m,⟨o',es,ep,ho',hd',_⟩,_⟩:=I.loc;rw [z,ho'] at ho;cases ho;rw [hd'] at hd;cases hd
theorem Inv.funs (I:Inv X pins σ H s):s.heap.FunFrames X.base X.outer:=by
 have all:∀(l:List Env),(∀b∈frs l,b∈X.fs)->X.s₀.heap.FunFrames X.base l->s.heap.FunFrames X.base l:=by
  intro l
  induction l with
  | nil=>intro _ _;trivial
  | cons env r ih =>
    intro hs hl;obtain ⟨hk,⟨L,o,hf,hn,ho,hd⟩,hr⟩:=hl;have hL:L∈X.fs:=hs L (by unfold frs;rw [filterMap_cons,hf];exact mem_cons_self);obtain ⟨sl,e⟩:=I.base.slot L o ho (I.ok.frf L hL) hL fun z=>I.ok.exfs L z hL;exact ⟨hk,⟨L,_,hf,hn,e,hd⟩,ih (fun b hb=>hs b (by unfold frs;rw [filterMap_cons,hf];exact mem_cons_of_mem _ hb)) hr⟩
 exact all X.outer (fun _ hb=>hb) I.ok.funs
theorem Inv.stack (I:Inv X pins σ H s):s.heap.FunFrames X.base X.stack:=by
 rcases I.ok.stk with e | ⟨e,hf⟩
 ·rw [e];exact I.funs
 ·rw [e];obtain ⟨m,hn,_⟩:=I.loc;refine .cons (by rw [I.ok.kind];decide) hf hn ?_ I.funs;exact Heap.get?_none_of_le (Nat.le_trans I.ok.bsz I.ok.above)
theorem Inv.stkSub (I:Inv X pins σ H s):∀b∈frs X.stack,b∈X.env.locals :: X.fs:=fun b hb=>by
 rcases I.ok.stk with e | ⟨e,hf⟩
 ·rw [e] at hb;exact mem_cons_of_mem _ hb
 ·rw [e] at hb;unfold frs at hb;rw [filterMap_cons,hf] at hb;exact hb
theorem Inv.stkFree (I:Inv X pins σ H s):∀b∈frs X.stack,H b=none:=fun b hb=>by
 rcases mem_cons.mp (I.stkSub b hb) with e | hb
 ·rw [e];exact I.free
 ·obtain ⟨_,o,ho,_⟩:=I.ok.funs.mem hb;exact I.base.free b o ho (I.ok.frf b hb) fun z=>I.ok.exfs b z hb
theorem Inv.step {g':Array GenState} {t':Nat} {d':Drawn} {ch:List Addr} (I:Inv X pins σ H s)
 (hch:∀b∈ch,(b∈X.ex\/X.s₀.heap.objs.size<=b)/\b≠X.env.locals/\(∀x c,X.env.cells.lookup x=some c->c≠b)/\∀p∈X.pn++pins,p.1≠b)
 (keep:∀b o,b≠X.env.locals->b ∉ X.fs->b ∉ ch->s.heap.get? b=some o->H b=none->h'.get? b=some o)
 (slot:∀b o,b≠X.env.locals->b∈X.fs->b ∉ ch->s.heap.get? b=some o->H b=none->∃sl,h'.get? b=some { o with slots:=sl }) (free:∀b o,b ∉ ch->s.heap.get? b=some o->H b=none->H' b=none)
 (there:∀b o,b ∉ ch->s.heap.get? b=some o->∃o',h'.get? b=some o')
 (tups:∀b xs,H b=some (.tup xs)->H' b=some (.tup xs)) (frzs:∀b o u,H b=some (.frz o u)->H' b=some (.frz o u)) (tbls:∀b ps,H b=some (.tbl ps)->∃more,H' b=some (.tbl (ps++more)))
 (ns:∀m,s.heap.Ns X.env.locals m->h'.Ns X.env.locals m) (hok:HOk X.prog X.w H' h') (hg:AllBare g') :
 Inv X pins σ H' { s with heap:=h',gens:=g',drawn:=d',toks:=t' }:=by
 have neL:∀b o,X.s₀.heap.get? b=some o->b≠X.env.locals:=fun b o e=>Nat.ne_of_lt (Nat.lt_of_lt_of_le (Heap.lt_size e) I.ok.above)
 have neC:∀b o,X.s₀.heap.get? b=some o->b ∉ X.ex->b ∉ ch:=fun b o e hx hb=>by
  rcases (hch b hb).1 with z | z
  ·exact hx z
  ·exact absurd (Nat.lt_of_lt_of_le (Heap.lt_size e) z) (Nat.lt_irrefl _)
 have cellK:∀x c,X.env.cells.lookup x=some c->∀v,s.heap.IsCell c v->h'.IsCell c v:=fun x c e v ⟨o,ho,hd⟩=>by
  have nch:c ∉ ch:=fun z=>(hch c z).2.2.1 x c e rfl;by_cases hc:c∈X.fs
  ·obtain ⟨sl,q⟩:=slot c o (I.cne x c e) hc nch ho (I.freeC x c e);exact ⟨_,q,hd⟩
  ·exact ⟨o,keep c o (I.cne x c e) hc nch ho (I.freeC x c e),hd⟩
 refine ⟨I.ok,I.os,hg,⟨fun b o e n hb hx=>?_,fun b o e n hb hx=>?_,fun b o e n hx=>?_,fun b o e hx=>?_,fun b xs e=>tups b xs (I.base.tups b xs e),fun b o xs e=>frzs b o xs (I.base.frzs b o xs e),fun b ps e=>?_⟩,?_,fun x c e=>?_,?_,fun x c e=>?_,fun p hp=>?_,hok,I.len⟩
 ·exact keep b o (neL b o e) hb (neC b o e hx) (I.base.keep b o e n hb hx) (I.base.free b o e n hx)
 ·obtain ⟨sl,e1⟩:=I.base.slot b o e n hb hx;obtain ⟨sl',e2⟩:=slot b _ (neL b o e) hb (neC b o e hx) e1 (I.base.free b o e n hx);exact ⟨sl',e2⟩
 ·obtain ⟨o',e1⟩:=I.base.there b o e hx;exact free b o' (neC b o e hx) e1 (I.base.free b o e n hx)
 ·obtain ⟨o',e1⟩:=I.base.there b o e hx;exact there b o' (neC b o e hx) e1
 ·obtain ⟨m1,e1⟩:=I.base.tbls b ps e;obtain ⟨m2,e2⟩:=tbls b _ e1;exact ⟨m1++m2,by rw [e2,Array.append_assoc]⟩
 ·obtain ⟨m,hn,hl⟩:=I.loc;refine ⟨m,ns m hn,fun i x v e1 e2 e3=>?_⟩;obtain ⟨u,r,l⟩:=hl i x v e1 e2 e3;refine ⟨u,r,?_⟩;rcases l with l | ⟨k,c,e,z⟩
  ·exact .inl l
  ·exact .inr ⟨k,c,e,cellK x c e _ z⟩
 ·obtain ⟨v,z⟩:=I.cell x c e;exact ⟨v,cellK x c e v z⟩
 ·obtain ⟨m,⟨o,_,_,ho,_⟩,_⟩:=I.loc;exact free _ o (fun z=>(hch _ z).2.1 rfl) ho I.free
 ·obtain ⟨v,o,ho,hd⟩:=I.cell x c e;exact free c o (fun z=>(hch c z).2.2.1 x c e rfl) ho (I.freeC x c e)
 ·obtain ⟨e,n,ne,nf,d⟩:=I.pin p hp;have nch:p.1 ∉ ch:=fun z=>(hch p.1 z).2.2.2 p hp rfl;exact ⟨keep p.1 p.2 ne nf nch e n,free p.1 p.2 nch e n,ne,nf,d⟩
theorem Inv.un {t':Nat} (I:Inv X pins σ H s) (u:Un X.fs [] H H' s.heap h') (hok:HOk X.prog X.w H' h'):Inv X pins σ H' { s with heap:=h',toks:=t' }:=by
 obtain ⟨m,⟨o,es,ep,ho,r⟩,_⟩:=id I.loc;obtain ⟨sl,hL⟩:=u.any ho I.free (by simp)
 exact I.step (g':=s.gens) (d':=s.drawn) (ch:=[]) (fun _ z=>by cases z) (fun b o _ hb _ e n=>u.keep b o e n hb (by simp)) (fun b o _ hb _ e n=>u.slot b o e n hb (by simp)) (fun b o _ e n=>u.free b o e n (by simp)) (fun b o _ e=>u.there b o e (by simp)) u.tups u.frzs u.tbls (fun m' hm=>by
  obtain ⟨o',es',ep',ho',r'⟩:=hm;rw [ho] at ho';cases ho';exact ⟨_,es',ep',hL,r'⟩) hok I.bare
theorem Inv.call {g':Array GenState} {t':Nat} {d':Drawn} {ch:List Addr} (I:Inv X pins σ H s) (u:Un (frs X.stack) ch H H' s.heap h') (hok:HOk X.prog X.w H' h') (hg:AllBare g')
 (hch:∀b∈ch,(b∈X.ex\/X.s₀.heap.objs.size<=b)/\b≠X.env.locals/\(∀x c,X.env.cells.lookup x=some c->c≠b)/\∀p∈X.pn++pins,p.1≠b) :
 Inv X pins σ H' { s with heap:=h',gens:=g',drawn:=d',toks:=t' }:=by
 obtain ⟨m,⟨o,es,ep,ho,r⟩,_⟩:=id I.loc;obtain ⟨sl,hL⟩:=u.any ho I.free fun z=>(hch _ z).2.1 rfl
 exact I.step (ch:=ch) hch (fun b o hL hb hc e n=>u.keep b o e n (fun z=>(mem_cons.mp (I.stkSub b z)).elim hL hb) hc) (fun b o _ _ hc e n=>u.any e n hc) (fun b o hc e n=>u.free b o e n hc) (fun b o hc e=>u.there b o e hc) u.tups u.frzs u.tbls (fun m' hm=>by
  obtain ⟨o',es',ep',ho',r'⟩:=hm;rw [ho] at ho';cases ho';exact ⟨_,es',ep',hL,r'⟩) hok hg
theorem Inv.turned {t':Nat} {it:Addr} (I:Inv X pins σ H s) (k:∀b o,b≠it->s.heap.get? b=some o->h'.get? b=some o) (hn:H it=none) (hL:it≠X.env.locals)
 (h1:it∈X.ex\/X.s₀.heap.objs.size<=it) (h2:∀x c,X.env.cells.lookup x=some c->c≠it) (h3:∀p∈X.pn++pins,p.1≠it):Inv X pins σ H { s with heap:=h',toks:=t' }:=by
 have nit:∀b u,H b=some u->b≠it:=fun b u e z=>by rw [z,hn] at e;cases e
 refine I.step (g':=s.gens) (d':=s.drawn) (ch:=[it]) (fun b hb=>?_) (fun b o _ _ hc e _=>k b o (fun z=>hc (by simp [z])) e) (fun b o _ _ hc e _=>⟨o.slots,k b o (fun z=>hc (by simp [z])) e⟩) (fun _ _ _ _ n=>n)
  (fun b o hc e=>⟨o,k b o (fun z=>hc (by simp [z])) e⟩) (fun _ _ e=>e) (fun _ _ _ e=>e) (fun b ps e=>⟨#[],by rw [e];simp⟩) (fun m hm=>?_) (fun b u e=>?_) I.bare
 ·have e:b=it:=by simpa using hb
  subst e;exact ⟨h1,hL,h2,h3⟩
 ·obtain ⟨o,es,ep,ho,r⟩:=hm;exact ⟨o,es,ep,k _ o (Ne.symm hL) ho,r⟩
 ·refine (I.hok b u e).stay (fun c v hc q=>k c v ?_ q) (fun _ q=>q) fun _ _ q=>q;rcases hc with z | z
  ·rw [z];exact nit b u e
  ·exact nit c _ z
theorem Inv.tok (I:Inv X pins σ H s) (t:Nat):Inv X pins σ H { s with toks:=t }:=I.un (h':=s.heap) (t':=t) Un.refl I.hok
theorem Inv.kept {t':Nat} (I:Inv X pins σ H s) (k:∀b u,s.heap.get? b=some u->h'.get? b=some u):Inv X pins σ H { s with heap:=h',toks:=t' }:=I.un (Un.kept k) (I.hok.kept k)
theorem Inv.laid {a:Addr} {o:HO} {t':Nat} (I:Inv X pins σ H s) (k:∀b u,s.heap.get? b=some u->h'.get? b=some u) (hp:s.heap.objs.size<=a) (new:AY X.prog X.w (upd H a o) h' a o) :
 Inv X pins σ (upd H a o) { s with heap:=h',toks:=t' }:=I.un (Un.laid k hp (I.hok.fresh hp)) (I.hok.laid k hp new)
theorem Inv.write {x e:Addr} {o:HO} {t':Nat} (I:Inv X pins σ H s) (mu:Mut (H x)) (he:e=x\/H e=some (.own x)) (k:∀b u,b≠e->s.heap.get? b=some u->h'.get? b=some u) (heo:∃u,h'.get? e=some u)
 (new:AY X.prog X.w (upd H x o) h' x o):Inv X pins σ (upd H x o) { s with heap:=h',toks:=t' }:=I.un (Un.write mu he k heo) (I.hok.write mu he k heo new)
theorem Inv.pins_of {pins':List (Addr × Obj)} (I:Inv X pins σ H s) (h:∀p∈pins',s.heap.get? p.1=some p.2/\H p.1=none/\p.1≠X.env.locals/\p.1 ∉ X.fs/\∀v,p.2.data≠.cell v):Inv X pins' σ H s :=
 ⟨I.ok,I.os,I.bare,I.base,I.loc,I.cell,I.free,I.freeC,fun p hp=>(mem_append.mp hp).elim (fun z=>I.pin p (mem_append_left _ z)) (h p),I.hok,I.len⟩
theorem K9 {N:List Str} (hN:N.Nodup) {i j:Nat} {x:Str} (a:N[i]?=some x) (b:N[j]?=some x):i=j:=by
 obtain ⟨h1,e1⟩:=List.getElem?_eq_some_iff.mp a;obtain ⟨h2,e2⟩:=List.getElem?_eq_some_iff.mp b;exact (getElem_inj hN).mp (e1.trans e2.symm)
theorem FD {M:Model} {A:Around} {E:Value->Shared->Prop} {i:Nat} {x:Str} {v:V} {u:Value} {Q:Unit->Shared->Prop} (I:Inv X pins σ H s) (hN:X.N.Nodup) (hi:X.N[i]?=some x) (hx:Loc X.env.scope x) (r:AE v u)
 (h:∀s',Inv X pins (σ.set i (some v)) H s'->(∃a,Heap.SameBut a s.heap s'.heap/\(a=X.env.locals\/X.env.cells.lookup x=some a))->Q () s') (hf:X.fn x=true\/X.env.scope.names.lookup x=some .local:=by first | exact .inl rfl | exact .inr rfl | assumption):wpAny M A (storeName X.env x u) Q E s:=by
 obtain ⟨m,hn,hl⟩:=id I.loc;have hcls:(X.env.scope.kind == .class || (X.env.scope.kind == .module && X.env.locals != X.env.globals))=false:=by rw [I.ok.kind];rfl
 have hiσ:i < σ.length:=by rw [I.len];exact (List.getElem?_eq_some_iff.mp hi).1
 have cne:=I.cne
 have tracked:∀{a:Addr} {h':Heap},(∃o,s.heap.get? a=some o/\H a=none)->Heap.SameBut a s.heap h'->HOk X.prog X.w H h':=fun {a h'} ha hs b ob e=>by
  obtain ⟨_,_,hfree⟩:=ha;refine (I.hok b ob e).stay (fun c w' hc q=>(hs.2 c ?_).trans q) (fun _ q=>q) fun _ _ q=>q;rintro rfl;rcases hc with rfl | hc
  ·rw [hfree] at e;cases e
  ·rw [hfree] at hc;cases hc
 rcases hx with hk | hk
 ·refine wpAny_storeName_local hk hn (fun h' hn' hs=>?_) hcls;obtain ⟨oL,_,_,hoL,_⟩:=id hn;refine h _ ⟨I.ok,I.os,I.bare,⟨fun b o e n hb hx=>?_,fun b o e n hb hx=>?_,I.base.free,fun b o e hx=>?_,I.base.tups,I.base.frzs,I.base.tbls⟩,⟨_,hn',fun j y v' e1 e2 e3=>?_⟩,fun y c e=>?_,I.free,I.freeC,fun p hp=>?_,tracked ⟨oL,hoL,I.free⟩ hs,by simpa using I.len⟩ ⟨_,hs,.inl rfl⟩
  ·exact (hs.2 b (Nat.ne_of_lt (Nat.lt_of_lt_of_le (Heap.lt_size e) I.ok.above))).trans (I.base.keep b o e n hb hx)
  ·obtain ⟨sl,e1⟩:=I.base.slot b o e n hb hx;exact ⟨sl,(hs.2 b (Nat.ne_of_lt (Nat.lt_of_lt_of_le (Heap.lt_size e) I.ok.above))).trans e1⟩
  ·obtain ⟨o',e1⟩:=I.base.there b o e hx;exact ⟨o',(hs.2 b (Nat.ne_of_lt (Nat.lt_of_lt_of_le (Heap.lt_size e) I.ok.above))).trans e1⟩
  ·by_cases hj:j=i
   ·subst hj;rw [hi] at e1;cases e1;rw [List.getElem?_set_self hiσ] at e2
    cases e2
    exact ⟨u,r,.inl ⟨hk,by simp⟩⟩
   ·rw [List.getElem?_set_ne (Ne.symm hj)] at e2;obtain ⟨u',r',q⟩:=hl j y v' e1 e2 e3;refine ⟨u',r',?_⟩;rcases q with ⟨k,e⟩ | ⟨k,c,e,z⟩
    ·refine .inl ⟨k,?_⟩;have:y≠x:=fun e=>hj (K9 hN e1 (e ▸ hi));simp [this,e]
    ·exact .inr ⟨k,c,e,z.sameBut hs (cne y c e)⟩
  ·obtain ⟨w',z⟩:=I.cell y c e;exact ⟨w',z.sameBut hs (cne y c e)⟩
  ·obtain ⟨e,n,ne,nf,d⟩:=I.pin p hp;exact ⟨(hs.2 p.1 ne).trans e,n,ne,nf,d⟩
 ·have hfn:X.fn x=true:=by
   rcases hf with z | z
   ·exact z
   ·rw [z] at hk;cases hk
  obtain ⟨c,hc⟩:=I.ok.has x (.inl hk);obtain ⟨w',z⟩:=I.cell x c hc;refine wpAny_storeName_cell I.ok.kind hk hc z (fun h' hc' hs=>?_);obtain ⟨oc,hoc,hocd⟩:=id z;refine h { s with heap:=h' } ⟨I.ok,I.os,I.bare,⟨fun b o e n hb hx=>?_,fun b o e n hb hx=>?_,I.base.free,fun b o e hx=>?_,I.base.tups,I.base.frzs,I.base.tbls⟩,⟨m,hn.sameBut hs (Ne.symm (cne x c hc)),fun j y v' e1 e2 e3=>?_⟩,fun y c' e=>?_,I.free,I.freeC,fun p hp=>?_,tracked ⟨oc,hoc,I.freeC x c hc⟩ hs,by simpa using I.len⟩ ⟨c,hs,.inr hc⟩
  ·exact (hs.2 b (Nat.ne_of_lt (Nat.lt_of_lt_of_le (Heap.lt_size e) (I.ok.cab x c hfn hc)))).trans (I.base.keep b o e n hb hx)
  ·obtain ⟨sl,e1⟩:=I.base.slot b o e n hb hx;exact ⟨sl,(hs.2 b (Nat.ne_of_lt (Nat.lt_of_lt_of_le (Heap.lt_size e) (I.ok.cab x c hfn hc)))).trans e1⟩
  ·obtain ⟨o',e1⟩:=I.base.there b o e hx;exact ⟨o',(hs.2 b (Nat.ne_of_lt (Nat.lt_of_lt_of_le (Heap.lt_size e) (I.ok.cab x c hfn hc)))).trans e1⟩
  ·by_cases hj:j=i
   ·subst hj;rw [hi] at e1;cases e1;rw [List.getElem?_set_self hiσ] at e2
    cases e2
    exact ⟨u,r,.inr ⟨.inl hk,c,hc,hc'⟩⟩
   ·rw [List.getElem?_set_ne (Ne.symm hj)] at e2;obtain ⟨u',r',q⟩:=hl j y v' e1 e2 e3;refine ⟨u',r',?_⟩;rcases q with q | ⟨k,c',e,z'⟩
    ·exact .inl q
    ·refine .inr ⟨k,c',e,z'.sameBut hs ?_⟩;rintro rfl;exact hj (K9 hN e1 (I.ok.inj _ _ _ e hc ▸ hi))
  ·by_cases hcc:c'=c
   ·subst hcc;exact ⟨_,hc'⟩
   ·obtain ⟨w2,z2⟩:=I.cell y c' e;exact ⟨w2,z2.sameBut hs hcc⟩
  ·obtain ⟨e,n,ne,nf,d⟩:=I.pin p hp;refine ⟨(hs.2 p.1 ?_).trans e,n,ne,nf,d⟩;intro q;rw [q,hoc] at e;have q':oc=p.2:=Option.some.inj e;exact d w' (by rw [<- q'];exact hocd)
theorem J9 {M:Model} {A:Around} {E:Value->Shared->Prop} {i:Nat} {x:Str} {v:V} {u:Value} {Q:Unit->Shared->Prop} (I:Inv X pins σ H s) (hN:X.N.Nodup) (hi:X.N[i]?=some x) (hx:Loc X.env.scope x) (r:AE v u)
 (h:∀s',Inv X pins (σ.set i (some v)) H s'->Q () s') (hf:X.fn x=true\/X.env.scope.names.lookup x=some .local:=by first | exact .inl rfl | exact .inr rfl | assumption):wpAny M A (storeName X.env x u) Q E s :=
 FD I hN hi hx r (fun s' I' _=>h s' I') hf
theorem Inv.call' {s':Shared} {ch:List Addr} (I:Inv X pins σ H s) (ho:s'.os=s.os) (u:Un (frs X.stack) ch H H' s.heap s'.heap) (hok:HOk X.prog X.w H' s'.heap) (hg:AllBare s'.gens)
 (hch:∀b∈ch,(b∈X.ex\/X.s₀.heap.objs.size<=b)/\b≠X.env.locals/\(∀x c,X.env.cells.lookup x=some c->c≠b)/\∀p∈X.pn++pins,p.1≠b):Inv X pins σ H' s':=by
 obtain ⟨h',g',d',t',o'⟩:=s';have e:o'=s.os:=ho;subst e;exact I.call (g':=g') (t':=t') (d':=d') u hok hg hch
end
abbrev XK:=Value->Option Addr->Hp->Prop
abbrev St:=List (Option V)
abbrev VK:=V->Hp->Prop
abbrev TE:=St->Hp->VK->Prop
abbrev TT:=St->Hp->(Bool->Hp->Prop)->Prop
abbrev TA:=St->Hp->(List V->Hp->Prop)->Prop
structure F8 where
 nx:St->Hp->Prop
 rt:VK
 bk:St->Hp->Prop:=fun _ _=>False
 ct:St->Hp->Prop:=fun _ _=>False
abbrev TS:=F8->St->Hp->Prop
noncomputable def EP (X:Cx) (pins:List (Addr × Obj)) (σ:St) (Q:VK) (u:Value) (s':Shared):Prop:=∃v H',Inv X pins σ H' s'/\AE v u/\Q v H'
noncomputable def TP (X:Cx) (pins:List (Addr × Obj)) (σ:St) (Q:Bool->Hp->Prop) (b:Bool) (s':Shared):Prop:=∃H',Inv X pins σ H' s'/\Q b H'
noncomputable def AP (X:Cx) (pins:List (Addr × Obj)) (σ:St) (Q:List V->Hp->Prop) (us:List Value) (s':Shared):Prop:=∃vs H',Inv X pins σ H' s'/\A8 vs us/\Q vs H'
noncomputable def SP (X:Cx) (pins:List (Addr × Obj)) (D:F8) (f:Flow) (s':Shared):Prop :=
 match f with
 | .next=>∃σ' H',Inv X pins σ' H' s'/\D.nx σ' H'
 | .brk=>∃σ' H',Inv X pins σ' H' s'/\D.bk σ' H'
 | .cont=>∃σ' H',Inv X pins σ' H' s'/\D.ct σ' H'
 | .ret u=>∃v σ' H',Inv X pins σ' H' s'/\AE v u/\D.rt v H'
def PE (X:Cx) (e:Expr) (t:TE):Prop :=
 ∀(pins:List (Addr × Obj)) (s:Shared) (σ:St) (H:Hp) (Q:VK),Inv X pins σ H s->t σ H Q->wpAny (model X.prog X.w) X.A (eval e X.env) (EP X pins σ Q) X.xe s
def PT (X:Cx) (e:Expr) (t:TT):Prop :=
 ∀(pins:List (Addr × Obj)) (s:Shared) (σ:St) (H:Hp) (Q:Bool->Hp->Prop),Inv X pins σ H s->t σ H Q->wpAny (model X.prog X.w) X.A (isTrue e X.env (eval e X.env)) (TP X pins σ Q) X.xe s
def PW (X:Cx) (e:Expr) (t:TT):Prop :=
 ∀(whole:Sem Value) (pins:List (Addr × Obj)) (s:Shared) (σ:St) (H:Hp) (Q:Bool->Hp->Prop),Inv X pins σ H s->t σ H Q->wpAny (model X.prog X.w) X.A (isTrue e X.env whole) (TP X pins σ Q) X.xe s
theorem PW.pt {X:Cx} {e:Expr} {t:TT} (h:PW X e t):PT X e t:=h _
def PA (X:Cx) (es:List Expr) (t:TA):Prop :=
 ∀(pos:Pos) (pins:List (Addr × Obj)) (s:Shared) (σ:St) (H:Hp) (Q:List V->Hp->Prop),Inv X pins σ H s->t σ H Q->wpAny (model X.prog X.w) X.A (spliced (backTo pos (starEach es X.env))) (AP X pins σ Q) X.xe s
def PS (X:Cx) (st:Stmt) (t:TS):Prop :=
 ∀(pins:List (Addr × Obj)) (s:Shared) (σ:St) (H:Hp) (D:F8),Inv X pins σ H s->t D σ H->wpAny (model X.prog X.w) X.A (exec st X.env) (SP X pins D) X.xe s
def PSs (X:Cx) (st:List Stmt) (t:TS):Prop :=
 ∀(pins:List (Addr × Obj)) (s:Shared) (σ:St) (H:Hp) (D:F8),Inv X pins σ H s->t D σ H->wpAny (model X.prog X.w) X.A (execs st X.env) (SP X pins D) X.xe s
theorem thn {α:Type} {t:Sem α} {Q Q':α->Shared->Prop} {M:Model} {A:Around} {E:Value->Shared->Prop} {s:Shared} (h:wpAny M A t Q E s) (hQ:∀a s,Q a s->Q' a s):wpAny M A t Q' E s:=wpAny_mono h hQ fun _ _ x=>x
end L2
namespace L2
open PySem PySem.Spec PyProof.Rows
section
variable {X:Cx}
noncomputable def R1 (i:Nat):TE:=fun σ H Q=>∃v,σ[i]?=some (some v)/\Q v H
def tC (v:V):TE:=fun _ H Q=>Q v H
theorem Rg {i:Nat} {x:Str} {pos:Pos} (hN:X.N[i]?=some x) (hv:Vis X.env.scope x) (hd:(x == ("__debug__":Str))=false:=by decide) (hcd:(x == ("__classdict__":Str))=false:=by decide):PE X (.Name x pos) (R1 i):=by
 intro pins s σ H Q I h;obtain ⟨v,e,h⟩:=h;obtain ⟨m,hn,hl⟩:=I.loc;obtain ⟨u,r,l⟩:=hl i x v hN e hv;have fin:EP X pins σ Q u s:=⟨v,H,I,r,h⟩;rcases l with ⟨hk,hm⟩ | ⟨hk,c,hc,hcell⟩
 ·exact wpAny_Name (wpAny_loadName_local I.ok.kind hk hn hm fin) hd
 ·rcases hk with hk | hk
  ·exact wpAny_Name (wpAny_loadName_cell I.ok.kind hk hc hcell fin) hd
  ·exact wpAny_Name (wpAny_loadName_free I.ok.kind hk hc hcell fin hcd) hd
theorem Ae {i j pos}:PE X (.Constant (.int i) j pos) (tC (.int i)):=fun _ _ _ H _ I h=>wpAny_Constant_int ⟨.int i,H,I.tok _,⟨_,rfl⟩,h⟩
theorem Cg {b j pos}:PE X (.Constant (.bool b) j pos) (tC (.bl b)):=fun _ _ _ H _ I h=>Constant_bool ⟨.bl b,H,I,rfl,h⟩
theorem OR {j pos}:PE X (.Constant .none j pos) (tC .non):=fun _ _ _ H _ I h=>Constant_none ⟨.non,H,I,rfl,h⟩
noncomputable def Gl (X:Cx) (x:Str):Prop:=X.env.kindOf x=some .globalImplicit
theorem IS {E:Value->Shared->Prop} {pins:List (Addr × Obj)} {s:Shared} {σ:St} {H:Hp} {x:Str} {u:Value} {pos:Pos} {Q:Value->Shared->Prop} (I:Inv X pins σ H s) (hg:Gl X x) (hm:X.mg x=some u) (h:Q u s)
 (hd:(x == ("__debug__":Str))=false:=by decide):wpAny (model X.prog X.w) X.A (eval (.Name x pos) X.env) Q E s :=
 Calls.Name_function_global I.ok.kind hg (Calls.loadGlobal_global (by rw [I.ok.glob];exact I.mod.glob.keeps I.bk) hm h) hd
theorem Cv {E:Value->Shared->Prop} {pins:List (Addr × Obj)} {s:Shared} {σ:St} {H:Hp} {x:Str} {u:Value} {pos:Pos} {Q:Value->Shared->Prop} (I:Inv X pins σ H s) (hg:Gl X x) (hm:X.mg x=none) (hv:bootBuiltins x=some u) (h:Q u s)
 (hn:x≠"__name__":=by decide) (hd:(x == ("__debug__":Str))=false:=by decide):wpAny (model X.prog X.w) X.A (eval (.Name x pos) X.env) Q E s:=by
 obtain ⟨mb,h1,h2⟩:=I.mod.blt;exact Calls.Name_function_global I.ok.kind hg (Calls.loadGlobal_builtin (by rw [I.ok.glob];exact I.mod.glob.keeps I.bk) hm (by rw [I.ok.blt];exact h1.keeps I.bk) ((h2 x hn).trans hv) h) hd
theorem Mu {x:Str} {v:V} {u:Value} {pos:Pos} (hg:Gl X x) (hm:X.mg x=some u) (r:AE v u) (hd:(x == ("__debug__":Str))=false:=by decide):PE X (.Name x pos) (tC v) :=
 fun _ _ _ H _ I h=>IS I hg hm ⟨v,H,I,r,h⟩ hd
theorem Jk {x:Str} {v:V} {u:Value} {pos:Pos} (hg:Gl X x) (hm:X.mg x=none) (hv:bootBuiltins x=some u) (r:AE v u) (hn:x≠"__name__":=by decide) (hd:(x == ("__debug__":Str))=false:=by decide):PE X (.Name x pos) (tC v) :=
 fun _ _ _ H _ I h=>Cv I hg hm hv ⟨v,H,I,r,h⟩ hn hd
variable {a b:Expr} {ta tb:TE} {pos:Pos}
noncomputable def tB (t:TE):TT:=fun σ H Q=>t σ H fun x H1=>∃c,x=.bl c/\Q c H1
theorem CU {e:Expr} {t:TE} (h:PE X e t) (he:∀whole,isTrue e X.env whole=(do let v <- whole;standAt e.pos;holding [v] (truthy v)):=by intro _;rfl):PT X e (tB t):=by
 intro pins s σ H Q I hw;refine isTrue_plain (thn (h pins s σ H _ I hw) fun v s1 ⟨x,H1,I1,r1,q1⟩=>?_) (he _);obtain ⟨d,rfl,q⟩:=q1
 cases r1
 exact wpAny_truthy_bool ⟨H1,I1,q⟩
variable {tA tB':TT} {rest:List Expr}
noncomputable def Sh (t u:TT):TT:=fun σ H Q=>t σ H fun c H1=>if c=true then u σ H1 Q else Q false H1
noncomputable def tOr (t u:TT):TT:=fun σ H Q=>t σ H fun c H1=>if c=true then Q true H1 else u σ H1 Q
def Sk (t:TT):TT:=fun σ H Q=>t σ H fun c H1=>Q (!c) H1
theorem D6 (ha:PT X a tA):PW X (.BoolOp .And [a] pos) tA:=by
 intro wh pins s σ H Q I h;refine isTrue_and (thn (ha pins s σ H Q I h) fun c s1 e=>?_)
 cases c with
 | true=>exact isTrue_and_nil e
 | false=>exact e
theorem EC (ha:PT X a tA):PW X (.BoolOp .Or [a] pos) tA:=by
 intro wh pins s σ H Q I h;refine isTrue_or (thn (ha pins s σ H Q I h) fun c s1 e=>?_)
 cases c with
 | false=>exact isTrue_or_nil e
 | true=>exact e
theorem E8 (ha:PT X a tA) (hb:PW X (.BoolOp .And (b :: rest) pos) tB'):PW X (.BoolOp .And (a :: b :: rest) pos) (Sh tA tB'):=by
 intro wh pins s σ H Q I h;refine isTrue_and (thn (ha pins s σ H _ I h) fun c s1 ⟨H1,I1,q1⟩=>?_)
 cases c with
 | true=>exact hb wh pins s1 σ H1 Q I1 q1
 | false=>exact ⟨H1,I1,q1⟩
theorem FS (ha:PT X a tA) (hb:PW X (.BoolOp .Or (b :: rest) pos) tB'):PW X (.BoolOp .Or (a :: b :: rest) pos) (tOr tA tB'):=by
 intro wh pins s σ H Q I h;refine isTrue_or (thn (ha pins s σ H _ I h) fun c s1 ⟨H1,I1,q1⟩=>?_)
 cases c with
 | true=>exact ⟨H1,I1,q1⟩
 | false=>exact hb wh pins s1 σ H1 Q I1 q1
theorem Eb (ha:PT X a tA):PT X (.UnaryOp .Not a pos) (Sk tA):=by
 intro pins s σ H Q I h;exact isTrue_not (ha pins s σ H (fun c H1=>Q (!c) H1) I h)
noncomputable def RL (ta tb:TE):TE:=fun σ H Q=>ta σ H fun x H1=>∃c,x=.bl c/\if c=true then tb σ H1 Q else Q (.bl false) H1
noncomputable def R8 (ta:TE):TE:=fun σ H Q=>ta σ H fun x H1=>∃c,x=.bl c/\Q (.bl (!c)) H1
theorem Ef {op} {t:TE} (h:PE X a t):PE X (.BoolOp op [a] pos) t:=fun pins s σ H Q I hw=>BoolOp_one (h pins s σ H Q I hw)
theorem Dy (ha:PE X a ta) (hb:PE X (.BoolOp .And (b :: rest) pos) tb):PE X (.BoolOp .And (a :: b :: rest) pos) (RL ta tb):=by
 intro pins s σ H Q I h;refine BoolOp_and (thn (ha pins s σ H _ I h) fun v s1 ⟨x,H1,I1,r1,q1⟩=>?_);obtain ⟨c,rfl,q1⟩:=q1
 cases r1
 refine wpAny_truthy_bool ?_
 cases c with
 | true=>exact hb pins s1 σ H1 Q I1 q1
 | false=>exact ⟨.bl false,H1,I1,rfl,q1⟩
theorem NT (ha:PE X a ta):PE X (.UnaryOp .Not a pos) (R8 ta):=by
 intro pins s σ H Q I h;refine UnaryOp_ (thn (ha pins s σ H _ I h) fun v s1 ⟨x,H1,I1,r1,q1⟩=>?_);obtain ⟨c,rfl,q1⟩:=q1
 cases r1
 exact not_of (wpAny_truthy_bool ⟨.bl (!c),H1,I1,rfl,q1⟩)
noncomputable def tIf (t:TT) (ta tb:TE):TE:=fun σ H Q=>t σ H fun c H1=>if c=true then ta σ H1 Q else tb σ H1 Q
theorem K6 {c:Expr} (hc:PT X c tA) (ha:PE X a ta) (hb:PE X b tb):PE X (.IfExp c a b pos) (tIf tA ta tb):=by
 intro pins s σ H Q I h;refine wpAny_IfExp (thn (hc pins s σ H _ I h) fun d s1 ⟨H1,I1,q1⟩=>?_)
 cases d with
 | true=>exact ha pins s1 σ H1 Q I1 q1
 | false=>exact hb pins s1 σ H1 Q I1 q1
end
end L2
namespace L2
open PySem PySem.Spec PyProof.Rows
noncomputable def SqL (K:PySem.W.Frag) (H:Hp) (a:Addr) (xs:List V):Prop :=
 Rd H a (.lst xs) \/
  ∃(o:Obj) (its:Array Value) (n:Nat),K.lookup a=some o/\o.cls=.type "list"/\o.dict=none/\o.data=.seq its n/\its.size<=sizeLine/\A8 xs its.toList
noncomputable def SqT (K:PySem.W.Frag) (H:Hp) (a:Addr) (xs:List V):Prop :=
 Rd H a (.tup xs) \/
  ∃(o:Obj) (its:Array Value) (n:Nat),K.lookup a=some o/\o.cls=.type "tuple"/\o.data=.seq its n/\its.size<=sizeLine/\A8 xs its.toList
noncomputable def S1:Value->Option V
 | .none=>some .non
 | .bool b=>some (.bl b)
 | .int i _=>some (.int i)
 | .str x _=>some (.str x)
 | .bytes b _=>some (.byt b)
 | .float b _=>some (.flt b)
 | .ref a=>some (.ref a)
 | .type n=>some (.ty n)
 | _=>none
theorem AE.abs {x:V} {u:Value} (r:AE x u):S1 u=some x:=by
 cases x with
 | non=>cases r;rfl
 | bl _=>cases r;rfl
 | int _=>obtain ⟨t,rfl⟩:=r;rfl
 | str _=>obtain ⟨t,rfl⟩:=r;rfl
 | byt _=>obtain ⟨t,rfl⟩:=r;rfl
 | flt _=>obtain ⟨t,rfl⟩:=r;rfl
 | ref _=>cases r;rfl
 | ty _=>cases r;rfl
theorem AE.inj {x y:V} {u:Value} (r:AE x u) (q:AE y u):x=y:=Option.some.inj (r.abs.symm.trans q.abs)
theorem A8.inj:∀{xs ys:List V} {us:List Value},A8 xs us->A8 ys us->xs=ys
 | _,_,_,.nil,.nil=>rfl
 | _,_,_,.cons r t,.cons r' t'=>by rw [r.inj r',A8.inj t t']
section
variable {X:Cx} {pins:List (Addr × Obj)} {σ:St} {H:Hp} {s:Shared} {a:Addr} {xs ys:List V}
theorem SqL.of {K:PySem.W.Frag} (h:H a=some (.lst xs)):SqL K H a xs:=.inl (.inl h)
theorem SqT.of {K:PySem.W.Frag} (h:H a=some (.tup xs)):SqT K H a xs:=.inl (.inl h)
theorem Inv.list (I:Inv X pins σ H s) (h:SqL X.K H a xs):∃its:List Value,A8 xs its/\PlainL s.heap a its.toArray/\xs.length<=sizeLine:=by
 rcases h with h | ⟨o,its,n,hk,hc,hd,hs,hz,r⟩
 ·obtain ⟨z,its,n,r,e⟩:=h.ok I.hok;exact ⟨its,r,⟨_,n,e,rfl,rfl,rfl⟩,z⟩
 ·refine ⟨its.toList,r,⟨o,n,I.kIn a o hk,hc,hd,by simpa using hs⟩,?_⟩;have e:=r.length;simp only [Array.length_toList] at e;omega
theorem Inv.tuple (I:Inv X pins σ H s) (h:SqT X.K H a xs):∃its:List Value,A8 xs its/\IsTup s.heap a its.toArray/\xs.length<=sizeLine:=by
 rcases h with h | ⟨o,its,n,hk,hc,hs,hz,r⟩
 ·obtain ⟨z,its,r,p⟩:=h.ok I.hok;exact ⟨its,r,p,z⟩
 ·refine ⟨its.toList,r,⟨o,I.kIn a o hk,hc,n,by simpa using hs⟩,?_⟩;have e:=r.length;simp only [Array.length_toList] at e;omega
theorem Inv.list_inj (I:Inv X pins σ H s) (h:SqL X.K H a xs) (h':SqL X.K H a ys):xs=ys:=by
 obtain ⟨its,r,⟨o,n,e,_,_,d⟩,_⟩:=I.list h;obtain ⟨its',r',⟨o',n',e',_,_,d'⟩,_⟩:=I.list h';rw [e] at e';cases e';rw [d] at d';injection d' with d1 _
 have:its=its':=by simpa using congrArg Array.toList d1
 subst this;exact r.inj r'
theorem Inv.tuple_inj (I:Inv X pins σ H s) (h:SqT X.K H a xs) (h':SqT X.K H a ys):xs=ys:=by
 obtain ⟨its,r,⟨o,e,_,n,d⟩,_⟩:=I.tuple h;obtain ⟨its',r',⟨o',e',_,n',d'⟩,_⟩:=I.tuple h';rw [e] at e';cases e';rw [d] at d';injection d' with d1 _
 have:its=its':=by simpa using congrArg Array.toList d1
 subst this;exact r.inj r'
end
abbrev Cx.wish (X:Cx) (E:Value->Shared->Prop):Cx:={ X with xe:=E }
abbrev Cx.nox (X:Cx):Cx:=X.wish fun _ _=>False
theorem Cx.Ok.wish {X:Cx} (ok:X.Ok) (E:Value->Shared->Prop):(X.wish E).Ok :=
 ⟨ok.mod,ok.kind,ok.glob,ok.blt,ok.above,ok.inj,ok.has,ok.cab,ok.hd,ok.frames,ok.stk,ok.exf,ok.bs,ok.bsz,ok.noex,ok.exfs,ok.funs,ok.frf⟩
theorem Cx.Ok.unwish {X:Cx} {E:Value->Shared->Prop} (ok:(X.wish E).Ok):X.Ok :=
 ⟨ok.mod,ok.kind,ok.glob,ok.blt,ok.above,ok.inj,ok.has,ok.cab,ok.hd,ok.frames,ok.stk,ok.exf,ok.bs,ok.bsz,ok.noex,ok.exfs,ok.funs,ok.frf⟩
section
variable {X:Cx} {pins:List (Addr × Obj)} {σ:St} {H:Hp} {s:Shared} {E:Value->Shared->Prop}
theorem Inv.wish (I:Inv X pins σ H s) (E:Value->Shared->Prop):Inv (X.wish E) pins σ H s:=⟨I.ok.wish E,I.os,I.bare,I.base,I.loc,I.cell,I.free,I.freeC,I.pin,I.hok,I.len⟩
theorem Inv.unwish (I:Inv (X.wish E) pins σ H s):Inv X pins σ H s:=⟨I.ok.unwish,I.os,I.bare,I.base,I.loc,I.cell,I.free,I.freeC,I.pin,I.hok,I.len⟩
theorem SP.unwish {D:F8} {f:Flow} {s':Shared} (h:SP (X.wish E) pins D f s'):SP X pins D f s':=by
 cases f with
 | next=>obtain ⟨σ',H',I,q⟩:=h;exact ⟨σ',H',I.unwish,q⟩
 | brk=>obtain ⟨σ',H',I,q⟩:=h;exact ⟨σ',H',I.unwish,q⟩
 | cont=>obtain ⟨σ',H',I,q⟩:=h;exact ⟨σ',H',I.unwish,q⟩
 | ret u=>obtain ⟨v,σ',H',I,r,q⟩:=h;exact ⟨v,σ',H',I.unwish,r,q⟩
theorem PSs.nox {st:List Stmt} {t:TS} (h:PSs X.nox st t):PSs X st t:=fun pins s σ H D I hw =>
 wpAny_mono (h pins s σ H D (I.wish _) hw) (fun _ _ q=>q.unwish) fun _ _ z=>False.elim z
end
section
variable {X:Cx} {st:Stmt} {rest:List Stmt} {t u:TS} {e:Expr} {te:TE} {pos:Pos}
def RB:TS:=fun D σ H=>D.nx σ H
def Rv (t u:TS):TS:=fun D σ H=>t { D with nx:=u D } σ H
theorem Az:PSs X [] RB:=fun _ _ σ H _ I h=>wpAny_execs_nil ⟨σ,H,I,h⟩
theorem Af (h1:PS X st t) (h2:PSs X rest u):PSs X (st :: rest) (Rv t u):=by
 intro pins s σ H D I h;refine wpAny_execs_cons (thn (h1 pins s σ H { D with nx:=u D } I h) fun f s1 q=>?_)
 cases f with
 | next =>
   obtain ⟨σ',H',I',q⟩:=q;exact h2 pins s1 σ' H' D I' q
 | ret v=>exact q
 | brk=>exact q
 | cont=>exact q
theorem Ah (h1:PS X st t):PSs X [st] t:=by
 intro pins s σ H D I h;refine wpAny_execs_cons (thn (h1 pins s σ H D I h) fun f s1 q=>?_)
 cases f with
 | next=>exact wpAny_execs_nil q
 | ret v=>exact q
 | brk=>exact q
 | cont=>exact q
theorem Inv.quiet {pins:List (Addr × Obj)} {σ:St} {H:Hp} {s:Shared} (I:Inv X pins σ H s):interactive X.env=false:=by simp [interactive,I.ok.kind]
def Sb (te:TE):TS:=fun D σ H=>te σ H fun _ H1=>D.nx σ H1
theorem Cz (he:PE X e te) (hs:swapsWith e none pos.line X.env=pure false:=by rfl):PS X (.Expr e pos) (Sb te):=by
 intro pins s σ H D I h;exact wpAny_Expr_any (thn (he pins s σ H _ I h) fun v s1 ⟨x,H1,I1,r1,q1⟩=>⟨σ,H1,I1,q1⟩) I.quiet hs
def Sq (te:TE):TS:=fun D σ H=>te σ H D.rt
theorem Ap (he:PE X e te):PS X (.Return (some e) pos) (Sq te):=by
 intro pins s σ H D I h;exact wpAny_Return_some (thn (he pins s σ H _ I h) fun v s1 ⟨x,H1,I1,r1,q1⟩=>⟨x,σ,H1,I1,r1,q1⟩)
noncomputable def S7 (c:TT) (t u:TS):TS:=fun D σ H=>c σ H fun b H1=>if b=true then t D σ H1 else u D σ H1
theorem Bi {c:Expr} {a b:List Stmt} {tc:TT} (hc:PT X c tc) (ha:PSs X a t) (hb:PSs X b u):PS X (.If c a b pos) (S7 tc t u):=by
 intro pins s σ H D I h;refine wpAny_If (thn (hc pins s σ H _ I h) fun d s1 ⟨H1,I1,q1⟩=>?_)
 cases d with
 | true=>exact ha pins s1 σ H1 D I1 q1
 | false=>exact hb pins s1 σ H1 D I1 q1
def Rf:TS:=fun _ _ _=>False
theorem Kd:PS X st Rf:=fun _ _ _ _ _ _ h=>h.elim
end
abbrev TG:=V->St->Hp->(St->Hp->Prop)->Prop
abbrev TGs:=List V->St->Hp->(St->Hp->Prop)->Prop
def PG (X:Cx) (target:Expr) (t:TG):Prop :=
 ∀(pins:List (Addr × Obj)) (s:Shared) (σ:St) (H:Hp) (v:V) (u:Value) (Q:St->Hp->Prop),Inv X pins σ H s->AE v u->t v σ H Q ->
  wpAny (model X.prog X.w) X.A (assign target X.env u) (fun _ s'=>∃σ' H',Inv X pins σ' H' s'/\Q σ' H') X.xe s
def PGs (X:Cx) (ts:List Expr) (t:TGs):Prop :=
 ∀(pins:List (Addr × Obj)) (s:Shared) (σ:St) (H:Hp) (vs:List V) (us:List Value) (Q:St->Hp->Prop),Inv X pins σ H s->A8 vs us->t vs σ H Q ->
  wpAny (model X.prog X.w) X.A (assignInOrder ((assignEach ts X.env).map (·.2)) us) (fun _ s'=>∃σ' H',Inv X pins σ' H' s'/\Q σ' H') X.xe s
abbrev Rn:=V->V->V->Hp->(Hp->Prop)->Prop
def RA (X:Cx) (t:Rn):Prop :=
 ∀(pins:List (Addr × Obj)) (s:Shared) (σ:St) (H:Hp) (o i v:V) (ov iv u:Value) (Q:Hp->Prop),Inv X pins σ H s->AE o ov->AE i iv->AE v u->t o i v H Q ->
  wpAny (model X.prog X.w) X.A (setItem ov iv u) (fun _ s'=>∃H',Inv X pins σ H' s'/\Q H') X.xe s
section
variable {X:Cx} {pos:Pos}
def B0 (i:Nat):TG:=fun v σ H Q=>Q (σ.set i (some v)) H
theorem A0 {i:Nat} {x:Str} (hN:X.N.Nodup) (hi:X.N[i]?=some x) (hx:Loc X.env.scope x) (hf:X.fn x=true\/X.env.scope.names.lookup x=some .local:=by first | exact .inl rfl | exact .inr rfl | assumption):PG X (.Name x pos) (B0 i):=by
 intro pins s σ H v u Q I r h;exact wpAny_assign_Name (J9 I hN hi hx r (fun s' I'=>⟨_,H,I',h⟩) hf)
def Nf:TGs:=fun vs σ H Q=>vs=[]/\Q σ H
noncomputable def C2 (t:TG) (u:TGs):TGs:=fun vs σ H Q=>∃v r,vs=v :: r/\t v σ H fun σ' H'=>u r σ' H' Q
theorem C0:PGs X [] Nf:=by
 intro pins s σ H vs us Q I r h;obtain ⟨e,h⟩:=h;subst e
 cases r
 exact assignInOrder_nil ⟨σ,H,I,h⟩
theorem A9 {e:Expr} {es:List Expr} {t:TG} {u:TGs} (h1:PG X e t) (h2:PGs X es u)
 (hs:(assignEach (e :: es) X.env).map (·.2)=assign e X.env :: (assignEach es X.env).map (·.2):=by rfl):PGs X (e :: es) (C2 t u):=by
 intro pins s σ H vs us Q I r h;obtain ⟨v,vr,e1,h⟩:=h;subst e1
 cases r with
 | cons r rr =>
   rw [hs];refine assignInOrder_cons (thn (h1 pins s σ H _ _ _ I r h) fun _ s1 ⟨σ1,H1,I1,q1⟩=>?_);exact h2 pins s1 σ1 H1 _ _ Q I1 rr q1
noncomputable def MM (K:PySem.W.Frag) (n:Nat) (t:TGs):TG:=fun v σ H Q=>∃a xs,v=.ref a/\SqT K H a xs/\xs.length=n/\t xs σ H Q
theorem Di {es:List Expr} {k:Nat} {t:TGs} {n:Nat} (hc:X.calm=true) (h:PGs X es t)
 (hn:(assignEach es X.env).length=n:=by rfl) (hst:(assignEach es X.env).findIdx? (·.1)=none:=by rfl):PG X (.Tuple es k pos) (MM X.K n t):=by
 intro pins s σ H v u Q I r hw;obtain ⟨a,xs,e1,hq,hl,hw⟩:=hw;subst e1
 cases r
 obtain ⟨its,rv,ht,hz⟩:=I.tuple hq;refine assign_Tuple_tuple (I.ok.hd hc) ht (by simp [hn,<- hl,rv.length]) hst fun h' hx=>?_;have I1:Inv X pins σ H { s with heap:=h' }:=I.kept (t':=s.toks) fun b o e=>hx b o (Nat.ne_of_lt (Heap.lt_size e)) e;exact h pins _ σ H xs _ Q I1 (by simpa using rv) hw
noncomputable def Sv (to ti:TE) (t:Rn):TG:=fun v σ H Q=>to σ H fun o H1=>ti σ H1 fun i H2=>t o i v H2 fun H3=>Q σ H3
theorem GG {o i:Expr} {to ti:TE} {t:Rn} (ho:PE X o to) (hi:PE X i ti) (hs:RA X t)
 (ha:∀v,assign (.Subscript o i pos) X.env v=(do
  let ov <- holding [v] (eval o X.env)
  let iv <- holding [v,ov] (eval i X.env)
  standAt pos
  holding [v,ov,iv] (setItem ov iv v)
  release [v,ov,iv] []):=by intro _;rfl):PG X (.Subscript o i pos) (Sv to ti t):=by
 intro pins s σ H v u Q I r h;rw [ha];refine wpAny_bind (wpAny_holding (thn (ho pins s σ H _ I h) fun ov s1 ⟨x,H1,I1,r1,q1⟩=>?_));refine wpAny_bind (wpAny_holding (thn (hi pins s1 σ H1 _ I1 q1) fun iv s2 ⟨y,H2,I2,r2,q2⟩=>?_));refine wpAny_bind (wpAny_standAt (wpAny_bind (wpAny_holding (thn (hs pins s2 σ H2 x y v ov iv u _ I2 r1 r2 r q2) fun _ s3 ⟨H3,I3,q3⟩=>?_))));exact wpAny_release ⟨σ,H3,I3,q3⟩
noncomputable def NO (te:TE) (g:TG):TS:=fun D σ H=>te σ H fun x H1=>g x σ H1 D.nx
theorem Ee {tg e:Expr} {te:TE} {g:TG} (he:PE X e te) (hg:PG X tg g) (hs:swapsWithSole [tg] e pos.line X.env=pure false:=by rfl) (hw:swappedStores [tg] e X.env=pure none:=by rfl)
 (h1:(assignEach [tg] X.env).map (·.2)=[assign tg X.env]:=by rfl):PS X (.Assign [tg] e pos) (NO te g):=by
 intro pins s σ H D I h;refine wpAny_Assign_stores (thn (he pins s σ H _ I h) fun v s1 ⟨x,H1,I1,r1,q1⟩=>?_) hs hw;rw [h1];exact thn (hg pins s1 σ H1 x v _ I1 r1 q1) fun _ s2 q=>q
theorem Am {i:Nat} {x:Str} {e:Expr} {te:TE} {pos':Pos} (hN:X.N.Nodup) (hi:X.N[i]?=some x) (hx:Loc X.env.scope x) (he:PE X e te) (hs:swapsWith e (some (.Name x pos')) pos.line X.env=pure false:=by rfl) (hf:X.fn x=true\/X.env.scope.names.lookup x=some .local:=by first | exact .inl rfl | exact .inr rfl | assumption) :
 PS X (.Assign [.Name x pos'] e pos) (NO te (B0 i)):=by
 intro pins s σ H D I h;refine wpAny_Assign_Name (thn (he pins s σ H _ I h) fun v s1 ⟨y,H1,I1,r1,q1⟩=>?_) hs;exact J9 I1 hN hi hx r1 (fun s2 I2=>⟨_,H1,I2,q1⟩) hf
end
section
variable {X:Cx} {pos:Pos}
noncomputable def QB (c:TT) (tb:TS):TS:=fun D σ H=>∃W:Nat->St->Hp->Prop,(∃m,W m σ H)/\∀m σ H,W m σ H ->
 c σ H fun b H1=>if b=true then ∃N:St->Hp->Prop,(∀σ' H',N σ' H'->∃m',m' < m/\W m' σ' H')/\tb { D with nx:=N,ct:=N,bk:=D.nx } σ H1 else D.nx σ H1
theorem Hq {c:Expr} {body:List Stmt} {tc:TT} {tb:TS} (hp:PassesOwn (model X.prog X.w) X.A X.env X.xe) (hc:PT X c tc) (hb:PSs X body tb):PS X (.While c body [] pos) (QB tc tb):=by
 intro pins s σ H D I h;obtain ⟨W,⟨m0,w0⟩,turn⟩:=h;refine wpAny_While (codeAny_whileLoop (fun n s'=>∃σ' H',Inv X pins σ' H' s'/\W n σ' H') ?_ m0 ⟨σ,H,I,w0⟩);rintro n s1 ⟨σ1,H1,I1,w1⟩;refine wpAny_passesOwn hp (thn (hc pins s1 σ1 H1 _ I1 (turn n σ1 H1 w1)) fun b s2 ⟨H2,I2,q2⟩=>?_)
 cases b with
 | true =>
   obtain ⟨N,hN,q2⟩:=q2;rw [if_pos rfl];refine wpAny_passesOwn hp (thn (hb pins s2 σ1 H2 _ I2 q2) fun f s3 q3=>?_)
   cases f with
   | next =>
     obtain ⟨σ3,H3,I3,n3⟩:=q3;obtain ⟨m',hm,w3⟩:=hN σ3 H3 n3;exact ⟨m',hm,σ3,H3,I3,w3⟩
   | cont =>
     obtain ⟨σ3,H3,I3,n3⟩:=q3;obtain ⟨m',hm,w3⟩:=hN σ3 H3 n3;exact ⟨m',hm,σ3,H3,I3,w3⟩
   | brk=>exact q3
   | ret v=>exact q3
 | false =>
   rw [if_neg Bool.false_ne_true];exact wpAny_execs_nil ⟨σ1,H2,I2,q2⟩
end
structure It where
 go:Nat->Hp->Prop
 yld:Nat->Hp->V->Hp->Prop
 stop:Nat->Hp->Prop
noncomputable def Gm (X:Cx) (pins:List (Addr × Obj)) (H:Hp) (b:Addr):Prop :=
 H b=none/\b≠X.env.locals/\b ∉ X.fs/\(b∈X.ex\/X.s₀.heap.objs.size<=b)/\(∀x c,X.env.cells.lookup x=some c->c≠b)/\∀p∈X.pn++pins,p.1≠b
theorem Inv.fpOk {X:Cx} {pins:List (Addr × Obj)} {σ:St} {H H':Hp} {s:Shared} {b:Addr} (I:Inv X pins σ H s) (hb:s.heap.objs.size<=b) (hn:H' b=none):Gm X pins H' b:=by
 refine ⟨hn,Nat.ne_of_gt (Nat.lt_of_lt_of_le I.lt hb),I.nofs hb,.inr (Nat.le_trans I.sz hb),fun x c e z=>?_,fun p hp z=>?_⟩
 ·obtain ⟨v,q⟩:=I.cell x c e;exact absurd (Nat.lt_of_lt_of_le q.lt (by rw [z];exact hb)) (Nat.lt_irrefl _)
 ·exact absurd (Nat.lt_of_lt_of_le (Heap.lt_size (I.pin p hp).1) (by rw [z];exact hb)) (Nat.lt_irrefl _)
structure KC (P:Program) (w:World) (K:PySem.W.Frag) (tg:Expr) (J:It) (fp:List Addr) (it:Addr) (tn:Nat->Heap->Prop):Prop where
 mem:it∈fp
 obj:∀i h,tn i h->∀b∈fp,∃o,h.get? b=some o/\∀v,o.data≠.cell v
 keep:∀i h h',tn i h->(∀b∈fp,∀o,h.get? b=some o->h'.get? b=some o)->tn i h'
 item:∀(X:Cx),X.prog=P->X.w=w->X.K=K->X.calm=true->∀(i:Nat) (pins:List (Addr × Obj)) (s:Shared) (σ:St) (H:Hp) (E:Value->Shared->Prop),Inv X pins σ H s->(∀b∈fp,Gm X pins H b)->tn i s.heap->J.go i H ->
  wpAny (model P w) X.A (pyNext (.ref it)) (fun r s1=>∃u,r=some u /\
   wpAny (model P w) X.A (letOwnedTupleGo tg (.ref it) u) (fun _ s2=>∃x H',Inv X pins σ H' s2/\AE x u/\J.yld i H x H'/\tn (i+1) s2.heap/\∀b∈fp,H' b=none) E s1) E s
 done:∀(X:Cx),X.prog=P->X.w=w->X.K=K->X.calm=true->∀(i:Nat) (pins:List (Addr × Obj)) (s:Shared) (σ:St) (H:Hp) (E:Value->Shared->Prop),Inv X pins σ H s->(∀b∈fp,Gm X pins H b)->tn i s.heap->J.stop i H ->
  wpAny (model P w) X.A (pyNext (.ref it)) (fun r s1=>r=none/\Inv X pins σ H s1) E s
 self:∀(A:Around) (i:Nat) (s:Shared) (Q:Value->Shared->Prop) (E:Value->Shared->Prop),tn i s.heap->Q (.ref it) s->wpAny (model P w) A (pyIter (.ref it)) Q E s
abbrev TI:=St->Hp->(It->Hp->Prop)->Prop
noncomputable def PIE (X:Cx) (pins:List (Addr × Obj)) (σ:St) (tg:Expr) (R:It->Hp->Prop) (itv:Value) (s2:Shared):Prop :=
 ∃(it:Addr) (fp:List Addr) (tn:Nat->Heap->Prop) (J:It) (H':Hp),itv=.ref it/\Inv X pins σ H' s2/\KC X.prog X.w X.K tg J fp it tn/\tn 0 s2.heap/\(∀b∈fp,Gm X pins H' b)/\R J H'
def PI (X:Cx) (tg iter:Expr) (wi:TI):Prop :=
 ∀(pins:List (Addr × Obj)) (s:Shared) (σ:St) (H:Hp) (R:It->Hp->Prop),Inv X pins σ H s->wi σ H R ->
  wpAny (model X.prog X.w) X.A (eval iter X.env) (fun v s1=>wpAny (model X.prog X.w) X.A (pyIter v) (PIE X pins σ tg R) X.xe s1) X.xe s
theorem O0 {M:Model} {A:Around} {E:Value->Shared->Prop} {s:Shared} {tg:Expr} {it:Addr} {u:Value} {o:Obj} {n:String} {vs:Array Value} {Q:Unit->Shared->Prop} (ho:s.heap.get? it=some o) (hc:o.cls=.type n) (hd:o.data=.fields vs)
 (hn:["enumerate","zip","dict_itemiterator","dict_reverseitemiterator","odict_iterator","itertools.zip_longest","itertools.pairwise"].contains n=false) (hQ:Q () s):wpAny M A (letOwnedTupleGo tg (.ref it) u) Q E s:=by
 unfold letOwnedTupleGo
 cases tg <;> first
  | exact wpAny_pure hQ
  | (cases u <;> first
   | exact wpAny_pure hQ
   | (refine wpAny_bind (wpAny_load ho ?_)
      rw [hc,hd];show wpAny M A (if (["enumerate","zip","dict_itemiterator","dict_reverseitemiterator","odict_iterator","itertools.zip_longest","itertools.pairwise"].contains n && vs[0]? == some (rawInt _))=true then _ else _) Q E s;rw [if_neg (by intro h;rw [hn,Bool.false_and] at h;cases h)];exact wpAny_pure hQ))
noncomputable def Itl (K:PySem.W.Frag) (a:Addr):It :=
 ⟨fun i H=>∃xs x,SqL K H a xs/\xs[i]?=some x,fun i H x H'=>H'=H/\∀xs,SqL K H a xs->xs[i]?=some x,fun i H=>∃xs,SqL K H a xs/\xs.length<=i⟩
noncomputable def Itt (K:PySem.W.Frag) (a:Addr):It :=
 ⟨fun i H=>∃xs x,SqT K H a xs/\xs[i]?=some x,fun i H x H'=>H'=H/\∀xs,SqT K H a xs->xs[i]?=some x,fun i H=>∃xs,SqT K H a xs/\xs.length<=i⟩
noncomputable def Itr (lo:Int) (n:Nat):It:=⟨fun i _=>i < n,fun i H x H'=>H'=H/\x=.int (lo+i),fun i _=>n<=i⟩
theorem MA {P:Program} {w:World} {K:PySem.W.Frag} {tg:Expr} (a it:Addr):KC P w K tg (Itl K a) [it] it (fun i h=>h.IsListIter it a i) where
 mem:=by simp
 obj:=fun i h st b hb=>by
  have e:b=it:=by simpa using hb
  subst e;obtain ⟨o,e,c,d⟩:=st;exact ⟨o,e,fun v z=>by rw [d] at z;cases z⟩
 keep:=fun i h h' st k=>st.at fun o e=>k it (by simp) o e
 item:=by
  intro X hP hw hK hc i pins s σ H E I hf st hg;subst hP hw hK;obtain ⟨xs,x,hq,hx⟩:=hg;obtain ⟨its,rv,p,hz⟩:=I.list hq;obtain ⟨u,hu,ru⟩:=rv.get hx;obtain ⟨f0,f1,f2,f3,f4,f5⟩:=hf it (by simp);refine wpAny_pyNext_list_item st p.isList (x:=u) (by simpa using hu) fun h' st' sb=>?_;have I1:Inv X pins σ H { s with heap:=h' }:=I.turned (t':=s.toks) (fun b o hb e=>(sb.2 b hb).trans e) f0 f1 f3 f4 f5;obtain ⟨o,e,c,d⟩:=id st';exact ⟨u,rfl,O0 (s:={ s with heap:=h' }) e c d (by decide) ⟨x,H,I1,ru,⟨rfl,fun ys hy=>by rw [I.list_inj hy hq];exact hx⟩,st',fun b hb=>(hf b hb).1⟩⟩
 done:=by
  intro X hP hw hK hc i pins s σ H E I hf st hg;subst hP hw hK;obtain ⟨xs,hq,hx⟩:=hg;obtain ⟨its,rv,p,hz⟩:=I.list hq;obtain ⟨f0,f1,f2,f3,f4,f5⟩:=hf it (by simp);have hl:=rv.length;exact wpAny_pyNext_list_end (I.ok.hd hc) st p.isList (by simp;omega) fun h' eb=>⟨rfl,I.turned (t':=s.toks) (fun b o hb e=>eb b o hb e) f0 f1 f3 f4 f5⟩
 self:=fun _ _ _ _ _ st h=>wpAny_pyIter_listiter st h
theorem Ly {P:Program} {w:World} {K:PySem.W.Frag} {tg:Expr} (a it:Addr):KC P w K tg (Itt K a) [it] it (fun i h=>h.IsTupleIter it a i) where
 mem:=by simp
 obj:=fun i h st b hb=>by
  have e:b=it:=by simpa using hb
  subst e;obtain ⟨o,e,c,d⟩:=st;exact ⟨o,e,fun v z=>by rw [d] at z;cases z⟩
 keep:=fun i h h' st k=>st.at fun o e=>k it (by simp) o e
 item:=by
  intro X hP hw hK hc i pins s σ H E I hf st hg;subst hP hw hK;obtain ⟨xs,x,hq,hx⟩:=hg;obtain ⟨its,rv,p,hz⟩:=I.tuple hq;obtain ⟨u,hu,ru⟩:=rv.get hx;obtain ⟨f0,f1,f2,f3,f4,f5⟩:=hf it (by simp);refine wpAny_pyNext_tuple_item st (show s.heap.IsTuple a its.toArray from p) (x:=u) (by simpa using hu) fun h' st' sb=>?_;have I1:Inv X pins σ H { s with heap:=h' }:=I.turned (t':=s.toks) (fun b o hb e=>(sb.2 b hb).trans e) f0 f1 f3 f4 f5;obtain ⟨o,e,c,d⟩:=id st';exact ⟨u,rfl,O0 (s:={ s with heap:=h' }) e c d (by decide) ⟨x,H,I1,ru,⟨rfl,fun ys hy=>by rw [I.tuple_inj hy hq];exact hx⟩,st',fun b hb=>(hf b hb).1⟩⟩
 done:=by
  intro X hP hw hK hc i pins s σ H E I hf st hg;subst hP hw hK;obtain ⟨xs,hq,hx⟩:=hg;obtain ⟨its,rv,p,hz⟩:=I.tuple hq;obtain ⟨f0,f1,f2,f3,f4,f5⟩:=hf it (by simp);have hl:=rv.length;exact wpAny_pyNext_tuple_end (I.ok.hd hc) st (show s.heap.IsTuple a its.toArray from p) (by simp;omega) fun h' eb=>⟨rfl,I.turned (t':=s.toks) (fun b o hb e=>eb b o hb e) f0 f1 f3 f4 f5⟩
 self:=fun _ _ _ _ _ st h=>wpAny_pyIter_tupleiter st h
theorem Lu {P:Program} {w:World} {K:PySem.W.Frag} {tg:Expr} (it:Addr) (lo:Int) (n:Nat):KC P w K tg (Itr lo n) [it] it (fun i h=>IsRangeIter h it (lo+(i:Nat)*1) ((n:Int) - (i:Nat)) 1) where
 mem:=by simp
 obj:=fun i h st b hb=>by
  have e:b=it:=by simpa using hb
  subst e
  exact ⟨_,st,fun v z=>by
   have z':Data.fields _=Data.cell v:=z
   cases z'⟩
 keep:=fun i h h' st k=>k it (by simp) _ st
 item:=by
  intro X hP hw hK hc i pins s σ H E I hf st hg;subst hP hw hK;obtain ⟨f0,f1,f2,f3,f4,f5⟩:=hf it (by simp);have W:=Walks.range (prog:=X.prog) (w:=X.w) (I.ok.hd hc) it lo 1 n;refine W.item i s _ _ hg st fun v h' tk hv st' kk=>?_;obtain ⟨t,rfl⟩:=hv;have I1:Inv X pins σ H { s with heap:=h',toks:=tk }:=I.turned (fun b o hb e=>kk b o (by simpa using hb) e) f0 f1 f3 f4 f5;refine ⟨_,rfl,O0 (s:={ s with heap:=h',toks:=tk }) (n:="range_iterator") st' rfl rfl (by decide) ⟨.int (lo+i),H,I1,⟨t,?_⟩,⟨rfl,rfl⟩,st',fun b hb=>(hf b hb).1⟩⟩;rw [Int.mul_one]
 done:=by
  intro X hP hw hK hc i pins s σ H E I hf st hg;subst hP hw hK;obtain ⟨f0,f1,f2,f3,f4,f5⟩:=hf it (by simp);exact wpAny_pyNext_range_end (I.ok.hd hc) st (by have:n<=i:=hg;omega) fun h' eb=>⟨rfl,I.turned (t':=s.toks) (fun b o hb e=>eb b o hb e) f0 f1 f3 f4 f5⟩
 self:=fun _ _ _ _ _ st h=>wpAny_pyIter_rangeiter st h
end L2
namespace L2
open PySem PySem.Spec PyProof.Rows
section
variable {X:Cx} {tg:Expr}
noncomputable def Q0 (K:PySem.W.Frag) (tl:TE):TI:=fun σ H R=>tl σ H fun x H1=>∃a,x=.ref a/\(∃xs,SqL K H1 a xs)/\R (Itl K a) H1
noncomputable def Ss (K:PySem.W.Frag) (tl:TE):TI:=fun σ H R=>tl σ H fun x H1=>∃a,x=.ref a/\(∃xs,SqT K H1 a xs)/\R (Itt K a) H1
theorem AD {l:Expr} {tl:TE} (hl:PE X l tl):PI X tg l (Q0 X.K tl):=by
 intro pins s σ H R I h;refine thn (hl pins s σ H _ I h) fun v s1 ⟨x,H1,I1,r1,q1⟩=>?_;obtain ⟨a,e,⟨xs,hq⟩,q⟩:=q1;subst e
 cases r1
 obtain ⟨its,rv,p,hz⟩:=I1.list hq;refine wpAny_pyIter_list p.isList ?_;refine ⟨s1.heap.objs.size,[s1.heap.objs.size],_,_,H1,rfl,I1.kept (t':=s1.toks) fun b o e=>Heap.get?_push_of_some _ e,MA a _,⟨_,Heap.get?_push_size _ rfl,rfl,rfl⟩,fun b hb=>?_,q⟩;have e:b=s1.heap.objs.size:=by simpa using hb
 subst e;exact I1.fpOk (Nat.le_refl _) (I1.hok.fresh (Nat.le_refl _))
theorem QX {l:Expr} {tl:TE} (hl:PE X l tl):PI X tg l (Ss X.K tl):=by
 intro pins s σ H R I h;refine thn (hl pins s σ H _ I h) fun v s1 ⟨x,H1,I1,r1,q1⟩=>?_;obtain ⟨a,e,⟨xs,hq⟩,q⟩:=q1;subst e
 cases r1
 obtain ⟨its,rv,p,hz⟩:=I1.tuple hq;refine wpAny_pyIter_tuple (show s1.heap.IsTuple a its.toArray from p) ?_;refine ⟨s1.heap.objs.size,[s1.heap.objs.size],_,_,H1,rfl,I1.kept (t':=s1.toks) fun b o e=>Heap.get?_push_of_some _ e,Ly a _,⟨_,Heap.get?_push_size _ rfl,rfl,rfl⟩,fun b hb=>?_,q⟩;have e:b=s1.heap.objs.size:=by simpa using hb
 subst e;exact I1.fpOk (Nat.le_refl _) (I1.hok.fresh (Nat.le_refl _))
theorem NV {pins:List (Addr × Obj)} {σ:St} {H:Hp} {s:Shared} {R:It->Hp->Prop} {E:Value->Shared->Prop} {lo hi:Int} {t u v:Tok} {tk:Nat} (I:Inv X pins σ H s) (h1:-(2 ^ 62)<=lo) (h2:lo < 2 ^ 62) (h3:-(2 ^ 62)<=hi) (h4:hi < 2 ^ 62)
 (q:R (Itr lo (hi - lo).toNat) H):wpAny (model X.prog X.w) X.A (pyIter (.ref s.heap.objs.size)) (PIE X pins σ tg R) E { s with heap:=s.heap.push { cls:=.type "range",data:=.fields #[.int lo t,.int hi u,.int 1 v] },toks:=tk }:=by
 refine wpAny_pyIter_range (IsRange.new ..) (small_one h1 h2 h3 h4) ?_;have I1:Inv X pins σ H { s with heap:=s.heap.push { cls:=.type "range",data:=.fields #[.int lo t,.int hi u,.int 1 v] },toks:=tk }:=I.kept fun b o e=>Heap.get?_push_of_some _ e
 refine ⟨(s.heap.push { cls:=.type "range",data:=.fields #[.int lo t,.int hi u,.int 1 v] }).objs.size,[(s.heap.push { cls:=.type "range",data:=.fields #[.int lo t,.int hi u,.int 1 v] }).objs.size],_,_,H,rfl,
  I1.kept (t':=tk) fun b o e=>Heap.get?_push_of_some _ e,Lu _ lo (hi - lo).toNat,?_,fun b hb=>?_,q⟩
 ·have e1:lo+((0:Nat):Int)*1=lo:=by simp
  have e2:(((hi - lo).toNat:Nat):Int) - ((0:Nat):Int)=Builtin.Range.rangeSize lo hi 1:=by rw [rangeSize_one];split <;> omega
  show IsRangeIter _ _ (lo+((0:Nat):Int)*1) ((((hi - lo).toNat:Nat):Int) - ((0:Nat):Int)) 1;rw [e1,e2];exact Heap.get?_push_size _ rfl
 ·have e:b=(s.heap.push { cls:=.type "range",data:=.fields #[.int lo t,.int hi u,.int 1 v] }).objs.size:=by simpa using hb
  subst e;exact I1.fpOk (Nat.le_refl _) (I1.hok.fresh (Nat.le_refl _))
noncomputable def RR (ta:TA):TI:=fun σ H R=>ta σ H fun vs H1=>∃j:Int,vs=[.int j]/\-(2 ^ 62)<=j/\j < 2 ^ 62/\R (Itr 0 j.toNat) H1
theorem AF {a:Expr} {ta:TA} {p pos:Pos} (hg:Gl X "range") (hm:X.mg "range"=none) (ha:PA X [a] ta) (hs:starEach [a] X.env=[(false,eval a X.env)]:=by rfl):PI X tg (.Call (.Name "range" p) [a] [] pos) (RR ta):=by
 intro pins s σ H R I h;refine Call_ (Cv I hg hm boot_range (PyProof.Rows.callWith_type1 (thn (ha pos pins s σ H _ I h) fun us s1 ⟨vs,H1,I1,r1,q1⟩=>?_) hs rfl));obtain ⟨j,e,q1,q2,q⟩:=q1;subst e
 cases r1 with
 | cons r rr =>
   cases rr
   obtain ⟨t,rfl⟩:=r;exact call_range_1 (NV I1 (by omega) (by omega) q1 q2 (by simpa using q))
noncomputable def Sw (wi:TI) (g:TG) (tb:TS):TS:=fun D σ H=>wi σ H fun J H1=>∃W:Nat->Nat->St->Hp->Prop,(∃m,W 0 m σ H1)/\∀i m σ H,W i m σ H ->
 (J.stop i H/\D.nx σ H)\/(J.go i H/\∃N:St->Hp->Prop,(∀σ' H',N σ' H'->∃m',m' < m/\W (i+1) m' σ' H')/\∀x H',J.yld i H x H'->g x σ H' fun σ2 H2=>tb { D with nx:=N,ct:=N,bk:=D.nx } σ2 H2)
noncomputable def FH (fp:List Addr) (h:Heap):List (Addr × Obj):=fp.filterMap fun b=>(h.get? b).map fun o=>(b,o)
theorem Cp {fp:List Addr} {h:Heap} {b:Addr} {o:Obj} (hb:b∈fp) (e:h.get? b=some o):(b,o)∈FH fp h:=mem_filterMap.mpr ⟨b,hb,by rw [e];rfl⟩
theorem Nn {fp:List Addr} {h:Heap} {p:Addr × Obj} (hp:p∈FH fp h):p.1∈fp/\h.get? p.1=some p.2:=by
 obtain ⟨b,hb,e⟩:=mem_filterMap.mp hp
 cases q:h.get? b with
 | none=>rw [q] at e;cases e
 | some o =>
   rw [q] at e;have e':(b,o)=p:=Option.some.inj e;subst e';exact ⟨hb,q⟩
theorem Inv.pinned {pins:List (Addr × Obj)} {σ:St} {H:Hp} {s:Shared} {fp:List Addr} (I:Inv X pins σ H s) (hf:∀b∈fp,Gm X pins H b) (ho:∀b∈fp,∃o,s.heap.get? b=some o/\∀v,o.data≠.cell v):Inv X (pins++FH fp s.heap) σ H s :=
 I.pins_of fun p hp=>(mem_append.mp hp).elim (fun z=>I.pin p (mem_append_right _ z)) fun z=>by
  obtain ⟨hb,e⟩:=Nn z;obtain ⟨f0,f1,f2,_⟩:=hf p.1 hb;obtain ⟨o,e',d⟩:=ho p.1 hb;rw [e] at e';cases e';exact ⟨e,f0,f1,f2,d⟩
theorem Inv.unpinned {pins pl:List (Addr × Obj)} {σ:St} {H:Hp} {s:Shared} (I:Inv X (pins++pl) σ H s):Inv X pins σ H s:=I.pins_of fun p hp=>I.pin p (mem_append_right _ (mem_append_left _ hp))
theorem Bz {iter:Expr} {body:List Stmt} {wi:TI} {g:TG} {tb:TS} {pos:Pos} (hp:PassesOwn (model X.prog X.w) X.A X.env X.xe) (hc:X.calm=true) (hi:PI X tg iter wi) (hg:PG X tg g) (hb:PSs X body tb)
 (hs:∀x,foldedSetIterable iter X.env x=pure x:=by intro _;rfl):PS X (.For tg iter body [] pos) (Sw wi g tb):=by
 intro pins s σ H D I h;refine wpAny_For (thn (hi pins s σ H _ I h) fun v s1 h1=>thn h1 fun itv s2 h2=>?_) hs;obtain ⟨it,fp,tn,J,H2,e,I2,T,st2,f2,W,⟨m0,w0⟩,turn⟩:=h2;subst e;have stat:∀{H':Hp},(∀b∈fp,H' b=none)->∀b∈fp,Gm X pins H' b:=fun hn b hb=>⟨hn b hb,(f2 b hb).2⟩;refine codeAny_forLoop_any (fun n s'=>∃i σ' H',Inv X pins σ' H' s'/\tn i s'.heap/\(∀b∈fp,H' b=none)/\W i n σ' H') ?_ m0 ⟨0,σ,H2,I2,st2,fun b hb=>(f2 b hb).1,w0⟩;rintro n s3 ⟨i,σ3,H3,I3,st3,fr3,w3⟩;rcases turn i n σ3 H3 w3 with ⟨stop,qn⟩ | ⟨go,N,hN,step⟩
 ·refine wpAny_passesOwn hp (thn (T.done X rfl rfl rfl hc i pins s3 σ3 H3 X.xe I3 (stat fr3) st3 stop) fun r s4 ⟨hr,I4⟩=>?_);subst hr;exact wpAny_execs_nil ⟨σ3,H3,I4,qn⟩
 ·refine wpAny_passesOwn hp (thn (T.item X rfl rfl rfl hc i pins s3 σ3 H3 X.xe I3 (stat fr3) st3 go) fun r s4 ⟨u,hr,h4⟩=>?_);subst hr;refine wpAny_passesOwn hp (thn h4 fun _ s5 ⟨x,H5,I5,r5,y5,st5,fr5⟩=>?_);have I5':=I5.pinned (stat fr5) (T.obj _ _ st5);refine wpAny_passesOwn hp (thn (hg _ s5 σ3 H5 x u _ I5' r5 (step x H5 y5)) fun _ s6 ⟨σ6,H6,I6,q6⟩=>?_);refine wpAny_passesOwn hp (thn (hb _ s6 σ6 H6 _ I6 q6) fun f s7 q7=>?_)
  have again:∀{σ7:St} {H7:Hp},Inv X (pins++FH fp s5.heap) σ7 H7 s7->N σ7 H7->∃m,m < n/\∃i σ' H',Inv X pins σ' H' s7/\tn i s7.heap/\(∀b∈fp,H' b=none)/\W i m σ' H':=fun {σ7 H7} I7 n7=>by
   obtain ⟨m',hm,w7⟩:=hN σ7 H7 n7;refine ⟨m',hm,i+1,σ7,H7,I7.unpinned,T.keep _ _ _ st5 fun b hb o e=>(I7.pin (b,o) (mem_append_right _ (mem_append_right _ (Cp hb e)))).1,fun b hb=>?_,w7⟩;obtain ⟨o,e,d⟩:=T.obj _ _ st5 b hb;exact (I7.pin (b,o) (mem_append_right _ (mem_append_right _ (Cp hb e)))).2.1
  cases f with
  | next=>obtain ⟨σ7,H7,I7,n7⟩:=q7;exact again I7 n7
  | cont=>obtain ⟨σ7,H7,I7,n7⟩:=q7;exact again I7 n7
  | brk=>obtain ⟨σ7,H7,I7,q7⟩:=q7;exact ⟨σ7,H7,I7.unpinned,q7⟩
  | ret v=>obtain ⟨x7,σ7,H7,I7,r7,q7⟩:=q7;exact ⟨x7,σ7,H7,I7.unpinned,r7,q7⟩
end
theorem C4 {K:PySem.W.Frag} {a:Addr} {xs:List V} {g:TG} {tb:TS} {D:F8} {σ:St} {H:Hp} (Pv:Nat->St->Hp->Prop) (h0:Pv 0 σ H) (hl:∀i σ H,i<=xs.length->Pv i σ H->SqL K H a xs)
 (hs:∀i x σ H,xs[i]?=some x->Pv i σ H->g x σ H fun σ2 H2=>tb { D with nx:=Pv (i+1),ct:=Pv (i+1),bk:=D.nx } σ2 H2) (hd:∀σ H,Pv xs.length σ H->D.nx σ H) :
 ∃W:Nat->Nat->St->Hp->Prop,(∃m,W 0 m σ H)/\∀i m σ H,W i m σ H ->
  ((Itl K a).stop i H/\D.nx σ H)\/((Itl K a).go i H/\∃N:St->Hp->Prop,(∀σ' H',N σ' H'->∃m',m' < m/\W (i+1) m' σ' H')/\∀x H',(Itl K a).yld i H x H'->g x σ H' fun σ2 H2=>tb { D with nx:=N,ct:=N,bk:=D.nx } σ2 H2):=by
 refine ⟨fun i m σ H=>m=xs.length - i/\i<=xs.length/\Pv i σ H,⟨xs.length,by simp,Nat.zero_le _,h0⟩,?_⟩;rintro i m σ H ⟨rfl,hi,p⟩;have q:=hl i σ H hi p;by_cases hlt:i < xs.length
 ·refine .inr ⟨⟨xs,xs[i],q,by simp [hlt]⟩,Pv (i+1),fun σ' H' p'=>⟨xs.length - (i+1),by omega,rfl,hlt,p'⟩,fun x H' y=>?_⟩;obtain ⟨e,y⟩:=y;subst e;exact hs i x σ _ (y xs q) p
 ·have e:i=xs.length:=by omega
  subst e;exact .inl ⟨⟨xs,q,Nat.le_refl _⟩,hd σ H p⟩
theorem Pr {K:PySem.W.Frag} {a:Addr} {xs:List V} {g:TG} {tb:TS} {D:F8} {σ:St} {H:Hp} (Pv:Nat->St->Hp->Prop) (h0:Pv 0 σ H) (hl:∀i σ H,i<=xs.length->Pv i σ H->SqT K H a xs)
 (hs:∀i x σ H,xs[i]?=some x->Pv i σ H->g x σ H fun σ2 H2=>tb { D with nx:=Pv (i+1),ct:=Pv (i+1),bk:=D.nx } σ2 H2) (hd:∀σ H,Pv xs.length σ H->D.nx σ H) :
 ∃W:Nat->Nat->St->Hp->Prop,(∃m,W 0 m σ H)/\∀i m σ H,W i m σ H ->
  ((Itt K a).stop i H/\D.nx σ H)\/((Itt K a).go i H/\∃N:St->Hp->Prop,(∀σ' H',N σ' H'->∃m',m' < m/\W (i+1) m' σ' H')/\∀x H',(Itt K a).yld i H x H'->g x σ H' fun σ2 H2=>tb { D with nx:=N,ct:=N,bk:=D.nx } σ2 H2):=by
 refine ⟨fun i m σ H=>m=xs.length - i/\i<=xs.length/\Pv i σ H,⟨xs.length,by simp,Nat.zero_le _,h0⟩,?_⟩;rintro i m σ H ⟨rfl,hi,p⟩;have q:=hl i σ H hi p;by_cases hlt:i < xs.length
 ·refine .inr ⟨⟨xs,xs[i],q,by simp [hlt]⟩,Pv (i+1),fun σ' H' p'=>⟨xs.length - (i+1),by omega,rfl,hlt,p'⟩,fun x H' y=>?_⟩;obtain ⟨e,y⟩:=y;subst e;exact hs i x σ _ (y xs q) p
 ·have e:i=xs.length:=by omega
  subst e;exact .inl ⟨⟨xs,q,Nat.le_refl _⟩,hd σ H p⟩
theorem BJ {lo:Int} {n:Nat} {g:TG} {tb:TS} {D:F8} {σ:St} {H:Hp} (Pv:Nat->St->Hp->Prop) (h0:Pv 0 σ H)
 (hs:∀i σ H,i < n->Pv i σ H->g (.int (lo+i)) σ H fun σ2 H2=>tb { D with nx:=Pv (i+1),ct:=Pv (i+1),bk:=D.nx } σ2 H2) (hd:∀σ H,Pv n σ H->D.nx σ H) :
 ∃W:Nat->Nat->St->Hp->Prop,(∃m,W 0 m σ H)/\∀i m σ H,W i m σ H ->
  ((Itr lo n).stop i H/\D.nx σ H)\/((Itr lo n).go i H/\∃N:St->Hp->Prop,(∀σ' H',N σ' H'->∃m',m' < m/\W (i+1) m' σ' H')/\∀x H',(Itr lo n).yld i H x H'->g x σ H' fun σ2 H2=>tb { D with nx:=N,ct:=N,bk:=D.nx } σ2 H2):=by
 refine ⟨fun i m σ H=>m=n - i/\i<=n/\Pv i σ H,⟨n,by simp,Nat.zero_le _,h0⟩,?_⟩;rintro i m σ H ⟨rfl,hi,p⟩;by_cases hlt:i < n
 ·refine .inr ⟨hlt,Pv (i+1),fun σ' H' p'=>⟨n - (i+1),by omega,rfl,hlt,p'⟩,fun x H' y=>?_⟩;obtain ⟨e,y⟩:=y;subst e y;exact hs i σ _ hlt p
 ·have e:i=n:=by omega
  subst e;exact .inl ⟨Nat.le_refl _,hd σ H p⟩
end L2
namespace L2
open PySem PySem.Spec PyProof.Rows
abbrev R2:=V->V->Hp->VK->Prop
def OpR (X:Cx) (f:Value->Value->Sem Value) (r:R2):Prop :=
 ∀(pins:List (Addr × Obj)) (s:Shared) (σ:St) (H:Hp) (x y:V) (v u:Value) (Q:VK),Inv X pins σ H s->AE x v->AE y u->r x y H Q ->
  wpAny (model X.prog X.w) X.A (f v u) (EP X pins σ Q) X.xe s
noncomputable def UnR (X:Cx) (f:Value->Sem Value) (r:V->Hp->VK->Prop):Prop :=
 ∀(pins:List (Addr × Obj)) (s:Shared) (σ:St) (H:Hp) (x:V) (v:Value) (Q:VK),Inv X pins σ H s->AE x v->r x H Q ->
  wpAny (model X.prog X.w) X.A (f v) (EP X pins σ Q) X.xe s
def Ci (X:Cx) (f:Value) (r:List V->Hp->VK->Prop):Prop :=
 ∀(pins:List (Addr × Obj)) (s:Shared) (σ:St) (H:Hp) (xs:List V) (us:List Value) (Q:VK),Inv X pins σ H s->A8 xs us->r xs H Q ->
  wpAny (model X.prog X.w) X.A (call f us) (EP X pins σ Q) X.xe s
noncomputable def tOp (r:R2) (ta tb:TE):TE:=fun σ H Q=>ta σ H fun x H1=>tb σ H1 fun y H2=>r x y H2 Q
noncomputable def tUn (r:V->Hp->VK->Prop) (ta:TE):TE:=fun σ H Q=>ta σ H fun x H1=>r x H1 Q
noncomputable def rI (C:Int->Int->Prop) (g:Int->Int->V):R2:=fun x y H Q=>∃i j,x=.int i/\y=.int j/\C i j/\Q (g i j) H
noncomputable def rI0 (g:Int->Int->V):R2:=fun x y H Q=>∃i j,x=.int i/\y=.int j/\Q (g i j) H
noncomputable def rU (g:Int->V):V->Hp->VK->Prop:=fun x H Q=>∃i,x=.int i/\Q (g i) H
section
variable {X:Cx} {a b c:Expr} {ta tb tc:TE} {pos:Pos}
theorem QG (ha:PE X a ta) (hb:PE X b tb) {pins:List (Addr × Obj)} {s:Shared} {σ:St} {H:Hp} {R:V->V->Hp->Prop} (I:Inv X pins σ H s)
 (h:ta σ H fun x H1=>tb σ H1 fun y H2=>R x y H2) {Q:Value->Shared->Prop} {f:Value->Value->Sem Value}
 (hf:∀v u s2 x y H2,Inv X pins σ H2 s2->AE x v->AE y u->R x y H2->wpAny (model X.prog X.w) X.A (f v u) Q X.xe s2) :
 wpAny (model X.prog X.w) X.A (eval a X.env) (fun v s₁=>wpAny (model X.prog X.w) X.A (eval b X.env) (fun u s₂=>wpAny (model X.prog X.w) X.A (f v u) Q X.xe s₂) X.xe s₁) X.xe s:=by
 refine thn (ha pins s σ H _ I h) fun v s1 ⟨x,H1,I1,r1,q1⟩=>?_;refine thn (hb pins s1 σ H1 _ I1 q1) fun u s2 ⟨y,H2,I2,r2,q2⟩=>?_;exact hf v u s2 x y H2 I2 r1 r2 q2
theorem Ai {op:Operator} {r:R2} (ho:OpR X (binaryOp op) r) (ha:PE X a ta) (hb:PE X b tb):PE X (.BinOp a op b pos) (tOp r ta tb):=by
 intro pins s σ H Q I h;exact wpAny_BinOp (QG ha hb I h fun v u s2 x y H2 I2 rx ry q=>ho pins s2 σ H2 x y v u Q I2 rx ry q)
theorem Eu {op:UnaryOp} {r:V->Hp->VK->Prop} (ho:UnR X (unaryOp op) r) (ha:PE X a ta):PE X (.UnaryOp op a pos) (tUn r ta):=by
 intro pins s σ H Q I h;exact UnaryOp_ (thn (ha pins s σ H _ I h) fun v s1 ⟨x,H1,I1,r1,q1⟩=>ho pins s1 σ H1 x v Q I1 r1 q1)
theorem opI {f:Value->Value->Sem Value} {C:Int->Int->Prop} {g:Int->Int->Int}
 (rule:∀(i j:Int) (t u:Tok) (s:Shared) (Q:Value->Shared->Prop) (E:Value->Shared->Prop),C i j->Q (.int (g i j) s.toks) { s with toks:=s.toks+1 }->wpAny (model X.prog X.w) X.A (f (.int i t) (.int j u)) Q E s) :
 OpR X f (rI C fun i j=>.int (g i j)):=by
 intro pins s σ H x y v u Q I rx ry h;obtain ⟨i,j,rfl,rfl,hc,q⟩:=h;obtain ⟨t,rfl⟩:=rx;obtain ⟨t',rfl⟩:=ry;exact rule i j t t' s _ _ hc ⟨.int (g i j),H,I.tok _,⟨_,rfl⟩,q⟩
theorem Pu {f:Value->Value->Sem Value} {g:Int->Int->Int}
 (rule:∀(i j:Int) (t u:Tok) (s:Shared) (Q:Value->Shared->Prop) (E:Value->Shared->Prop),Q (.int (g i j) s.toks) { s with toks:=s.toks+1 }->wpAny (model X.prog X.w) X.A (f (.int i t) (.int j u)) Q E s) :
 OpR X f (rI0 fun i j=>.int (g i j)):=by
 intro pins s σ H x y v u Q I rx ry h;obtain ⟨i,j,rfl,rfl,q⟩:=h;obtain ⟨t,rfl⟩:=rx;obtain ⟨t',rfl⟩:=ry;exact rule i j t t' s _ _ ⟨.int (g i j),H,I.tok _,⟨_,rfl⟩,q⟩
theorem Qt {f:Value->Value->Sem Value} {g:Int->Int->Bool}
 (rule:∀(i j:Int) (t u:Tok) (s:Shared) (Q:Value->Shared->Prop) (E:Value->Shared->Prop),Q (.bool (g i j)) s->wpAny (model X.prog X.w) X.A (f (.int i t) (.int j u)) Q E s) :
 OpR X f (rI0 fun i j=>.bl (g i j)):=by
 intro pins s σ H x y v u Q I rx ry h;obtain ⟨i,j,rfl,rfl,q⟩:=h;obtain ⟨t,rfl⟩:=rx;obtain ⟨t',rfl⟩:=ry;exact rule i j t t' s _ _ ⟨.bl (g i j),H,I,rfl,q⟩
noncomputable def NB (i j:Int):Prop:=0<=j/\j<=1000000/\i.natAbs < 2 ^ 64
theorem LF (k:Nat):(0:Int)<=2 ^ k:=by
 rw [two_pow_cast];exact Int.natCast_nonneg _
theorem AC:OpR X (binaryOp .Add) (rI0 fun i j=>.int (i+j)):=Pu fun _ _ _ _ _ _ _ q=>add_int q
theorem BB:OpR X (binaryOp .Sub) (rI0 fun i j=>.int (i - j)):=Pu fun _ _ _ _ _ _ _ q=>sub_int q
theorem AA:OpR X (binaryOp .Mod) (rI (fun _ j=>j≠0) fun i j=>.int (i.fmod j)):=opI fun _ _ _ _ _ _ _ hc q=>mod_int' hc q
theorem FF:OpR X (binaryOp .Pow) (rI NB fun i j=>.int (i ^ j.toNat)):=opI fun _ _ _ _ _ _ _ hc q=>pow_int_small hc.1 hc.2.1 hc.2.2 q
theorem CT:OpR X (binaryOp .LShift) (rI NB fun i j=>.int (i*2 ^ j.toNat)):=opI fun _ _ _ _ _ _ _ hc q=>lshift_int_small hc.1 hc.2.1 hc.2.2 q
theorem Fm:OpR X (binaryOp .RShift) (rI (fun _ j=>0<=j) fun i j=>.int (i / 2 ^ j.toNat)):=opI fun i j _ _ _ _ _ hc q =>
 rshift_int hc (by rw [Int.fdiv_eq_ediv_of_nonneg i (LF _)];exact q)
theorem E7:OpR X (binaryOp .BitAnd) (rI0 fun i j=>.int (Builtin.bitAnd i j)):=Pu fun _ _ _ _ _ _ _ q=>and_int q
theorem RD:OpR X (binaryOp .BitOr) (rI0 fun i j=>.int (Builtin.bitOr i j)):=Pu fun _ _ _ _ _ _ _ q=>or_int q
theorem unI {f:Value->Sem Value} {g:Int->Int}
 (rule:∀(i:Int) (t:Tok) (s:Shared) (Q:Value->Shared->Prop) (E:Value->Shared->Prop),Q (.int (g i) s.toks) { s with toks:=s.toks+1 }->wpAny (model X.prog X.w) X.A (f (.int i t)) Q E s) :
 UnR X f (rU fun i=>.int (g i)):=by
 intro pins s σ H x v Q I rx h;obtain ⟨i,rfl,q⟩:=h;obtain ⟨t,rfl⟩:=rx;exact rule i t s _ _ ⟨.int (g i),H,I.tok _,⟨_,rfl⟩,q⟩
theorem Dx:UnR X (unaryOp .USub) (rU fun i=>.int (-i)):=unI fun _ _ _ _ _ q=>neg_int q
theorem Rj:UnR X (unaryOp .Invert) (rU fun i=>.int (Builtin.bitNot i)):=unI fun _ _ _ _ _ q=>invert_int q
end
noncomputable def RH:V->V->Bool
 | .non,.non=>true | .non,.int _=>true | .int _,.non=>true | .non,.bl _=>true | .bl _,.non=>true | .non,.str _=>true | .str _,.non=>true
 | .int _,.int _=>true | .bl _,.bl _=>true | .str _,.str _=>true | .byt _,.byt _=>true
 | .int _,.str _=>true | .str _,.int _=>true | .bl _,.str _=>true | .str _,.bl _=>true
 | _,_=>false
noncomputable def rEq:R2:=fun x y H Q=>RH x y=true/\Q (.bl (decide (x=y))) H
noncomputable def rNe:R2:=fun x y H Q=>RH x y=true/\Q (.bl (!decide (x=y))) H
theorem LX {i j:Int}:decide (V.int i=V.int j)=(i == j):=by
 rw [Bool.eq_iff_iff];simp
theorem Oi {i j:Bool}:decide (V.bl i=V.bl j)=(i == j):=by
 rw [Bool.eq_iff_iff];simp
theorem LP {i j:Str}:decide (V.str i=V.str j)=(i == j):=by
 rw [Bool.eq_iff_iff];simp
theorem LZ {i j:Array UInt8}:decide (V.byt i=V.byt j)=(i.toList == j.toList):=by
 rw [Bool.eq_iff_iff]
 cases i
 cases j
 simp
section
variable {X:Cx} {a b c:Expr} {ta tb tc:TE} {pos:Pos}
theorem AL {pins:List (Addr × Obj)} {σ:St} {H:Hp} {s:Shared} {Q:VK} {k k':Bool} (I:Inv X pins σ H s) (q:Q (.bl k) H) (e:k=k'):EP X pins σ Q (.bool k') s:=by
 subst e;exact ⟨.bl k,H,I,rfl,q⟩
theorem B4:OpR X (compareOp .Eq) rEq:=by
 intro pins s σ H x y v u Q I rx ry h;obtain ⟨hs,q⟩:=h
 cases x with
 | non =>
   cases rx
   cases y with
   | non=>cases ry;exact PySem.EqNone.eq_none_none (AL I q (by simp))
   | bl j=>cases ry;exact PySem.EqNone.eq_none_bool (AL I q (by simp))
   | int j=>obtain ⟨t',rfl⟩:=ry;exact PySem.EqNone.eq_none_int (AL I q (by simp))
   | str j=>obtain ⟨t',rfl⟩:=ry;exact PySem.EqNone.eq_none_str (AL I q (by simp))
   | _=>exact absurd (show false=true from hs) Bool.false_ne_true
 | bl i =>
   cases rx
   cases y with
   | non=>cases ry;exact PySem.EqNone.eq_bool_none (AL I q (by simp))
   | bl j=>cases ry;exact eq_bool (AL I q Oi)
   | str j=>obtain ⟨t',rfl⟩:=ry;exact PySem.EqMixed.eq_bool_str (AL I q (by simp))
   | _=>exact absurd (show false=true from hs) Bool.false_ne_true
 | int i =>
   obtain ⟨t,rfl⟩:=rx
   cases y with
   | non=>cases ry;exact PySem.EqNone.eq_int_none (AL I q (by simp))
   | int j=>obtain ⟨t',rfl⟩:=ry;exact eq_int (AL I q LX)
   | str j=>obtain ⟨t',rfl⟩:=ry;exact PySem.EqMixed.eq_int_str (AL I q (by simp))
   | _=>exact absurd (show false=true from hs) Bool.false_ne_true
 | str i =>
   obtain ⟨t,rfl⟩:=rx
   cases y with
   | non=>cases ry;exact PySem.EqNone.eq_str_none (AL I q (by simp))
   | bl j=>cases ry;exact PySem.EqMixed.eq_str_bool (AL I q (by simp))
   | int j=>obtain ⟨t',rfl⟩:=ry;exact PySem.EqMixed.eq_str_int (AL I q (by simp))
   | str j=>obtain ⟨t',rfl⟩:=ry;exact eq_str (AL I q LP)
   | _=>exact absurd (show false=true from hs) Bool.false_ne_true
 | byt i =>
   obtain ⟨t,rfl⟩:=rx
   cases y with
   | byt j=>obtain ⟨t',rfl⟩:=ry;exact PySem.W.eq_bytes (AL I q LZ)
   | _=>exact absurd (show false=true from hs) Bool.false_ne_true
 | _=>cases y <;> exact absurd (show false=true from hs) Bool.false_ne_true
theorem GP:OpR X (compareOp .NotEq) rNe:=by
 intro pins s σ H x y v u Q I rx ry h;obtain ⟨hs,q⟩:=h
 cases x with
 | non =>
   cases rx
   cases y with
   | non=>cases ry;exact PySem.EqNone.ne_none_none (AL I q (by simp))
   | bl j=>cases ry;exact PySem.EqNone.ne_none_bool (AL I q (by simp))
   | int j=>obtain ⟨t',rfl⟩:=ry;exact PySem.EqNone.ne_none_int (AL I q (by simp))
   | str j=>obtain ⟨t',rfl⟩:=ry;exact PySem.EqNone.ne_none_str (AL I q (by simp))
   | _=>exact absurd (show false=true from hs) Bool.false_ne_true
 | bl i =>
   cases rx
   cases y with
   | non=>cases ry;exact PySem.EqNone.ne_bool_none (AL I q (by simp))
   | bl j=>cases ry;exact ne_bool (AL I q (congrArg not Oi))
   | str j=>obtain ⟨t',rfl⟩:=ry;exact PySem.EqMixed.ne_bool_str (AL I q (by simp))
   | _=>exact absurd (show false=true from hs) Bool.false_ne_true
 | int i =>
   obtain ⟨t,rfl⟩:=rx
   cases y with
   | non=>cases ry;exact PySem.EqNone.ne_int_none (AL I q (by simp))
   | int j=>obtain ⟨t',rfl⟩:=ry;exact ne_int (AL I q (congrArg not LX))
   | str j=>obtain ⟨t',rfl⟩:=ry;exact PySem.EqMixed.ne_int_str (AL I q (by simp))
   | _=>exact absurd (show false=true from hs) Bool.false_ne_true
 | str i =>
   obtain ⟨t,rfl⟩:=rx
   cases y with
   | non=>cases ry;exact PySem.EqNone.ne_str_none (AL I q (by simp))
   | bl j=>cases ry;exact PySem.EqMixed.ne_str_bool (AL I q (by simp))
   | int j=>obtain ⟨t',rfl⟩:=ry;exact PySem.EqMixed.ne_str_int (AL I q (by simp))
   | str j=>obtain ⟨t',rfl⟩:=ry;exact ne_str (AL I q (congrArg not LP))
   | _=>exact absurd (show false=true from hs) Bool.false_ne_true
 | byt i =>
   obtain ⟨t,rfl⟩:=rx
   cases y with
   | byt j=>obtain ⟨t',rfl⟩:=ry;exact PySem.W.ne_bytes (AL I q (congrArg not LZ))
   | _=>exact absurd (show false=true from hs) Bool.false_ne_true
 | _=>cases y <;> exact absurd (show false=true from hs) Bool.false_ne_true
theorem FQ:OpR X (compareOp .Lt) (rI0 fun i j=>.bl (decide (i < j))):=Qt fun _ _ _ _ _ _ _ q=>lt_int q
theorem Hj:OpR X (compareOp .LtE) (rI0 fun i j=>.bl (decide (i<=j))):=Qt fun _ _ _ _ _ _ _ q=>le_int q
theorem EY:OpR X (compareOp .Gt) (rI0 fun i j=>.bl (decide (j < i))):=Qt fun _ _ _ _ _ _ _ q=>gt_int q
theorem RO:OpR X (compareOp .GtE) (rI0 fun i j=>.bl (decide (j<=i))):=Qt fun _ _ _ _ _ _ _ q=>ge_int q
theorem Rs:OpR X (compareOp .Is) (fun x y H Q=>y=.non/\Q (.bl (decide (x=.non))) H):=by
 intro pins s σ H x y v u Q I rx ry h;obtain ⟨rfl,q⟩:=h
 cases ry
 refine is_none_gen (AL I q ?_)
 cases x <;> first
  | (cases rx;rfl)
  | (obtain ⟨t,rfl⟩:=rx;rfl)
theorem PD:OpR X (compareOp .IsNot) (fun x y H Q=>y=.non/\Q (.bl (!decide (x=.non))) H):=by
 intro pins s σ H x y v u Q I rx ry h;obtain ⟨rfl,q⟩:=h
 cases ry
 refine isnot_none_gen (AL I q ?_)
 cases x <;> first
  | (cases rx;rfl)
  | (obtain ⟨t,rfl⟩:=rx;rfl)
theorem As (b:Expr) {op:CmpOp} (h:op≠.In:=by decide) (h2:op≠.NotIn:=by decide):behindInMarks op b=false:=by
 have e1:(op == CmpOp.In)=false:=by cases op <;> first | rfl | exact absurd rfl h
 have e2:(op == CmpOp.NotIn)=false:=by cases op <;> first | rfl | exact absurd rfl h2
 cases b <;> simp [behindInMarks,e1,e2]
theorem C1 {op:CmpOp} {r:R2} (ho:OpR X (compareOp op) r) (ha:PE X a ta) (hb:PE X b tb) (hm:behindInMarks op b=false):PE X (.Compare a [op] [b] pos) (tOp r ta tb):=by
 intro pins s σ H Q I h;exact wpAny_Compare1 (QG ha hb I h fun v u s2 x y H2 I2 rx ry q=>ho pins s2 σ H2 x y v u Q I2 rx ry q) hm
noncomputable def R0 (t:TE):TT:=fun σ H Q=>t σ H fun x H'=>∃k,x=.bl k/\Q k H'
theorem Ar {op:CmpOp} {r:R2} (ho:OpR X (compareOp op) r) (ha:PE X a ta) (hb:PE X b tb) (hm:behindInMarks op b=false):PT X (.Compare a [op] [b] pos) (R0 (tOp r ta tb)):=by
 intro pins s σ H Q I h
 refine wpAny_isTrue_Compare1 (thn (ha pins s σ H _ I h) fun v s1 ⟨x,H1,I1,r1,q1⟩=>thn (hb pins s1 σ H1 _ I1 q1) fun u s2 ⟨y,H2,I2,r2,q2⟩ =>
  thn (ho pins s2 σ H2 x y v u _ I2 r1 r2 q2) fun c s3 ⟨z,H3,I3,r3,k,e,q3⟩=>?_) hm
 subst e
 cases r3
 exact wpAny_truthy_bool ⟨H3,I3,q3⟩
noncomputable def QM (r r':R2) (ta tb tc:TE):TE:=fun σ H Q=>ta σ H fun x H1=>tb σ H1 fun y H2=>r x y H2 fun z H3=>∃k,z=.bl k /\
 (if k=true then tc σ H3 fun w' H4=>r' y w' H4 Q else Q (.bl false) H3)
theorem EJ {op op':CmpOp} {r r':R2} (ho:OpR X (compareOp op) r) (ho':OpR X (compareOp op') r') (ha:PE X a ta) (hb:PE X b tb) (hc:PE X c tc)
 (hm:lastMarks [op,op'] [b,c]=false:=by with_unfolding_all rfl):PE X (.Compare a [op,op'] [b,c] pos) (QM r r' ta tb tc):=by
 intro pins s σ H Q I h
 refine Compare_chain (thn (ha pins s σ H _ I h) fun v s1 ⟨x,H1,I1,r1,q1⟩=>chain_link (thn (hb pins s1 σ H1 _ I1 q1) fun u s2 ⟨y,H2,I2,r2,q2⟩ =>
  thn (ho pins s2 σ H2 x y v u _ I2 r1 r2 q2) fun d s3 ⟨z,H3,I3,r3,k,e,q3⟩=>?_)) hm
 subst e
 cases r3
 refine wpAny_truthy_bool ?_
 cases k with
 | false=>exact ite_ff ⟨.bl false,H3,I3,rfl,q3⟩
 | true=>exact ite_tt (chain_last (thn (hc pins s3 σ H3 _ I3 q3) fun w' s4 ⟨z',H4,I4,r4,q4⟩=>ho' pins s4 σ H4 y z' u w' Q I4 r2 r4 q4))
theorem Jf:(sizeLine:Nat) < 2 ^ 63:=by rw [sizeLine_eq];decide
theorem DB {x:V} {us:List Value} (r:A8 [x] us):∃u,us=[u]/\AE x u:=by
 cases r with
 | cons r1 r2=>cases r2;exact ⟨_,rfl,r1⟩
theorem Ov {x y:V} {us:List Value} (r:A8 [x,y] us):∃u w',us=[u,w']/\AE x u/\AE y w':=by
 cases r with
 | cons r1 r2 =>
   cases r2 with
   | cons r3 r4=>cases r4;exact ⟨_,_,rfl,r1,r3⟩
theorem Dn (hc:X.calm=true):Ci X (.builtin "max") (fun xs H Q=>∃i j,xs=[.int i,.int j]/\Q (.int (if j > i then j else i)) H):=by
 intro pins s σ H xs us Q I r h;obtain ⟨i,j,rfl,q⟩:=h;obtain ⟨u,w',rfl,⟨t,rfl⟩,⟨t',rfl⟩⟩:=Ov r;refine max_two_ints (I.ok.hd hc) fun h' tk k=>⟨_,H,I.kept k,?_,q⟩;by_cases hj:j > i
 ·rw [if_pos hj,if_pos hj];exact ⟨_,rfl⟩
 ·rw [if_neg hj,if_neg hj];exact ⟨_,rfl⟩
theorem F3 (hc:X.calm=true):Ci X (.builtin "min") (fun xs H Q=>∃i j,xs=[.int i,.int j]/\Q (.int (if j < i then j else i)) H):=by
 intro pins s σ H xs us Q I r h;obtain ⟨i,j,rfl,q⟩:=h;obtain ⟨u,w',rfl,⟨t,rfl⟩,⟨t',rfl⟩⟩:=Ov r;refine min_two_ints (I.ok.hd hc) fun h' tk k=>⟨_,H,I.kept k,?_,q⟩;by_cases hj:j < i
 ·rw [if_pos hj,if_pos hj];exact ⟨_,rfl⟩
 ·rw [if_neg hj,if_neg hj];exact ⟨_,rfl⟩
end
end L2
namespace L2
open PySem PySem.Spec PyProof.Rows
structure L6 (h:Heap) (x dx C:Addr) (mA:Str->Option Value):Prop where
 obj:h.get? x=some (PySem.W.instObj C dx)
 ns:h.Ns1 dx mA
 ne:dx≠x
theorem M7 {h:Heap} {dx:Addr} {mA:Str->Option Value} (n:h.Ns1 dx mA):∃od,h.get? dx=some od/\∀name,PySem.W.lookIn name od=some (mA name):=by
 obtain ⟨o,es,ep,ho,hd,hk,_,hm⟩:=n;refine ⟨o,ho,fun name=>?_⟩;have e:=hm name;unfold nsFind findBy at e;rw [<- Array.find?_toList] at e;unfold PySem.W.lookIn;rw [hd];dsimp only
 split
 ·rename_i y q
  rw [q] at e;exact congrArg some e
 ·rename_i q
  rw [q] at e
  have a:es.toList.any (·.refKey)=false:=by
   rw [any_eq_false];intro y hy;obtain ⟨z,t,hkey⟩:=hk y (Array.mem_toList_iff.mp hy);simp [DictEntry.refKey,hkey]
  have a':¬ es.toList.any (·.refKey)=true:=by rw [a];exact Bool.false_ne_true
  rw [if_neg a'];exact congrArg some e
theorem L6.look {h:Heap} {x dx C:Addr} {mA:Str->Option Value} (I:L6 h x dx C mA):∃od,PySem.W.InstAt h x (PySem.W.instObj C dx) C (some od)/\∀name,PySem.W.lookIn name od=some (mA name) :=
 let ⟨od,ho,hl⟩:=M7 I.ns
 ⟨od,⟨I.obj,rfl,rfl,ho⟩,hl⟩
section
variable {prog:Program} {w:World} {A:Around} {E:Value->Shared->Prop} {s:Shared} {K:PySem.W.Frag} {x dx C f:Addr} {mA:Str->Option Value} {name:Str} {v:Value}
theorem P1 {expr:Bool} {Q:Value->Shared->Prop} (X:K.In s.heap) (I:L6 s.heap x dx C mA) (hg:PySem.W.plainGet K C name=true) (hh:PySem.W.hasDictIn K C=true)
 (ha:PySem.W.findIn K (.ref C) name=some none) (hv:mA name=some v) (hv':PySem.W.handedIn v=true) (h:Q v { s with toks:=s.toks+1 }) :
 wpAny (model prog w) A (getAttr (.ref x) name expr) Q E s:=by
 obtain ⟨od,J,hl⟩:=I.look;exact PySem.W.get_value X J (PySem.W.plainGet_of hg).1 (PySem.W.findObj_own hh ha rfl (by rw [hl,hv])) hv' h
theorem On {pl:Sem Bool} {Q:Value × List Value->Shared->Prop} (X:K.In s.heap) (I:L6 s.heap x dx C mA) (hg:PySem.W.plainGet K C name=true)
 (hf:PySem.W.findIn K (.ref C) name=some (some (.ref f))) (ht:PySem.W.isFn K (.ref f)=true) (hv:mA name=none) (h:Q (.ref f,[.ref x]) s) :
 wpAny (model prog w) A (getMethod (.ref x) name pl) Q E s:=by
 obtain ⟨od,J,hl⟩:=I.look;exact PySem.W.method_fn X J (PySem.W.plainGet_of hg).1 (PySem.W.plainGet_of hg).2 hf (beq_iff_eq.mp ht) (by show (PySem.W.lookIn name od).map (·.isSome)=some false;rw [hl,hv];rfl) h
theorem set_map {ns:List Str} {Q:Unit->Shared->Prop} (X:K.In s.heap) (I:L6 s.heap x dx C mA)
 (hs:PySem.W.findIn K (.ref C) "__setattr__"=some (some (.builtin "object.__setattr__"))) (hp:PySem.W.plainOver K C=true) (ht:PySem.W.takerIn K C name=some none) (hh:PySem.W.hasDictIn K C=true)
 (hw:PySem.Within mA ns) (hsz:ns.length<=sizeLine)
 (h:∀h',L6 h' x dx C (fun y=>if y=name then some v else mA y)->Heap.SameBut dx s.heap h'->Q () { s with heap:=h',toks:=s.toks+2 }) :
 wpAny (model prog w) A (setAttr (.ref x) name v) Q E s:=by
 obtain ⟨od,J,hl⟩:=I.look;refine PySem.W.set_plain X J hs (PySem.W.osa_open (s:={ s with toks:=s.toks+1 }) (r:=none) X J hp ht fun b=>?_);obtain ⟨cd,hc,hd'⟩:=PySem.W.any_some hh;have hx:s.heap.get? x=some ⟨.ref C,some dx,.plain,#[]⟩:=I.obj;refine wpAny_bind (wpAny_pure (wpAny_bind (wpAny_bind (wpAny_loadPart hx (wpAny_bind (PySem.W.Looks.here (s:={ s with toks:=s.toks+1 }) (PySem.W.looks_clsIn X hc) ?_))))));rw [hd'];refine wpAny_pure (a:=some dx) (wpAny_bind (wpAny_pure (wpAny_bind ?_)));refine wpAny_nsSet1 (s:={ s with toks:=s.toks+1 }) I.ns fun h' hn2 hs2=>?_;obtain ⟨oD,esD,epD,hoD,hdD,hcD⟩:=hn2.count (PySem.Within.cons name v hw);refine wpAny_bind (wpAny_lookBehind hoD (by rw [hdD];exact pastItsLine_dict (Nat.le_trans hcD (by rw [length_cons];omega))) ?_);exact wpAny_pure (h _ ⟨(hs2.2 _ (Ne.symm I.ne)).trans I.obj,hn2,I.ne⟩ hs2)
theorem Ot {R:Result->Shared->Prop} {vs:List Value} {kw:List (Str × Value)} (X:K.In s.heap) (hm:PySem.W.makesIn K C=true)
 (hi:PySem.W.findIn K (.ref C) "__init__"=some (some (.ref f))) (hf:PySem.W.typeIn K (.ref f)=some (.type "function"))
 (h:codeAny (model prog w) (A.under (.builtin "type.__call__" ⟨.ref C :: vs,kw⟩)) (.call (.ref f) ⟨.ref (s.heap.objs.size+1) :: vs,kw⟩) (PySem.W.InitBack (s.heap.objs.size+1) R)
  { s with heap:=(s.heap.push PySem.W.emptyDict).push (PySem.W.instObj C s.heap.objs.size) }) :
 codeAny (model prog w) A (.call (.ref C) ⟨vs,kw⟩) R s:=by
 obtain ⟨hh,g,d,t,os⟩:=s;exact PySem.W.make_core (PySem.W.makes_of X hm) (PySem.W.looks_findIn X hi) (fun self=>PySem.W.bind_fn X self hf) (.inl rfl) h
end
noncomputable def CY (f:Str) (v:V):List (Str × V)->List (Str × V)
 | []=>[(f,v)]
 | (g,x) :: r=>if g=f then (g,v) :: r else (g,x) :: CY f v r
theorem Ga (f g:Str) (v:V):∀fs:List (Str × V),(CY f v fs).lookup g=if g=f then some v else fs.lookup g
 | []=>by
   show List.lookup g [(f,v)]=_;by_cases h:g=f
   ·have hb:(g == f)=true:=beq_iff_eq.mpr h;simp only [List.lookup,hb,if_pos h]
   ·have hb:(g == f)=false:=beq_eq_false_iff_ne.mpr h;simp only [List.lookup,hb,if_neg h]
 | (k,x) :: r=>by
   have ih:=Ga f g v r;rw [show CY f v ((k,x) :: r)=(if k=f then (k,v) :: r else (k,x) :: CY f v r) from rfl];by_cases hk:k=f
   ·rw [if_pos hk];by_cases h:g=k
    ·have hb:(g == k)=true:=beq_iff_eq.mpr h;simp only [List.lookup,hb,if_pos (h.trans hk)]
    ·have hb:(g == k)=false:=beq_eq_false_iff_ne.mpr h;simp only [List.lookup,hb,if_neg (fun e:g=f=>h (e.trans hk.symm))]
   ·rw [if_neg hk];by_cases h:g=k
    ·have hb:(g == k)=true:=beq_iff_eq.mpr h;simp only [List.lookup,hb,if_neg (fun e:g=f=>hk (h.symm.trans e))]
    ·have hb:(g == k)=false:=beq_eq_false_iff_ne.mpr h;simp only [List.lookup,hb];exact ih
theorem F4 (f:Str) (v:V):∀fs:List (Str × V),f∈(CY f v fs).map (·.1)/\∀g,g∈fs.map (·.1)->g∈(CY f v fs).map (·.1)
 | []=>⟨by simp [CY],fun g h=>by simp at h⟩
 | (k,x) :: r=>by
   obtain ⟨i1,i2⟩:=F4 f v r;rw [show CY f v ((k,x) :: r)=(if k=f then (k,v) :: r else (k,x) :: CY f v r) from rfl];by_cases hk:k=f
   ·rw [if_pos hk];subst hk;exact ⟨by simp,fun g h=>by simpa using h⟩
   ·rw [if_neg hk];refine ⟨?_,fun g h=>?_⟩
    ·rw [map_cons];exact mem_cons_of_mem _ i1
    ·rw [map_cons] at h ⊢;rcases mem_cons.mp h with e | e
     ·exact mem_cons.mpr (.inl e)
     ·exact mem_cons_of_mem _ (i2 g e)
theorem FL (f:Str) (v:V):∀fs:List (Str × V),(CY f v fs).length<=fs.length+1
 | []=>by simp [CY]
 | (k,x) :: r=>by
   have ih:=FL f v r;rw [show CY f v ((k,x) :: r)=(if k=f then (k,v) :: r else (k,x) :: CY f v r) from rfl];by_cases hk:k=f
   ·rw [if_pos hk,length_cons,length_cons];omega
   ·rw [if_neg hk,length_cons,length_cons];omega
theorem DH.some_of {v:V} {o:Option Value} (r:DH (some v) o):∃u,o=some u/\AE v u:=by
 cases o with
 | none=>exact (show False from r).elim
 | some u=>exact ⟨u,rfl,r⟩
theorem DH.none_of {o:Option Value} (r:DH none o):o=none:=by
 cases o with
 | none=>rfl
 | some u=>exact (show False from r).elim
theorem ML {v:V} {u:Value} (r:AE v u):PySem.W.handedIn u=true:=by
 cases v with
 | non=>cases (show u=Value.none from r);rfl
 | bl b=>cases (show u=Value.bool b from r);rfl
 | int i=>obtain ⟨t,e⟩:=(show ∃t,u=Value.int i t from r);cases e;rfl
 | str x=>obtain ⟨t,e⟩:=(show ∃t,u=Value.str x t from r);cases e;rfl
 | byt b=>obtain ⟨t,e⟩:=(show ∃t,u=Value.bytes b t from r);cases e;rfl
 | flt b=>obtain ⟨t,e⟩:=(show ∃t,u=Value.float b t from r);cases e;rfl
 | ref a=>cases (show u=Value.ref a from r);rfl
 | ty n=>cases (show u=Value.type n from r);rfl
section
variable {P:Program} {w:World} {H H':Hp} {h h':Heap} {a C dx:Addr} {fs fs':List (Str × V)}
theorem Gw (hok:HOk P w H h) (e:H a=some (.ins C dx fs)):∃mA,L6 h a dx C mA/\(∀f,DH (fs.lookup f) (mA f))/\PySem.Within mA (fs.map (·.1))/\fs.length<=1000/\H dx=some (.own a):=by
 obtain ⟨d,z,ne,ob,mA,n,r,q⟩:=(show AY P w H h a (.ins C dx fs) from hok a _ e);exact ⟨mA,⟨ob,n,ne⟩,r,q,z,d⟩
end
structure Cls (K:PySem.W.Frag) (C:Addr):Prop where
 pg:PySem.W.plainGet K C Str.empty=true
 hd:PySem.W.hasDictIn K C=true
 po:PySem.W.plainOver K C=true
 sa:PySem.W.findIn K (.ref C) "__setattr__"=some (some (.builtin "object.__setattr__"))
theorem Cls.get {K:PySem.W.Frag} {C:Addr} (c:Cls K C) (f:Str):PySem.W.plainGet K C f=true:=c.pg
noncomputable def Ce (K:PySem.W.Frag) (C:Addr) (f:Str):Prop:=PySem.W.findIn K (.ref C) f=some none
theorem Ce.taker {K:PySem.W.Frag} {C:Addr} {f:Str} (n:Ce K C f):PySem.W.takerIn K C f=some none:=by
 unfold PySem.W.takerIn;rw [show PySem.W.findIn K (.ref C) f=some none from n];rfl
structure Gn (K:PySem.W.Frag) (C:Addr) (m:Str) (f:Addr):Prop where
 at_:PySem.W.findIn K (.ref C) m=some (some (.ref f))
 fn:PySem.W.isFn K (.ref f)=true
 kp:PySem.W.keepIn K (.ref f)=true
section
variable {X:Cx} {pins:List (Addr × Obj)} {σ:St} {H:Hp} {s:Shared} {a C dx:Addr} {fs:List (Str × V)} {f:Str} {v:V} {A:Around} {E:Value->Shared->Prop}
theorem Ld {b:Bool} {Q:Value->Shared->Prop} (I:Inv X pins σ H s) (e:H a=some (.ins C dx fs)) (c:Cls X.K C) (n:Ce X.K C f) (l:fs.lookup f=some v)
 (h:∀u s',Inv X pins σ H s'->AE v u->Q u s'):wpAny (model X.prog X.w) A (getAttr (.ref a) f b) Q E s:=by
 obtain ⟨mA,O,r,_,_,_⟩:=Gw I.hok e;obtain ⟨u,hu,ru⟩:=DH.some_of (v:=v) (o:=mA f) (by rw [<- l];exact r f);exact P1 I.kIn O (c.get f) c.hd n hu (ML ru) (h u _ (I.tok _) ru)
theorem Lj {m:Str} {g:Addr} {pl:Sem Bool} {Q:Value × List Value->Shared->Prop} (I:Inv X pins σ H s) (e:H a=some (.ins C dx fs)) (c:Cls X.K C) (k:Gn X.K C m g) (l:fs.lookup m=none)
 (h:Q (.ref g,[.ref a]) s):wpAny (model X.prog X.w) A (getMethod (.ref a) m pl) Q E s:=by
 obtain ⟨mA,O,r,_,_,_⟩:=Gw I.hok e;have hn:mA m=none:=DH.none_of (by rw [<- l];exact r m);exact On I.kIn O (c.get m) k.at_ k.fn hn h
theorem Ll {y:V} {u:Value} {Q:Unit->Shared->Prop} (I:Inv X pins σ H s) (e:H a=some (.ins C dx fs)) (c:Cls X.K C) (n:Ce X.K C f) (hl:fs.length < 1000) (ry:AE y u)
 (h:∀s',Inv X pins σ (upd H a (.ins C dx (CY f y fs))) s'->Q () s'):wpAny (model X.prog X.w) A (setAttr (.ref a) f u) Q E s:=by
 obtain ⟨mA,O,r,wi,_,ho⟩:=Gw I.hok e;have hz:(fs.map (·.1)).length<=sizeLine:=by rw [length_map,sizeLine_eq];omega
 refine set_map I.kIn O c.sa c.po n.taker c.hd wi hz fun h' O' sb=>h _ ?_;have hd:∃o,h'.get? dx=some o:=let ⟨o,_,_,e',_⟩:=O'.ns;⟨o,e'⟩;refine I.write (x:=a) (e:=dx) (by rw [e];exact True.intro) (.inr ho) (fun b q hb z=>(sb.2 b hb).trans z) hd ?_;refine ⟨by rw [Ak O.ne];exact ho,?_,O.ne,O'.obj,_,O'.ns,fun g=>?_,fun g hg=>?_⟩
 ·have:=FL f y fs;omega
 ·show DH ((CY f y fs).lookup g) (if g=f then some u else mA g);rw [Ga];by_cases q:g=f
  ·rw [if_pos q,if_pos q];exact ry
  ·rw [if_neg q,if_neg q];exact r g
 ·by_cases q:g=f
  ·rw [q];exact (F4 f y fs).1
  ·refine (F4 f y fs).2 g (wi g fun z=>hg ?_);show (if g=f then some u else mA g)=none;rw [if_neg q];exact z
theorem Inv.made (I:Inv X pins σ H s):Inv X pins σ (upd (upd H s.heap.objs.size (.own (s.heap.objs.size+1))) (s.heap.objs.size+1) (.ins C s.heap.objs.size []))
 { s with heap:=(s.heap.push PySem.W.emptyDict).push (PySem.W.instObj C s.heap.objs.size) }:=by
 have e1:(s.heap.push PySem.W.emptyDict).get? s.heap.objs.size=some PySem.W.emptyDict:=Heap.get?_push_size s.heap rfl
 have e2:((s.heap.push PySem.W.emptyDict).push (PySem.W.instObj C s.heap.objs.size)).get? (s.heap.objs.size+1)=some (PySem.W.instObj C s.heap.objs.size):=by
  have:=Heap.get?_push_size (s.heap.push PySem.W.emptyDict) (o:=PySem.W.instObj C s.heap.objs.size) rfl;rwa [Heap.size_push] at this
 have e3:(s.heap.push PySem.W.emptyDict).Ns s.heap.objs.size (fun _=>none):=⟨PySem.W.emptyDict,#[],_,e1,rfl,(fun e he=>absurd he (by simp)),fun _=>rfl⟩;have I1:=I.laid (a:=s.heap.objs.size) (o:=.own (s.heap.objs.size+1)) (h':=s.heap.push PySem.W.emptyDict) (t':=s.toks) (fun b u q=>Heap.get?_push_of_some _ q) (Nat.le_refl _) ⟨_,e1⟩;refine I1.laid (a:=s.heap.objs.size+1) (o:=.ins C s.heap.objs.size []) (t':=s.toks) (fun b u q=>Heap.get?_push_of_some _ q) (Nat.le_of_eq (Heap.size_push _ _)) ?_;have ne:s.heap.objs.size≠s.heap.objs.size+1:=Nat.ne_of_lt (Nat.lt_succ_self _);refine ⟨by rw [Ak ne,Ab],Nat.zero_le _,ne,e2,fun _=>none,(Heap.Ns1.of_empty e3).at fun o q=>Heap.get?_push_of_some _ q,fun _=>True.intro,fun y hy=>absurd rfl hy⟩
theorem Qu {prog:Program} {w:World} {env:Env} {e:Expr} {f:Str} {pos:Pos} {s:Shared} {Q:Value->Shared->Prop} (hb:attributeBase e f env (eval e env)=eval e env)
 (h:wpAny (model prog w) A (eval e env) (fun o s₁=>wpAny (model prog w) A (getAttr o f true) Q E s₁) E s):wpAny (model prog w) A (eval (.Attribute e f pos) env) Q E s :=
 Attribute_any_ h (by rw [arm_eval_Attribute,hb])
end
noncomputable def S4 (K:PySem.W.Frag) (ta:TE) (f:Str):TE:=fun σ H Q=>ta σ H fun x H1=>∃a C dx fs v,x=.ref a/\H1 a=some (.ins C dx fs)/\Cls K C/\Ce K C f/\fs.lookup f=some v/\Q v H1
noncomputable def S3 (K:PySem.W.Frag) (ta tv:TE) (f:Str):TS:=fun D σ H=>tv σ H fun y H1=>ta σ H1 fun x H2=>∃a C dx fs,x=.ref a/\H2 a=some (.ins C dx fs)/\Cls K C/\Ce K C f/\fs.length < 1000 /\
 D.nx σ (upd H2 a (.ins C dx (CY f y fs)))
section
variable {X:Cx} {o e value:Expr} {f:Str} {pos pos' tpos:Pos} {ta tv:TE}
theorem B6 (he:PE X e ta) (hb:attributeBase e f X.env (eval e X.env)=eval e X.env):PE X (.Attribute e f pos) (S4 X.K ta f):=by
 intro pins s σ H Q I h;refine Qu hb (thn (he pins s σ H _ I h) fun u s1 ⟨x,H1,I1,rx,a,C,dx,fs,v,ex,ea,c,n,l,q⟩=>?_);subst ex;obtain rfl:u=Value.ref a:=rx;exact Ld I1 ea c n l fun u' s2 I2 ru=>⟨v,H1,I2,ru,q⟩
theorem Jj (ha:PE X o ta) (hv:PE X value tv) (hs:swapsWith value (some (.Attribute o f pos')) pos.line X.env=pure false):PS X (.Assign [.Attribute o f pos'] value pos) (S3 X.K ta tv f):=by
 intro pins s σ H D I h;refine plainObj_wpAny_Assign_Attribute (thn (hv pins s σ H _ I h) fun u s1 ⟨y,H1,I1,ry,q⟩=>thn (ha pins s1 σ H1 _ I1 q) fun ov s2 ⟨x,H2,I2,rx,a,C,dx,fs,ex,ea,c,n,l,q2⟩=>?_) hs;subst ex;obtain rfl:ov=Value.ref a:=rx;exact Ll I2 ea c n l ry fun s3 I3=>⟨σ,_,I3,q2⟩
end
section
variable {X:Cx} {pins:List (Addr × Obj)} {σ:St} {H:Hp} {s:Shared} {A:Around} {E:Value->Shared->Prop} {Q:Value->Shared->Prop} {c:Value} {b:Bool}
inductive Es (K:PySem.W.Frag) (H:Hp):V->Value->Prop where
 | non:Es K H .non (.type "NoneType")
 | bl (x:Bool):Es K H (.bl x) (.type "bool")
 | int (i:Int):Es K H (.int i) (.type "int")
 | str (x:Str):Es K H (.str x) (.type "str")
 | flt (x:UInt64):Es K H (.flt x) (.type "float")
 | lst {a:Addr} {xs:List V} (e:H a=some (.lst xs)):Es K H (.ref a) (.type "list")
 | frz {a:Addr} {o:Obj} {xs:List V} (e:H a=some (.frz o (.lst xs))):Es K H (.ref a) (.type "list")
 | tup {a:Addr} {xs:List V} (e:H a=some (.tup xs)):Es K H (.ref a) (.type "tuple")
 | dK {a:Addr} {kvs:List (Key × V)} (e:H a=some (.dK kvs)):Es K H (.ref a) (.type "dict")
 | dT {a:Addr} {kvs:List (List Key × V)} (e:H a=some (.dT kvs)):Es K H (.ref a) (.type "dict")
 | ins {a C dx:Addr} {fs:List (Str × V)} (e:H a=some (.ins C dx fs)) (cl:Cls K C) (ha:PySem.W.findIn K (.ref C) "__class__"=some (some (.builtin "object.__class__")))
  (hn:PySem.W.specialIn K (.builtin "object.__class__") "__get__"=some (some (.builtin "getset_descriptor.__get__"))) (htk:PySem.W.takesIn K (.builtin "object.__class__")=some true)
  (hm:PySem.W.mroIn K C (.type "object")=some true):Es K H (.ref a) (.ref C)
theorem MK {x:V} {u t:Value} (I:Inv X pins σ H s) (rx:AE x u) (ty:Es X.K H x t) (e:PySem.W.kitOne X.K t c=some b) (h:∀tk,Q (.bool b) { s with toks:=tk }) :
 wpAny (model X.prog X.w) A (call (.builtin "isinstance") [u,c]) Q E s:=by
 cases ty with
 | non=>cases (show u=Value.none from rx);exact PySem.W.kia_one PySem.W.kitx_none I.kIn True.intro e (fun z=>by cases z) h
 | bl y=>cases (show u=Value.bool y from rx);exact PySem.W.kia_one PySem.W.kitx_bool I.kIn True.intro e (fun z=>by cases z) h
 | int i=>obtain ⟨t,q⟩:=(show ∃t,u=Value.int i t from rx);cases q;exact PySem.W.kia_one PySem.W.kitx_int I.kIn True.intro e (fun z=>by cases z) h
 | str y=>obtain ⟨t,q⟩:=(show ∃t,u=Value.str y t from rx);cases q;exact PySem.W.kia_one PySem.W.kitx_str I.kIn True.intro e (fun z=>by cases z) h
 | flt y=>obtain ⟨t,q⟩:=(show ∃t,u=Value.float y t from rx);cases q;exact PySem.W.kia_one PySem.W.kitx_float I.kIn True.intro e (fun z=>by cases z) h
 | @lst a xs ea =>
   cases (show u=Value.ref a from rx)
   obtain ⟨_,_,n,_,h1⟩:=(show AY X.prog X.w H s.heap a (.lst xs) from I.hok a _ ea);exact PySem.W.kia_one PySem.W.kitx_list I.kIn ⟨_,h1,rfl⟩ e (fun z=>by cases z) h
 | @frz a ob xs ea =>
   cases (show u=Value.ref a from rx)
   obtain ⟨_,_,_,n,_,h1⟩:=(show AY X.prog X.w H s.heap a (.frz ob (.lst xs)) from I.hok a _ ea);exact PySem.W.kia_one PySem.W.kitx_list I.kIn ⟨_,h1,rfl⟩ e (fun z=>by cases z) h
 | @tup a xs ea =>
   cases (show u=Value.ref a from rx)
   obtain ⟨_,_,_,p⟩:=(show AY X.prog X.w H s.heap a (.tup xs) from I.hok a _ ea);obtain ⟨o,h1,h2,_⟩:=p;exact PySem.W.kia_one PySem.W.kitx_tuple I.kIn ⟨o,h1,h2⟩ e (fun z=>by cases z) h
 | @dK a kvs ea =>
   cases (show u=Value.ref a from rx)
   obtain ⟨_,_,vs,_,p⟩:=(show AY X.prog X.w H s.heap a (.dK kvs) from I.hok a _ ea);obtain ⟨o,es,ep,h1,h2,_⟩:=p;exact PySem.W.kia_one PySem.W.kitx_dict I.kIn ⟨o,h1,h2.1⟩ e (fun z=>by cases z) h
 | @dT a kvs ea =>
   cases (show u=Value.ref a from rx)
   obtain ⟨_,_,xs,_,o,es,ep,h1,h2,_⟩:=(show AY X.prog X.w H s.heap a (.dT kvs) from I.hok a _ ea);exact PySem.W.kia_one PySem.W.kitx_dict I.kIn ⟨o,h1,h2.1⟩ e (fun z=>by cases z) h
 | @ins a C dx fs ea cl ha hn htk hm =>
   cases (show u=Value.ref a from rx)
   obtain ⟨mA,O,_⟩:=Gw I.hok ea;obtain ⟨od,J,_⟩:=O.look;exact PySem.W.kia_one (PySem.W.kitx_own (cl.get _) cl.hd ha hn htk hm) I.kIn J e (fun z=>by cases z) h
end
end L2
namespace L2
open PySem PySem.Spec PyProof.Rows
structure C7 (k:Nat) (A:Around):Prop where
 hd:A.handled=none
 dp:A.depth+3*k+5 < recursionLimit
 un:A.units+16*k+200 < cLine
theorem C7.mono {j k:Nat} {A:Around} (r:C7 k A) (h:j<=k):C7 j A:=⟨r.hd,by have:=r.dp;omega,by have:=r.un;omega⟩
theorem C7.deeper {k:Nat} {A:Around} (r:C7 (k+1) A) (env:Env):C7 k (A.deeper env) :=
 ⟨r.hd,by have:=r.dp;show A.depth+1+3*k+5 < _;omega,by have:=r.un;show A.units+3+16*k+200 < _;omega⟩
theorem LD {A:Around} {C:Addr} {us:List Value} {kw:List (Str × Value)}:(A.under (.builtin "type.__call__" ⟨.ref C :: us,kw⟩)).depth=A.depth+1:=by
 first | rfl | simp [Around.under,Code.weight,Code.isCreation,Code.isGuard,Code.isCaller,Code.frames,Code.isFrame,guardIds]
theorem L7 {A:Around} {C:Addr} {us:List Value} {kw:List (Str × Value)}:(A.under (.builtin "type.__call__" ⟨.ref C :: us,kw⟩)).units=A.units+1:=by
 first | rfl | simp [Around.under,Code.cUnits,Code.frames,Code.isFrame]
theorem C7.make {k:Nat} {A:Around} (r:C7 (k+1) A) (C:Addr) (us:List Value) (kw:List (Str × Value)):C7 k (A.under (.builtin "type.__call__" ⟨.ref C :: us,kw⟩)) :=
 ⟨r.hd,by have:=r.dp;rw [LD];omega,by have:=r.un;rw [L7];omega⟩
theorem C7.depth {k:Nat} {A:Around} (r:C7 k A):A.depth < recursionLimit:=by have:=r.dp;omega
theorem C7.units {k:Nat} {A:Around} (r:C7 k A):A.units+64 < cLine:=by have:=r.un;omega
def Sy:TA:=fun _ H Q=>Q [] H
noncomputable def RE (ta:TE) (tr:TA):TA:=fun σ H Q=>ta σ H fun x H1=>tr σ H1 fun xs H2=>Q (x :: xs) H2
section
variable {X:Cx} {e:Expr} {es:List Expr} {te:TE} {t:TA} {pos:Pos}
theorem Ad:PA X [] Sy:=fun _ _ _ _ H Q I h=>Calls.spliced_nil ⟨[],H,I,.nil,h⟩
theorem Aa (ha:PE X e te) (hr:PA X es t) (hs:starEach (e :: es) X.env=(false,eval e X.env) :: starEach es X.env:=by rfl):PA X (e :: es) (RE te t):=by
 intro pos pins s σ H Q I h;rw [hs];show wpAny _ _ (spliced ((false,eval e X.env) :: backTo pos (starEach es X.env))) _ _ s;refine Calls.spliced_cons (thn (ha pins s σ H _ I h) fun u s1 ⟨x,H1,I1,r1,q1⟩=>?_);exact thn (hr pos pins s1 σ H1 _ I1 q1) fun us s2 ⟨xs,H2,I2,r2,q2⟩=>⟨x :: xs,H2,I2,.cons r1 r2,q2⟩
noncomputable def S2 (t:TA):TE:=fun σ H Q=>t σ H fun xs H1=>xs.length<=sizeLine/\∀p,H1 p=none->Q (.ref p) (upd H1 p (.tup xs))
noncomputable def Sl (t:TA):TE:=fun σ H Q=>t σ H fun xs H1=>xs.length<=sizeLine/\∀p,H1 p=none->Q (.ref p) (upd H1 p (.lst xs))
theorem B7 {x1} (h:PA X es t):PE X (.Tuple es x1 pos) (S2 t):=by
 intro pins s σ H Q I hq;refine wpAny_Tuple_spliced (thn (h pos pins s σ H _ I hq) fun us s1 ⟨xs,H1,I1,r,z,q⟩=>⟨by rw [<- r.length];exact z,?_⟩);have hf:H1 s1.heap.objs.size=none:=I1.hok.fresh (Nat.le_refl _);refine ⟨.ref s1.heap.objs.size,upd H1 s1.heap.objs.size (.tup xs),I1.laid (t':=s1.toks) (fun b u e=>Heap.get?_push_of_some _ e) (Nat.le_refl _) ?_,rfl,q _ hf⟩;exact ⟨z,us,r,⟨_,Heap.get?_push_size _ rfl,rfl,_,rfl⟩⟩
theorem AR (h:PA X es t):PE X (.List es pos) (Sl t):=by
 intro pins s σ H Q I hq;refine wpAny_List_spliced (thn (h pos pins s σ H _ I hq) fun us s1 ⟨xs,H1,I1,r,z,q⟩=>⟨by rw [<- r.length];exact z,?_⟩);have hf:H1 s1.heap.objs.size=none:=I1.hok.fresh (Nat.le_refl _);refine ⟨.ref s1.heap.objs.size,upd H1 s1.heap.objs.size (.lst xs),I1.laid (t':=s1.toks) (fun b u e=>Heap.get?_push_of_some _ e) (Nat.le_refl _) ?_,rfl,q _ hf⟩;exact ⟨z,us,0,r,Heap.get?_push_size _ rfl⟩
end
abbrev Sp:=List V->Hp->VK->XK->Prop
abbrev CXT:=List Env->Hp->Shared->XK->Value->Shared->Prop
structure L8 (P:Program) (w:World) (K:PySem.W.Frag) (mg:Str->Option Value) (base:Heap) (A:Around) (outer:List Env) (s:Shared) (H:Hp):Prop where
 frames:A.frames=some outer
 mod:Mod K mg base
 bs:∀b o,base.get? b=some o->s.heap.get? b=some o/\H b=none
 bsz:base.objs.size<=s.heap.objs.size
 funs:s.heap.FunFrames base outer
 frf:∀b∈frs outer,H b=none
 hok:HOk P w H s.heap
 bare:AllBare s.gens
noncomputable def CE (outer:List Env) (P:Program) (w:World) (H:Hp) (s:Shared) (Q:VK) (u:Value) (s':Shared):Prop :=
 ∃v H',s'.os=s.os/\AllBare s'.gens/\Un (frs outer) [] H H' s.heap s'.heap/\HOk P w H' s'.heap/\AE v u/\Q v H'
noncomputable def CR (CX:CXT) (outer:List Env) (P:Program) (w:World) (H:Hp) (s:Shared) (Q:VK) (E:XK) (r:Result) (s':Shared):Prop :=
 match r with
 | .ok (.ret u)=>CE outer P w H s Q u s'
 | .ok _=>False
 | .error e=>CX outer H s E e s'
structure AK (P:Program) (w:World) (K:PySem.W.Frag) (mg:Str->Option Value) (base:Heap) (CX:CXT) (k:Nat) (f:Addr) (fd:FuncData) (ps:List Str) (sp:Sp):Prop where
 len:∀vs H Q E,sp vs H Q E->vs.length=ps.length
 run:∀(A:Around) (outer:List Env) (s:Shared) (H:Hp) (args:Args) (us:List Value) (vs:List V) (Q:VK) (E:XK),C7 k A->L8 P w K mg base A outer s H->BindsTo s fd args (ps.zip us)->A8 vs us->sp vs H Q E ->
  codeAny (model P w) A (.call (.ref f) args) (CR CX outer P w H s Q E) s
theorem L8.make {P:Program} {w:World} {K:PySem.W.Frag} {mg:Str->Option Value} {base:Heap} {A:Around} {outer:List Env} {s:Shared} {H:Hp} (e:L8 P w K mg base A outer s H) (C:Addr) (us:List Value) (kw:List (Str × Value)) :
 L8 P w K mg base (A.under (.builtin "type.__call__" ⟨.ref C :: us,kw⟩)) outer s H:=⟨by first | exact e.frames | (simpa [Around.under,Code.envs,Code.isFrame,pushEnvs] using e.frames),e.mod,e.bs,e.bsz,e.funs,e.frf,e.hok,e.bare⟩
section
variable {X:Cx} {pins:List (Addr × Obj)} {σ:St} {H:Hp} {s s':Shared}
theorem Inv.env0 (I:Inv X pins σ H s):L8 X.prog X.w X.K X.mg X.base X.A X.stack s H :=
 ⟨I.ok.frames,I.ok.mod,I.bs,Nat.le_trans I.ok.bsz I.sz,I.stack,I.stkFree,I.hok,I.bare⟩
theorem Inv.after {Q:VK} {u:Value} (I:Inv X pins σ H s) (h:CE X.stack X.prog X.w H s Q u s'):EP X pins σ Q u s':=by
 obtain ⟨v,H',os,bare,un,hok,r,q⟩:=h;obtain ⟨hh,g,d,t,os'⟩:=s';obtain rfl:os'=s.os:=os;exact ⟨v,H',I.call (h':=hh) (g':=g) (d':=d) (t':=t) (ch:=[]) un hok bare (fun b z=>absurd z (by simp)),r,q⟩
end
noncomputable def R5 (sp:Sp) (dvs:List V) (E:XK) (t:TA):TE:=fun σ H Q=>t σ H fun vs H1=>sp (vs++dvs) H1 Q E
noncomputable def R6 (C:Addr) (m:Str) (sp:Sp) (dvs:List V) (E:XK) (ta:TE) (t:TA):TE:=fun σ H Q=>ta σ H fun x H1=>∃a dx fs,x=.ref a/\H1 a=some (.ins C dx fs)/\fs.lookup m=none /\
 t σ H1 fun vs H2=>sp (x :: (vs++dvs)) H2 Q E
noncomputable def R3 (C:Addr) (sp:Sp) (dvs:List V) (E:XK) (t:TA):TE:=fun σ H Q=>t σ H fun vs H1=>∀x dx,H1 x=none->H1 dx=none->dx≠x ->
 sp (.ref x :: (vs++dvs)) (upd (upd H1 dx (.own x)) x (.ins C dx [])) (fun v H2=>v=.non/\Q (.ref x) H2) E
noncomputable def A3 (K:PySem.W.Frag) (fd:FuncData) (ps:List Str) (ds:List Value):Prop :=
 ∀(s:Shared) (us:List Value),K.In s.heap->(us++ds).length=ps.length->BindsTo s fd ⟨us,[]⟩ (ps.zip (us++ds))
theorem A3.all {K:PySem.W.Frag} {fd:FuncData} {ps:List Str} (h:∀us:List Value,us.length=ps.length->bindArgs fd ⟨us,[]⟩=pure (ps.zip us)):A3 K fd ps []:=fun s us _ hl=>by
 rw [append_nil] at hl ⊢;exact .of_eq (h us hl)
noncomputable def F6 (CX:CXT) (X:Cx) (E:XK):Prop:=∀(pins:List (Addr × Obj)) (σ:St) (H:Hp) (s:Shared) (e:Value) (s':Shared),Inv X pins σ H s->CX X.stack H s E e s'->X.xe e s'
section
variable {X:Cx} {CX:CXT} {k:Nat} {f C:Addr} {fd:FuncData} {ps:List Str} {sp:Sp} {dvs:List V} {ds:List Value} {E:XK} {x m:Str} {p pos apos:Pos} {e o:Expr} {es:List Expr} {ta:TE} {t:TA}
theorem O4 {pins:List (Addr × Obj)} {σ:St} {H:Hp} {s:Shared} {Q:VK} {us:List Value} {vs:List V} (F:AK X.prog X.w X.K X.mg X.base CX k f fd ps sp) (hr:C7 k X.A) (hb:A3 X.K fd ps ds) (hd:A8 dvs ds) (hx:F6 CX X E)
 (I:Inv X pins σ H s) (r:A8 vs us) (h:sp (vs++dvs) H Q E):wpAny (model X.prog X.w) X.A (call (.ref f) us) (EP X pins σ Q) X.xe s:=by
 have r2:A8 (vs++dvs) (us++ds):=r.append hd;have hl:(us++ds).length=ps.length:=by rw [<- r2.length];exact F.len _ _ _ _ h
 refine wpAny_call (codeAny_mono (F.run X.A X.stack s H ⟨us,[]⟩ (us++ds) (vs++dvs) Q E hr I.env0 (hb s us I.kIn hl) r2 h) fun r s' hq=>?_)
 cases r with
 | error e=>exact hx pins σ H s e s' I hq
 | ok fl =>
   cases fl with
   | ret u=>exact I.after hq
   | next=>exact False.elim hq
   | brk=>exact False.elim hq
   | cont=>exact False.elim hq
theorem Aj (F:AK X.prog X.w X.K X.mg X.base CX k f fd ps sp) (hr:C7 k X.A) (hg:Gl X x) (hm:X.mg x=some (.ref f)) (hk:PySem.W.keepIn X.K (.ref f)=true) (hb:A3 X.K fd ps ds) (hd:A8 dvs ds) (hx:F6 CX X E)
 (ha:PA X (e :: es) t) (hdb:(x == ("__debug__":Str))=false:=by decide) (he:starEach (e :: es) X.env=(false,eval e X.env) :: starEach es X.env:=by rfl) (hpl:(backTo pos (starEach es X.env)).any (·.1)=false:=by rfl) :
 PE X (.Call (.Name x p) (e :: es) [] pos) (R5 sp dvs E t):=by
 intro pins s σ H Q I h;refine wpAny_Call_Name_kw (IS I hg hm ?_ hdb);refine PySem.W.callWith_K (h₀:=X.base) I.ok.mod.kin hk (thn (ha pos pins s σ H _ I h) fun us s1 ⟨vs,H1,I1,r,q⟩=>⟨I1.kIn,?_⟩) he hpl;exact O4 F hr hb hd hx I1 r q
theorem AQ {pl:Sem Bool} (he:PE X o ta) (c:Cls X.K C) (hm:Gn X.K C m f) (F:AK X.prog X.w X.K X.mg X.base CX k f fd ps sp) (hr:C7 k X.A) (hb:A3 X.K fd ps ds) (hd:A8 dvs ds) (hx:F6 CX X E) (ha:PA X (e :: es) t)
 (hst:starEach (e :: es) X.env=(false,eval e X.env) :: starEach es X.env:=by rfl) (hpl:(backTo pos (starEach es X.env)).any (·.1)=false:=by rfl)
 (ht:eval (.Call (.Attribute o m apos) (e :: es) [] pos) X.env=(do
  let ov <- eval o X.env
  standAt apos.atName
  let (f,first) <- holding [ov] (getMethod ov m pl)
  callWith pos f first (backTo pos (starEach (e :: es) X.env)) (backToKw pos (keywordEach [] X.env))):=by rfl) :
 PE X (.Call (.Attribute o m apos) (e :: es) [] pos) (R6 C m sp dvs E ta t):=by
 intro pins s σ H Q I h;refine PySem.W.methodCall_KW (pl:=pl) (thn (he pins s σ H _ I h) fun u s1 ⟨x,H1,I1,rx,a,dx,fs,ex,ea,l,q⟩=>?_) ht;subst ex;obtain rfl:u=Value.ref a:=rx;refine Lj I1 ea c hm l ?_;refine PySem.W.callWith_K (first:=[.ref a]) (h₀:=X.base) I.ok.mod.kin hm.kp (thn (ha pos pins s1 σ H1 _ I1 q) fun us s2 ⟨vs,H2,I2,r,q2⟩=>⟨I2.kIn,?_⟩) hst hpl;exact O4 (us:=.ref a :: us) (vs:=.ref a :: vs) F hr hb hd hx I2 (.cons rfl r) q2
structure Mk (K:PySem.W.Frag) (C f:Addr):Prop where
 makes:PySem.W.makesIn K C=true
 init:PySem.W.findIn K (.ref C) "__init__"=some (some (.ref f))
 fn:PySem.W.isFn K (.ref f)=true
 kp:PySem.W.keepIn K (.ref C)=true
theorem Pb {pins:List (Addr × Obj)} {σ:St} {H:Hp} {s:Shared} {Q:VK} {us:List Value} {vs:List V} (M:Mk X.K C f) (F:AK X.prog X.w X.K X.mg X.base CX k f fd ps sp) (hr:C7 (k+1) X.A) (hb:A3 X.K fd ps ds) (hd:A8 dvs ds)
 (hx:F6 CX X E) (I:Inv X pins σ H s) (r:A8 vs us)
 (h:∀x dx,H x=none->H dx=none->dx≠x->sp (.ref x :: (vs++dvs)) (upd (upd H dx (.own x)) x (.ins C dx [])) (fun v H2=>v=.non/\Q (.ref x) H2) E) :
 wpAny (model X.prog X.w) X.A (call (.ref C) us) (EP X pins σ Q) X.xe s:=by
 have hq:=h (s.heap.objs.size+1) s.heap.objs.size (I.hok.fresh (Nat.le_succ _)) (I.hok.fresh (Nat.le_refl _)) (Nat.ne_of_lt (Nat.lt_succ_self _));have I2:=Inv.made (C:=C) I;have r2:A8 (V.ref (s.heap.objs.size+1) :: (vs++dvs)) (Value.ref (s.heap.objs.size+1) :: (us++ds)):=.cons rfl (r.append hd)
 have hl:(Value.ref (s.heap.objs.size+1) :: us++ds).length=ps.length:=by
  have e:=r2.length;rw [F.len _ _ _ _ hq] at e;exact e.symm
 refine wpAny_call (Ot (f:=f) I.kIn M.makes M.init (beq_iff_eq.mp M.fn) (codeAny_mono (F.run _ X.stack _ _ ⟨Value.ref (s.heap.objs.size+1) :: us,[]⟩ (Value.ref (s.heap.objs.size+1) :: (us++ds)) _ _ E (hr.make C us [])
  (I2.env0.make C us []) (hb _ (Value.ref (s.heap.objs.size+1) :: us) I2.kIn hl) r2 hq) fun r s' hq'=>?_))
 cases r with
 | error e=>exact hx pins σ _ _ e s' I2 hq'
 | ok fl =>
   cases fl with
   | ret u =>
     obtain ⟨v,H',I3,rv,ev,q3⟩:=I2.after hq';subst ev;exact ⟨rv,⟨V.ref (s.heap.objs.size+1),H',I3,rfl,q3⟩⟩
   | next=>exact False.elim hq'
   | brk=>exact False.elim hq'
   | cont=>exact False.elim hq'
theorem Ji (M:Mk X.K C f) (F:AK X.prog X.w X.K X.mg X.base CX k f fd ps sp) (hr:C7 (k+1) X.A) (hg:Gl X x) (hm:X.mg x=some (.ref C)) (hb:A3 X.K fd ps ds) (hd:A8 dvs ds) (hx:F6 CX X E)
 (ha:PA X (e :: es) t) (hdb:(x == ("__debug__":Str))=false:=by decide) (he:starEach (e :: es) X.env=(false,eval e X.env) :: starEach es X.env:=by rfl) (hpl:(backTo pos (starEach es X.env)).any (·.1)=false:=by rfl) :
 PE X (.Call (.Name x p) (e :: es) [] pos) (R3 C sp dvs E t):=by
 intro pins s σ H Q I h;refine wpAny_Call_Name_kw (IS I hg hm ?_ hdb);refine PySem.W.callWith_K (h₀:=X.base) I.ok.mod.kin M.kp (thn (ha pos pins s σ H _ I h) fun us s1 ⟨vs,H1,I1,r,q⟩=>⟨I1.kIn,?_⟩) he hpl;exact Pb M F hr hb hd hx I1 r q
end
section
variable {X:Cx} {CX:CXT} {k:Nat} {f C:Addr} {fd:FuncData} {ps ks:List Str} {sp:Sp} {E:XK} {x m:Str} {p pos apos kpos:Pos} {e o:Expr} {es:List Expr} {kws:List Keyword} {te ta:TE} {t tk:TA} {nm:Option Str}
variable {g:List Value->List Value->List Value} {gV:List V->List V->List V}
end
structure Aq (N P:List Str) (sc:Scope):Prop where
 kind:sc.kind=.function
 co:sc.isCoroutine=false
 gen:sc.isGenerator=false
 nd:N.Nodup
 pre:N.take P.length=P
 par:∀x∈P,sc.names.lookup x=some .local\/sc.names.lookup x=some .cell
 nofree:∀y∈sc.names,y.2≠.free
theorem Ik {kindOf:Str->Option NameKind} {x:Str}:∀{binds:List (Str × Value)} {m:Str->Option Value},(∀v,(x,v) ∉ binds)->bindL kindOf binds m x=m x
 | [],_,_=>rfl
 | (n,v) :: r,m,h=>by
   unfold bindL;rw [Ik fun w hw=>h w (mem_cons_of_mem _ hw)]
   split
   ·have:x≠n:=by rintro rfl;exact h v mem_cons_self
    simp [this]
   ·rfl
theorem HP {kindOf:Str->Option NameKind} {x:Str}:∀{binds:List (Str × Value)} {m:Str->Option Value},(∀v,(x,v) ∉ binds)->bindC kindOf binds m x=m x
 | [],_,_=>rfl
 | (n,v) :: r,m,h=>by
   unfold bindC;rw [HP fun w hw=>h w (mem_cons_of_mem _ hw)]
   split
   ·rfl
   ·have:x≠n:=by rintro rfl;exact h v mem_cons_self
    simp [this]
theorem Il {kindOf:Str->Option NameKind} {x:Str} {v:Value}:∀{P:List Str} {vs:List Value} {i:Nat} {m:Str->Option Value},P.Nodup->P[i]?=some x->vs[i]?=some v->kindOf x=some .local ->
 bindL kindOf (P.zip vs) m x=some v
 | [],_,_,_,_,h,_,_=>by simp at h
 | _ :: _,[],_,_,_,_,h,_=>by simp at h
 | p :: P,w :: vs,0,m,nd,h1,h2,hk=>by
   simp at h1 h2;subst h1;subst h2;show bindL kindOf ((p,w) :: P.zip vs) m p=_;unfold bindL;rw [Ik fun v hv=>(nodup_cons.mp nd).1 (of_mem_zip hv).1,if_pos hk];simp
 | p :: P,w :: vs,i+1,m,nd,h1,h2,hk=>by
   show bindL kindOf ((p,w) :: P.zip vs) m x=_;unfold bindL;exact Il (i:=i) (nodup_cons.mp nd).2 (by simpa using h1) (by simpa using h2) hk
theorem Ie {kindOf:Str->Option NameKind} {x:Str} {v:Value}:∀{P:List Str} {vs:List Value} {i:Nat} {m:Str->Option Value},P.Nodup->P[i]?=some x->vs[i]?=some v->kindOf x≠some .local ->
 bindC kindOf (P.zip vs) m x=some v
 | [],_,_,_,_,h,_,_=>by simp at h
 | _ :: _,[],_,_,_,_,h,_=>by simp at h
 | p :: P,w :: vs,0,m,nd,h1,h2,hk=>by
   simp at h1 h2;subst h1;subst h2;show bindC kindOf ((p,w) :: P.zip vs) m p=_;unfold bindC;rw [HP fun v hv=>(nodup_cons.mp nd).1 (of_mem_zip hv).1,if_neg hk];simp
 | p :: P,w :: vs,i+1,m,nd,h1,h2,hk=>by
   show bindC kindOf ((p,w) :: P.zip vs) m x=_;unfold bindC;exact Ie (i:=i) (nodup_cons.mp nd).2 (by simpa using h1) (by simpa using h2) hk
noncomputable def start (N:List Str) (vs:List V):St:=vs.map some++List.replicate (N.length - vs.length) none
noncomputable def JD (CX:CXT) (P:Program) (w:World) (K:PySem.W.Frag) (mg:Str->Option Value) (base:Heap) (N:List Str) (qual:Str) (scope:Scope) (f:Addr) (cd:Value) (A:Around) (outer:List Env) (s:Shared) (H:Hp) (E:XK):Cx where
 prog:=P
 w:=w
 K:=K
 mg:=mg
 base:=base
 A:=A.deeper (envOfC qual scope s.heap.objs.size f cd)
 N:=N
 s₀:=s
 H₀:=H
 env:=envOfC qual scope s.heap.objs.size f cd
 outer:=outer
 stack:=envOfC qual scope s.heap.objs.size f cd :: outer
 ex:=[]
 calm:=true
 fn:=fun _=>true
 pn:=[]
 xe:=fun e s'=>wpAny (model P w) (A.deeper (envOfC qual scope s.heap.objs.size f cd)) (leaving (envOfC qual scope s.heap.objs.size f cd) e) (fun _ s''=>CX outer H s E e s'') (fun e' s''=>CX outer H s E e' s'') s'
theorem JI {sc:Scope} {n:Nat} {x:Str} (h:sc.names.lookup x=some .cell):∃c,(cellsFrom n sc.names []).lookup x=some c:=by
 have q:=PySem.W.cellsFrom_some sc.names n [] (.inl h);exact Option.isSome_iff_exists.mp q
theorem Nh {CX:CXT} {P:Program} {w:World} {K:PySem.W.Frag} {mg:Str->Option Value} {base:Heap} {N ps:List Str} {qual:Str} {scope:Scope} {f:Addr} {cd:Value} {A:Around} {outer:List Env} {s s1:Shared} {H:Hp} {E:XK} {us:List Value} {vs:List V}
 (S:Aq N ps scope) (hd:A.handled=none) (e0:L8 P w K mg base A outer s H) (hl:vs.length=ps.length) (r:A8 vs us)
 (x:InCallC s s.heap.objs.size (bindL (envOfC qual scope s.heap.objs.size f cd).kindOf (ps.zip us) fun _=>none) (cellsFrom (s.heap.objs.size+1) scope.names []) (bindC (envOfC qual scope s.heap.objs.size f cd).kindOf (ps.zip us) fun _=>none) s1) :
 Inv (JD CX P w K mg base N qual scope f cd A outer s H E) [] (start N vs) H s1:=by
 have hpl:ps.length<=N.length:=by have:=congrArg List.length S.pre;rw [length_take] at this;omega
 obtain ⟨h1,tk,rfl,hk⟩:=x.done;have noA:∀b:Addr,b ∉ (JD CX P w K mg base N qual scope f cd A outer s H E).ex:=fun b z=>absurd (show b∈([]:List Addr) from z) (by simp)
 refine ⟨⟨e0.mod,S.kind,rfl,rfl,Nat.le_refl _,fun y z c h1 h2=>?_,fun y hy=>?_,fun y c _ h=>?_,fun _=>hd,Around.frames_deeper e0.frames,.inr ⟨rfl,rfl⟩,fun b z=>absurd z (noA b),e0.bs,e0.bsz,fun b _ _=>noA b,fun b z=>absurd z (noA b),e0.funs,e0.frf⟩,
  rfl,e0.bare,Un.kept hk,⟨_,x.toInCall.ns,fun i y v h1 h2 h3=>?_⟩,fun y c h=>⟨_,x.cell y c h⟩,e0.hok.fresh (Nat.le_refl _),fun y c h=>?_,fun p hp=>absurd (show p∈([]:List (Addr × Obj)) from hp) (by simp),e0.hok.kept hk,?_⟩
 ·exact name_of_addr x.apart (PySem.mem_of_lookup h1) (PySem.mem_of_lookup h2)
 ·have hy:scope.names.lookup y=some .cell\/scope.names.lookup y=some .free:=hy;rcases hy with hy | hy
  ·exact JI hy
  ·exact absurd rfl (S.nofree _ (PySem.mem_of_lookup hy))
 ·exact Nat.le_of_lt (x.above y c (PySem.mem_of_lookup h))
 ·have hi:i < vs.length:=by
   unfold start at h2;by_cases hi:i < vs.length
   ·exact hi
   ·rw [List.getElem?_append_right (by simpa using hi)] at h2;rw [List.getElem?_replicate] at h2
    split at h2 <;> cases h2
  have ha:vs[i]?=some v:=by
   unfold start at h2;rw [List.getElem?_append_left (by simpa using hi),List.getElem?_map] at h2
   cases e:vs[i]? with
   | none=>rw [e] at h2;cases h2
   | some a=>rw [e] at h2;cases h2;rfl
  obtain ⟨u,hu,rv⟩:=r.get ha
  have hp:ps[i]?=some y:=by
   rw [<- S.pre,List.getElem?_take_of_lt (by omega)];exact h1
  have ndP:ps.Nodup:=by rw [<- S.pre];exact S.nd.sublist (take_sublist _ _)
  refine ⟨u,rv,?_⟩;rcases S.par y (mem_of_getElem? hp) with k | k
  ·exact .inl ⟨k,Il ndP hp hu k⟩
  ·obtain ⟨c,e⟩:=JI (n:=s.heap.objs.size+1) k;refine .inr ⟨.inl k,c,e,?_⟩;have q:=x.cell y c e;rw [Ie ndP hp hu (by show scope.names.lookup y≠_;rw [k];decide)] at q;exact q
 ·exact e0.hok.fresh (Nat.le_of_lt (x.above y c (PySem.mem_of_lookup h)))
 ·unfold start;show _=N.length;rw [length_append,length_map,length_replicate];omega
theorem OZ {CX:CXT} {P:Program} {w:World} {K:PySem.W.Frag} {mg:Str->Option Value} {base:Heap} {k:Nat} {f:Addr} {name qual:Str} {params:Arguments} {body:List Stmt} {scope:Scope} {dV kV doc pm cdv ct oc:Value} {an od:Option Addr}
 {osl:Array (Option Value)} {N ps:List Str} {sp:Sp} (lk:K.lookup f=some ⟨oc,od,.func (PySem.W.fnOf name qual params body scope dV kV doc pm an cdv ct),osl⟩) (hcd:PySem.W.codeIn K cdv qual=true) (S:Aq N ps scope)
 (len:∀vs H Q E,sp vs H Q E->vs.length=ps.length)
 (hbody:∀(A:Around) (outer:List Env) (s:Shared) (H:Hp) (vs:List V) (Q:VK) (E:XK),C7 k (A.deeper (envOfC qual scope s.heap.objs.size f cdv))->sp vs H Q E ->
  ∃t,PSs (JD CX P w K mg base N qual scope f cdv A outer s H E) body t/\t { nx:=fun _ H'=>Q .non H',rt:=Q } (start N vs) H) :
 AK P w K mg base CX (k+1) f (PySem.W.fnOf name qual params body scope dV kV doc pm an cdv ct) ps sp:=by
 refine ⟨len,fun A outer s H args us vs Q E hr e0 hb r hsp=>?_⟩;have hl:=len _ _ _ _ hsp;have KX:K.In s.heap:=e0.mod.kin.keeps fun b o e=>(e0.bs b o e).1;have lim:s.heap.NoLimit:=e0.mod.nolimit.keeps fun b o e=>(e0.bs b o e).1
 have hkind:∀y∈ps.zip us,scope.names.lookup y.1=some .local\/(scope.names.lookup y.1=some .cell/\((cellsFrom (s.heap.objs.size+1) scope.names []).lookup y.1).isSome=true):=fun ⟨n,v⟩ hy=>by
  rcases S.par n (of_mem_zip hy).1 with q | q
  ·exact .inl q
  ·exact .inr ⟨q,PySem.W.cellsFrom_some _ _ _ (.inl q)⟩
 refine codeAny_call_function hr.depth (KX _ _ lk) rfl S.co S.gen rfl (PySem.W.codeRec_of KX hcd) (hb _ _ _ _ ?_);refine wpAny_newFunctionEnv_cells S.kind hkind fun env he s1 x=>?_;subst he;refine ⟨lim.keeps x.toInCall.keep,codeAny_func ?_⟩;obtain ⟨t,ht,hq⟩:=hbody A outer s H vs Q E (hr.deeper _) hsp;have I:Inv (JD CX P w K mg base N qual scope f cdv A outer s H E) [] (start N vs) H s1:=Nh S hr.hd e0 hl r x;refine wpAny_mono (ht [] s1 (start N vs) H _ I hq) (fun fl s' hs=>?_) fun e s' hs=>hs
 have fin:∀{σ':St} {H':Hp} {v:V} {u:Value},Inv (JD CX P w K mg base N qual scope f cdv A outer s H E) [] σ' H' s'->AE v u->Q v H'->CE outer P w H s Q u s' :=
  fun {σ' H' v u} J rv q=>⟨v,H',J.os,J.bare,J.base,J.hok,rv,q⟩
 cases fl with
 | ret u =>
   obtain ⟨v,σ',H',J,rv,q⟩:=hs;exact fin J rv q
 | next =>
   obtain ⟨σ',H',J,q⟩:=hs;exact fin (v:=V.non) (u:=Value.none) J rfl q
 | brk =>
   obtain ⟨_,_,_,q⟩:=hs;exact False.elim q
 | cont =>
   obtain ⟨_,_,_,q⟩:=hs;exact False.elim q
end L2
namespace L2
open PySem PySem.Spec PyProof.Rows
section
variable {X:Cx} {x:Str} {p pos:Pos} {e:Expr} {es:List Expr} {t:TA} {id T:String} {r:List V->Hp->VK->Prop}
noncomputable def tCB (r:List V->Hp->VK->Prop) (t:TA):TE:=fun σ H Q=>t σ H fun vs H1=>r vs H1 Q
theorem Al (hc:Ci X (.builtin id) r) (hg:Gl X x) (hm:X.mg x=none) (hv:bootBuiltins x=some (.builtin id)) (ha:PA X (e :: es) t) (hn:x≠"__name__":=by decide) (hdb:(x == ("__debug__":Str))=false:=by decide)
 (he:starEach (e :: es) X.env=(false,eval e X.env) :: starEach es X.env:=by rfl) (hpl:(backTo pos (starEach es X.env)).any (·.1)=false:=by rfl):PE X (.Call (.Name x p) (e :: es) [] pos) (tCB r t):=by
 intro pins s σ H Q I h;refine wpAny_Call_Name_kw (Cv I hg hm hv ?_ hn hdb);exact PyProof.Rows.callWith_builtin1 (thn (ha pos pins s σ H _ I h) fun us s1 ⟨vs,H1,I1,r1,q1⟩=>hc pins s1 σ H1 vs us Q I1 r1 q1) he hpl
theorem AJ (hc:Ci X (.type T) r) (hg:Gl X x) (hm:X.mg x=none) (hv:bootBuiltins x=some (.type T)) (ha:PA X (e :: es) t) (hn:x≠"__name__":=by decide) (hdb:(x == ("__debug__":Str))=false:=by decide)
 (he:starEach (e :: es) X.env=(false,eval e X.env) :: starEach es X.env:=by rfl) (hpl:(backTo pos (starEach es X.env)).any (·.1)=false:=by rfl):PE X (.Call (.Name x p) (e :: es) [] pos) (tCB r t):=by
 intro pins s σ H Q I h;refine wpAny_Call_Name_kw (Cv I hg hm hv ?_ hn hdb);exact PyProof.Rows.callWith_type1 (thn (ha pos pins s σ H _ I h) fun us s1 ⟨vs,H1,I1,r1,q1⟩=>hc pins s1 σ H1 vs us Q I1 r1 q1) he hpl
end
end L2
namespace HT
open PySem PyProof.Rows
noncomputable def lexLt:List Int->List Int->Bool
 | [],[]=>false
 | [],_ :: _=>true
 | _ :: _,[]=>false
 | x :: xs,y :: ys=>if x=y then lexLt xs ys else decide (x < y)
theorem lexLt_cons (x y:Int) (xs ys:List Int):lexLt (x :: xs) (y :: ys)=if x=y then lexLt xs ys else decide (x < y):=rfl
theorem HF:lexLt [] []=false:=rfl
theorem Hs (y:Int) (ys:List Int):lexLt [] (y :: ys)=true:=rfl
theorem GL (x:Int) (xs:List Int):lexLt (x :: xs) []=false:=rfl
theorem Pf (A:Around) (s:Shared) (a:Int) (t:Tok) (c:Int) (u:Tok):∃e,SeqAt.EqAt A s (.int a t) (.int c u) e/\(e=true↔a=c) :=
 ⟨(a == c),SeqAt.EqAt.int_int a t c u,by simp⟩
theorem Ob (A:Around) (s:Shared) (a:Int) (t:Tok) (c:Int) (u:Tok) (prog:Program) (w:World) (E:Value->Shared->Prop) (Q:Value->Shared->Prop) (h:Q (.bool (decide (a < c))) s) :
 wpAny (model prog w) A (richCompare .Lt (.int a t) (.int c u)) Q E s :=
 (PyProof.Rows.lt_int h:wpAny (model prog w) A (compareOp .Lt (.int a t) (.int c u)) Q E s)
section
open PySem.SeqAt
open PySem.AutoSeq1 (wpAny_loadPart')
open PySem.MeetsSeq PySem.MeetsSeq2 PySem.MeetsSeq3
theorem tuple_lt_ints (l b:Addr) (items items2:Array Value) (n n2:Nat) (dd dd2:Option Addr) (sl sl2:Array (Option Value)) (ns ms:List Int) (hi:IntsAre items.toList ns) (hj:IntsAre items2.toList ms) :
 Meets (Builtin.«tuple.__lt__» ⟨[.ref l,.ref b],[]⟩)
  (fun _ R s=>s.heap.get? l=some { cls:=.type "tuple",dict:=dd,data:=.seq items n,slots:=sl }/\s.heap.get? b=some { cls:=.type "tuple",dict:=dd2,data:=.seq items2 n2,slots:=sl2 } /\
   R (.ok (.ret (.bool (lexLt ns ms)))) s) :=
 .of_wp fun prog w A R s h=>by
  obtain ⟨hp,g,d,tk,os⟩:=s;obtain ⟨hl,hb,h⟩:=h;have f2:=AutoSeq1.sub_tuple_tuple;have z1:items.size=ns.length:=by rw [<- hi.length];simp
  have z2:items2.size=ms.length:=by rw [<- hj.length];simp
  wp_walk using wpAny_loadPart' hl,wpAny_loadPart' hb,wpAny_forIn_list _ (fun rest b s'=>b.1=none/\s'=⟨hp,g,d,tk,os⟩/\∃(vs ws:List Value) (ns' ms':List Int),rest=vs.zip ws /\
   IntsAre vs ns'/\IntsAre ws ms'/\ns'.length+items2.size=ms'.length+items.size/\R (.ok (.ret (.bool (lexLt ns' ms')))) ⟨hp,g,d,tk,os⟩) _
  case turn =>
   rintro ⟨y,x⟩ rest b s' ⟨hb',rfl,vs,ws,ns',ms',hz,hvi,hwi,hlen,hR⟩
   cases hvi with
   | nil=>rw [zip_nil_left] at hz;cases hz
   | cons a t hvi' =>
     cases hwi with
     | nil=>rw [zip_nil_right] at hz;cases hz
     | cons c u hwi' =>
       rw [zip_cons_cons] at hz;injection hz with hyx hrest
       injection hyx with hy hx
       subst hy hx;rw [lexLt_cons] at hR;simp only [length_cons] at hlen;obtain ⟨e,he,hiff⟩:=Pf A.in1 ⟨hp,g,d,tk,os⟩ a t c u;refine wpAny_bind (he prog w _ _ ?_)
       cases e with
       | true =>
         rw [if_pos (hiff.mp rfl)] at hR
         wp_walk
         exact ⟨rfl,rfl,_,_,_,_,hrest,hvi',hwi',by omega,hR⟩
       | false =>
         rw [if_neg (fun q=>absurd (hiff.mpr q) Bool.false_ne_true)] at hR;have hri:=Ob A.in1 ⟨hp,g,d,tk,os⟩ a t c u prog w
         wp_walk using hri
         exact ⟨_,rfl,by simpa using hR⟩
  case fin =>
   rintro ⟨b1,b2⟩ s' ⟨hb',rfl,vs,ws,ns',ms',hz,hvi,hwi,hlen,hR⟩;simp only at hb';subst hb'
   have hv:lexLt ns' ms'=decide (items.size < items2.size):=by
    cases hvi with
    | nil =>
      cases hwi with
      | nil =>
        simp only [length_nil] at hlen;rw [HF];exact (decide_eq_false (by omega)).symm
      | cons c u hw =>
        simp only [length_nil,length_cons] at hlen;rw [Hs];exact (decide_eq_true (by omega)).symm
    | cons a t hv =>
      cases hwi with
      | nil =>
        simp only [length_nil,length_cons] at hlen;rw [GL];exact (decide_eq_false (by omega)).symm
      | cons c u hw =>
        rw [zip_cons_cons] at hz
        cases hz
   rw [hv] at hR
   wp_walk
   exact ⟨_,rfl,by simpa [Builtin.Tuple.tupleCompareSizes] using hR⟩
  case h =>
   exact ⟨rfl,rfl,items.toList,items2.toList,ns,ms,rfl,hi,hj,by omega,h⟩
end
section
variable {prog:Program} {w:World} {A:Around} {E:Value->Shared->Prop} {s:Shared}
theorem lt_tupInts {l b:Addr} {items items2:Array Value} {ns ms:List Int} {Q:Value->Shared->Prop} (hl:IsTup s.heap l items) (hb:IsTup s.heap b items2) (hi:IntsAre items.toList ns) (hj:IntsAre items2.toList ms)
 (hu:A.units < cLine) (h:Q (.bool (lexLt ns ms)) s):wpAny (model prog w) A (compareOp .Lt (.ref l) (.ref b)) Q E s:=by
 obtain ⟨⟨cls,dd,data,sl⟩,ho,hc,n,hd⟩:=id hl;obtain ⟨⟨cls2,dd2,data2,sl2⟩,ho2,hc2,n2,hd2⟩:=id hb;simp only at hc hd hc2 hd2;subst hc hd hc2 hd2
 exact richCompare_meets_room (op:=.Lt) ⟨_,ho,rfl⟩ ⟨_,ho2,rfl⟩ PySem.F.slot_tuple_lt PySem.F.entry_tuple_lt (PySem.F.args_tuple_lt_2 _ _) (tuple_lt_ints l b items items2 n n2 dd dd2 sl sl2 ns ms hi hj)
  ⟨ho,ho2,show Value.bool (lexLt ns ms)≠Value.notImplemented/\Q (.bool (lexLt ns ms)) s from ⟨(fun x=>nomatch x),h⟩⟩ hu
noncomputable def sIx (n d:Nat):Option Int->Nat
 | none=>d
 | some v=>if v < 0 then (v+(n:Int)).toNat else min v.toNat n
theorem sIx_none (n d:Nat):sIx n d none=d:=rfl
theorem sIx_nat (n d k:Nat):sIx n d (some (k:Int))=min k n:=by
 show (if (k:Int) < 0 then ((k:Int)+(n:Int)).toNat else min (k:Int).toNat n)=min k n;rw [if_neg (by omega),Int.toNat_natCast]
end
end HT
namespace L2
open PySem PySem.Spec PyProof.Rows
abbrev TO:=St->Hp->(Option Int->Hp->Prop)->Prop
def PO (X:Cx) (e:Option Expr) (t:TO):Prop :=
 ∀(pins:List (Addr × Obj)) (s:Shared) (σ:St) (H:Hp) (Q:Option Int->Hp->Prop),Inv X pins σ H s->t σ H Q ->
  wpAny (model X.prog X.w) X.A (evalPart e X.env) (fun u s'=>∃o H',Inv X pins σ H' s'/\IsPart u o/\Q o H') X.xe s
def Px:TO:=fun _ H Q=>Q none H
noncomputable def RS (t:TE):TO:=fun σ H Q=>t σ H fun x H1=>∃i,x=.int i/\Q (some i) H1
theorem BE {ns:List Int}:∀{us:List Value},A8 (ns.map V.int) us->IntsAre us ns:=by
 induction ns with
 | nil=>intro us r;rw [map_nil] at r;cases r;exact .nil
 | cons n ns ih =>
   intro us r;rw [map_cons] at r
   cases r with
   | cons r1 r2 =>
     obtain ⟨t,e⟩:=r1;subst e;exact .cons n t (ih r2)
section
variable {X:Cx} {e:Expr} {te:TE} {lo hi:Option Expr} {tl th:TO} {pos p2:Pos}
theorem Bs:PO X none Px:=by
 intro pins s σ H Q I h;rw [evalPart_none];exact wpAny_pure ⟨none,H,I,.none,h⟩
theorem Bj (h:PE X e te):PO X (some e) (RS te):=by
 intro pins s σ H Q I hw;rw [evalPart_some];refine thn (h pins s σ H _ I hw) fun u s1 ⟨x,H1,I1,r1,q1⟩=>?_;obtain ⟨i,rfl,q⟩:=q1;obtain ⟨t,rfl⟩:=r1;exact ⟨some i,H1,I1,.int i t,q⟩
noncomputable def SlR (X:Cx) (r:V->Option Int->Option Int->Hp->VK->Prop):Prop :=
 ∀(pins:List (Addr × Obj)) (s:Shared) (σ:St) (H:Hp) (x:V) (v vl vu:Value) (lo hi:Option Int) (sl:Addr) (Q:VK),Inv X pins σ H s->AE x v->s.heap.IsSliceOf sl vl vu .none->IsPart vl lo->IsPart vu hi->r x lo hi H Q ->
  ∃T id,typeLookup (.type T) "__getitem__"=pure (some (.builtin id))/\s.TypeIs v T/\wpAny (model X.prog X.w) X.A (getItem v (.ref sl)) (EP X pins σ Q) X.xe s
noncomputable def tSl (r:V->Option Int->Option Int->Hp->VK->Prop) (te:TE) (tl th:TO):TE:=fun σ H Q=>te σ H fun x H1=>tl σ H1 fun l H2=>th σ H2 fun u H3=>r x l u H3 Q
theorem Ba {r:V->Option Int->Option Int->Hp->VK->Prop} (hr:SlR X r) (he:PE X e te) (hl:PO X lo tl) (hu:PO X hi th):PE X (.Subscript e (.Slice lo hi none p2) pos) (tSl r te tl th):=by
 intro pins s σ H Q I h;refine Subscript_ (thn (he pins s σ H _ I h) fun v s1 ⟨x,H1,I1,r1,q1⟩=>?_);refine wpAny_Slice (thn (hl pins s1 σ H1 _ I1 q1) fun vl s2 ⟨l,H2,I2,pl,q2⟩=>thn (hu pins s2 σ H2 _ I2 q2) fun vu s3 ⟨u,H3,I3,pu,q3⟩=>?_);rw [evalPart_none];refine wpAny_pure ?_;have I4:Inv X pins σ H3 { s3 with heap:=s3.heap.push { cls:=.type "slice",data:=.fields #[vl,vu,.none] } }:=I3.kept (t':=s3.toks) fun b ob q=>Heap.get?_push_of_some _ q;obtain ⟨T,id,hT,ht,hg⟩:=hr pins { s3 with heap:=s3.heap.push { cls:=.type "slice",data:=.fields #[vl,vu,.none] } } σ H3 x v vl vu l u s3.heap.objs.size Q I4 r1 (Heap.IsSliceOf.new ..) pl pu q3;show wpAny (model X.prog X.w) X.A (subscriptTail e (.Slice lo hi none p2) v (.ref s3.heap.objs.size)) (EP X pins σ Q) X.xe { s3 with heap:=s3.heap.push { cls:=.type "slice",data:=.fields #[vl,vu,.none] } };exact tail_any (ops:=[.ref s3.heap.objs.size,v]) ht hT hg (by with_unfolding_all rfl)
noncomputable def CN (xs:List V) (lo hi:Option Int):List V:=(xs.drop (HT.sIx xs.length 0 lo)).take (HT.sIx xs.length xs.length hi - HT.sIx xs.length 0 lo)
theorem JB (xs:List V) (lo hi:Option Int):(CN xs lo hi).length<=xs.length:=by
 unfold CN;rw [length_take,length_drop];omega
end
end L2
namespace L2
open PySem PySem.Spec PyProof.Rows
noncomputable def ixN (n:Nat) (i:Int):Option Nat:=if 0<=i then (if i < n then some i.toNat else none) else if -(n:Int)<=i then some (i+n).toNat else none
noncomputable def atI {α:Type} (xs:List α) (i:Int):Option α:=(ixN xs.length i).bind fun j=>xs[j]?
theorem II {n:Nat} {i:Int} {j:Nat} (h:ixN n i=some j):seqIndex? i n=some j/\j < n/\-(n:Int)<=i/\i < n:=by
 unfold ixN at h;by_cases h0:0<=i
 ·rw [if_pos h0] at h;by_cases h1:i < n
  ·rw [if_pos h1] at h;have e:i.toNat=j:=Option.some.inj h;exact ⟨by rw [seqIndex_of h0 h1,e],by omega,by omega,h1⟩
  ·rw [if_neg h1] at h;cases h
 ·rw [if_neg h0] at h;by_cases h1:-(n:Int)<=i
  ·rw [if_pos h1] at h;have e:(i+n).toNat=j:=Option.some.inj h;exact ⟨by rw [seqIndex_neg (by omega) h1,e],by omega,h1,by omega⟩
  ·rw [if_neg h1] at h;cases h
theorem LN {α:Type} {xs:List α} {i:Int} {v:α} (h:atI xs i=some v):∃j,seqIndex? i xs.length=some j/\xs[j]?=some v/\j < xs.length/\-(xs.length:Int)<=i/\i < xs.length:=by
 unfold atI at h
 cases e:ixN xs.length i with
 | none=>rw [e] at h;cases h
 | some j =>
   rw [e] at h;obtain ⟨h1,h2,h3,h4⟩:=II e;exact ⟨j,h1,h,h2,h3,h4⟩
theorem Bt {α:Type} {xs:List α} {j:Nat} {v:α} (h:xs[j]?=some v):atI xs (j:Int)=some v:=by
 have hj:j < xs.length:=(List.getElem?_eq_some_iff.mp h).1
 have e:ixN xs.length (j:Int)=some j:=by
  unfold ixN;rw [if_pos (by omega),if_pos (by omega)];simp
 unfold atI;rw [e];exact h
noncomputable def Qm (b:Expr):Prop:=∀o i,subscripted b false o i=operate [o,i] (getItem o i)
def IxR (X:Cx) (r:R2):Prop :=
 ∀(value slice:Expr) (pins:List (Addr × Obj)) (s:Shared) (σ:St) (H:Hp) (x y:V) (v u:Value) (Q:VK),Inv X pins σ H s->AE x v->AE y u->r x y H Q ->
  subscripted slice false v u=operate [v,u] (getItem v u)->wpAny (model X.prog X.w) X.A (subscriptTail value slice v u) (EP X pins σ Q) X.xe s
noncomputable def MtR (X:Cx) (id:String) (r:V->List V->Hp->VK->Prop):Prop :=
 ∀(pins:List (Addr × Obj)) (s:Shared) (σ:St) (H:Hp) (x:V) (xs:List V) (v:Value) (us:List Value) (Q:VK),Inv X pins σ H s->AE x v->A8 xs us->r x xs H Q ->
  wpAny (model X.prog X.w) X.A (call (.builtin id) (v :: us)) (EP X pins σ Q) X.xe s
section
variable {X:Cx} {a b:Expr} {ta tb:TE} {pos:Pos}
theorem At {r:R2} (hr:IxR X r) (ha:PE X a ta) (hb:PE X b tb) (hs:Qm b):PE X (.Subscript a b pos) (tOp r ta tb):=by
 intro pins s σ H Q I h;exact Subscript_ (QG ha hb I h fun v u s2 x y H2 I2 rx ry q=>hr a b pins s2 σ H2 x y v u Q I2 rx ry q (hs _ _))
noncomputable def Sa (K:PySem.W.Frag):R2:=fun x y H Q=>∃p xs i v,x=.ref p/\y=.int i/\SqL K H p xs/\atI xs i=some v/\Q v H
noncomputable def RG (K:PySem.W.Frag):R2:=fun x y H Q=>∃p xs i v,x=.ref p/\y=.int i/\SqT K H p xs/\atI xs i=some v/\Q v H
theorem Ay:IxR X (Sa X.K):=by
 intro value slice pins s σ H x y v u Q I rx ry h hs;obtain ⟨p,xs,i,z,rfl,rfl,hq,he,q⟩:=h
 cases rx
 obtain ⟨t,rfl⟩:=ry;obtain ⟨its,r,pl,hz⟩:=I.list hq;obtain ⟨j,h1,h2,h3,h4,h5⟩:=LN he;obtain ⟨w,ew,rw'⟩:=r.get h2;have hl:=r.length;have hn:=Jf;have fin:EP X pins σ Q w s:=⟨z,H,I,rw',q⟩;by_cases h0:0<=i
 ·have hj:i.toNat=j:=by
   rw [seqIndex_of h0 h5] at h1;exact Option.some.inj h1
  exact item_listR pl.isList h0 (by omega) (by rw [hj];simpa using ew) fin hs
 ·have hj:(i+(its.toArray.size:Int)).toNat=j:=by
   rw [seqIndex_neg (by omega) h4] at h1;rw [size_toArray,<- hl];exact Option.some.inj h1
  exact subscriptTail_builtinR (x:=w) pl.isList.typeIs slot_list_getitem.lookup
   (wpAny_getItem_list_neg (Q:=fun r s'=>r=w/\EP X pins σ Q r s') pl.isList (by omega) (by rw [size_toArray] <;> omega) (by omega) (by rw [hj];simpa using ew) ⟨rfl,fin⟩) hs
theorem BA:IxR X (RG X.K):=by
 intro value slice pins s σ H x y v u Q I rx ry h hs;obtain ⟨p,xs,i,z,rfl,rfl,hq,he,q⟩:=h
 cases rx
 obtain ⟨t,rfl⟩:=ry;obtain ⟨its,r,pl,hz⟩:=I.tuple hq;obtain ⟨j,h1,h2,h3,h4,h5⟩:=LN he;obtain ⟨w,ew,rw'⟩:=r.get h2;have hl:=r.length;have hn:=Jf;have fin:EP X pins σ Q w s:=⟨z,H,I,rw',q⟩
 exact subscriptTail_builtinR (x:=w) pl.typeIs slot_tuple_getitem.lookup
  (getItem_tuple (j:=j) (Q:=fun r s'=>r=w/\EP X pins σ Q r s') pl (by omega) (by omega) (by rw [size_toArray,<- hl];exact h1) (by simpa using ew) ⟨rfl,fin⟩) hs
theorem Le (its:List Value) (n j:Nat) (u:Value):Obj.mapSeq (·.setIfInBounds j u) { cls:=.type "list",data:=.seq its.toArray n }={ cls:=.type "list",data:=.seq (its.set j u).toArray n }:=by
 simp [Obj.mapSeq]
theorem Inv.lst {pins:List (Addr × Obj)} {σ:St} {H:Hp} {s:Shared} {p:Addr} {xs:List V} (I:Inv X pins σ H s) (h:H p=some (.lst xs)) :
 ∃(its:List Value) (n:Nat),A8 xs its/\s.heap.get? p=some { cls:=.type "list",data:=.seq its.toArray n }/\xs.length<=sizeLine:=by
 obtain ⟨z,its,n,r,e⟩:=I.hok p _ h;exact ⟨its,n,r,e,z⟩
theorem Inv.lstUpd {pins:List (Addr × Obj)} {σ:St} {H:Hp} {s:Shared} {p:Addr} {xs ys:List V} {its its':List Value} {n n':Nat} {f:Obj->Obj} (I:Inv X pins σ H s) (h:H p=some (.lst xs))
 (ho:s.heap.get? p=some { cls:=.type "list",data:=.seq its.toArray n }) (hf:f { cls:=.type "list",data:=.seq its.toArray n }={ cls:=.type "list",data:=.seq its'.toArray n' }) (r:A8 ys its') (hz:ys.length<=sizeLine) (t:Nat) :
 Inv X pins σ (upd H p (.lst ys)) { s with heap:=s.heap.update p f,toks:=t }:=by
 have e:(s.heap.update p f).get? p=some { cls:=.type "list",data:=.seq its'.toArray n' }:=by
  rw [Heap.get?_update_self f ho (by rw [hf] <;> rfl),hf]
 refine I.write (x:=p) (e:=p) (by rw [h];trivial) (.inl rfl) (fun b u hb q=>(Heap.get?_update_other _ _ (Ne.symm hb)).trans q) ⟨_,e⟩ ?_;exact ⟨hz,its',n',r,e⟩
noncomputable def R4:V->V->V->Hp->(Hp->Prop)->Prop:=fun o i v H Q=>∃p xs k j,o=.ref p/\i=.int k/\H p=some (.lst xs)/\ixN xs.length k=some j/\Q (upd H p (.lst (xs.set j v)))
theorem DR:RA X R4:=by
 intro pins s σ H o i v ov iv u Q I ro ri rv h;obtain ⟨p,xs,k,j,rfl,rfl,hp,hj,q⟩:=h
 cases ro
 obtain ⟨t,rfl⟩:=ri;obtain ⟨its,n,r,ho,hz⟩:=I.lst hp;obtain ⟨h1,h2,h3,h4⟩:=II hj;have hl:=r.length;have hn:=Jf
 have I':Inv X pins σ (upd H p (.lst (xs.set j v))) { s with heap:=s.heap.update p (Obj.mapSeq (·.setIfInBounds j u)) } :=
  I.lstUpd hp ho (Le its n j u) (r.set rv j) (by rw [length_set];exact hz) s.toks
 by_cases h0:0<=k
 ·have hk:k.toNat=j:=by
   rw [seqIndex_of h0 h4] at h1;exact Option.some.inj h1
  exact PySem.W.ki_setAt ho h0 (by omega) (by rw [size_toArray,<- hl];exact h4) (by rw [hk];exact ⟨_,I',q⟩)
 ·have hk:(k+(its.toArray.size:Int)).toNat=j:=by
   rw [seqIndex_neg (by omega) h3] at h1;rw [size_toArray,<- hl];exact Option.some.inj h1
  exact PySem.W.ki_setBack ho (by omega) (by rw [size_toArray,<- hl];exact h3) (by omega) (by rw [hk];exact ⟨_,I',q⟩)
theorem IY (lo hi:Option Int) (n:Nat):(sliceBounds lo hi none n).1=((HT.sIx n 0 lo:Nat):Int)/\(sliceBounds lo hi none n).2.1=((HT.sIx n n hi:Nat):Int)/\(sliceBounds lo hi none n).2.2=1:=by
 refine ⟨?_,?_,rfl⟩
 ·cases lo with
  | none=>simp [sliceBounds,HT.sIx]
  | some i =>
    simp only [sliceBounds,HT.sIx,Option.getD_none,show (1:Int) > 0 by decide,if_true];by_cases h:i < 0
    ·simp only [h,if_true] <;> omega
    ·simp only [h,if_false] <;> omega
 ·cases hi with
  | none=>simp [sliceBounds,HT.sIx]
  | some i =>
    simp only [sliceBounds,HT.sIx,Option.getD_none,show (1:Int) > 0 by decide,if_true];by_cases h:i < 0
    ·simp only [h,if_true] <;> omega
    ·simp only [h,if_false] <;> omega
theorem HI (its:List Value) (lo hi:Option Int):slicePick its.toArray lo hi none=((its.drop (HT.sIx its.length 0 lo)).take (HT.sIx its.length its.length hi - HT.sIx its.length 0 lo)).toArray:=by
 obtain ⟨h1,h2,h3⟩:=IY lo hi its.toArray.size;unfold slicePick;rw [h1,h2,h3];simp only [sliceRange_one,pick_run,size_toArray] <;> rfl
noncomputable def Sg (K:PySem.W.Frag):V->Option Int->Option Int->Hp->VK->Prop:=fun x lo hi H Q=>∃a xs,x=.ref a/\SqL K H a xs/\∀p,H p=none->Q (.ref p) (upd H p (.lst (CN xs lo hi)))
theorem Bm:SlR X (Sg X.K):=by
 intro pins s σ H x v vl vu lo hi sl Q I rx hs pl pu h;obtain ⟨a,xs,rfl,hx,q⟩:=h
 cases rx
 obtain ⟨its,r,ht,hz⟩:=I.list hx;have hlen:=r.length;refine ⟨"list",_,slot_list_getitem.lookup,ht.isList.typeIs,?_⟩;refine wpAny_getItem_list_slice ht.isList hs pl pu .none (by simp) ?_ (by rw [size_toArray] <;> omega);rw [HI,<- hlen];refine ⟨.ref s.heap.objs.size,_,I.laid (t':=s.toks) (o:=.lst (CN xs lo hi)) (fun b ob q=>Heap.get?_push_of_some _ q) (Nat.le_refl _) ?_,rfl,q _ (I.hok.fresh (Nat.le_refl _))⟩;exact ⟨Nat.le_trans (JB xs lo hi) hz,_,0,(r.drop (HT.sIx xs.length 0 lo)).take (HT.sIx xs.length xs.length hi - HT.sIx xs.length 0 lo),Heap.get?_push_size _ rfl⟩
noncomputable def Fg:V->Bool
 | .non=>true
 | .bl _=>true
 | .int _=>true
 | .str _=>true
 | _=>false
noncomputable def eqV:V->V->Bool
 | .non,.non=>true
 | .bl a,.bl b=>a == b
 | .bl a,.int b=>(if a then 1 else 0) == b
 | .int a,.bl b=>a == (if b then 1 else 0)
 | .int a,.int b=>a == b
 | .str a,.str b=>a == b
 | _,_=>false
theorem QR {A:Around} {s:Shared} {y x:V} {u v:Value} (ry:AE y u) (rx:AE x v) (fy:Fg y=true) (fx:Fg x=true):SeqAt.EqAt A s u v (eqV y x):=by
 cases y with
 | non =>
   cases ry
   cases x with
   | non=>cases rx;exact SeqAt.EqAt.same _
   | bl b=>cases rx;exact SeqAt.EqAt.none_bool b
   | int b=>obtain ⟨t,rfl⟩:=rx;exact SeqAt.EqAt.none_int b t
   | str b=>obtain ⟨t,rfl⟩:=rx;exact SeqAt.EqAt.none_str b t
   | _=>exact absurd (show false=true from fx) Bool.false_ne_true
 | bl a =>
   cases ry
   cases x with
   | non=>cases rx;exact SeqAt.EqAt.bool_none a
   | bl b=>cases rx;exact SeqAt.EqAt.bool_bool a b
   | int b=>obtain ⟨t,rfl⟩:=rx;exact SeqAt.EqAt.bool_int a b t
   | str b=>obtain ⟨t,rfl⟩:=rx;exact SeqAt.EqAt.bool_str a b t
   | _=>exact absurd (show false=true from fx) Bool.false_ne_true
 | int a =>
   obtain ⟨t',rfl⟩:=ry
   cases x with
   | non=>cases rx;exact SeqAt.EqAt.int_none a t'
   | bl b=>cases rx;exact SeqAt.EqAt.int_bool a t' b
   | int b=>obtain ⟨t,rfl⟩:=rx;exact SeqAt.EqAt.int_int a t' b t
   | str b=>obtain ⟨t,rfl⟩:=rx;exact SeqAt.EqAt.int_str a t' b t
   | _=>exact absurd (show false=true from fx) Bool.false_ne_true
 | str a =>
   obtain ⟨t',rfl⟩:=ry
   cases x with
   | non=>cases rx;exact SeqAt.EqAt.str_none a t'
   | bl b=>cases rx;exact SeqAt.EqAt.str_bool a t' b
   | int b=>obtain ⟨t,rfl⟩:=rx;exact SeqAt.EqAt.str_int a t' b t
   | str b=>obtain ⟨t,rfl⟩:=rx;exact SeqAt.EqAt.str_str a t' b t
   | _=>exact absurd (show false=true from fx) Bool.false_ne_true
 | _=>exact absurd (show false=true from fy) Bool.false_ne_true
noncomputable def eqU (x:V) (u:Value):Bool:=match u with
 | .none=>eqV .non x
 | .bool b=>eqV (.bl b) x
 | .int i _=>eqV (.int i) x
 | .str z _=>eqV (.str z) x
 | _=>false
theorem Os {x y:V} {u:Value} (r:AE y u) (f:Fg y=true):eqU x u=eqV y x:=by
 cases y with
 | non=>cases r;rfl
 | bl b=>cases r;rfl
 | int i=>obtain ⟨t,rfl⟩:=r;rfl
 | str z=>obtain ⟨t,rfl⟩:=r;rfl
 | _=>exact absurd (show false=true from f) Bool.false_ne_true
theorem IM {x:V}:∀{xs:List V} {us:List Value},A8 xs us->xs.all Fg=true->us.any (eqU x)=xs.any fun y=>eqV y x
 | _,_,.nil,_=>rfl
 | y :: xs,u :: us,.cons r t,f=>by
   rw [all_cons,Bool.and_eq_true] at f;rw [any_cons,any_cons,Os r f.1,IM t f.2]
theorem Hu {A:Around} {s:Shared} {x:V} {v:Value} (rx:AE x v) (fx:Fg x=true):∀{xs:List V} {us:List Value},A8 xs us->xs.all Fg=true->∀u∈us,SeqAt.EqAt A s u v (eqU x u)
 | _,_,.nil,_=>fun u hu=>by cases hu
 | y :: xs,u :: us,.cons r t,f=>fun u' hu=>by
   rw [all_cons,Bool.and_eq_true] at f;rcases mem_cons.mp hu with rfl | hu
   ·rw [Os r f.1];exact QR r rx f.1 fx
   ·exact Hu rx fx t f.2 u' hu
noncomputable def inV (x:V) (xs:List V):Bool:=xs.any fun y=>eqV y x
noncomputable def rIn (K:PySem.W.Frag) (neg:Bool):R2:=fun x y H Q=>∃p xs,y=.ref p/\(SqL K H p xs\/SqT K H p xs)/\Fg x=true/\xs.all Fg=true/\Q (.bl (if neg then !inV x xs else inV x xs)) H
theorem Ih:OpR X (compareOp .In) (rIn X.K false):=by
 intro pins s σ H x y v u Q I rx ry h;obtain ⟨p,xs,rfl,hq,fx,fs,q⟩:=h
 cases ry
 rcases hq with hq | hq
 ·obtain ⟨its,r,pl,hz⟩:=I.list hq;refine SeqAt.in_listAt (eqU x) pl.isList (fun w hw=>Hu rx fx r fs w (by simpa using hw)) ⟨.bl _,H,I,rfl,?_⟩;rw [show its.toArray.any (eqU x)=its.any (eqU x) by simp,IM r fs];exact q
 ·obtain ⟨its,r,pl,hz⟩:=I.tuple hq;refine SeqAt.in_tupleAt (eqU x) pl (fun w hw=>Hu rx fx r fs w (by simpa using hw)) ⟨.bl _,H,I,rfl,?_⟩;rw [show its.toArray.any (eqU x)=its.any (eqU x) by simp,IM r fs];exact q
theorem Au:Ci X (.builtin "len") (fun xs H Q=>∃p ys,xs=[.ref p]/\(SqL X.K H p ys\/SqT X.K H p ys)/\Q (.int ys.length) H):=by
 intro pins s σ H xs us Q I r h;obtain ⟨p,ys,rfl,hq,q⟩:=h;obtain ⟨u,rfl,rx⟩:=DB r
 cases rx
 have hn:=Jf;rcases hq with hq | hq
 ·obtain ⟨its,r',pl,hz⟩:=I.list hq;have hlen:=r'.length;exact Calls.call_len_list pl.isList (by simp only [size_toArray] <;> omega) ⟨.int ys.length,H,I.tok _,⟨s.toks+1,by rw [size_toArray,hlen]⟩,q⟩
 ·obtain ⟨its,r',pl,hz⟩:=I.tuple hq;have hlen:=r'.length;exact len_tuple pl (by simp only [size_toArray] <;> omega) ⟨.int ys.length,H,I.tok _,⟨s.toks+1,by rw [size_toArray,hlen]⟩,q⟩
theorem AB:Ci X (.type "list") (fun xs H Q=>∃p ys,xs=[.ref p]/\(SqL X.K H p ys\/SqT X.K H p ys)/\∀l,H l=none->Q (.ref l) (upd H l (.lst ys))):=by
 intro pins s σ H xs us Q I r h;obtain ⟨p,ys,rfl,hq,q⟩:=h;obtain ⟨u,rfl,rx⟩:=DB r
 cases rx
 have fin:∀(its:List Value),A8 ys its->ys.length<=sizeLine->∀(h':Heap) (c':Nat),(∀b o',s.heap.get? b=some o'->h'.get? b=some o') ->
  h'.get? s.heap.objs.size=some { cls:=.type "list",dict:=none,data:=.seq its.toArray c',slots:=#[] }->EP X pins σ Q (.ref s.heap.objs.size) { s with heap:=h' }:=fun its r' hz h' c' kp e =>
  ⟨.ref s.heap.objs.size,_,I.laid (t':=s.toks) kp (Nat.le_refl _) (show AY X.prog X.w _ h' _ (.lst ys) from ⟨hz,its,c',r',e⟩),rfl,q _ (I.hok.fresh (Nat.le_refl _))⟩
 rcases hq with hq | hq
 ·obtain ⟨its,r',pl,hz⟩:=I.list hq;have hlen:=r'.length;obtain ⟨o,ho,hc,n,hd⟩:=pl.isList;exact call_list_seq p (.inl rfl) ho hc hd (fun h' c' kp e=>fin its r' hz h' c' kp e) (by simp only [size_toArray] <;> omega)
 ·obtain ⟨its,r',pl,hz⟩:=I.tuple hq;have hlen:=r'.length;obtain ⟨o,ho,hc,n,hd⟩:=pl;exact call_list_seq p (.inr rfl) ho hc hd (fun h' c' kp e=>fin its r' hz h' c' kp e) (by simp only [size_toArray] <;> omega)
theorem E3:Ci X (.type "tuple") (fun xs H Q=>∃p ys,xs=[.ref p]/\((SqL X.K H p ys/\∀l,H l=none->Q (.ref l) (upd H l (.tup ys)))\/(SqT X.K H p ys/\Q (.ref p) H))):=by
 intro pins s σ H xs us Q I r h;obtain ⟨p,ys,rfl,h⟩:=h;obtain ⟨u,rfl,rx⟩:=DB r
 cases rx
 rcases h with ⟨hq,q⟩ | ⟨hq,q⟩
 ·obtain ⟨its,r',pl,hz⟩:=I.list hq;have hlen:=r'.length;refine call_tuple_list pl.isList (fun h' kp=>?_) (by simp only [size_toArray] <;> omega);have I1:Inv X pins σ H { s with heap:=h' }:=I.kept (t':=s.toks) kp
  have I2:Inv X pins σ (upd H h'.objs.size (.tup ys)) { s with heap:=h'.push { cls:=.type "tuple",data:=.seq its.toArray } } :=
   I1.laid (t':=s.toks) (fun b o e=>Heap.get?_push_of_some _ e) (Nat.le_refl _) (show AY X.prog X.w _ _ _ (.tup ys) from ⟨hz,its,r',IsTup.new _ _⟩)
  exact ⟨.ref h'.objs.size,_,I2,rfl,q _ (I1.hok.fresh (Nat.le_refl _))⟩
 ·obtain ⟨its,r',pl,hz⟩:=I.tuple hq;exact call_tuple_same pl ⟨.ref p,H,I,rfl,q⟩
noncomputable def tyV (K:PySem.W.Frag) (T:String) (x:V) (H:Hp):Prop:=match x with
 | .str _=>T="str"
 | .int _=>T="int"
 | .ref p=>(T="list"/\∃xs,SqL K H p xs)\/(T="tuple"/\∃o,K.lookup p=some o/\o.cls=.type "tuple"/\o.dict=none) \/
  (T="dict"/\((∃kvs,H p=some (.dK kvs))\/∃kvs,H p=some (.dT kvs)))\/(T="set"/\∃S n,H p=some (.set S n))
 | _=>False
theorem O8 {pins:List (Addr × Obj)} {σ:St} {H:Hp} {s:Shared} {T:String} {x:V} {v:Value} (I:Inv X pins σ H s) (r:AE x v) (ty:tyV X.K T x H) :
 s.TypeIs v T/\∀a,v=.ref a->∃ob,s.heap.get? a=some ob/\ob.dict=none:=by
 cases x with
 | str z =>
   obtain ⟨t,rfl⟩:=r
   cases (show T="str" from ty)
   exact ⟨typeIs_str s z t,fun _ e=>nomatch e⟩
 | int i =>
   obtain ⟨t,rfl⟩:=r
   cases (show T="int" from ty)
   exact ⟨typeIs_int s i t,fun _ e=>nomatch e⟩
 | ref p =>
   cases r
   rcases ty with ⟨rfl,xs,hq⟩ | ⟨rfl,o,hk,hc,hd⟩ | ⟨rfl,hk⟩ | ⟨rfl,S,n,hk⟩
   ·obtain ⟨its,_,pl,_⟩:=I.list hq;refine ⟨pl.isList.typeIs,fun a e=>?_⟩
    cases e
    obtain ⟨o,n,e,c,hd,_⟩:=pl;exact ⟨o,e,hd⟩
   ·refine ⟨⟨o,I.kIn p o hk,hc⟩,fun a e=>?_⟩
    cases e
    exact ⟨o,I.kIn _ o hk,hd⟩
   ·have z:∃o,s.heap.get? p=some o/\o.ExactDict:=by
     rcases hk with ⟨kvs,hk⟩ | ⟨kvs,hk⟩
     ·obtain ⟨_,_,_,_,o,_,_,e,ex,_⟩:=I.hok p _ hk;exact ⟨o,e,ex⟩
     ·obtain ⟨_,_,_,_,o,_,_,e,ex,_⟩:=I.hok p _ hk;exact ⟨o,e,ex⟩
    obtain ⟨o,e,ex⟩:=z;refine ⟨⟨o,e,ex.1⟩,fun a e2=>?_⟩
    cases e2
    exact ⟨o,e,ex.2.1⟩
   ·obtain ⟨o,_,_,_,e,ex,_⟩:=I.hok p _ hk;refine ⟨⟨o,e,ex.1⟩,fun a e2=>?_⟩
    cases e2
    exact ⟨o,e,ex.2.1⟩
 | _=>exact False.elim ty
noncomputable def Se (K:PySem.W.Frag) (T:String) (r:V->List V->Hp->VK->Prop) (to:TE):TE:=fun σ H Q=>to σ H fun x H1=>tyV K T x H1/\r x [] H1 Q
noncomputable def tBM (K:PySem.W.Frag) (T:String) (r:V->List V->Hp->VK->Prop) (to:TE) (t:TA):TE:=fun σ H Q=>to σ H fun x H1=>tyV K T x H1/\t σ H1 fun xs H2=>r x xs H2 Q
variable {o e:Expr} {es:List Expr} {to:TE} {t:TA} {name:Str} {apos cpos:Pos} {T id:String} {r:V->List V->Hp->VK->Prop}
theorem QL (pa:PlainAttrs T) (slot:Slot T name id) (hty:typeOf (.builtin id)=pure (.type "method_descriptor")) (hm:MtR X id r) (ho:PE X o to)
 (hbase:attributeBase o name X.env (eval o X.env)=eval o X.env:=by rfl) (hline:(apos.endLine == cpos.line)=true:=by rfl):PE X (.Call (.Attribute o name apos) [] [] cpos) (Se X.K T r to):=by
 intro pins s σ H Q I h;refine wpAny_Call_method0_late hbase hline (thn (ho pins s σ H _ I h) fun v s1 ⟨x,H1,I1,r1,ty,q1⟩=>?_);obtain ⟨h1,h2⟩:=O8 I1 r1 ty;exact ⟨T,id,pa,slot,hty,h1,h2,Calls.callWith_builtin rfl (PySem.evalArgs_none (hm pins s1 σ H1 x [] v [] Q I1 r1 .nil q1))⟩
theorem CG (pa:PlainAttrs T) (slot:Slot T name id) (hty:typeOf (.builtin id)=pure (.type "method_descriptor")) (hm:MtR X id r) (ho:PE X o to) (ha:PA X (e :: es) t)
 (hbase:attributeBase o name X.env (eval o X.env)=eval o X.env:=by rfl)
 (hfew:((backTo cpos (starEach (e :: es) X.env)).all (fun x=>!x.1) && (backToKw cpos (keywordEach [] X.env)).all (fun x=>x.1.isSome)
  && decide ((e :: es).length+([]:List Keyword).length+(if ([]:List Keyword).isEmpty then 0 else 1) < 30))=true:=by rfl)
 (hline:(apos.endLine == cpos.line)=true:=by rfl) (hs:starEach (e :: es) X.env=(false,eval e X.env) :: starEach es X.env:=by rfl) (hplain:(backTo cpos (starEach es X.env)).any (·.1)=false:=by rfl) :
 PE X (.Call (.Attribute o name apos) (e :: es) [] cpos) (tBM X.K T r to t):=by
 intro pins s σ H Q I h;refine wpAny_Call_method_late hbase hfew hline rfl (thn (ho pins s σ H _ I h) fun v s1 ⟨x,H1,I1,r1,ty,q1⟩=>?_);obtain ⟨h1,h2⟩:=O8 I1 r1 ty;refine ⟨T,id,pa,slot,hty,h1,h2,?_⟩;have hA:=ha cpos pins s1 σ H1 _ I1 q1;rw [hs] at hA ⊢;refine Calls.callWith_builtin (by show (false || (backTo cpos (starEach es X.env)).any (·.1))=false;rw [hplain] <;> rfl) (Calls.evalArgs_plain ?_);exact thn hA fun us s2 ⟨vs,H2,I2,r2,q2⟩=>hm pins s2 σ H2 x vs v us Q I2 r1 r2 q2
end
end L2
namespace L2
open PySem PySem.Spec PyProof.Rows
noncomputable def MtM (X:Cx) (id:String) (r:V->List V->Hp->VK->Prop):Prop :=
 ∀(pins:List (Addr × Obj)) (s:Shared) (σ:St) (H:Hp) (x:V) (xs:List V) (v:Value) (us:List Value) (Q:VK),Inv X pins σ H s->AE x v->A8 xs us->r x xs H Q ->
  wpAny (model X.prog X.w) X.A (call (.builtin id) (v :: us)) (EP X pins σ Q) X.xe s
theorem A8.one:∀{x:V} {us:List Value},A8 [x] us->∃u,us=[u]/\AE x u
 | _,_,.cons r .nil=>⟨_,rfl,r⟩
theorem A8.eraseIdx:∀{xs:List V} {us:List Value} (i:Nat),A8 xs us->A8 (xs.eraseIdx i) (us.eraseIdx i)
 | _,_,_,.nil=>.nil
 | _,_,0,.cons _ t=>t
 | _,_,i+1,.cons r t=>.cons r (A8.eraseIdx i t)
theorem A8.reverse {xs:List V} {us:List Value} (h:A8 xs us):A8 xs.reverse us.reverse:=by
 induction h with
 | nil=>exact .nil
 | cons r t ih=>rw [reverse_cons,reverse_cons];exact A8.append ih (.cons r .nil)
theorem A8.rep {xs:List V} {us:List Value} (h:A8 xs us):∀k:Nat,A8 (List.replicate k xs).flatten (List.replicate k us).flatten
 | 0=>.nil
 | k+1=>by
   rw [replicate_succ,replicate_succ,flatten_cons,flatten_cons];exact A8.append h (A8.rep h k)
theorem Fx {α:Type}:∀(l:List α) (i:Nat),(l.eraseIdx i).length<=l.length
 | [],_=>Nat.le_refl _
 | _ :: _,0=>Nat.le_succ _
 | _ :: r,i+1=>Nat.succ_le_succ (Fx r i)
theorem Iq (its:List Value):∀(k:Nat) (acc:List Value),
 List.foldl (fun x1 x2=>x1++x2) acc.toArray (List.replicate k its.toArray)=(acc++(List.replicate k its).flatten).toArray
 | 0,acc=>by simp
 | k+1,acc=>by
   have e:acc.toArray++its.toArray=(acc++its).toArray:=by simp
   have e2:(acc++its)++(List.replicate k its).flatten=acc++(List.replicate (k+1) its).flatten:=by
    rw [replicate_succ,flatten_cons,append_assoc]
   rw [<- e2,<- Iq its k (acc++its),<- e,replicate_succ,foldl_cons]
section
variable {X:Cx} {pins:List (Addr × Obj)} {σ:St} {H:Hp} {s:Shared} {l b:Addr} {xs ys zs:List V}
theorem Inv.lset {its its':List Value} {n:Nat} {f:Array Value->Array Value} {t':Nat} (I:Inv X pins σ H s) (hH:H l=some (.lst xs))
 (e:s.heap.get? l=some { cls:=.type "list",data:=.seq its.toArray n }) (hf:f its.toArray=its'.toArray) (hv:A8 ys its') (hz:ys.length<=sizeLine) :
 Inv X pins σ (upd H l (.lst ys)) { s with heap:=s.heap.update l (Obj.mapSeq f),toks:=t' }:=by
 have q:=PySem.IsL.update e f;rw [hf] at q;refine I.write (x:=l) (e:=l) (by rw [hH];exact trivial) (.inl rfl) (fun b' u hb hu=>(Heap.get?_update_other s.heap (Obj.mapSeq f) (Ne.symm hb)).trans hu) ⟨_,q⟩ ?_;exact ⟨hz,its',_,hv,q⟩
theorem Inv.lnew {its:List Value} {t':Nat} (I:Inv X pins σ H s) (hv:A8 ys its) (hz:ys.length<=sizeLine) :
 Inv X pins σ (upd H s.heap.objs.size (.lst ys)) { s with heap:=s.heap.push { cls:=.type "list",data:=.seq its.toArray },toks:=t' } :=
 I.laid (fun _ _ q=>Heap.get?_push_of_some _ q) (Nat.le_refl _) ⟨hz,its,0,hv,Heap.get?_push_size _ rfl⟩
theorem Inv.fresh (I:Inv X pins σ H s):H s.heap.objs.size=none:=I.hok.fresh (Nat.le_refl _)
theorem Inv.lstM (I:Inv X pins σ H s) (hH:H l=some (.lst xs)):xs.length<=sizeLine/\∃(its:List Value) (n:Nat),A8 xs its/\xs.length=its.length/\s.heap.get? l=some { cls:=.type "list",data:=.seq its.toArray n }:=by
 obtain ⟨z,its,n,r,e⟩:=I.hok l _ hH;exact ⟨z,its,n,r,r.length,e⟩
theorem Ki {n:Nat} (h:n<=sizeLine):Builtin.List.listTooLong n=false:=by
 unfold Builtin.List.listTooLong;exact decide_eq_false (by omega)
end
section
variable {X:Cx}
noncomputable def Pp:V->List V->Hp->VK->Prop:=fun x vs H Q=>∃l xs y,x=.ref l/\vs=[y]/\H l=some (.lst xs)/\xs.length < sizeLine/\Q .non (upd H l (.lst (xs++[y])))
theorem Ct:MtM X "list.append" Pp:=by
 intro pins s σ H x vs v us Q I rx rv h;obtain ⟨l,xs,y,rfl,rfl,hH,hz,q⟩:=h
 cases rx
 obtain ⟨u,rfl,ru⟩:=rv.one;obtain ⟨z,its,n,r,hl,e⟩:=I.lstM hH;refine call_meets F.slot_list_append ⟨_,e,rfl⟩ F.entry_list_append (F.args_list_append_2 _ _) (PySem.list_append l its.toArray n u (by rw [size_toArray];omega)) ⟨e,?_⟩;refine ⟨.non,_,I.lset (its':=its++[u]) hH e (by simp) (r.append (.cons ru .nil)) ?_,rfl,q⟩;rw [length_append,length_singleton];omega
noncomputable def P2:V->List V->Hp->VK->Prop:=fun x vs H Q=>∃l b xs zs,x=.ref l/\vs=[.ref b]/\H l=some (.lst xs)/\H b=some (.lst zs)/\xs.length+zs.length<=sizeLine/\Q .non (upd H l (.lst (xs++zs)))
theorem HU:MtM X "list.extend" P2:=by
 intro pins s σ H x vs v us Q I rx rv h;obtain ⟨l,b,xs,zs,rfl,rfl,hH,hB,hz,q⟩:=h
 cases rx
 obtain ⟨u,rfl,ru⟩:=rv.one
 cases ru
 obtain ⟨z,its,n,r,hl,e⟩:=I.lstM hH;obtain ⟨z2,its2,n2,r2,hl2,e2⟩:=I.lstM hB;have hsz:its.toArray.size+its2.toArray.size<=sizeLine:=by rw [size_toArray,size_toArray];omega
 have hlong:¬ (!its.toArray.isEmpty && Builtin.List.listTooLong (its.toArray.size+its2.toArray.size))=true:=by
  rw [Ki hsz,Bool.and_false];exact Bool.false_ne_true
 refine call_meets F.slot_list_extend ⟨_,e,rfl⟩ F.entry_list_extend (F.args_list_extend_2 _ _)
  (AutoSeq1.list_extend_list_list_0 l its.toArray n b its2.toArray n2 hlong (by rw [size_toArray];omega) (by omega)) ⟨e,e2,?_⟩
 refine ⟨.non,_,I.lset (its':=its++its2) hH e (by simp) (r.append r2) ?_,rfl,q⟩;rw [length_append];omega
noncomputable def Q3:V->List V->Hp->VK->Prop:=fun x vs H Q=>∃l xs i k y,x=.ref l/\vs=[.int i]/\H l=some (.lst xs)/\-(2 ^ 63)<=i/\i < 2 ^ 63/\seqIndex? i xs.length=some k/\xs[k]?=some y/\Q y (upd H l (.lst (xs.eraseIdx k)))
theorem JE:MtM X "list.pop" Q3:=by
 intro pins s σ H x vs v us Q I rx rv h;obtain ⟨l,xs,i,k,y,rfl,rfl,hH,h1,h2,hk,hy,q⟩:=h
 cases rx
 obtain ⟨u,rfl,ru⟩:=rv.one;obtain ⟨t,rfl⟩:=ru;obtain ⟨z,its,n,r,hl,e⟩:=I.lstM hH;obtain ⟨w,hw,rw'⟩:=r.get hy
 refine call_meets F.slot_list_pop ⟨_,e,rfl⟩ F.entry_list_pop (F.args_list_pop_2 _ _)
  (MeetsSeq.list_pop_at l its.toArray n i t k w (fitsIndex_both h1 h2) (by rw [size_toArray,<- hl];exact hk) (by rw [<- Array.getElem?_toList];exact hw) (by rw [size_toArray];omega)) ⟨e,?_⟩
 refine ⟨y,_,I.lset (its':=its.eraseIdx k) hH e ?_ (r.eraseIdx k) ?_,rw',q⟩
 ·show its.toArray.eraseIdxIfInBounds k=(its.eraseIdx k).toArray;rw [eraseIdxIfInBounds_toArray]
 ·have:=Fx xs k;omega
noncomputable def Sx:R2:=fun x y H Q=>∃l b xs zs,x=.ref l/\y=.ref b/\H l=some (.lst xs)/\H b=some (.lst zs)/\xs.length+zs.length<=sizeLine/\∀p,H p=none->Q (.ref p) (upd H p (.lst (xs++zs)))
theorem BS:OpR X (binaryOp .Add) Sx:=by
 intro pins s σ H x y v u Q I rx ry h;obtain ⟨l,b,xs,zs,rfl,rfl,hH,hB,hz,q⟩:=h
 cases rx
 cases ry
 obtain ⟨z,its,n,r,hl,e⟩:=I.lstM hH;obtain ⟨z2,its2,n2,r2,hl2,e2⟩:=I.lstM hB;refine PySem.P.add_list e e2 ?_ (by rw [size_toArray,size_toArray];omega);have ea:its.toArray++its2.toArray=(its++its2).toArray:=by simp
 rw [ea];exact ⟨.ref _,_,I.lnew (t':=s.toks) (r.append r2) (by rw [length_append];omega),rfl,q _ I.fresh⟩
noncomputable def S5:R2:=fun x y H Q=>∃l k xs,x=.ref l/\y=.int k/\H l=some (.lst xs)/\-(2 ^ 63)<=k/\k < 2 ^ 63/\xs.length*k.toNat<=sizeLine /\
 ∀p,H p=none->Q (.ref p) (upd H p (.lst (List.replicate k.toNat xs).flatten))
theorem P6 {α:Type} (xs:List α) (k:Nat):(List.replicate k xs).flatten.length=k*xs.length:=by
 induction k with
 | zero=>simp
 | succ k ih=>rw [replicate_succ,flatten_cons,length_append,ih,Nat.succ_mul,Nat.add_comm]
theorem QA:OpR X (binaryOp .Mult) S5:=by
 intro pins s σ H x y v u Q I rx ry h;obtain ⟨l,k,xs,rfl,rfl,hH,h1,h2,hz,q⟩:=h
 cases rx
 obtain ⟨t,rfl⟩:=ry;obtain ⟨z,its,n,r,hl,e⟩:=I.lstM hH;have hlen:its.toArray.size*k.toNat<=sizeLine:=by rw [size_toArray,<- hl];exact hz
 have hcap:¬ its.toArray.size*k.toNat > (2 ^ 63 - 1) / 8:=by
  have:(sizeLine:Nat)<=(2 ^ 63 - 1) / 8:=by decide
  omega
 have hfit:¬ (!Builtin.List.listFitsIndex k)=true:=by
  rw [fitsIndex_both h1 h2];exact Bool.false_ne_true
 have hlong:¬ Builtin.List.listTooLong (its.toArray.size*k.toNat)=true:=by
  rw [Ki hlen];exact Bool.false_ne_true
 have hnew:List.foldl (fun x1 x2=>x1++x2) #[] (List.replicate (if its.toArray.isEmpty=true then 0 else k.toNat) its.toArray)=(List.replicate k.toNat its).flatten.toArray:=by
  have f0:∀m:Nat,List.foldl (fun x1 x2=>x1++x2) #[] (List.replicate m its.toArray)=(List.replicate m its).flatten.toArray:=fun m=>by
   have:=Iq its m [];rw [nil_append] at this;exact this
  rw [f0]
  cases its with
  | nil=>simp
  | cons a r'=>rw [if_neg (by simp)]
 refine wpAny_binaryOp_repeat_ref (T:="list") (U:="int") (by decide) ⟨_,e,rfl⟩ (fun s'=>typeIs_int s' k t) noFill_list_mul F.fills_int_mul F.slot_int_rmul repeat_list F.slot_int_index.lookup
  (call_meets F.slot_int_rmul (typeIs_int s k t) F.entry_int_rmul (F.args_int_rmul_2 _ _) (int___rmul___int_list k t l its.toArray n)
   ⟨e,rfl,⟨_,e,rfl⟩,call_meets F.slot_list_mul ⟨_,e,rfl⟩ F.entry_list_mul (F.args_list_mul_2 _ _) (AutoListH.list___mul___list_int_3 l its.toArray n k t hfit hcap hlong) ⟨e,?_⟩⟩)
 rw [hnew];exact ⟨.ref _,_,I.lnew (t':=s.toks) (r.rep k.toNat) (by rw [P6,Nat.mul_comm];exact hz),rfl,q _ I.fresh⟩
end
section
variable {prog:Program} {w:World} {A:Around} {E:Value->Shared->Prop} {s:Shared}
set_option maxRecDepth 100000 in
end
section
variable {X:Cx}
end
end L2
namespace Att
open PySem PySem.W PySem.Calls PyProof.Rows
theorem Gk {P:Params} {h:Heap}:∀(ns:List Int) (vs:List Value),WellAll P h vs (ns.map WData.int)->IntsAre vs ns:=by
 intro ns
 induction ns with
 | nil =>
   intro vs w;rw [map_nil] at w
   cases w
   exact .nil
 | cons n ns ih =>
   intro vs w;rw [map_cons] at w
   cases w with
   | cons a b =>
     cases a
     exact .cons _ _ (ih _ b)
theorem N1 {l:OpenLaw} {n:Nat} (hn:l.most=some n) {P:Params} {h:Heap} {args:List WData} {vals:List Value}
 (hpre:l.row.toRowW.claim.pre args=true) (hwl:WellAll P h vals args) :
 ∃a vs ns,vals=[Value.ref a]/\args=[WData.list (ns.map WData.int)]/\h.get? a=some { cls:=.type "list",data:=.seq vs.toArray }/\IntsAre vs ns/\ns.length<=n:=by
 have hsh:WShape.hasAll [] args [.list .int]=true:=(pre_splitW hpre).1;have hc:l.pre.holds [] { args:=args }=true:=(pre_splitW hpre).2;obtain ⟨d,r,rfl,h1,h2⟩:=hasAllW_cons hsh;obtain rfl:=hasAllW_nil h2;obtain ⟨xs,rfl,h3⟩:=hasW_list h1;obtain ⟨ns,rfl⟩:=items_int h3
 have hlen:ns.length<=n:=by
  unfold OpenLaw.pre at hc
  have h4:(WTm.not (.lt (.lit (.int (n:Int))) (.len (.arg 0)))).holds [] { args:=[.list (ns.map .int)] }=true:=by
   have h4:=(holds_andW hc).1;rw [hn] at h4;exact h4
  have h5:=condW_of h4 (w_not (w_lt w_lit (w_len_list (w_arg rfl))));rw [length_map] at h5;refine Nat.le_of_not_lt fun q=>?_;have q':(n:Int) < ((ns.length:Nat):Int):=by omega
  first
   | (rw [decide_eq_true q'] at h5;exact absurd h5 (by decide))
   | (simp at h5;omega)
 cases hwl with
 | cons w1 w2 =>
   cases w2
   cases w1 with
   | list ho hall=>exact ⟨_,_,ns,rfl,rfl,ho,Gk ns _ hall,hlen⟩
theorem M0 (l:OpenLaw) (args:List WData):l.row.toRowW.claim.post args (.bool true) args=true :=
 postW_of (r:=l.row.toRowW) (X:=(true == true))
  (show WShape.has [] (.bool true) .bool=true by first | rfl | decide | simp [WShape.has,WShape.arms,WShape.armsAll])
  (show (WTm.eq .res (.lit (.bool true))).value [] { args:=args,res:=some (.bool true),after:=args }=some (.bool (true == true)) from w_eq_bool (w_res rfl) w_lit) rfl
theorem attach_call {l:OpenLaw} {n:Nat} {q:Program} {loose:List Str} {XP:(Str->Option Value)->Heap->Prop} {YP:World->Heap->Prop} {d:DefRec}
 (hn:l.most=some n) (hdf:d.params.defaults=[])
 (call:∀(w:World) (s₀ s₁:Shared) (mg mb:Str->Option Value) (fa:Addr) (o:Obj) (pm cd doc:Value) (a:Addr) (vs:List Value) (ns:List Int),
  Ground q loose [] XP w s₀ mg mb s₁.heap->YP w s₁.heap ->
  s₁.heap.get? fa=some o->o.data=.func (docDef d.name d.params d.body d.scope pm cd doc)->s₁.heap.CodeRec cd d.name->mg d.name=some (.ref fa) ->
  s₁.heap.get? a=some { cls:=.type "list",data:=.seq vs.toArray }->IntsAre vs ns->ns.length<=n->s₁.gens=#[] ->
  codeAny (model l.prog w) callerA (.call (.ref fa) ⟨[.ref a],[]⟩) (fun r s'=>r=.ok (.ret (.bool true))/\OldK s₁.heap s'.heap/\s'.os=s₁.os/\AllBare s'.gens) s₁) :
 WalkO q loose XP YP l.row.toRowW d [] (fun f vs=>PySem.call f vs):=by
 intro w s₀ s₁ mg mb G Y fa o pm cd doc dV kV ho hd hcd hD hmg hg args vals as hpre hlay hrd hwl hlo;obtain rfl:dV=.none:=Dflts.none hD hdf;obtain rfl:kV=.none:=Dflts.noKw hD;obtain ⟨a,vs,ns,rfl,rfl,hobj,hints,hlen⟩:=N1 hn hpre hwl;refine enter_call (codeAny_mono (call w s₀ s₁ mg mb fa o pm cd doc a vs ns G Y ho (fd_plain hd) hcd hmg hobj hints hlen hg) fun r s' hq=>?_);obtain ⟨rfl,h2,h3,h4⟩:=hq;exact ⟨.inl ⟨.bool true,.bool true,[],rfl,fun _=>rfl,.bool true,M0 l _,fun _=>⟨List.Pairwise.nil,fun _ hm=>(nomatch hm)⟩⟩,h2,h3,h4⟩
section
variable {prog:Program} {w:World} {A:Around} {E:Value->Shared->Prop} {s:Shared} {K:Frag}
end
end Att
namespace L2
open PySem PySem.Spec PyProof.Rows
theorem Em:∀{vs:List Value} {ns:List Int},IntsAre vs ns->A8 (ns.map V.int) vs
 | _,_,.nil=>.nil
 | _,_,.cons n t h=>.cons ⟨t,rfl⟩ (Em h)
end L2
namespace L2
open PySem PySem.Spec PyProof.Rows
end L2
namespace L2
open PySem PySem.Spec PyProof.Rows
def BR (s:Stmt) (j:Nat):Stmt:=match s with
 | .ClassDef _ _ _ body _ _ _ _ _ _ _=>body.getD j (.Pass ⟨0,0,0,0⟩)
 | _=>.Pass ⟨0,0,0,0⟩
noncomputable def En (s:Stmt):Arguments:=match s with
 | .FunctionDef _ a _ _ _ _ _ _ _ _=>a
 | _=>{ posonlyargs:=[],args:=[],vararg:=none,kwonlyargs:=[],kw_defaults:=[],kwarg:=none,defaults:=[] }
noncomputable def CI (s:Stmt):List Stmt:=match s with
 | .FunctionDef _ _ b _ _ _ _ _ _ _=>b
 | _=>[]
noncomputable def Ag (s:Stmt):Scope:=match s with
 | .FunctionDef _ _ _ _ _ _ sc _ _ _=>sc
 | _=>{ kind:=.function,names:=[],isGenerator:=false,isCoroutine:=false }
abbrev CX0:CXT:=fun _ _ _ _ _ _=>False
abbrev E0:XK:=fun _ _ _=>False
theorem Ao {X:Cx}:F6 CX0 X E0:=fun _ _ _ _ _ _ _ h=>h.elim
structure Fun (K:PySem.W.Frag) (x qual:Str) (st:Stmt) (f:Addr) (fd:FuncData):Prop where
 ex:∃(oc:Value) (od:Option Addr) (kV doc pm:Value) (an:Option Addr) (cdv ct:Value) (osl:Array (Option Value)),
  fd=PySem.W.fnOf x qual (En st) (CI st) (Ag st) .none kV doc pm an cdv ct/\K.lookup f=some ⟨oc,od,.func fd,osl⟩/\PySem.W.codeIn K cdv qual=true
 kp:PySem.W.keepIn K (.ref f)=true
section
variable {P:Program} {w:World} {K:PySem.W.Frag} {mg:Str->Option Value} {base:Heap}
theorem Fun.ok {x qual:Str} {st:Stmt} {f:Addr} {fd:FuncData} {N ps:List Str} {k:Nat} {sp:Sp} (F:Fun K x qual st f fd) (S:Aq N ps (Ag st)) (len:∀vs H Q E,sp vs H Q E->vs.length=ps.length)
 (hbody:∀(cdv:Value) (A:Around) (outer:List Env) (s:Shared) (H:Hp) (vs:List V) (Q:VK) (E:XK),C7 k (A.deeper (envOfC qual (Ag st) s.heap.objs.size f cdv))->sp vs H Q E ->
  ∃t,PSs (JD CX0 P w K mg base N qual (Ag st) f cdv A outer s H E).nox (CI st) t/\t { nx:=fun _ H'=>Q .non H',rt:=Q } (start N vs) H):AK P w K mg base CX0 (k+1) f fd ps sp:=by
 obtain ⟨oc,od,kV,doc,pm,an,cdv,ct,osl,rfl,lk,hcd⟩:=F.ex;refine OZ lk hcd S len fun A outer s H vs Q E hr hsp=>?_;obtain ⟨t,h,q⟩:=hbody cdv A outer s H vs Q E hr hsp;exact ⟨t,h.nox,q⟩
theorem fun_mk {x qual:Str} {st:Stmt} {f:Addr} {oc:Value} {od an:Option Addr} {osl:Array (Option Value)} {kV doc pm cdv ct:Value} (l:K.lookup f=some ⟨oc,od,.func (PySem.W.fnOf x qual (En st) (CI st) (Ag st) .none kV doc pm an cdv ct),osl⟩)
 (c:PySem.W.codeIn K cdv qual=true) (k:PySem.W.keepIn K (.ref f)=true):Fun K x qual st f (PySem.W.fnOf x qual (En st) (CI st) (Ag st) .none kV doc pm an cdv ct):=⟨⟨oc,od,kV,doc,pm,an,cdv,ct,osl,rfl,l,c⟩,k⟩
end
theorem Av {n:Nat} (h:n<=1000):n < sizeLine:=Nat.lt_of_le_of_lt h (by decide)
section
variable {X:Cx}
theorem pv (i:Nat) {x:Str} {pos:Pos} (hN:X.N[i]?=some x:=by rfl) (hv:Vis X.env.scope x:=by first | exact Or.inl rfl | exact Or.inr (Or.inl rfl) | exact Or.inr (Or.inr rfl)) (hd:(x == ("__debug__":Str))=false:=by decide)
 (hcd:(x == ("__classdict__":Str))=false:=by decide):PE X (.Name x pos) (R1 i):=Rg hN hv hd hcd
end
theorem Rc {A B:Prop} (h:B):if false=true then A else B:=by
 rw [if_neg Bool.false_ne_true];exact h
theorem P5 {A B:Prop} (h:A):if true=true then A else B:=by
 rw [if_pos rfl];exact h
theorem P0 {c A B:Prop} [Decidable c] (h1:c->A) (h2:¬ c->B):if c then A else B:=by
 by_cases h:c
 ·rw [if_pos h];exact h1 h
 ·rw [if_neg h];exact h2 h
def An (H H':Hp):Prop:=∀b o,H b=some o->H' b=some o
theorem An.refl (H:Hp):An H H:=fun _ _ h=>h
theorem An.trans {H H1 H2:Hp} (a:An H H1) (b:An H1 H2):An H H2:=fun c o h=>b c o (a c o h)
theorem An.seq {K:PySem.W.Frag} {H H':Hp} {a:Addr} {xs:List V} (e:An H H') (h:SqL K H a xs):SqL K H' a xs:=by
 rcases h with (h | ⟨o,h⟩) | h
 ·exact .inl (.inl (e _ _ h))
 ·exact .inl (.inr ⟨o,e _ _ h⟩)
 ·exact .inr h
end L2
namespace L2
open PySem PySem.Spec PyProof.Rows
section
variable {κ:Type} [DecidableEq κ]
noncomputable def Bl (kvs:List (κ × V)) (k:κ):Option V:=(kvs.find? fun kv=>decide (kv.1=k)).map (·.2)
noncomputable def BY (kvs:List (κ × V)) (k:κ) (v:V):List (κ × V) :=
 if (kvs.any fun kv=>decide (kv.1=k))=true then kvs.map (fun kv=>if kv.1=k then (kv.1,v) else kv) else kvs++[(k,v)]
theorem BD {p:κ × V} {r:List (κ × V)} {k:κ} (e:p.1=k):Bl (p :: r) k=some p.2:=by simp [Bl,List.find?_cons,e]
theorem BF {p:κ × V} {r:List (κ × V)} {k:κ} (e:¬ p.1=k):Bl (p :: r) k=Bl r k:=by simp [Bl,List.find?_cons,e]
theorem C5 (k:κ):∀kvs:List (κ × V),(kvs.any fun kv=>decide (kv.1=k))=(Bl kvs k).isSome
 | []=>rfl
 | p :: r=>by
   rw [any_cons];by_cases e:p.1=k
   ·simp only [BD e,decide_eq_true e,Bool.true_or,Option.isSome_some]
   ·rw [BF e,decide_eq_false e,Bool.false_or];exact C5 k r
theorem KB (k j:κ) (y:V):∀kvs:List (κ × V),Bl (kvs.map fun kv=>if kv.1=k then (kv.1,y) else kv) j=(Bl kvs j).map fun x=>if j=k then y else x
 | []=>rfl
 | p :: r=>by
   have ih:=KB k j y r;rw [map_cons];by_cases h:p.1=k
   ·rw [if_pos h];by_cases e:p.1=j
    ·rw [BD (p:=(p.1,y)) e,BD e,Option.map_some,if_pos (e.symm.trans h)]
    ·rw [BF (p:=(p.1,y)) e,BF e,ih]
   ·rw [if_neg h];by_cases e:p.1=j
    ·rw [BD (p:=p) e,BD e,Option.map_some,if_neg (fun z=>h (e.trans z))]
    ·rw [BF (p:=p) e,BF e,ih]
theorem IE (k j:κ) (y:V):∀kvs:List (κ × V),Bl kvs k=none->Bl (kvs++[(k,y)]) j=if j=k then some y else Bl kvs j
 | [],_=>by
   by_cases e:k=j
   ·rw [if_pos e.symm];exact BD (p:=(k,y)) e
   ·rw [if_neg (fun z=>e z.symm)];exact BF (p:=(k,y)) e
 | p :: r,hn=>by
   rw [cons_append];have hk:¬ p.1=k:=fun z=>by rw [BD z] at hn;cases hn
   rw [BF hk] at hn;have ih:=IE k j y r hn;by_cases e:p.1=j
   ·rw [BD e,BD e,if_neg (fun z=>hk (e.trans z))]
   ·rw [BF e,BF e,ih]
theorem Pe (kvs:List (κ × V)) (k j:κ) (y:V):Bl (BY kvs k y) j=if j=k then some y else Bl kvs j:=by
 unfold BY;by_cases a:(kvs.any fun kv=>decide (kv.1=k))=true
 ·rw [if_pos a,KB];rw [C5] at a;by_cases e:j=k
  ·obtain ⟨x,hx⟩:=Option.isSome_iff_exists.mp a;rw [if_pos e,e,hx,Option.map_some,if_pos rfl]
  ·rw [if_neg e]
   cases Bl kvs j with
   | none=>rfl
   | some x=>rw [Option.map_some,if_neg e]
 ·rw [if_neg a];refine IE k j y kvs ?_;rw [C5] at a
  cases q:Bl kvs k with
  | none=>rfl
  | some x=>rw [q] at a;exact (a rfl).elim
theorem De (kvs:List (κ × V)) (k:κ) (v:V):(BY kvs k v).length<=kvs.length+1:=by
 unfold BY
 split
 ·rw [length_map];omega
 ·rw [length_append,length_cons,length_nil];omega
theorem Og {kvs:List (κ × V)} {k:κ} (v:V) (h:Bl kvs k=none):BY kvs k v=kvs++[(k,v)]:=by
 unfold BY;rw [C5,h];exact if_neg (by decide)
theorem DH.isSome_eq {o:Option V} {u:Option Value} (r:DH o u):o.isSome=u.isSome:=by
 cases o with
 | none=>cases u with
   | none=>rfl
   | some _=>exact (show False from r).elim
 | some _=>cases u with
   | none=>exact (show False from r).elim
   | some _=>rfl
theorem DH.getD {o:Option V} {u:Option Value} {d:V} {d':Value} (r:DH o u) (rd:AE d d'):AE (o.getD d) (u.getD d'):=by
 cases o with
 | none=>cases u with
   | none=>exact rd
   | some _=>exact (show False from r).elim
 | some _=>cases u with
   | none=>exact (show False from r).elim
   | some _=>exact r
theorem KV.val {kvs:List (κ × V)} {vs:List (κ × Value)} (r:KV kvs vs) (k:κ):DH (Bl kvs k) (valueAt vs k):=by
 unfold KV at r
 induction r with
 | nil=>exact True.intro
 | @cons p q ps qs h t ih =>
   obtain ⟨h1,h2⟩:=h;by_cases e:p.1=k
   ·have e':q.1=k:=h1.symm.trans e;have b:valueAt (q :: qs) k=some q.2:=by simp [valueAt,List.find?_cons,e']
    rw [BD e,b];exact h2
   ·have e':¬ q.1=k:=fun z=>e (h1.trans z);have b:valueAt (q :: qs) k=valueAt qs k:=by simp [valueAt,List.find?_cons,e']
    rw [BF e,b];exact ih
theorem KV.any {kvs:List (κ × V)} {vs:List (κ × Value)} (r:KV kvs vs) (k:κ):(kvs.any fun kv=>decide (kv.1=k))=vs.any fun kv=>decide (kv.1=k):=by
 unfold KV at r
 induction r with
 | nil=>rfl
 | cons h t ih=>rw [any_cons,any_cons,ih,h.1]
theorem KV.repl {kvs:List (κ × V)} {vs:List (κ × Value)} (r:KV kvs vs) (k:κ) {y:V} {u:Value} (ry:AE y u) :
 KV (kvs.map fun kv=>if kv.1=k then (kv.1,y) else kv) (vs.map fun kv=>if kv.1=k then (kv.1,u) else kv):=by
 unfold KV at r ⊢
 induction r with
 | nil=>exact .nil
 | @cons p q ps qs h t ih =>
   rw [map_cons,map_cons];refine .cons ?_ ih;obtain ⟨h1,h2⟩:=h;by_cases e:p.1=k
   ·rw [if_pos e,if_pos (h1.symm.trans e)];exact ⟨h1,ry⟩
   ·rw [if_neg e,if_neg (fun z=>e (h1.trans z))];exact ⟨h1,h2⟩
theorem KV.put {kvs:List (κ × V)} {vs:List (κ × Value)} (r:KV kvs vs) (k:κ) {y:V} {u:Value} (ry:AE y u):KV (BY kvs k y) (stored vs k u):=by
 unfold BY stored;rw [r.any k];by_cases e:(vs.any fun kv=>decide (kv.1=k))=true
 ·rw [if_pos e,if_pos e];exact r.repl k ry
 ·rw [if_neg e,if_neg e];exact Paired.snoc r ⟨rfl,ry⟩
theorem KV.keys {kvs:List (κ × V)} {vs:List (κ × Value)} (r:KV kvs vs):kvs.map (·.1)=vs.map (·.1):=by
 unfold KV at r
 induction r with
 | nil=>rfl
 | cons h t ih=>rw [map_cons,map_cons,ih,h.1]
theorem KV.length {kvs:List (κ × V)} {vs:List (κ × Value)} (r:KV kvs vs):kvs.length=vs.length:=Paired.length r
end
theorem Mw {P:Program} {w:World} {k:Key} {u:Value} (r:AE (kV k) u):(Bu P w).is k u=true:=by
 cases k with
 | inl i=>obtain ⟨t,e⟩:=(show ∃t,u=Value.int i t from r);subst e;exact JR P w i t
 | inr x=>obtain ⟨t,e⟩:=(show ∃t,u=Value.str x t from r);subst e;exact KR P w x t
theorem IC {P:Program} {w:World}:∀{ks:List Key} {us:List Value},A8 (ks.map kV) us->ItemsAre (Bu P w) ks us
 | [],_,r=>by rw [map_nil] at r;cases r;exact .nil
 | k :: ks,_,r=>by
   rw [map_cons] at r
   cases r with
   | cons h t=>exact .cons (Mw h) (IC t)
abbrev KT (H:Hp):List (List Key × V)->List (List Key × Addr × Value)->Prop:=Paired fun p q=>p.1=q.1/\H q.2.1=some (.tup (p.1.map kV))/\AE p.2 q.2.2
theorem KT.val {H:Hp} {kvs:List (List Key × V)} {xs:List (List Key × Addr × Value)} (r:KT H kvs xs) (k:List Key):DH (Bl kvs k) ((atKey xs k).map (·.2)):=by
 induction r with
 | nil=>exact True.intro
 | @cons p q ps qs h t ih =>
   obtain ⟨h1,_,h2⟩:=h;by_cases e:p.1=k
   ·have e':q.1=k:=h1.symm.trans e;have b:atKey (q :: qs) k=some q.2:=by simp [atKey,List.find?_cons,e']
    rw [BD e,b];exact h2
   ·have e':¬ q.1=k:=fun z=>e (h1.trans z);have b:atKey (q :: qs) k=atKey qs k:=by simp [atKey,List.find?_cons,e']
    rw [BF e,b];exact ih
theorem KT.repl {H:Hp} {kvs:List (List Key × V)} {xs:List (List Key × Addr × Value)} (r:KT H kvs xs) (k:List Key) {y:V} {u:Value} (ry:AE y u) :
 KT H (kvs.map fun kv=>if kv.1=k then (kv.1,y) else kv) (xs.map (putAt k u)):=by
 induction r with
 | nil=>exact .nil
 | @cons p q ps qs h t ih =>
   rw [map_cons,map_cons];refine .cons ?_ ih;obtain ⟨h1,h2,h3⟩:=h;unfold putAt;by_cases e:p.1=k
   ·rw [if_pos e,if_pos (h1.symm.trans e)];exact ⟨h1,h2,ry⟩
   ·rw [if_neg e,if_neg (fun z=>e (h1.trans z))];exact ⟨h1,h2,h3⟩
theorem KT.put {H:Hp} {kvs:List (List Key × V)} {xs:List (List Key × Addr × Value)} (r:KT H kvs xs) (k:List Key) {b:Addr} {y:V} {u:Value} (hb:H b=some (.tup (k.map kV))) (ry:AE y u) :
 KT H (BY kvs k y) (storedH xs k b u):=by
 have e:(kvs.any fun kv=>decide (kv.1=k))=(atKey xs k).isSome:=by
  rw [C5,(r.val k).isSome_eq,Option.isSome_map]
 unfold BY storedH;rw [e];by_cases q:(atKey xs k).isSome=true
 ·rw [if_pos q,if_pos q];exact r.repl k ry
 ·rw [if_neg q,if_neg q];exact Paired.snoc r ⟨rfl,hb,ry⟩
theorem KT.keeps {H H':Hp} {kvs:List (List Key × V)} {xs:List (List Key × Addr × Value)} (r:KT H kvs xs) (ht:∀b ys,H b=some (.tup ys)->H' b=some (.tup ys)):KT H' kvs xs :=
 Paired.mapP r fun _ _ z=>⟨z.1,ht _ _ z.2.1,z.2.2⟩
section
variable {P:Program} {w:World} {H:Hp} {h:Heap} {a:Addr}
theorem Qz {u:HO} (ok:HOk P w H h) (e:Rd H a u):AY P w H h a u:=e.ok ok
theorem HW {kvs:List (Key × V)} (ok:HOk P w H h) (e:Rd H a (.dK kvs)):kvs.length<=sizeLine/\(a == sysModules)=false/\∃vs,KV kvs vs/\h.DictOf (Bu P w) a vs :=
 show AY P w H h a (.dK kvs) from Qz ok e
theorem Rx {kvs:List (Key × V)} (ok:HOk P w H h) (e:H a=some (.dK kvs)):kvs.length<=sizeLine/\(a == sysModules)=false/\∃vs,KV kvs vs/\h.DictOf (Bu P w) a vs:=HW ok (.inl e)
theorem Jw {ks:List Key} (ok:HOk P w H h) (e:H a=some (.tup (ks.map kV))):(tupleKind (Bu P w)).is h ks a:=by
 obtain ⟨_,its,r,o,h1,h2,n,h3⟩:=(show AY P w H h a (.tup (ks.map kV)) from ok a _ e);exact ⟨o,its.toArray,n,h1,h2,h3,by simpa using IC r⟩
theorem IA {kvs:List (List Key × V)} (ok:HOk P w H h) (e:Rd H a (.dT kvs)):kvs.length<=sizeLine/\(a == sysModules)=false /\
 ∃xs,KT H kvs xs/\h.DictOfH (tupleKind (Bu P w)) a xs:=by
 obtain ⟨z,y,xs,r,o,es,ep,h1,h2,h3,h4,h5⟩:=(show AY P w H h a (.dT kvs) from Qz ok e);refine ⟨z,y,xs,r,o,es,ep,h1,h2,h3,h4,fun x hx=>?_,h5⟩
 have all:∀{l:List (List Key × V)} {m:List (List Key × Addr × Value)},KT H l m->∀x∈m,(tupleKind (Bu P w)).is h x.1 x.2.1:=by
  intro l m q
  induction q with
  | nil=>intro x hx;exact nomatch hx
  | @cons p q ps qs hq t ih =>
    intro x hx;rcases mem_cons.mp hx with e | hx
    ·subst e;exact Jw ok (by rw [<- hq.1];exact hq.2.1)
    ·exact ih x hx
 exact all r x hx
theorem Ry {kvs:List (List Key × V)} (ok:HOk P w H h) (e:H a=some (.dT kvs)):kvs.length<=sizeLine/\(a == sysModules)=false /\
 ∃xs,KT H kvs xs/\h.DictOfH (tupleKind (Bu P w)) a xs:=IA ok (.inl e)
end
def EL (H:Hp) (a:Addr) (y:V) (r:Option V):Prop :=
 (∃kvs k,Rd H a (.dK kvs)/\y=kV k/\r=Bl kvs k)\/∃kvs k b,Rd H a (.dT kvs)/\y=.ref b/\H b=some (.tup (k.map kV))/\r=Bl kvs k
def HA (H:Hp) (a:Addr) (y v:V) (H':Hp):Prop :=
 (∃kvs k,H a=some (.dK kvs)/\y=kV k/\kvs.length < sizeLine/\H'=upd H a (.dK (BY kvs k v))) \/
 ∃kvs k b,H a=some (.dT kvs)/\y=.ref b/\H b=some (.tup (k.map kV))/\kvs.length < sizeLine/\H'=upd H a (.dT (BY kvs k v))
theorem EL.k {H:Hp} {a:Addr} {kvs:List (Key × V)} {k:Key} (e:H a=some (.dK kvs)):EL H a (kV k) (Bl kvs k):=.inl ⟨kvs,k,.inl e,rfl,rfl⟩
theorem EL.t {H:Hp} {a b:Addr} {kvs:List (List Key × V)} {k:List Key} (e:H a=some (.dT kvs)) (eb:H b=some (.tup (k.map kV))):EL H a (.ref b) (Bl kvs k):=.inr ⟨kvs,k,b,.inl e,rfl,eb,rfl⟩
theorem HA.k {H:Hp} {a:Addr} {kvs:List (Key × V)} {k:Key} {v:V} (e:H a=some (.dK kvs)) (hl:kvs.length < sizeLine):HA H a (kV k) v (upd H a (.dK (BY kvs k v))):=.inl ⟨kvs,k,e,rfl,hl,rfl⟩
theorem HA.t {H:Hp} {a b:Addr} {kvs:List (List Key × V)} {k:List Key} {v:V} (e:H a=some (.dT kvs)) (eb:H b=some (.tup (k.map kV))) (hl:kvs.length < sizeLine) :
 HA H a (.ref b) v (upd H a (.dT (BY kvs k v))):=.inr ⟨kvs,k,b,e,rfl,eb,hl,rfl⟩
section
variable {X:Cx} {pins:List (Addr × Obj)} {σ:St} {H:Hp} {s:Shared} {a:Addr} {y v:V} {u r:Value} {o:Option V} {A:Around} {E:Value->Shared->Prop}
theorem Inv.big (I:Inv X pins σ H s):sysModules < s.heap.objs.size:=by
 have h:mainGlobals < s.heap.objs.size:=(I.mod.glob.keeps I.bk).lt;exact Nat.lt_trans (by decide) h
theorem MP {Q:Value->Shared->Prop} (hu:A.units+1 < cLine) (I:Inv X pins σ H s) (g:EL H a y (some v)) (ry:AE y u) (h:∀w' s',Inv X pins σ H s'->AE v w'->Q w' s') :
 wpAny (model X.prog X.w) A (getItem (.ref a) u) Q E s:=by
 rcases g with ⟨kvs,k,e,ey,l⟩ | ⟨kvs,k,b,e,ey,eb,l⟩
 ·subst ey;obtain ⟨z,hd,vs,rel,dd⟩:=HW I.hok e;obtain ⟨w',hw,rw'⟩:=DH.some_of (v:=v) (o:=valueAt vs k) (by rw [l];exact rel.val k);exact wpAny_getItem_of (Mw ry) dd.mapOf hw (h w' _ (I.tok _) rw')
 ·subst ey
  cases (show u=Value.ref b from ry)
  obtain ⟨z,hd,xs,rel,dd⟩:=IA I.hok e;obtain ⟨w',hw,rw'⟩:=DH.some_of (v:=v) (o:=(atKey xs k).map (·.2)) (by rw [l];exact rel.val k);obtain ⟨p,hp,hp2⟩:=Option.map_eq_some_iff.mp hw;refine wpAny_getItem_heap (tupleKind_room_in1 hu) (Jw I.hok eb) dd hp ?_;rw [hp2];exact h w' _ (I.tok _) rw'
theorem LO {h':Heap} {t':Nat} {ob:HO} (I:Inv X pins σ H s) (mu:Mut (H a)) (hs:Heap.SameBut a s.heap h') (he:∃q,h'.get? a=some q) (new:AY X.prog X.w (upd H a ob) h' a ob) :
 Inv X pins σ (upd H a ob) { s with heap:=h',toks:=t' } :=
 I.write (x:=a) (e:=a) mu (.inl rfl) (fun b q hb z=>(hs.2 b hb).trans z) he new
theorem Rh {P:Program} {w:World} {H':Hp} {h':Heap} {kvs:List (Key × V)} {vs:List (Key × Value)} (z:kvs.length<=sizeLine) (hd:(a == sysModules)=false) (rel:KV kvs vs) (dd:h'.DictOf (Bu P w) a vs) :
 AY P w H' h' a (.dK kvs):=⟨z,hd,vs,rel,dd⟩
theorem Ny {H':Hp} {Q:Unit->Shared->Prop} (hu:A.units+1 < cLine) (I:Inv X pins σ H s) (g:HA H a y v H') (ry:AE y u) (rv:AE v r) (h:∀s',Inv X pins σ H' s'->Q () s') :
 wpAny (model X.prog X.w) A (setItem (.ref a) u r) Q E s:=by
 rcases g with ⟨kvs,k,e,ey,l,eH⟩ | ⟨kvs,k,b,e,ey,eb,l,eH⟩
 ·subst ey eH;obtain ⟨z,hd,vs,rel,dd⟩:=Rx I.hok e;have hz:vs.length<=sizeLine:=by rw [<- rel.length];exact z
  have hl:(BY kvs k v).length<=sizeLine:=by have:=De kvs k v;omega
  refine wpAny_setItem_pairs (hsz:=hz) (Mw ry) dd fun h' dd' hs=>h _ ?_;have he:∃q,h'.get? a=some q:=let ⟨q,_,_,hq,_⟩:=dd';⟨q,hq⟩;exact LO I (by rw [e];exact True.intro) hs he (Rh hl hd (rel.put k rv) dd')
 ·subst ey eH
  cases (show u=Value.ref b from ry)
  obtain ⟨z,hd,xs,rel,dd⟩:=Ry I.hok e;have hz:xs.length<=sizeLine:=by rw [<- Paired.length rel];exact z
  have hl:(BY kvs k v).length<=sizeLine:=by have:=De kvs k v;omega
  refine wpAny_setItem_heap (hsz:=hz) (tupleKind_room_in1 hu) (Jw I.hok eb) dd fun h' dd' hs=>h _ ?_;obtain ⟨q,es,ep,hq,h2,h3,h4,_,h5⟩:=dd';refine LO I (by rw [e];exact True.intro) hs ⟨q,hq⟩ ⟨hl,hd,_,(rel.put k eb rv).keeps fun c ys ec=>?_,q,es,ep,hq,h2,h3,h4,h5⟩;rw [Ak (Du ec e (fun z=>nomatch z))];exact ec
end
section
variable {X:Cx} {pins:List (Addr × Obj)} {σ:St} {H:Hp} {s:Shared} {a:Addr} {kvs:List (Key × V)} {k:Key} {u:Value} {A:Around} {E:Value->Shared->Prop}
end
noncomputable def RT (i:Expr):Prop:=∀ov iv,subscripted i false ov iv=operate [ov,iv] (getItem ov iv)
theorem Qf {prog:Program} {w:World} {A:Around} {E:Value->Shared->Prop} {s:Shared} {env:Env} {value slice:Expr} {pos:Pos} {T id:String} {Q:Value->Shared->Prop}
 (hl:typeLookup (.type T) "__getitem__"=pure (some (.builtin id))) (hs:RT slice)
 (h:wpAny (model prog w) A (eval value env) (fun o s₁=>wpAny (model prog w) A (eval slice env) (fun i s₂=>s₂.TypeIs o T/\wpAny (model prog w) A (getItem o i) Q E s₂) E s₁) E s) :
 wpAny (model prog w) A (eval (.Subscript value slice pos) env) Q E s:=by
 refine Subscript_ (wpAny_mono h (fun o s₁ h₁=>wpAny_mono h₁ (fun i s₂ h₂=>?_) fun _ _ x=>x) fun _ _ x=>x);obtain ⟨hT,h₂⟩:=h₂;unfold subscriptTail;refine wpAny_bind ?_;rw [getitemInPython_of_ne hT.not_modules];refine wpAny_bind (wpAny_specialOf hT hl ?_)
 have fin:wpAny (model prog w) A (subscripted slice false o i) (fun r s₃=>wpAny (model prog w) A (letTemporaryGo value o r >>= fun _=>pure r) Q E s₃) E s₂:=by
  rw [hs o i];exact wpAny_operating (wpAny_mono h₂ (fun r s₃ h₃=>wpAny_bind (wpAny_letTemporaryGo (wpAny_pure h₃))) fun _ _ x=>x)
 first
  | exact wpAny_pure (wpAny_bind fin)
  | exact wpAny_bind (wpAny_pure (wpAny_bind fin))
  | exact wpAny_bind fin
theorem KE {X:Cx} {pins:List (Addr × Obj)} {σ:St} {H:Hp} {s:Shared} {a:Addr} {y:V} {o:Option V} (I:Inv X pins σ H s) (g:EL H a y o):s.TypeIs (.ref a) "dict":=by
 rcases g with ⟨kvs,k,e,_,_⟩ | ⟨kvs,k,b,e,_,_,_⟩
 ·obtain ⟨_,_,vs,_,dd⟩:=HW I.hok e;exact dd.typeIs
 ·obtain ⟨_,_,xs,_,dd⟩:=IA I.hok e;exact dd.typeIs
noncomputable def RK (td ty:TE):TE:=fun σ H Q=>td σ H fun x H1=>ty σ H1 fun y H2=>∃a v,x=.ref a/\EL H2 a y (some v)/\Q v H2
noncomputable def RF (td ty tv:TE):TS:=fun D σ H=>tv σ H fun v H1=>td σ H1 fun x H2=>ty σ H2 fun y H3=>∃a H4,x=.ref a/\HA H3 a y v H4/\D.nx σ H4
section
variable {X:Cx} {o i e value:Expr} {pos pos' tpos:Pos} {td ty tv:TE}
theorem Md (hu:X.A.units+1 < cLine) (ho:PE X o td) (hi:PE X i ty) (hs:RT i):PE X (.Subscript o i pos) (RK td ty):=by
 intro pins s σ H Q I h;refine Qf PySem.F.slot_dict_getitem.lookup hs (thn (ho pins s σ H _ I h) fun u s1 ⟨x,H1,I1,rx,q1⟩=>thn (hi pins s1 σ H1 _ I1 q1) fun iv s2 ⟨y,H2,I2,ry,a,v,ex,g,q2⟩=>?_);subst ex;obtain rfl:u=Value.ref a:=rx;exact ⟨KE I2 g,MP hu I2 g ry fun w' s3 I3 rw'=>⟨v,H2,I3,rw',q2⟩⟩
theorem Gs (hu:X.A.units+1 < cLine) (ho:PE X o td) (hi:PE X i ty) (hv:PE X value tv) (hs:swapsWith value (some (.Subscript o i pos')) pos.line X.env=pure false) :
 PS X (.Assign [.Subscript o i pos'] value pos) (RF td ty tv):=by
 intro pins s σ H D I h;refine wpAny_Assign_Subscript (thn (hv pins s σ H _ I h) fun r s1 ⟨v,H1,I1,rv,q1⟩=>thn (ho pins s1 σ H1 _ I1 q1) fun u s2 ⟨x,H2,I2,rx,q2⟩=>thn (hi pins s2 σ H2 _ I2 q2) fun iv s3 ⟨y,H3,I3,ry,a,H4,ex,g,q3⟩=>?_) hs;subst ex;obtain rfl:u=Value.ref a:=rx;exact Ny hu I3 g ry rv fun s4 I4=>⟨σ,H4,I4,q3⟩
end
theorem O5 {P:Program} {w:World} {H:Hp} (h:Heap) (hb:sysModules < h.objs.size):AY P w H (h.push { cls:=.type "dict",data:=.dict #[] }) h.objs.size (.dK []) :=
 ⟨Nat.zero_le _,beq_eq_false_iff_ne.mpr (Ne.symm (Nat.ne_of_lt hb)),[],.nil,Heap.DictOf.new h⟩
theorem Oj {P:Program} {w:World} {H:Hp} (h:Heap) (hb:sysModules < h.objs.size):AY P w H (h.push { cls:=.type "dict",data:=.dict #[] }) h.objs.size (.dT []) :=
 ⟨Nat.zero_le _,beq_eq_false_iff_ne.mpr (Ne.symm (Nat.ne_of_lt hb)),[],.nil,_,#[],0,Heap.get?_push_size _ rfl,⟨rfl,rfl,rfl⟩,rfl,rfl,nodup_nil⟩
noncomputable def QS:TE:=fun _ H Q=>∀p,H p=none->Q (.ref p) (upd H p (.dK []))
noncomputable def Q2:TE:=fun _ H Q=>∀p,H p=none->Q (.ref p) (upd H p (.dT []))
section
variable {X:Cx} {pos:Pos}
theorem Om:PE X (.Dict [] [] pos) QS:=fun pins s σ H Q I h =>
 wpAny_Dict_empty ⟨.ref s.heap.objs.size,_,I.laid (a:=s.heap.objs.size) (o:=.dK []) (t':=s.toks) (fun _ _ q=>Heap.get?_push_of_some _ q) (Nat.le_refl _) (O5 s.heap I.big),rfl,h _ (I.hok.fresh (Nat.le_refl _))⟩
theorem OV:PE X (.Dict [] [] pos) Q2:=fun pins s σ H Q I h =>
 wpAny_Dict_empty ⟨.ref s.heap.objs.size,_,I.laid (a:=s.heap.objs.size) (o:=.dT []) (t':=s.toks) (fun _ _ q=>Heap.get?_push_of_some _ q) (Nat.le_refl _) (Oj s.heap I.big),rfl,h _ (I.hok.fresh (Nat.le_refl _))⟩
end
structure M2 (X:Cx) (o:Expr) (m:Str) (apos:Pos) (e f:Expr) (cpos:Pos):Prop where
 base:attributeBase o m X.env (eval o X.env)=eval o X.env
 few:((backTo cpos (starEach [e,f] X.env)).all (fun x=>!x.1) && (backToKw cpos (keywordEach [] X.env)).all (fun x=>x.1.isSome)
  && decide (([e,f]:List Expr).length+([]:List Keyword).length+(if ([]:List Keyword).isEmpty then 0 else 1) < 30))=true
 line:(apos.endLine == cpos.line)=true
 trees:backTo cpos (starEach [e,f] X.env)=[(false,eval e X.env),(false,eval f X.env)]
noncomputable def IsD (H:Hp) (a:Addr):Prop:=(∃kvs,Rd H a (.dK kvs))\/∃kvs,Rd H a (.dT kvs)
theorem Rb {X:Cx} {pins:List (Addr × Obj)} {σ:St} {H:Hp} {s:Shared} {a:Addr} (I:Inv X pins σ H s) (d:IsD H a) :
 s.TypeIs (.ref a) "dict"/\(∀b,Value.ref a=.ref b->∃ob,s.heap.get? b=some ob/\ob.dict=none)/\(a == sysModules)=false:=by
 rcases d with ⟨kvs,e⟩ | ⟨kvs,e⟩
 ·obtain ⟨_,hd,vs,_,dd⟩:=HW I.hok e;refine ⟨dd.typeIs,fun b q=>?_,hd⟩
  cases q
  obtain ⟨ob,_,_,h1,h2,_⟩:=dd;exact ⟨ob,h1,h2.2.1⟩
 ·obtain ⟨_,hd,xs,_,dd⟩:=IA I.hok e;refine ⟨dd.typeIs,fun b q=>?_,hd⟩
  cases q
  obtain ⟨ob,_,_,h1,h2,_⟩:=dd;exact ⟨ob,h1,h2.2.1⟩
section
variable {X:Cx} {pins:List (Addr × Obj)} {σ:St} {H:Hp} {s:Shared} {a:Addr} {y d:V} {u r:Value} {o:Option V} {A:Around} {E:Value->Shared->Prop}
theorem QO {Q:Value->Shared->Prop} (hu:A.units+1 < cLine) (I:Inv X pins σ H s) (g:EL H a y o) (ry:AE y u) (rd:AE d r) (h:∀w' s',Inv X pins σ H s'->AE (o.getD d) w'->Q w' s') :
 wpAny (model X.prog X.w) A (call (.builtin "dict.get") [.ref a,u,r]) Q E s:=by
 rcases g with ⟨kvs,k,e,ey,l⟩ | ⟨kvs,k,b,e,ey,eb,l⟩
 ·subst ey;obtain ⟨z,hd,vs,rel,dd⟩:=HW I.hok e;refine call_meetsIn PySem.F.slot_dict_get dd.typeIs PySem.F.entry_dict_get (PySem.F.args_dict_get_3 _ _ _) (meets_dict_get_default (Bu X.prog X.w) a (Mw ry) hd r) ⟨_,dd.mapOf,h _ _ (I.tok _) ?_⟩;rw [l];exact (rel.val k).getD rd
 ·subst ey
  cases (show u=Value.ref b from ry)
  obtain ⟨z,hd,xs,rel,dd⟩:=IA I.hok e;refine call_meetsIn PySem.F.slot_dict_get dd.typeIs PySem.F.entry_dict_get (PySem.F.args_dict_get_3 _ _ _) (meetsH_dict_get_default (tupleKind (Bu X.prog X.w)) a b hd r) ⟨tupleKind_room_in1 hu,k,xs,Jw I.hok eb,dd,h _ _ (I.tok _) ?_⟩;rw [l];exact (rel.val k).getD rd
end
noncomputable def QK (td ty tx:TE):TE:=fun σ H Q=>td σ H fun x H1=>∃a,x=.ref a/\IsD H1 a/\ty σ H1 fun y H2=>tx σ H2 fun z H3=>∃o,EL H3 a y o/\Q (o.getD z) H3
section
variable {X:Cx} {o e f:Expr} {apos cpos:Pos} {td ty tx:TE}
theorem GQ (hu:X.A.units+1 < cLine) (ho:PE X o td) (he:PE X e ty) (hf:PE X f tx) (m:M2 X o "get" apos e f cpos):PE X (.Call (.Attribute o "get" apos) [e,f] [] cpos) (QK td ty tx):=by
 intro pins s σ H Q I h;refine wpAny_Call_method m.base m.few m.line PySem.F.plainAttrs_dict PySem.F.slot_dict_get PySem.F.type_dict_get (thn (ho pins s σ H _ I h) fun u s1 ⟨x,H1,I1,rx,a,ex,d,q1⟩=>?_);subst ex;obtain rfl:u=Value.ref a:=rx;obtain ⟨t1,t2,_⟩:=Rb I1 d;refine ⟨t1,t2,?_⟩;rw [m.trees]
 refine Calls.callWith_builtin rfl (Calls.evalArgs_plain (Calls.spliced_cons (thn (he pins s1 σ H1 _ I1 q1) fun iv s2 ⟨y,H2,I2,ry,q2⟩ =>
  Calls.spliced_cons (thn (hf pins s2 σ H2 _ I2 q2) fun fv s3 ⟨z,H3,I3,rz,ov,g,q3⟩=>Calls.spliced_nil ?_))))
 exact QO hu I3 g ry rz fun w' s4 I4 rw'=>⟨_,H3,I4,rw',q3⟩
end
section
variable {X:Cx} {pins:List (Addr × Obj)} {σ:St} {H:Hp} {s:Shared} {a:Addr} {kvs:List (Key × V)} {A:Around} {E:Value->Shared->Prop}
end
section
variable {X:Cx} {pins:List (Addr × Obj)} {σ:St} {H:Hp} {s:Shared} {a:Addr} {y:V} {u:Value} {A:Around} {E:Value->Shared->Prop}
end
end L2
namespace L2
open PySem PySem.Spec PyProof.Rows
section
variable {κ:Type} [DecidableEq κ]
theorem GM {kvs:List (κ × V)} {k:κ} (h:Bl kvs k=none):¬ k∈kvs.map (·.1):=by
 intro m;obtain ⟨p,hp,e⟩:=mem_map.mp m;have q:(kvs.any fun kv=>decide (kv.1=k))=true:=any_eq_true.mpr ⟨p,hp,decide_eq_true e⟩;rw [C5,h] at q;exact absurd q (by simp)
theorem Qa {kvs:List (κ × V)} {k:κ} {v:V} (h:Bl kvs k=some v):k∈kvs.map (·.1):=by
 have q:(kvs.any fun kv=>decide (kv.1=k))=true:=by
  rw [C5,h]
  all_goals rfl
 obtain ⟨p,hp,e⟩:=any_eq_true.mp q;exact mem_map.mpr ⟨p,hp,of_decide_eq_true e⟩
theorem Mi:∀{l:List κ} {k:κ},l.Nodup->¬ k∈l->(l++[k]).Nodup
 | [],k,_,_=>by simp
 | a :: r,k,h,hk=>by
   obtain ⟨h1,h2⟩:=nodup_cons.mp h;show (a :: (r++[k])).Nodup;refine nodup_cons.mpr ⟨fun m=>?_,Mi h2 fun m=>hk (mem_cons.mpr (Or.inr m))⟩;rcases mem_append.mp m with q | q
   ·exact h1 q
   ·exact hk (mem_cons.mpr (Or.inl (mem_singleton.mp q).symm))
theorem Mx {kvs:List (κ × V)} {k:κ} (v:V) (hn:(kvs.map (·.1)).Nodup) (h:Bl kvs k=none):((BY kvs k v).map (·.1)).Nodup:=by
 rw [Og v h,map_append];exact Mi hn (GM h)
end
end L2
namespace L2
open PySem PySem.Spec PyProof.Rows
def Sz (n:Nat) (x:Int):Prop:=x.natAbs < 2 ^ n
section
variable {m n:Nat} {x y:Int}
theorem Sz.bits (h:Sz n x):Builtin.Int.intBits x<=n:=intBits_le_iff.mpr h
theorem Sz.of_bits (h:Builtin.Int.intBits x<=n):Sz n x:=intBits_le_iff.mp h
theorem Sz.mono (h:Sz m x) (l:m<=n):Sz n x:=.of_bits (Nat.le_trans h.bits l)
theorem Sz.mul (h:Sz m x) (k:Sz n y):Sz (m+n) (x*y):=.of_bits (intBits_mul_le h.bits k.bits)
theorem Sz.add (h:Sz m x) (k:Sz n y):Sz (max m n+1) (x+y):=.of_bits (intBits_add_le h.bits k.bits)
theorem Sz.sub (h:Sz m x) (k:Sz n y):Sz (max m n+1) (x - y):=.of_bits (intBits_sub_le h.bits k.bits)
theorem Sz.neg (h:Sz m x):Sz m (-x):=.of_bits (intBits_neg_le h.bits)
theorem Sz.fdiv (h:Sz m x):Sz m (x.fdiv y):=.of_bits (intBits_fdiv_le h.bits)
theorem szd (n:Nat) {x:Int} (h:decide (x.natAbs < 2 ^ n)=true:=by decide +kernel):Sz n x:=(show x.natAbs < 2 ^ n from of_decide_eq_true h)
theorem DK (h:-(2 ^ n:Nat) < x) (k:x < (2 ^ n:Nat)):Sz n x:=by
 unfold Sz;generalize 2 ^ n=p at h k ⊢;omega
end
noncomputable def Q1 (i j:Int):Prop:=∃m n,Sz m i/\Sz n j/\m+n<=134217728
def RU (_ j:Int):Prop:=j≠0/\Sz 9000 j
section
variable {X:Cx}
theorem BQ:OpR X (binaryOp .Mult) (rI Q1 fun i j=>.int (i*j)):=opI fun _ _ _ _ _ _ _ hc q =>
 mul_int q (let ⟨_,_,a,b,c⟩:=hc;IntMulOk.of_le a.bits b.bits c)
theorem AO:OpR X (binaryOp .FloorDiv) (rI RU fun i j=>.int (i.fdiv j)):=opI fun _ j _ _ _ _ _ hc q =>
 floordiv_int hc.1 q (.inl (PyProof.noPylong_of_log2 ((Nat.log2_lt (by have:=hc.1;omega)).mpr hc.2)))
theorem GK:Ci X (.builtin "isinstance") (fun xs H Q=>∃x t c b,xs=[x,.ty c]/\Es X.K H x t/\PySem.W.kitOne X.K t (.type c)=some b/\Q (.bl b) H):=by
 intro pins s σ H xs us Q I rv h;obtain ⟨x,t,c,b,rfl,ty,e,q⟩:=h;obtain ⟨u,u',rfl,r1,r2⟩:=Ov rv
 cases (show u'=Value.type c from r2)
 exact MK I r1 ty e fun tk=>⟨.bl b,H,I.tok tk,rfl,q⟩
end
section
variable {K:PySem.W.Frag}
theorem Kk:PySem.W.kitOne K (.type "int") (.type "int")=some true:=by
 show (if ((Value.type "int") == (Value.type "int"))=true then some true else (if PySem.W.kitMeta "int"=true then (PySem.fastBuiltinMro "int").map (·.contains (Value.type "int")) else none))=some true
 decide +kernel
theorem IJ:PySem.W.kitOne K (.type "int") (.type "bool")=some false:=by
 show (if ((Value.type "int") == (Value.type "bool"))=true then some true else (if PySem.W.kitMeta "bool"=true then (PySem.fastBuiltinMro "int").map (·.contains (Value.type "bool")) else none))=some false
 decide +kernel
theorem Hv:PySem.W.kitOne K (.type "list") (.type "list")=some true:=by
 show (if ((Value.type "list") == (Value.type "list"))=true then some true else (if PySem.W.kitMeta "list"=true then (PySem.fastBuiltinMro "list").map (·.contains (Value.type "list")) else none))=some true
 decide +kernel
end
noncomputable def So (c:TT) (t u:TS):TS:=fun D σ H=>∃M:St->Hp->Prop,(c σ H fun b H1=>if b=true then t { D with nx:=M } σ H1 else u { D with nx:=M } σ H1)/\∀σ' H',M σ' H'->D.nx σ' H'
theorem E6 {X:Cx} {c:Expr} {a b:List Stmt} {tc:TT} {t u:TS} {pos:Pos} (hc:PT X c tc) (ha:PSs X a t) (hb:PSs X b u):PS X (.If c a b pos) (So tc t u):=by
 intro pins s σ H D I h;obtain ⟨M,h,hM⟩:=h
 have up:∀(f:Flow) (s':Shared),SP X pins { D with nx:=M } f s'->SP X pins D f s':=fun f s' q=>by
  cases f with
  | next =>
    obtain ⟨σ',H',I',q⟩:=q;exact ⟨σ',H',I',hM σ' H' q⟩
  | ret v=>exact q
  | brk=>exact q
  | cont=>exact q
 refine wpAny_If (thn (hc pins s σ H _ I h) fun d s1 ⟨H1,I1,q1⟩=>?_)
 cases d with
 | true=>exact thn (ha pins s1 σ H1 _ I1 q1) up
 | false=>exact thn (hb pins s1 σ H1 _ I1 q1) up
theorem Ox:NB 10 40:=⟨by decide,by decide,by decide⟩
theorem A4 {n:Nat} (h:n<=1000):n<=sizeLine:=Nat.le_of_lt (Av h)
theorem LH {ns:List Int} {k:Int} (h0:0<=k) (h:k < (ns.length:Int)):∃v:Int,atI (ns.map V.int) k=some (.int v):=by
 have hk:k.toNat < ns.length:=by omega
 have ek:k=((k.toNat:Nat):Int):=by omega
 have q:atI (ns.map V.int) ((k.toNat:Nat):Int)=some (.int ns[k.toNat]):=Bt (by rw [List.getElem?_map,List.getElem?_eq_getElem hk] <;> rfl);rw [<- ek] at q;exact ⟨_,q⟩
end L2
namespace L2
open PySem PySem.Spec PyProof.Rows
noncomputable def Cx.inComp (X:Cx) (Nc:List Str) (sc:Scope) (cl:List (Str × Addr)) (s:Shared) (H:Hp) (ex:List Addr):Cx :=
 { X with N:=Nc,s₀:=s,H₀:=H,env:=compEnvC sc cl s.heap.objs.size X.env,outer:=X.stack,stack:=X.stack,ex:=ex,fn:=fun _=>false,pn:=[],xe:=fun _ _=>False }
theorem LA {env:Env} {f:Str × NameKind->List (Str × Addr)->Sem (ForInStep (List (Str × Addr)))}
 (hf:∀n k r,f (n,k) r=if (k == NameKind.free)=true then (cellOf env n >>= fun c=>pure (ForInStep.yield ((n,c) :: r))) else pure (ForInStep.yield r)) :
 ∀(l:List (Str × NameKind)) (cs:List (Str × Addr)),(∀x∈l,x.2=.free->∃c,env.cells.lookup x.1=some c) ->
  ∃cl,(forIn l cs f:Sem (List (Str × Addr)))=pure cl/\(∀p∈cl,p∈cs\/env.cells.lookup p.1=some p.2)/\(∀p∈cs,p∈cl)/\∀x∈l,x.2=.free->∃c,(x.1,c)∈cl:=by
 intro l
 induction l with
 | nil =>
   intro cs _;exact ⟨cs,by rw [forIn_nil],fun p hp=>.inl hp,fun p hp=>hp,fun x hx=>absurd hx (by simp)⟩
 | cons y r ih =>
   intro cs h;obtain ⟨n,k⟩:=y;by_cases hk:k=.free
   ·subst hk;obtain ⟨c,hc⟩:=h (n,.free) (by simp) rfl
    have e:cellOf env n=pure c:=by
     unfold cellOf;rw [show env.cells.lookup n=some c from hc]
    obtain ⟨cl,h1,h2,h3,h4⟩:=ih ((n,c) :: cs) fun x hx=>h x (mem_cons_of_mem _ hx);refine ⟨cl,?_,fun p hp=>?_,fun p hp=>h3 p (mem_cons_of_mem _ hp),fun x hx hf'=>?_⟩
    ·rw [forIn_cons,hf,if_pos (by decide),e];simp only [pure_bind];exact h1
    ·rcases h2 p hp with z | z
     ·rcases mem_cons.mp z with z | z
      ·subst z;exact .inr hc
      ·exact .inl z
     ·exact .inr z
    ·rcases mem_cons.mp hx with z | z
     ·subst z;exact ⟨c,h3 _ (by simp)⟩
     ·exact h4 x z hf'
   ·have hb:(k == NameKind.free)=false:=by simpa using hk
    obtain ⟨cl,h1,h2,h3,h4⟩:=ih cs fun x hx=>h x (mem_cons_of_mem _ hx);refine ⟨cl,?_,h2,h3,fun x hx hf'=>?_⟩
    ·rw [forIn_cons,hf,hb,if_neg (by decide)];simp only [pure_bind];exact h1
    ·rcases mem_cons.mp hx with z | z
     ·subst z;exact absurd hf' hk
     ·exact h4 x z hf'
theorem Hm {α:Type}:∀{l:List (Str × α)} {n:Str} {c:α},(n,c)∈l->∃d,l.lookup n=some d
 | (k,v) :: r,n,c,h=>by
   rw [lookup_cons]
   cases hx:(n == k) with
   | true=>exact ⟨v,rfl⟩
   | false =>
     rcases mem_cons.mp h with z | z
     ·cases z
      simp at hx
     ·exact Hm z
theorem Ck {env:Env} {sc:Scope} (h:∀x∈sc.names,x.2=.free->∃c,env.cells.lookup x.1=some c) :
 ∃cl,closureFor sc env=pure cl/\(∀y c,cl.lookup y=some c->env.cells.lookup y=some c)/\∀x∈sc.names,x.2=.free->∃c,cl.lookup x.1=some c:=by
 obtain ⟨cl,h1,h2,_,h4⟩:=LA (env:=env) (f:=fun x r=>if (x.2 == NameKind.free)=true then (cellOf env x.1 >>= fun c=>pure (ForInStep.yield ((x.1,c) :: r))) else pure (ForInStep.yield r)) (fun _ _ _=>rfl) sc.names [] h;refine ⟨cl,?_,fun y c e=>?_,fun x hx hf=>?_⟩
 ·unfold closureFor;have:(forIn sc.names ([]:List (Str × Addr)) fun x r=>(match x with | (name,kind)=>if (kind == NameKind.free)=true then (do let __do_lift <- cellOf env name;pure (ForInStep.yield ((name,__do_lift) :: r))) else pure (ForInStep.yield r)):Sem (List (Str × Addr)))=pure cl:=h1
  first
   | (simp only [this,pure_bind];done)
   | (simp only [h1,pure_bind];done)
   | (rw [show (forIn sc.names ([]:List (Str × Addr)) _:Sem (List (Str × Addr)))=pure cl from h1];rfl)
 ·rcases h2 (y,c) (PySem.mem_of_lookup e) with z | z
  ·exact absurd z (by simp)
  ·exact z
 ·obtain ⟨c,hc⟩:=h4 x hx hf;exact Hm hc
theorem Cc (env:Env):∀(names:List (Str × NameKind)) (y:Str),
 (names.map fun (n,k)=>if (k == NameKind.free && env.scope.kind == .function && env.kindOf n == some .cell) then (n,NameKind.cell) else (n,k)).lookup y
  = (names.lookup y).map fun k=>if (k == NameKind.free && env.scope.kind == .function && env.kindOf y == some .cell) then NameKind.cell else k
 | [],y=>rfl
 | (n,k) :: r,y=>by
   have ih:=Cc env r y;rw [map_cons];dsimp only
   cases hx:(y == n) with
   | true =>
     have e:y=n:=by simpa using hx
     subst e;by_cases c:(k == NameKind.free && env.scope.kind == .function && env.kindOf y == some .cell)=true
     ·rw [if_pos c];simp only [lookup_cons,hx,Option.map_some];rw [if_pos c]
     ·rw [if_neg c];simp only [lookup_cons,hx,Option.map_some];rw [if_neg c]
   | false =>
     by_cases c:(k == NameKind.free && env.scope.kind == .function && env.kindOf n == some .cell)=true
     ·rw [if_pos c];simp only [lookup_cons,hx];exact ih
     ·rw [if_neg c];simp only [lookup_cons,hx];exact ih
def Fn (X:Cx) (ifs:List Expr) (t:TT):Prop :=
 ∀(pins:List (Addr × Obj)) (s:Shared) (σ:St) (H:Hp) (Q:Bool->Hp->Prop),Inv X pins σ H s->t σ H Q ->
  wpAny (model X.prog X.w) X.A (forIn ifs true fun c r=>if r=true then do let ok <- isTrue c X.env (eval c X.env);pure (ForInStep.yield ok) else pure (ForInStep.yield r)) (TP X pins σ Q) X.xe s
def R7:TT:=fun _ H Q=>Q true H
theorem yes {σ:St} {H:Hp} {Q:Bool->Hp->Prop} (h:Q true H):R7 σ H Q:=h
theorem AG {X:Cx}:Fn X [] R7:=by
 intro pins s σ H Q I h;rw [forIn_nil];exact wpAny_pure ⟨H,I,h⟩
theorem CK {X:Cx} {c:Expr} {t:TT} (hc:PT X c t):Fn X [c] t:=by
 intro pins s σ H Q I h;rw [forIn_cons,if_pos rfl];refine wpAny_bind (wpAny_bind (thn (hc pins s σ H Q I h) fun b s1 q=>wpAny_pure ?_));dsimp only;rw [forIn_nil];exact wpAny_pure q
theorem E4 {α:Type} {t:Sem α} {Q Q':α->Shared->Prop} {M:Model} {A:Around} {E:Value->Shared->Prop} {s:Shared} (h:wpAny M A t Q (fun _ _=>False) s) (hQ:∀a s,Q a s->Q' a s):wpAny M A t Q' E s:=wpAny_mono h hQ fun _ _ z=>z.elim
noncomputable def La (wi:TI) (tt:TT) (te:TE):TE:=fun σ H Q=>wi σ H fun J H1=>∀D,H1 D=none->∃W:Nat->Nat->List V->Hp->Prop,(∃m,W 0 m [] (upd H1 D (.lst [])))/\∀i m ys H2,W i m ys H2 ->
 H2 D=some (.lst ys)/\((J.stop i H2/\Q (.ref D) H2)\/(J.go i H2/\ys.length < sizeLine/\∀x H3,J.yld i H2 x H3->tt (σ++[some x]) H3 fun b H4=>if b=true then te (σ++[some x]) H4 fun y H5=>H5 D=some (.lst ys)/\∃m',m' < m/\W (i+1) m' (ys++[y]) (upd H5 D (.lst (ys++[y])))
  else ∃m',m' < m/\W (i+1) m' ys H4))
structure DC (N Nc:List Str) (x:Str) (sc fsc:Scope):Prop where
 kind:sc.kind=.function
 cell:∀y∈sc.names,y.2≠.cell
 nm:∀y∈sc.names,y.2=.local->sc.names.lookup y.1=some .local
 own:sc.names.lookup x=some .local
 fr:∀y∈sc.names,y.2=.free->fsc.names.lookup y.1=some .cell\/fsc.names.lookup y.1=some .free
 len:Nc.length=N.length+1
 nd:Nc.Nodup
 last:Nc[N.length]?=some x
 slot:((List.range N.length).all fun i=>match Nc[i]? with
  | some y=>(match sc.names.lookup y with | some .free=>N[i]? == some y | some .local=>false | some .cell=>false | _=>true)
  | none=>true)=true
theorem DC.at {N Nc:List Str} {x:Str} {sc fsc:Scope} (C:DC N Nc x sc fsc) {i:Nat} {y:Str} (hi:i < N.length) (h:Nc[i]?=some y):sc.names.lookup y≠some .local/\sc.names.lookup y≠some .cell/\(sc.names.lookup y=some .free->N[i]?=some y):=by
 have q:=all_eq_true.mp C.slot i (mem_range.mpr hi);rw [h] at q;dsimp only at q
 cases e:sc.names.lookup y with
 | none=>exact ⟨fun z=>(nomatch z),fun z=>(nomatch z),fun z=>(nomatch z)⟩
 | some k =>
   rw [e] at q
   cases k with
   | «local»=>exact absurd (show false=true from q) Bool.false_ne_true
   | cell=>exact absurd (show false=true from q) Bool.false_ne_true
   | free=>exact ⟨fun z=>(nomatch z),fun z=>(nomatch z),fun _=>by simpa using q⟩
   | _=>exact ⟨fun z=>(nomatch z),fun z=>(nomatch z),fun z=>(nomatch z)⟩
section
variable {X:Cx} {elt iter:Expr} {x:Str} {px pos:Pos} {ifs:List Expr} {sc fsc:Scope} {N Nc:List Str} {wi:TI} {tt:TT} {te:TE}
structure DI (X:Cx) (pins:List (Addr × Obj)) (H:Hp) (C:Addr):Prop where
 free:H C=none
 ne:C≠X.env.locals
 new:X.s₀.heap.objs.size<=C
 cells:∀x c,X.env.cells.lookup x=some c->c≠C
 pins:∀p∈X.pn++pins,p.1≠C
theorem Inv.sameBut {pins:List (Addr × Obj)} {σ:St} {H:Hp} {s:Shared} {C:Addr} {h':Heap} (I:Inv X pins σ H s) (c:DI X pins H C) (k:Heap.SameBut C s.heap h'):Inv X pins σ H { s with heap:=h' } :=
 I.turned (t':=s.toks) (it:=C) (fun b o hb e=>(k.2 b hb).trans e) c.free c.ne (.inr c.new) c.cells c.pins
theorem Ke {σ:St} {o v:Option V}:(σ++[o]).set σ.length v=σ++[v]:=by
 rw [set_append_right _ _ (Nat.le_refl _),Nat.sub_self];rfl
theorem OJ (I:∀y,(X.env.kindOf y=some .cell\/X.env.kindOf y=some .free)->∃c,X.env.cells.lookup y=some c) (hE:X.env.scope=fsc) (cn:DC N Nc x sc fsc):∀y∈sc.names,y.2=.free->∃c,X.env.cells.lookup y.1=some c:=fun y hy hf=>by
 refine I y.1 ?_;show X.env.scope.names.lookup y.1=some .cell\/X.env.scope.names.lookup y.1=some .free;rw [hE];exact cn.fr y hy hf
end
theorem Bc {lo:Int} {n:Nat} {tt:TT} {te:TE} {σ:St} {H1:Hp} {Q:Addr->Hp->Prop} (hn:n<=sizeLine) (Pv:Addr->Nat->List V->Hp->Prop)
 (h0:∀D,H1 D=none->Pv D 0 [] (upd H1 D (.lst []))) (hD:∀D i ys H,Pv D i ys H->H D=some (.lst ys)/\ys.length<=i)
 (hs:∀D i ys H (K1:VK) (K2:Hp->Prop),H1 D=none->i < n->Pv D i ys H->(∀y H5,H5 D=some (.lst ys)->Pv D (i+1) (ys++[y]) (upd H5 D (.lst (ys++[y])))->K1 y H5)->(∀H4,Pv D (i+1) ys H4->K2 H4) ->
  tt (σ++[some (.int (lo+i))]) H fun b H4=>if b=true then te (σ++[some (.int (lo+i))]) H4 K1 else K2 H4)
 (hd:∀D ys H,H1 D=none->Pv D n ys H->Q D H) :
 ∀D,H1 D=none->∃W:Nat->Nat->List V->Hp->Prop,(∃m,W 0 m [] (upd H1 D (.lst [])))/\∀i m ys H2,W i m ys H2 ->
  H2 D=some (.lst ys)/\(((Itr lo n).stop i H2/\Q D H2)\/((Itr lo n).go i H2/\ys.length < sizeLine/\∀x H3,(Itr lo n).yld i H2 x H3->tt (σ++[some x]) H3 fun b H4=>if b=true then te (σ++[some x]) H4 fun y H5=>H5 D=some (.lst ys)/\∃m',m' < m/\W (i+1) m' (ys++[y]) (upd H5 D (.lst (ys++[y])))
   else ∃m',m' < m/\W (i+1) m' ys H4)):=by
 intro D hDn;refine ⟨fun i m ys H=>m=n - i/\i<=n/\Pv D i ys H,⟨n,rfl,Nat.zero_le _,h0 D hDn⟩,?_⟩;rintro i m ys H2 ⟨rfl,hi,p⟩;obtain ⟨e,l⟩:=hD D i ys H2 p;refine ⟨e,?_⟩;by_cases hlt:i < n
 ·refine .inr ⟨hlt,Nat.lt_of_le_of_lt l (Nat.lt_of_lt_of_le hlt hn),fun x H3 y=>?_⟩;obtain ⟨e1,e2⟩:=y;subst e1 e2;exact hs D i ys _ _ _ hDn hlt p (fun y H5 h5 p5=>⟨h5,n - (i+1),by omega,rfl,hlt,p5⟩) fun H4 p4=>⟨n - (i+1),by omega,rfl,hlt,p4⟩
 ·have ei:i=n:=by omega
  subst ei;exact .inl ⟨Nat.le_refl _,hd D ys H2 hDn p⟩
theorem A5 {K:PySem.W.Frag} {a:Addr} {xs:List V} {tt:TT} {te:TE} {σ:St} {H1:Hp} {Q:Addr->Hp->Prop} (hn:xs.length<=sizeLine) (Pv:Addr->Nat->List V->Hp->Prop)
 (h0:∀D,H1 D=none->Pv D 0 [] (upd H1 D (.lst []))) (hD:∀D i ys H,Pv D i ys H->H D=some (.lst ys)/\ys.length<=i) (hl:∀D i ys H,H1 D=none->Pv D i ys H->SqL K H a xs)
 (hs:∀D i x ys H (K1:VK) (K2:Hp->Prop),H1 D=none->xs[i]?=some x->Pv D i ys H->(∀y H5,H5 D=some (.lst ys)->Pv D (i+1) (ys++[y]) (upd H5 D (.lst (ys++[y])))->K1 y H5)->(∀H4,Pv D (i+1) ys H4->K2 H4) ->
  tt (σ++[some x]) H fun b H4=>if b=true then te (σ++[some x]) H4 K1 else K2 H4)
 (hd:∀D ys H,H1 D=none->Pv D xs.length ys H->Q D H) :
 ∀D,H1 D=none->∃W:Nat->Nat->List V->Hp->Prop,(∃m,W 0 m [] (upd H1 D (.lst [])))/\∀i m ys H2,W i m ys H2 ->
  H2 D=some (.lst ys)/\(((Itl K a).stop i H2/\Q D H2)\/((Itl K a).go i H2/\ys.length < sizeLine/\∀x H3,(Itl K a).yld i H2 x H3->tt (σ++[some x]) H3 fun b H4=>if b=true then te (σ++[some x]) H4 fun y H5=>H5 D=some (.lst ys)/\∃m',m' < m/\W (i+1) m' (ys++[y]) (upd H5 D (.lst (ys++[y])))
   else ∃m',m' < m/\W (i+1) m' ys H4)):=by
 intro D hDn;refine ⟨fun i m ys H=>m=xs.length - i/\i<=xs.length/\Pv D i ys H,⟨xs.length,rfl,Nat.zero_le _,h0 D hDn⟩,?_⟩;rintro i m ys H2 ⟨rfl,hi,p⟩;obtain ⟨e,l⟩:=hD D i ys H2 p;have q:=hl D i ys H2 hDn p;refine ⟨e,?_⟩;by_cases hlt:i < xs.length
 ·refine .inr ⟨⟨xs,xs[i],q,by simp [hlt]⟩,Nat.lt_of_le_of_lt l (Nat.lt_of_lt_of_le hlt hn),fun x H3 y=>?_⟩;obtain ⟨e1,y⟩:=y;subst e1;exact hs D i x ys _ _ _ hDn (y xs q) p (fun y H5 h5 p5=>⟨h5,xs.length - (i+1),by omega,rfl,hlt,p5⟩) fun H4 p4=>⟨xs.length - (i+1),by omega,rfl,hlt,p4⟩
 ·have ei:i=xs.length:=by omega
  subst ei;exact .inl ⟨⟨xs,q,Nat.le_refl _⟩,hd D ys H2 hDn p⟩
section
variable {X:Cx}
theorem AM (K:PySem.W.Frag) (h:X.K=K:=by rfl):IxR X (Sa K):=by subst h;exact Ay
theorem Ei (K:PySem.W.Frag) (h:X.K=K:=by rfl):IxR X (RG K):=by subst h;exact BA
theorem Lo (K:PySem.W.Frag) (h:X.K=K:=by rfl):OpR X (compareOp .In) (rIn K false):=by subst h;exact Ih
end
end L2
namespace L2
open PySem PySem.Spec PyProof.Rows
section
variable {X:Cx}
theorem N4 (hc:X.calm=true):Ci X (.builtin "sum") (fun xs H Q=>∃(p:Addr) (ns:List Int),xs=[.ref p]/\SqL X.K H p (ns.map V.int)/\Q (.int ns.sum) H):=by
 intro pins s σ H xs us Q I rv h;obtain ⟨p,ns,rfl,hS,q⟩:=h;obtain ⟨u,rfl,r⟩:=DB rv
 cases r
 obtain ⟨its,rv,pl,hz⟩:=I.list hS;have hi:=BE rv;obtain ⟨xs,e⟩:=hi.allInts.items
 have en:xs.toList.map (·.1)=ns:=by
  have:=nums_intItems xs;rw [<- e,show its.toArray.toList=its from rfl,hi.numsOf] at this;exact this.symm
 refine sum_intListG (I.ok.hd hc) (by rw [<- e];exact pl.isList) fun h' tk t' hk=>?_;rw [preSum_eq,take_of_length_le (by simp),en];exact ⟨.int ns.sum,H,I.kept hk,⟨_,rfl⟩,q⟩
theorem PP:MtR X "int.bit_length" (fun x xs H Q=>∃i:Int,x=.int i/\xs=[]/\Q (.int (Builtin.Int.intBits i:Nat)) H):=by
 intro pins s σ H x xs v us Q I rx rv h;obtain ⟨i,rfl,rfl,q⟩:=h;obtain ⟨t,rfl⟩:=rx
 cases rv
 exact call_int_bit_length ⟨.int _,H,I.tok _,⟨_,rfl⟩,q⟩
end
theorem GO {xs:List V} {j:Nat}:CN xs none (some (j:Int))=xs.take j:=by
 unfold CN;rw [HT.sIx_none,HT.sIx_nat,drop_zero,Nat.sub_zero];by_cases h:j<=xs.length
 ·rw [Nat.min_eq_left h]
 ·rw [Nat.min_eq_right (by omega),take_of_length_le (Nat.le_refl _),take_of_length_le (by omega)]
end L2
namespace L2
open PySem PySem.Spec PyProof.Rows
section
variable {M:Model} {A:Around} {E:Value->Shared->Prop} {s:Shared} {env:Env} {outer:List Env} {L e:Addr} {base:Heap}
end
end L2
namespace L2
open PySem PySem.Spec PyProof.Rows
section
variable {X:Cx} {pins:List (Addr × Obj)} {σ:St} {H:Hp} {s:Shared} {e:Addr} {cls:Value} {od:Option Addr}
end
section
variable {X:Cx} {pins:List (Addr × Obj)} {σ:St} {H:Hp} {s s':Shared} {E:XK} {ev:Value}
end
section
variable {X:Cx} {W:St->XK} {k:Nat} {f:Addr} {fd:FuncData} {ps:List Str} {sp:Sp} {dvs:List V} {ds:List Value} {x:Str} {p pos:Pos} {e:Expr} {es:List Expr} {t:TA}
end
end L2
namespace L2
open PySem PySem.Spec PyProof.Rows
section
variable {X:Cx} {W:St->XK} {C:Addr} {x:Str} {p cpos pos:Pos} {e:Expr} {es:List Expr} {t:TA}
end
section
variable {X:Cx} {pins:List (Addr × Obj)} {σ:St} {H:Hp} {s:Shared} {e:Addr} {cls:Value} {od:Option Addr}
end
section
variable {X:Cx} {pins:List (Addr × Obj)} {σ:St} {H:Hp} {s:Shared} {e C:Addr} {cls:Value} {od:Option Addr} {x n:Str} {i:Nat} {np pos:Pos} {b₀:Stmt} {suite:List Stmt} {rest:List ExceptHandler} {ts:TS} {tr:TH}
end
end L2
namespace L2
open PySem PySem.Spec PyProof.Rows
section
variable {prog:Program} {w:World} {A:Around} {E:Value->Shared->Prop} {s:Shared} {K:PySem.W.Frag} {a C:Addr} {o:Obj} {od:Option Obj} {name:Str} {tk:Tok}
end
section
variable {X:Cx}
end
end L2
namespace L2
open PySem PySem.Spec PyProof.Rows
section
variable {X:Cx}
end
section
variable {K:PySem.W.Frag} {H H':Hp} {x:V} {b:Bool}
end
section
variable {K:PySem.W.Frag} {A B:Addr}
end
end L2
namespace L2
open PySem PySem.Spec PyProof.Rows
end L2
namespace L2
open PySem PySem.Spec PyProof.Rows
section
variable {prog:Program} {w:World} {A:Around} {E:Value->Shared->Prop} {s:Shared} {K:PySem.W.Frag} {C P f x:Addr} {ox:Obj} {od:Option Obj} {name:Str} {v:Value}
end
end L2
namespace L2
open PySem PySem.Spec PyProof.Rows
section
variable {prog:Program} {w:World} {A:Around} {E:Value->Shared->Prop} {h:Heap} {g:Array GenState} {d:Drawn} {t:Nat} {os:OsState}
variable {nm q:Str} {C N:Addr} {bs bm:List Value} {hd:Bool} {sn:List Str} {sub:List Value} {ab:Bool} {col:Option Bool} {dd:Option Addr} {k0 k1 k2 k3 k5:Option Value}
end
section
variable {X:Cx} {W:St->XK} {C P fi:Addr} {k:Nat} {fd:FuncData} {ps ns:List Str} {x:Str} {p cpos pos:Pos} {e:Expr} {es:List Expr} {t:TA}
end
end L2
namespace L2
open PySem PySem.Spec PyProof.Rows
mutual
inductive Rep (K:PySem.W.Frag) (H:Hp):V->PyData->Prop
 | non:Rep K H .non .none
 | bl (b:Bool):Rep K H (.bl b) (.bool b)
 | int (i:Int):Rep K H (.int i) (.int i)
 | str (x:Str):Rep K H (.str x) (.str x)
 | lst {a:Addr} {xs:List V} {ds:List PyData}:SqL K H a xs->Reps K H xs ds->Rep K H (.ref a) (.list ds)
 | tup {a:Addr} {xs:List V} {ds:List PyData}:SqT K H a xs->Reps K H xs ds->Rep K H (.ref a) (.tuple ds)
inductive Reps (K:PySem.W.Frag) (H:Hp):List V->List PyData->Prop
 | nil:Reps K H [] []
 | cons {x:V} {xs:List V} {d:PyData} {ds:List PyData}:Rep K H x d->Reps K H xs ds->Reps K H (x :: xs) (d :: ds)
end
section
variable {K:PySem.W.Frag} {H H':Hp}
mutual
theorem Rep.same (e:An H H'):∀{x:V} {d:PyData},Rep K H x d->Rep K H' x d
 | _,_,.non=>.non
 | _,_,.bl b=>.bl b
 | _,_,.int i=>.int i
 | _,_,.str x=>.str x
 | _,_,.lst h r=>.lst (e.seq h) (Reps.same e r)
 | _,_,.tup h r=>.tup (by
  rcases h with (h | ⟨o,h⟩) | h
  ·exact .inl (.inl (e _ _ h))
  ·exact .inl (.inr ⟨o,e _ _ h⟩)
  ·exact .inr h) (Reps.same e r)
theorem Reps.same (e:An H H'):∀{xs:List V} {ds:List PyData},Reps K H xs ds->Reps K H' xs ds
 | _,_,.nil=>.nil
 | _,_,.cons r t=>.cons (Rep.same e r) (Reps.same e t)
end
theorem Reps.ints:∀(ns:List Int),Reps K H (ns.map V.int) (ns.map PyData.int)
 | []=>.nil
 | n :: ns=>.cons (.int n) (Reps.ints ns)
end
section
variable {X:Cx} {pins:List (Addr × Obj)} {σ:St} {H:Hp} {s:Shared}
mutual
theorem Inv.reads (I:Inv X pins σ H s):∀{x:V} {d:PyData},Rep X.K H x d->∀{v:Value},AE x v->∃as,Reads s.heap v d as
 | _,_,.non,v,r=>by cases (show v=Value.none from r);exact ⟨_,.none⟩
 | _,_,.bl b,v,r=>by cases (show v=Value.bool b from r);exact ⟨_,.bool b⟩
 | _,_,.int i,v,r=>by obtain ⟨t,e⟩:=(show ∃t,v=Value.int i t from r);cases e;exact ⟨_,.int i t⟩
 | _,_,.str x,v,r=>by obtain ⟨t,e⟩:=(show ∃t,v=Value.str x t from r);cases e;exact ⟨_,.str x t⟩
 | _,_,.lst (a:=a) h rs,v,r=>by
   cases (show v=Value.ref a from r)
   obtain ⟨its,rv,⟨o,n,e1,e2,_,e4⟩,_⟩:=I.list h;obtain ⟨as,q⟩:=Inv.readsAll I rs rv;exact ⟨_,.list e1 e2 e4 q⟩
 | _,_,.tup (a:=a) h rs,v,r=>by
   cases (show v=Value.ref a from r)
   obtain ⟨its,rv,⟨o,e1,e2,n,e4⟩,_⟩:=I.tuple h;obtain ⟨as,q⟩:=Inv.readsAll I rs rv;exact ⟨_,.tuple e1 e2 e4 q⟩
theorem Inv.readsAll (I:Inv X pins σ H s):∀{xs:List V} {ds:List PyData},Reps X.K H xs ds->∀{vs:List Value},A8 xs vs->∃as,ReadsAll s.heap vs ds as
 | _,_,.nil,_,.nil=>⟨_,.nil⟩
 | _,_,.cons r t,_,.cons q u=>by
   obtain ⟨a1,h1⟩:=Inv.reads I r q;obtain ⟨a2,h2⟩:=Inv.readsAll I t u;exact ⟨_,.cons h1 h2⟩
end
noncomputable def Si (K:PySem.W.Frag):R2:=fun x y H Q=>∃d e,Rep K H x d/\Rep K H y e/\PySem.SeqAt.shaped d=true/\PySem.SeqAt.shaped e=true/\Q (.bl (PyData.eqv d e)) H
noncomputable def Sn (K:PySem.W.Frag):R2:=fun x y H Q=>∃d e,Rep K H x d/\Rep K H y e/\PySem.SeqAt.shaped d=true/\PySem.SeqAt.shaped e=true/\Q (.bl (!PyData.eqv d e)) H
theorem QE {K:PySem.W.Frag} (hu:X.A.units+64 < cLine) (hK:X.K=K:=by rfl):OpR X (compareOp .Eq) (Si K):=by
 subst hK;intro pins s σ H x y v u Q I rx ry h;obtain ⟨d,e,hx,hy,s1,s2,q⟩:=h;obtain ⟨as,r1⟩:=I.reads hx rx;obtain ⟨bs,r2⟩:=I.reads hy ry;exact eq_dataH r1 r2 s1 s2 hu ⟨.bl _,H,I,rfl,q⟩
theorem Jh {K:PySem.W.Frag} (hu:X.A.units+64 < cLine) (hK:X.K=K:=by rfl):OpR X (compareOp .NotEq) (Sn K):=by
 subst hK;intro pins s σ H x y v u Q I rx ry h;obtain ⟨d,e,hx,hy,s1,s2,q⟩:=h;obtain ⟨as,r1⟩:=I.reads hx rx;obtain ⟨bs,r2⟩:=I.reads hy ry;exact ne_dataH r1 r2 s1 s2 hu ⟨.bl _,H,I,rfl,q⟩
end
end L2
namespace L2
open PySem PySem.Spec PyProof.Rows
theorem MO:typeLookup (.type "list_reverseiterator") "__len__"=pure none:=by rw [typeLookup_type,builtinLookup_eq_fast];kernel_rfl
theorem OP:typeLookup (.type "list_reverseiterator") "__length_hint__"=pure (some (.builtin "list_reverseiterator.__length_hint__")):=by rw [typeLookup_type,builtinLookup_eq_fast];kernel_rfl
section
variable {prog:Program} {w:World} {A:Around} {E:Value->Shared->Prop} {s:Shared}
theorem NN {I:Addr} {Q:Bool->Shared->Prop} (hT:s.TypeIs (.ref I) "list_reverseiterator") (h:Q false s):wpAny (model prog w) A (Builtin.List.listLengthHint (.ref I)) Q E s:=by
 unfold Builtin.List.listLengthHint;refine wpAny_bind (wpAny_specialOf hT MO ?_);show wpAny _ A (specialOf (Value.ref I) (Str.ofString "__length_hint__") >>= _) _ _ _;refine wpAny_bind (wpAny_specialOf hT OP ?_);generalize hid:("list_reverseiterator.__length_hint__":String)=id0
 wp_delta
 rw [show splitId id0=some ("list_reverseiterator","__length_hint__") from by subst hid;decide +kernel];subst hid;refine wpAny_bind (wpAny_isInstance (b:=true) hT (by rw [isSubtype_type];kernel_rfl) ?_);exact wpAny_pure h
theorem No {items acc:Array Value} (h:ItemsOf (fun i v=>items[items.size - 1 - i]?=some v) acc items.size):acc=items.toList.reverse.toArray:=by
 obtain ⟨h1,h2⟩:=h;apply Array.ext
 ·simpa using h1
 ·intro i hi hj;have e:items[items.size - 1 - i]?=some acc[i]:=h2 i acc[i] (by simp [hi]);have hi':i < items.size:=by omega
  rw [Array.getElem?_eq_getElem (by omega)] at e;simp only [getElem_toArray,getElem_reverse,Array.getElem_toList,Array.length_toList];exact (Option.some.inj e).symm
theorem Lv {I l S:Addr} {items:Array Value} {R:Result->Shared->Prop} {c₀:Nat} (hh:A.handled=none) (hne:l≠I) (hit:s.heap.IsRevIter I l ((items.size:Int) - 1)) (hl:s.heap.IsList l items)
 (hSI:S≠I) (hSl:S≠l) (hz:items.size<=sizeLine) (hS:s.heap.get? S=some { cls:=.type "list",data:=.seq #[] c₀ })
 (hR:∀s' c',Moved [S,I] (fun a b=>b=a) s s'->s'.heap.get? S=some { cls:=.type "list",dict:=none,data:=.seq items.toList.reverse.toArray c',slots:=#[] }->R (.ok (.ret .none)) s') :
 wpAny (model prog w) A.in1 (Builtin.List.listExtendWith (.ref S) (.ref I) .none)
  (fun fin s'=>match fin with | .done f=>R (.ok f) s' | .again c'=>c'.quiet=true/\codeAny (model prog w) A c' R s') (fun e s'=>R (.error e) s') s:=by
 have W:=(Walks.listRev (prog:=prog) (w:=w) (A:=A.in1) hh I l hne items).toS;have st:(0:Nat)<=items.size/\s.heap.IsRevIter I l ((items.size:Int) - 1 - ((0:Nat):Int))/\s.heap.IsList l items:=⟨Nat.zero_le _,by simpa using hit,hl⟩;have hT:=hit.typeIs;unfold Builtin.List.listExtendWith;refine wpAny_bind (wpAny_typeOf hT ?_);have h1:Builtin.List.listSameRef (.ref S) (.ref I)=false:=by simp [Builtin.List.listSameRef,hSI]
 rw [if_neg (by rw [h1];decide)];refine wpAny_bind (wpAny_pyIter_revIter hit ?_);refine wpAny_bind (wpAny_holding (NN hT ?_));rw [if_neg (by decide)];refine wpAny_pure ⟨plainId_quiet F.plain_extend_loop _,codeAny_extend_loopS W hz S (by simp [hSI,hSl]) .none items.size 0 _ _ _ rfl (Nat.zero_le _) st hS (ItemsOf.nil _) fun s' acc c' hm hS' hacc=>?_⟩;rw [No hacc] at hS';exact hR s' c' hm hS'
theorem HD {I l:Addr} {items:Array Value} {Q:Value->Shared->Prop} (hh:A.handled=none) (hne:l≠I) (hit:s.heap.IsRevIter I l ((items.size:Int) - 1)) (hl:s.heap.IsList l items) (hz:items.size<=sizeLine)
 (hQ:∀h' tk c',(∀b o,b≠I->s.heap.get? b=some o->h'.get? b=some o)->h'.get? s.heap.objs.size=some { cls:=.type "list",dict:=none,data:=.seq items.toList.reverse.toArray c',slots:=#[] } ->
  Q (.ref s.heap.objs.size) { s with heap:=h',toks:=tk }):wpAny (model prog w) A (call (.type "list") [.ref I]) Q E s:=by
 refine callType_codes (Q₁:=fun obj s₁=>obj=.ref s.heap.objs.size/\s₁={ s with heap:=s.heap.push { cls:=.type "list",data:=.seq #[] } }) F.called_list (F.typeCall_list_1 _) F.entry_list_init (code_list_new _ ⟨rfl,rfl⟩) ?_;rintro obj s₁ ⟨rfl,rfl⟩;have hS:(s.heap.push { cls:=.type "list",data:=.seq #[] }).get? s.heap.objs.size=some { cls:=.type "list",data:=.seq #[] }:=Heap.get?_push_size _ rfl;refine ⟨⟨_,hS,rfl⟩,F.args_list_init_2 _ _,?_⟩;have lI:I < s.heap.objs.size:=by obtain ⟨o,ho,_⟩:=hit;exact Heap.lt_size ho
 have ll:l < s.heap.objs.size:=by obtain ⟨o,ho,_⟩:=hl;exact Heap.lt_size ho
 show wpAny _ A.in1.in1 (do let old <- Builtin.List.listItems (.ref s.heap.objs.size);Builtin.List.listUpdate (.ref s.heap.objs.size) (fun _=>#[]);letGo old.toList.reverse;Builtin.List.listExtendWith (.ref s.heap.objs.size) (.ref I) .none) _ _ _;refine wpAny_bind ?_;unfold Builtin.List.listItems;refine wpAny_bind (wpAny_seqItems hS rfl (wpAny_pure ?_));show wpAny _ A.in1.in1 (updateSeq s.heap.objs.size (fun _=>#[]) >>= fun _=>letGo (#[]:Array Value).toList.reverse >>= fun _=>Builtin.List.listExtendWith (.ref s.heap.objs.size) (.ref I) .none) _ _ _;refine wpAny_bind (wpAny_updateSeq hS rfl ?_);have hS₂:=Heap.get?_update_self (Obj.mapSeq (fun _=>(#[]:Array Value))) hS rfl
 have oth:∀b o,s.heap.get? b=some o->((s.heap.push { cls:=.type "list",data:=.seq #[] }).update s.heap.objs.size (Obj.mapSeq (fun _=>(#[]:Array Value)))).get? b=some o :=
  fun b o e=>(Heap.get?_update_other _ _ (Ne.symm (Nat.ne_of_lt (Heap.lt_size e)))).trans (Heap.get?_push_of_some _ e)
 refine wpAny_bind (wpAny_letGo ?_);refine Lv (A:=A.in1) hh hne (hit.at (oth I)) (hl.at (oth l)) (Ne.symm (Nat.ne_of_lt lI)) (Ne.symm (Nat.ne_of_lt ll)) hz hS₂ fun s' c' hm hS'=>?_;refine ⟨rfl,?_⟩;rw [Moved.eq_with hm];exact hQ s'.heap s'.toks c' (fun b o hb e=>hm.heap b o (by simp [hb,Nat.ne_of_lt (Heap.lt_size e)]) (oth b o e)) hS'
end
section
variable {X:Cx} {e:Expr} {te:TE} {p p2 pos pos2:Pos}
noncomputable def Sj (K:PySem.W.Frag) (te:TE):TE:=fun σ H Q=>te σ H fun x H1=>∃a ys,x=.ref a/\SqL K H1 a ys/\∀l,H1 l=none->Q (.ref l) (upd H1 l (.lst ys.reverse))
theorem L3 (hc:X.calm=true) (hg:Gl X "list") (hm:X.mg "list"=none) (hg2:Gl X "reversed") (hm2:X.mg "reversed"=none) (he:PE X e te)
 (hs:starEach [e] X.env=[(false,eval e X.env)]:=by rfl)
 (hs2:starEach [(.Call (.Name "reversed" p2) [e] [] pos2:Expr)] X.env=[(false,eval (.Call (.Name "reversed" p2) [e] [] pos2) X.env)]:=by rfl) :
 PE X (.Call (.Name "list" p) [.Call (.Name "reversed" p2) [e] [] pos2] [] pos) (Sj X.K te):=by
 intro pins s σ H Q I h;refine wpAny_Call_Name_kw (Cv I hg hm boot_list ?_ (by decide) (by decide));refine callWith_type1 ?_ hs2 rfl;rw [hs2];refine Calls.spliced_cons ?_;refine wpAny_Call_Name_kw (Cv I hg2 hm2 boot_reversed ?_ (by decide) (by decide));refine callWith_type1 ?_ hs rfl;rw [hs];refine Calls.spliced_cons (thn (he pins s σ H _ I h) fun u s1 ⟨x,H1,I1,r1,a,ys,hx,hq,q⟩=>?_);subst hx
 cases r1
 refine Calls.spliced_nil ?_;obtain ⟨its,rv,pl,hz⟩:=I1.list hq;have hl:=pl.isList;have hlen:=rv.length;refine call_reversed_list hl ?_;refine Calls.spliced_nil ?_;have la:a < s1.heap.objs.size:=by obtain ⟨o,ho,_⟩:=hl;exact Heap.lt_size ho
 refine HD (items:=its.toArray) (I1.ok.hd hc) (Nat.ne_of_lt la) ⟨_,Heap.get?_push_size _ rfl,rfl,rfl⟩ (hl.at fun o e=>Heap.get?_push_of_some _ e) (by simp only [size_toArray];omega) fun h' tk c' kp eS=>?_;have kp':∀b o,s1.heap.get? b=some o->h'.get? b=some o:=fun b o e=>kp b o (Nat.ne_of_lt (Heap.lt_size e)) (Heap.get?_push_of_some _ e);have hp:s1.heap.objs.size<=(s1.heap.push (revObj a ((its.toArray.size:Int) - 1))).objs.size:=by simp [Heap.push]
 refine ⟨.ref _,_,I1.laid (t':=tk) kp' hp (show AY X.prog X.w _ h' _ (.lst ys.reverse) from ⟨by simpa using hz,its.reverse,c',rv.reverse,by simpa using eS⟩),rfl,q _ (I1.hok.fresh hp)⟩
end
end L2
namespace L2
open PySem PySem.W PySem.Spec PyProof.Rows
section
variable {O:KeyOrd} {ky:Nat->O.α} {n:Nat} {cmp:Nat->Nat->(Bool->Shared->Prop)->Shared->Prop} {J:Shared->Prop}
noncomputable def kk (ky:Nat->O.α) (p:Array Nat) (i:Nat):O.α:=ky (p.getD i 0)
noncomputable def Srt (ky:Nat->O.α) (p:Array Nat) (m:Nat):Prop:=∀i j,i<=j->j < m->O.kle (kk ky p i) (kk ky p j)
noncomputable def Fal (ky:Nat->O.α) (p:Array Nat) (m:Nat):Prop:=∀i j,i<=j->j < m->O.kle (kk ky p j) (kk ky p i)
noncomputable def Prm (n:Nat) (p:Array Nat):Prop:=p.toList.Perm (List.range n)
noncomputable def IZ (O:KeyOrd) (ky:Nat->O.α) (n:Nat) (cmp:Nat->Nat->(Bool->Shared->Prop)->Shared->Prop) (J:Shared->Prop):Prop :=
 ∀i j (C:Bool->Shared->Prop) s,i < n->j < n->J s->(∀s',J s'->C (O.blt (ky i) (ky j)) s')->cmp i j C s
theorem Prm.size {p:Array Nat} (h:Prm n p):p.size=n:=by
 have:=h.length_eq;rw [length_range] at this;exact this
theorem Prm.lt {p:Array Nat} (h:Prm n p) {k:Nat} (hk:k < n):p.getD k 0 < n:=by
 have hz:=h.size;have e:p.getD k 0=p[k]'(by omega):=by simp [Array.getD,hz,hk]
 rw [e];exact mem_range.mp (h.mem_iff.mp (by simp))
theorem Prm.rev {p:Array Nat} (h:Prm n p) (i j:Nat):Prm n (kas_rev p i j):=(mirror_perm p i j _).toList.trans h
theorem Prm.bub {p:Array Nat} (h:Prm n p) (k d:Nat):Prm n (bubble p k d):=(bubble_perm p k d).toList.trans h
theorem ES {p q:Array Nat} {i j:Nat} (e:p[i]?=q[j]?):p.getD i 0=q.getD j 0:=by
 rw [Array.getD_eq_getD_getElem?,Array.getD_eq_getD_getElem?,e]
theorem Fs {p:Array Nat} {i j:Nat} (hj:j<=p.size) (k:Nat):kk ky (kas_rev p i j) k=if i<=k/\k < j then kk ky p (i+j - 1 - k) else kk ky p k:=by
 have e:=getElem?_mirror_all (xs:=p) (i:=i) hj k;unfold kk kas_rev;by_cases c:i<=k/\k < j
 ·rw [if_pos c] at e ⊢;rw [ES e]
 ·rw [if_neg c] at e ⊢;rw [ES e]
theorem OD {p:Array Nat} {src d:Nat} (hs:src < p.size) (hd:d<=src) (k:Nat) :
 kk ky (bubble p src d) k=if k=src - d then kk ky p src else if src - d < k/\k<=src then kk ky p (k - 1) else kk ky p k:=by
 have e:=getElem?_bubble hs d hd k;unfold kk;by_cases c:k=src - d
 ·rw [if_pos c] at e ⊢;rw [ES e]
 ·rw [if_neg c] at e ⊢;by_cases c2:src - d < k/\k<=src
  ·rw [if_pos c2] at e ⊢;rw [ES e]
  ·rw [if_neg c2] at e ⊢;rw [ES e]
theorem Srt.succ {p:Array Nat} {m:Nat} (h:Srt ky p m) (h1:1<=m) (c:O.kle (kk ky p (m - 1)) (kk ky p m)):Srt ky p (m+1):=fun i j hij hj=>by
 by_cases e:j=m
 ·subst e;by_cases e2:i=j
  ·subst e2;exact KeyOrd.kle_refl _
  ·exact KeyOrd.kle_trans (h i (j - 1) (by omega) (by omega)) c
 ·exact h i j hij (by omega)
theorem Fal.succ {p:Array Nat} {m:Nat} (h:Fal ky p m) (h1:1<=m) (c:O.kle (kk ky p m) (kk ky p (m - 1))):Fal ky p (m+1):=fun i j hij hj=>by
 by_cases e:j=m
 ·subst e;by_cases e2:i=j
  ·subst e2;exact KeyOrd.kle_refl _
  ·exact KeyOrd.kle_trans c (h i (j - 1) (by omega) (by omega))
 ·exact h i j hij (by omega)
theorem Srt.one {p:Array Nat}:Srt ky p 1:=fun i j hij hj=>by
 have:i=j:=by omega
 subst this;exact KeyOrd.kle_refl _
theorem Fal.rev {p:Array Nat} {m:Nat} (hz:m<=p.size) (h:Fal ky p m):Srt ky (kas_rev p 0 m) m:=fun i j hij hj=>by
 rw [Fs hz,Fs hz,if_pos ⟨Nat.zero_le _,by omega⟩,if_pos ⟨Nat.zero_le _,hj⟩];exact h _ _ (by omega) (by omega)
theorem Fal.revEq {p:Array Nat} {i j m:Nat} (hz:j<=p.size) (hm:j<=m) (h:Fal ky p m) (eq:∀a b,i<=a->a < j->i<=b->b < j->O.kle (kk ky p a) (kk ky p b)):Fal ky (kas_rev p i j) m:=fun a b hab hb=>by
 rw [Fs hz,Fs hz];by_cases c1:i<=a/\a < j
 ·rw [if_pos c1];by_cases c2:i<=b/\b < j
  ·rw [if_pos c2];exact eq _ _ (by omega) (by omega) (by omega) (by omega)
  ·rw [if_neg c2];exact h _ _ (by omega) hb
 ·rw [if_neg c1];by_cases c2:i<=b/\b < j
  ·rw [if_pos c2];exact h _ _ (by omega) (by omega)
  ·rw [if_neg c2];exact h _ _ hab hb
theorem Lk (ac:IZ O ky n cmp J) {p:Array Nat} (hp:Prm n p) {R:Nat->Shared->Prop}:∀(f a:Nat) (s:Shared),1<=a->a+f<=n->Srt ky p a->J s ->
 (∀m s',a<=m->m<=a+f->Srt ky p m->(m < a+f->O.klt (kk ky p m) (kk ky p (m - 1)))->J s'->R m s')->(kas_asc p f a).kasWp cmp R s
 | 0,a,s,h1,hz,hs,hJ,k=>k a s (Nat.le_refl _) (Nat.le_refl _) hs (fun h=>absurd h (Nat.lt_irrefl _)) hJ
 | f+1,a,s,h1,hz,hs,hJ,k=>by
   refine ac _ _ _ s (hp.lt (by omega)) (hp.lt (by omega)) hJ fun s' hJ'=>?_
   cases e:O.blt (ky (p.getD a 0)) (ky (p.getD (a - 1) 0)) with
   | true =>
     dsimp only;rw [if_pos rfl];exact k a s' (Nat.le_refl _) (by omega) hs (fun _=>e) hJ'
   | false =>
     dsimp only;rw [if_neg Bool.false_ne_true];refine Lk ac hp f (a+1) s' (by omega) (by omega) (hs.succ h1 e) hJ' fun m s2 l1 l2 q1 q2 q3=>?_;exact k m s2 (by omega) (by omega) q1 (fun h=>q2 (by omega)) q3
theorem Gz (ac:IZ O ky n cmp J) {R:Array Nat × Nat × Nat->Shared->Prop}:∀(f:Nat) (p:Array Nat) (m q:Nat) (s:Shared),Prm n p->q+1<=m->m+f<=n->Fal ky p m ->
 (∀a b,m - (q+1)<=a->a < m->m - (q+1)<=b->b < m->O.kle (kk ky p a) (kk ky p b))->J s ->
 (∀p' m' q' s',Prm n p'->q'+1<=m'->m<=m'->m'<=m+f->Fal ky p' m'->(∀a b,m' - (q'+1)<=a->a < m'->m' - (q'+1)<=b->b < m'->O.kle (kk ky p' a) (kk ky p' b))->J s'->R (p',m',q') s') ->
 (kas_desc f p m q).kasWp cmp R s
 | 0,p,m,q,s,hp,hq,hz,hf,he,hJ,k=>k p m q s hp hq (Nat.le_refl _) (Nat.le_refl _) hf he hJ
 | f+1,p,m,q,s,hp,hq,hz,hf,he,hJ,k=>by
   have hsz:=hp.size;refine ac _ _ _ s (hp.lt (by omega)) (hp.lt (by omega)) hJ fun s' hJ'=>?_
   cases e:O.blt (ky (p.getD m 0)) (ky (p.getD (m - 1) 0)) with
   | true =>
     dsimp only;rw [if_pos rfl];have hf':Fal ky p (m+1):=hf.succ (by omega) (KeyOrd.kle_of_klt e)
     have one:∀p':Array Nat,∀a b,m+1 - (0+1)<=a->a < m+1->m+1 - (0+1)<=b->b < m+1->O.kle (kk ky p' a) (kk ky p' b):=fun p' a b _ _ _ _=>by
      have:a=b:=by omega
      subst this;exact KeyOrd.kle_refl _
     by_cases c:q > 0
     ·rw [if_pos c];refine Gz ac f (kas_rev p (m - (q+1)) m) (m+1) 0 s' (hp.rev _ _) (by omega) (by omega) (hf'.revEq (by omega) (by omega) he) (one _) hJ' fun p' m' q' s2 a1 a2 a3 a4 a5 a6 a7=>?_;exact k p' m' q' s2 a1 a2 (by omega) (by omega) a5 a6 a7
     ·rw [if_neg c];refine Gz ac f p (m+1) 0 s' hp (by omega) (by omega) hf' (one _) hJ' fun p' m' q' s2 a1 a2 a3 a4 a5 a6 a7=>?_;exact k p' m' q' s2 a1 a2 (by omega) (by omega) a5 a6 a7
   | false =>
     dsimp only;rw [if_neg Bool.false_ne_true];refine ac _ _ _ s' (hp.lt (by omega)) (hp.lt (by omega)) hJ' fun s2 hJ2=>?_
     cases e2:O.blt (ky (p.getD (m - 1) 0)) (ky (p.getD m 0)) with
     | true =>
       dsimp only;rw [if_pos rfl];exact k p m q s2 hp hq (Nat.le_refl _) (by omega) hf he hJ2
     | false =>
       dsimp only;rw [if_neg Bool.false_ne_true];have g1:O.kle (kk ky p (m - 1)) (kk ky p m):=e;have g2:O.kle (kk ky p m) (kk ky p (m - 1)):=e2;refine Gz ac f p (m+1) (q+1) s2 hp (by omega) (by omega) (hf.succ (by omega) g2) (fun a b a1 a2 b1 b2=>?_) hJ2 fun p' m' q' s3 c1 c2 c3 c4 c5 c6 c7=>?_
       ·by_cases ea:a=m
        ·by_cases eb:b=m
         ·rw [ea,eb];exact KeyOrd.kle_refl _
         ·rw [ea];exact KeyOrd.kle_trans g2 (he (m - 1) b (by omega) (by omega) (by omega) (by omega))
        ·by_cases eb:b=m
         ·rw [eb];exact KeyOrd.kle_trans (he a (m - 1) (by omega) (by omega) (by omega) (by omega)) g1
         ·exact he a b (by omega) (by omega) (by omega) (by omega)
       ·exact k p' m' q' s3 c1 c2 (by omega) (by omega) c5 c6 c7
theorem KN (ac:IZ O ky n cmp J) {p:Array Nat} (hp:Prm n p) {m nrem:Nat} {R:Nat × Array Nat->Shared->Prop} {s:Shared} (h1:1<=m) (h2:m<=nrem) (h3:nrem<=n) (hf:Fal ky p m) (hJ:J s)
 (k:∀m' p' s',1<=m'->m'<=nrem->Prm n p'->Srt ky p' m'->J s'->R (m',p') s'):(kas_tail3 m nrem p).kasWp cmp R s:=by
 have hsz:=hp.size;unfold kas_tail3;rw [KasT.kasWp_bind];refine Lk ac (hp.rev 0 m) (nrem - m) m s h1 (by omega) (hf.rev (by omega)) hJ fun m' s' a1 a2 a3 _ a5=>?_;exact k m' _ s' (by omega) (by omega) (hp.rev _ _) a3 a5
theorem FW (ac:IZ O ky n cmp J) {p:Array Nat} (hp:Prm n p) {m nrem:Nat} {R:Nat × Array Nat->Shared->Prop} {s:Shared} (h2:m+1<=nrem) (h3:nrem<=n) (hf:Fal ky p (m+1)) (hJ:J s)
 (k:∀m' p' s',1<=m'->m'<=nrem->Prm n p'->Srt ky p' m'->J s'->R (m',p') s'):(kas_descPart m nrem p).kasWp cmp R s:=by
 unfold kas_descPart;rw [KasT.kasWp_bind];refine Gz ac (nrem - (m+1)) p (m+1) 0 s hp (by omega) (by omega) hf (fun a b _ _ _ _=>?_) hJ fun p' m' q' s' a1 a2 a3 a4 a5 a6 a7=>?_
 ·have:a=b:=by omega
  subst this;exact KeyOrd.kle_refl _
 ·have hsz:=a1.size;dsimp only;by_cases c:q' > 0
  ·rw [if_pos c];exact KN ac (a1.rev _ _) (by omega) (by omega) h3 (a5.revEq (by omega) (Nat.le_refl _) a6) a7 k
  ·rw [if_neg c];exact KN ac a1 (by omega) (by omega) h3 a5 a7 k
theorem OW (ac:IZ O ky n cmp J) {p:Array Nat} (hp:Prm n p) {R:Nat × Array Nat->Shared->Prop} {s:Shared} (h1:1<=n) (hJ:J s)
 (k:∀m' p' s',1<=m'->m'<=n->Prm n p'->Srt ky p' m'->J s'->R (m',p') s'):(kas_count n p).kasWp cmp R s:=by
 have hsz:=hp.size;unfold kas_count;rw [KasT.kasWp_bind];refine Lk ac hp (n - 1) 1 s (Nat.le_refl _) (by omega) Srt.one hJ fun m s' a1 a2 a3 a4 a5=>?_;by_cases c:m=n
 ·rw [if_pos (by simpa using c)];exact k m p s' a1 (by omega) hp a3 a5
 ·rw [if_neg (by simpa using c)];have lt:=a4 (by omega);by_cases c1:m > 1
  ·rw [if_pos c1];refine ac _ _ _ s' (hp.lt (by omega)) (hp.lt (by omega)) a5 fun s2 hJ2=>?_
   cases e:O.blt (ky (p.getD 0 0)) (ky (p.getD (m - 1) 0)) with
   | true =>
     dsimp only;rw [if_pos rfl];exact k m p s2 a1 (by omega) hp a3 hJ2
   | false =>
     dsimp only;rw [if_neg Bool.false_ne_true];have g:O.kle (kk ky p (m - 1)) (kk ky p 0):=e
     have eq:∀a b,a < m->b < m->O.kle (kk ky p a) (kk ky p b):=fun a b ha hb =>
      KeyOrd.kle_trans (a3 a (m - 1) (by omega) (by omega)) (KeyOrd.kle_trans g (a3 0 b (by omega) hb))
     refine FW ac (hp.rev 0 m) (by omega) (Nat.le_refl _) ?_ hJ2 k;intro i j hij hj;rw [Fs (by omega),Fs (by omega)];by_cases cj:j < m
     ·rw [if_pos ⟨Nat.zero_le _,cj⟩,if_pos ⟨Nat.zero_le _,by omega⟩];exact eq _ _ (by omega) (by omega)
     ·have ej:j=m:=by omega
      subst ej;rw [if_neg (by omega)];by_cases ci:i < j
      ·rw [if_pos ⟨Nat.zero_le _,ci⟩];exact KeyOrd.kle_trans (KeyOrd.kle_of_klt lt) (eq _ _ (by omega) (by omega))
      ·rw [if_neg (by omega)];have:i=j:=by omega
       subst this;exact KeyOrd.kle_refl _
  ·rw [if_neg c1];have em:m=1:=by omega
   subst em;refine FW ac hp (by omega) (Nat.le_refl _) ?_ a5 k
   have f1:Fal ky p 1:=fun i j hij hj=>by
    have:i=j:=by omega
    subst this;exact KeyOrd.kle_refl _
   exact f1.succ (Nat.le_refl _) (KeyOrd.kle_of_klt lt)
theorem GI (ac:IZ O ky n cmp J) {p:Array Nat} (hp:Prm n p) {t:Nat} (ht:t < n) {R:Nat->Shared->Prop}:∀(f l r:Nat) (s:Shared),l<=r->r<=t->r - l<=f->(∀i,i < l->O.kle (kk ky p i) (kk ky p t))->(∀i,r<=i->i < t->O.klt (kk ky p t) (kk ky p i)) ->
 Srt ky p t->J s->(∀l' s',l'<=t->(∀i,i < l'->O.kle (kk ky p i) (kk ky p t))->(∀i,l'<=i->i < t->O.klt (kk ky p t) (kk ky p i))->J s'->R l' s')->(kas_place p t f l r).kasWp cmp R s
 | 0,l,r,s,h1,h2,h3,h4,h5,_,hJ,k=>k l s (by omega) h4 (fun i a b=>h5 i (by omega) b) hJ
 | f+1,l,r,s,h1,h2,h3,h4,h5,hs,hJ,k=>by
   unfold kas_place;by_cases c:l>=r
   ·rw [if_pos c];exact k l s (by omega) h4 (fun i a b=>h5 i (by omega) b) hJ
   ·rw [if_neg c];refine ac _ _ _ s (hp.lt ht) (hp.lt (by omega)) hJ fun s' hJ'=>?_
    cases e:O.blt (ky (p.getD t 0)) (ky (p.getD ((l+r) / 2) 0)) with
    | true =>
      dsimp only;rw [if_pos rfl];have g:O.klt (kk ky p t) (kk ky p ((l+r) / 2)):=e;exact GI ac hp ht f l ((l+r) / 2) s' (by omega) (by omega) (by omega) h4 (fun i a b=>KeyOrd.klt_of_klt_of_kle g (hs _ _ a b)) hs hJ' k
    | false =>
      dsimp only;rw [if_neg Bool.false_ne_true];have g:O.kle (kk ky p ((l+r) / 2)) (kk ky p t):=e;exact GI ac hp ht f ((l+r) / 2+1) r s' (by omega) h2 (by omega) (fun i a=>KeyOrd.kle_trans (hs i ((l+r) / 2) (by omega) (by omega)) g) h5 hs hJ' k
theorem NW (ac:IZ O ky n cmp J) {R:Array Nat->Shared->Prop}:∀(f:Nat) (p:Array Nat) (t:Nat) (s:Shared),Prm n p->t+f=n->Srt ky p t->J s->(∀p' s',Prm n p'->Srt ky p' n->J s'->R p' s')->(kas_bin f p t).kasWp cmp R s
 | 0,p,t,s,hp,hz,hs,hJ,k=>k p s hp (by have:t=n:=by omega
                                       subst this;exact hs) hJ
 | f+1,p,t,s,hp,hz,hs,hJ,k=>by
   have hsz:=hp.size;unfold kas_bin;rw [KasT.kasWp_bind];refine GI ac hp (by omega) t 0 t s (Nat.zero_le _) (Nat.le_refl _) (by omega) (fun i h=>absurd h (Nat.not_lt_zero _)) (fun i a b=>absurd b (by omega)) hs hJ fun l s' a1 a2 a3 hJ'=>?_;refine NW ac f (bubble p t (t - l)) (t+1) s' (hp.bub _ _) (by omega) ?_ hJ' k;intro i j hij hj;have el:t - (t - l)=l:=by omega
   rw [OD (by omega) (by omega),OD (by omega) (by omega),el];by_cases ci:i=l
   ·rw [if_pos ci];by_cases cj:j=l
    ·rw [if_pos cj];exact KeyOrd.kle_refl _
    ·rw [if_neg cj,if_pos ⟨by omega,by omega⟩];exact KeyOrd.kle_of_klt (a3 _ (by omega) (by omega))
   ·rw [if_neg ci];by_cases ci2:l < i/\i<=t
    ·rw [if_pos ci2,if_neg (by omega),if_pos ⟨by omega,by omega⟩];exact hs _ _ (by omega) (by omega)
    ·rw [if_neg ci2];by_cases cj:j=l
     ·rw [if_pos cj];exact a2 _ (by omega)
     ·rw [if_neg cj];by_cases cj2:l < j/\j<=t
      ·rw [if_pos cj2];exact hs _ _ (by omega) (by omega)
      ·rw [if_neg cj2];exact hs _ _ hij (by omega)
theorem PH (ac:IZ O ky n cmp J) {R:Array Nat->Shared->Prop} {s:Shared} (h1:1<=n) (hJ:J s) (k:∀p s',Prm n p->Srt ky p n->J s'->R p s'):(kas_sort n).kasWp cmp R s:=by
 unfold kas_sort;rw [KasT.kasWp_bind];refine OW ac (List.Perm.refl _) h1 hJ fun m p s' a1 a2 a3 a4 a5=>?_;dsimp only;by_cases c:m < n
 ·rw [if_pos c];have e:max m 1=m:=by omega
  rw [e];exact NW ac (n - m) p m s' a3 (by omega) a4 a5 k
 ·rw [if_neg c];have e:m=n:=by omega
  subst e;exact k p s' a3 a4 a5
end
end L2
namespace L2
open PySem PySem.W PySem.Spec PyProof.Rows
theorem D7:∀a b:List Int,HT.lexLt a b=decide (a < b)
 | [],[]=>by simp [HT.lexLt]
 | [],_ :: _=>by simp [HT.lexLt]
 | _ :: _,[]=>by simp [HT.lexLt]
 | x :: xs,y :: ys=>by
   rw [HT.lexLt_cons,D7 xs ys];by_cases e:x=y
   ·subst e;rw [if_pos rfl];simp [cons_lt_cons_iff]
   ·rw [if_neg e];simp [cons_lt_cons_iff,e]
noncomputable def Qe:KeyOrd where
 α:=List Int
 blt a b:=HT.lexLt a b
 irrefl a:=by rw [D7];simpa using List.lt_irrefl a
 trans a b c h1 h2:=by
  rw [D7] at *;simp only [decide_eq_true_eq] at *;exact List.lt_trans h1 h2
 negTrans a b c h:=by
  rw [D7] at h;rw [D7,D7];simp only [decide_eq_true_eq] at *;by_cases hab:a < b
  ·exact .inl hab
  ·exact .inr (List.lt_of_le_of_lt (List.not_lt.mp hab) h)
 total a b h1 h2:=by
  rw [D7] at *;simp only [decide_eq_false_iff_not] at *;exact List.le_antisymm (List.not_lt.mp h2) (List.not_lt.mp h1)
noncomputable def DD (h:Heap) (v:Value) (ns:List Int):Prop:=∃a its,v=.ref a/\IsTup h a its/\IntsAre its.toList ns
section
variable {prog:Program} {w:World} {A:Around} {E:Value->Shared->Prop} {s:Shared} {Q:Bool->Shared->Prop}
theorem LR {fin bb:Bool}:∀{vs us:List Value} {ns ms:List Int} (i:Nat),IntsAre vs ns->IntsAre us ms->Q (HT.lexLt ns ms) s->fin=decide (vs.length < us.length)->KatLex prog w A bb fin Q (vs.zip us) i s
 | _,_,_,_,i,.nil,.nil,h,e=>by
   refine kat_nil ?_;rw [e];exact h
 | _,_,_,_,i,.nil,.cons _ _ _,h,e=>by
   refine kat_nil ?_;rw [e];simpa [HT.lexLt] using h
 | _,_,_,_,i,.cons _ _ _,.nil,h,e=>by
   refine kat_nil ?_;rw [e];simpa [HT.lexLt] using h
 | _,_,_,_,i,.cons (vs:=vs) (ns:=ns) x t hv,.cons (vs:=us) (ns:=ms) y u hu,h,e=>by
   refine kat_cons (wpAny_eqBool_int (kat_go (fun c=>?_) (fun c=>?_)))
   ·have xy:x=y:=by simpa using c
    subst xy;refine kat_yes (LR (i+1) hv hu ?_ ?_)
    ·simpa [HT.lexLt] using h
    ·rw [e];simp
   ·have xy:¬ x=y:=by simpa using c
    refine kat_no ?_;have h':Q (decide (x < y)) s:=by simpa [HT.lexLt,xy] using h
    cases (bb && i == 0) with
    | true=>exact oneLt_int h'
    | false=>exact kat_one _ _ (lt_int h')
noncomputable def Mb (κ:SortKind):Prop:=(∃b,κ=tuples' b)\/κ=general'\/κ=oneType'
theorem QT {κ:SortKind} {x y:Value} {ns ms:List Int} (hk:Mb κ) (hx:DD s.heap x ns) (hy:DD s.heap y ms) (hu:A.units < cLine) (h:Q (HT.lexLt ns ms) s):wpAny (model prog w) A (keyLt' κ x y) Q E s:=by
 obtain ⟨a,its,rfl,ta,ia⟩:=hx;obtain ⟨b,jts,rfl,tb,ib⟩:=hy;rcases hk with ⟨bb,rfl⟩ | rfl | rfl
 ·obtain ⟨o,ho,hc,n,hd⟩:=ta;obtain ⟨o2,ho2,hc2,n2,hd2⟩:=tb;exact kat_lt ho hd ho2 hd2 (LR 0 ia ib h (by simp))
 ·exact kat_one _ _ (HT.lt_tupInts ta tb ia ib hu h)
 ·rw [keyLt'_oneType,oneLt'_eq];simp only [if_true];refine wpAny_bind (wpAny_cRoomFor hu ?_);obtain ⟨⟨cls,dd,data,sl⟩,ho,hc,n,hd⟩:=id ta;obtain ⟨⟨cls2,dd2,data2,sl2⟩,ho2,hc2,n2,hd2⟩:=id tb;simp only at hc hd hc2 hd2;subst hc hd hc2 hd2;refine wpAny_bind (wpAny_callSpecialIfBound?_slot (T:="tuple") ⟨_,ho,rfl⟩ PySem.F.slot_tuple_lt (call_meets PySem.F.slot_tuple_lt ⟨_,ho,rfl⟩ PySem.F.entry_tuple_lt (PySem.F.args_tuple_lt_2 _ _) (HT.tuple_lt_ints a b its jts n n2 dd dd2 sl sl2 ns ms ia ib) ⟨ho,ho2,?_⟩));exact wpAny_truthy_bool h
theorem Lz:∀{l:List Value} {ns:List Int},IntsAre l ns->∀{v:Value},l[0]?=some v->∃n t,v=Value.int n t
 | _,_,.nil,v,e=>by simp at e
 | _,_,.cons n t _,v,e=>⟨n,t,by simpa using e.symm⟩
theorem JP {α β:Type} {f:α->Sem β}:∀(l:List α) {R:List β->Shared->Prop},(∀v∈l,∀(Q':β->Shared->Prop),(∀r,Q' r s)->wpAny (model prog w) A (f v) Q' E s)->(∀rs,R rs s)->wpAny (model prog w) A (l.mapM f) R E s
 | [],_,_,h=>by
   rw [mapM_nil];exact wpAny_pure (h [])
 | x :: l,R,hf,h=>by
   rw [mapM_cons];exact wpAny_bind (hf x (.head _) _ fun r=>wpAny_bind (JP l (R:=fun bs s'=>wpAny (model prog w) A (pure (r :: bs)) R E s') (fun v hv=>hf v (.tail _ hv)) fun rs=>wpAny_pure (h _)))
theorem KD {l:List Value} {R:Option Value->Shared->Prop} (hf:∀v∈l,∀(Q':Value->Shared->Prop),(∀r,Q' r s)->wpAny (model prog w) A (typeOf v) Q' E s) (h:∀r,R r s):wpAny (model prog w) A (oneTypeOnly' l.toArray) R E s:=by
 rw [oneTypeOnly'_eq,mapM_toArray,map_eq_pure_bind];refine wpAny_bind (wpAny_bind (JP l hf fun rs=>wpAny_pure ?_))
 cases rs.toArray[0]? with
 | none=>exact wpAny_pure (h _)
 | some t=>exact wpAny_pure (h _)
theorem Lm {rows:List (List Int)}:∀{vs:List Value},Paired (DD s.heap) vs rows->∀{R:List (Option Value)->Shared->Prop},(∀fs,fs.length=vs.length->(∀f∈fs,∀v,f=some v->∃n t,v=Value.int n t)->R fs s) ->
 wpAny (model prog w) A (vs.mapM firstOfTuple') R E s:=by
 intro vs hp
 induction hp with
 | nil =>
   intro R h;rw [mapM_nil];exact wpAny_pure (h [] rfl (fun f m=>nomatch m))
 | cons hx hr ih =>
   intro R h;obtain ⟨a,its,rfl,⟨o,ho,hc,n,hd⟩,ia⟩:=hx;rw [mapM_cons];refine wpAny_bind ?_;rw [kas_first_eq];refine wpAny_bind (Looks.here (show Looks (model prog w) s.heap (typeOf (.ref a)) o.cls from (Looks.ld ho).andThen .now) ?_);rw [hc,if_neg (by first | decide | simp)];refine wpAny_bind (listItems_at ho hd (wpAny_pure ?_));refine wpAny_bind (ih fun fs l1 l2=>wpAny_pure (h _ (by rw [length_cons,length_cons,l1]) fun f m v e=>?_));rcases mem_cons.mp m with m | m
   ·subst m;have e':its.toList[0]?=some v:=by simpa using e
    exact Lz ia e'
   ·exact l2 f m v e
theorem N5 {vs:List Value} {rows:List (List Int)} (hp:Paired (DD s.heap) vs rows) {R:SortKind->Shared->Prop} (h:∀κ,Mb κ->R κ s):wpAny (model prog w) A (keyKind' vs.toArray) R E s:=by
 rw [kat_kind_eq,mapM_toArray,map_eq_pure_bind];refine wpAny_bind (wpAny_bind (Lm hp fun fs l1 l2=>wpAny_pure ?_));by_cases c:(fs.toArray.all fun x=>x.isSome)=true
 ·rw [if_pos c];refine wpAny_bind (wpAny_rule ?_);have e:fs.toArray.filterMap id=(fs.filterMap id).toArray:=by simp
  rw [e];refine wpAny_bind (KD (fun v hv Q' hq=>?_) fun r=>wpAny_pure (h _ (.inl ⟨_,rfl⟩)));obtain ⟨f,fm,fe⟩:=mem_filterMap.mp hv;obtain ⟨n,t,rfl⟩:=l2 f fm v fe;exact wpAny_of_eq (a:=Value.type "int") rfl (hq _)
 ·rw [if_neg c];by_cases c2:(fs.toArray[0]?.bind id).isSome=true
  ·rw [if_pos c2];exact wpAny_pure (h _ (.inr (.inl rfl)))
  ·rw [if_neg c2];refine wpAny_bind (KD (fun v hv Q' hq=>?_) fun r=>?_)
   ·obtain ⟨ns,hr⟩:∃ns,DD s.heap v ns:=by
     clear l1 l2 c c2
     induction hp with
     | nil=>cases hv
     | cons hx _ ih =>
       rcases mem_cons.mp hv with m | m
       ·exact ⟨_,m ▸ hx⟩
       ·exact ih m
    obtain ⟨a,its,rfl,⟨o,ho,hc,n,hd⟩,ia⟩:=hr;exact Looks.here (show Looks (model prog w) s.heap (typeOf (.ref a)) o.cls from (Looks.ld ho).andThen .now) (hq _)
   ·cases r with
    | none=>exact wpAny_pure (h _ (.inr (.inl rfl)))
    | some t=>exact wpAny_pure (h _ (.inr (.inr rfl)))
theorem Fy {α β:Type} {R:α->β->Prop} (d:α) (e:β):∀{xs:List α} {ys:List β},Paired R xs ys->∀i,i < xs.length->R (xs.getD i d) (ys.getD i e)
 | _,_,.nil,i,h=>absurd h (Nat.not_lt_zero _)
 | _,_,.cons r _,0,_=>r
 | _,_,.cons _ t,i+1,h=>Fy d e t i (by simpa using h)
theorem Hk (vs:List Value):(List.range vs.length).map (fun i=>vs.getD i Value.none)=vs:=by
 apply ext_getElem
 ·simp
 ·intro i h1 h2;simp [h2]
theorem DD.keep {h h':Heap} {v:Value} {ns:List Int} (x:DD h v ns) (k:∀b o,o.cls=.type "tuple"->h.get? b=some o->h'.get? b=some o):DD h' v ns:=by
 obtain ⟨a,its,rfl,⟨o,ho,hc,n,hd⟩,ia⟩:=x;exact ⟨a,its,rfl,⟨o,k a o hc ho,hc,n,hd⟩,ia⟩
theorem NG {a:Addr} {vs:List Value} {rows:List (List Int)} {n:Nat} {P:PySem.Fin->Shared->Prop} (ho:s.heap.get? a=some (seqObj "list" vs.toArray n)) (hp:Paired (DD s.heap) vs rows) (h64:vs.length < 64) (hu:A.units < cLine)
 (h:∀p:Array Nat,Prm vs.length p->Srt (O:=Qe) (fun i=>rows.getD i []) p vs.length->P (.done (.ret .none)) { s with heap:=sortedHeap s.heap a vs (List.toArray (p.toList.map fun i=>vs.getD i Value.none)) }) :
 wpAny (model prog w) A (Builtin.«list.sort» ⟨[.ref a],[]⟩) P E s:=by
 rw [list_sort_plain];have ha:a < s.heap.objs.size:=Heap.lt_size ho;refine wpAny_bind (listItems_at ho rfl ?_);refine wpAny_bind (listUpdate_at ho rfl ?_);obtain ⟨e1,ho1⟩:∃e1,(s.heap.update a (Obj.mapSeq fun _=>#[])).get? a=some (seqObj "list" #[] e1):=⟨_,get?_update_seq ho (fun _=>#[])⟩;refine wpAny_bind (seqEpoch_at ho1 rfl ?_);refine wpAny_bind (wpAny_newTuple ?_);refine wpAny_bind (wpAny_newList ?_);refine wpAny_holding ?_
 have ho6:(((s.heap.update a (Obj.mapSeq fun _=>#[])).push (seqObj "tuple" vs.toArray 0)).push (seqObj "list" #[] 0)).get? a=some (seqObj "list" #[] e1):=by
  rw [Heap.get?_push_ne _ _ _ (by rw [size_push',Heap.size_update];exact Nat.ne_of_lt (Nat.lt_succ_of_lt ha)),Heap.get?_push_ne _ _ _ (by rw [Heap.size_update];exact Nat.ne_of_lt ha)];exact ho1
 have hp6:Paired (DD (((s.heap.update a (Obj.mapSeq fun _=>#[])).push (seqObj "tuple" vs.toArray 0)).push (seqObj "list" #[] 0))) vs rows:=Paired.mapP hp fun v ns x=>x.keep fun b o hc e=>by
  have hb:b≠a:=fun z=>by
   rw [z,ho] at e
   cases e
   exact absurd (show Value.type "list"=Value.type "tuple" from hc) (by decide)
  exact Heap.get?_push_of_some _ (Heap.get?_push_of_some _ ((Heap.get?_update_other _ _ (Ne.symm hb)).trans e))
 show wpAny (model prog w) A _ P E { s with heap:=((s.heap.update a (Obj.mapSeq fun _=>#[])).push (seqObj "tuple" vs.toArray 0)).push (seqObj "list" #[] 0) };dsimp only;have hsz:vs.toArray.size=vs.length:=by simp
 by_cases h2:vs.toArray.size < 2
 ·rw [if_pos h2,if_pos h2];refine wpAny_bind (wpAny_pure ?_);rw [StateT.run_pure];refine wpAny_bind (wpAny_pure ?_);dsimp only;refine wpAny_bind (seqEpoch_at ho6 rfl ?_);refine wpAny_bind (listUpdate_at ho6 rfl ?_ (hsz2:=by rw [Array.size_map];show (pairsOf vs).size<=_;rw [pairsOf_size,sizeLine_eq];omega));simp only [bne_self_eq_false,Bool.false_eq_true,if_false]
  have hh:=h (List.range vs.length).toArray (List.Perm.refl _) (fun i j hij hj=>by
   have:i=j:=by omega
   subst this;exact KeyOrd.kle_refl _)
  rw [show (List.range vs.length).toArray.toList.map (fun i=>vs.getD i Value.none)=vs from Hk vs] at hh
  have e:(arrOf (SortSt.mk' general' (vs.toArray.zip vs.toArray) #[] 7 none)).map (·.2)=vs.toArray:=by
   show (vs.toArray.zip vs.toArray).map (·.2)=vs.toArray;apply Array.ext
   ·simp
   ·intro i h1 h2;simp
  refine wpAny_pure ?_;have hh':=hh;rw [<- e] at hh';exact hh'
 ·rw [if_neg h2,if_neg h2];refine wpAny_bind (N5 hp6 fun κ hκ=>?_)
  have ac:IZ Qe (fun i=>rows.getD i []) vs.length (kas_ask prog w A κ vs) (fun s'=>s'={ s with heap:=((s.heap.update a (Obj.mapSeq fun _=>#[])).push (seqObj "tuple" vs.toArray 0)).push (seqObj "list" #[] 0) }):=by
   intro i j C s' hi hj e k;subst e;exact QT hκ (Fy Value.none [] hp6 i hi) (Fy Value.none [] hp6 j hj) hu (k _ rfl)
  refine wpAny_bind (wpAny_mono (kat_run (ks:=vs) (vs:=vs) (Q:=fun st' s'=>∃p:Array Nat,arrOf st'=p.map (kas_item (vs.toArray.zip vs.toArray))/\failedOf st'=none/\s'={ s with heap:=((s.heap.update a (Obj.mapSeq fun _=>#[])).push (seqObj "tuple" vs.toArray 0)).push (seqObj "list" #[] 0) }/\Prm vs.length p/\Srt (O:=Qe) (fun i=>rows.getD i []) p vs.length)
   (G:=fun p s'=>s'={ s with heap:=((s.heap.update a (Obj.mapSeq fun _=>#[])).push (seqObj "tuple" vs.toArray 0)).push (seqObj "list" #[] 0) }/\Prm vs.length p/\Srt (O:=Qe) (fun i=>rows.getD i []) p vs.length)
   rfl (by omega) h64 (fun p st' s' _ a2 a3 g=>⟨p,a2,a3,g⟩) (PH ac (by omega) rfl fun p s' q1 q2 e=>⟨e,q1,q2⟩)) ?_ fun _ _ e=>e)
  rintro ⟨⟨⟩,st'⟩ s' ⟨p,har,hf,rfl,q1,q2⟩;dsimp only;have hout:=kat_snds rfl har;refine wpAny_bind (seqEpoch_at ho6 rfl ?_);rw [hout];refine wpAny_bind (listUpdate_at ho6 rfl ?_ (hsz2:=by rw [size_toArray,length_map,Array.length_toList,q1.size,sizeLine_eq];omega));rw [hf];simp only [bne_self_eq_false,Bool.false_eq_true,if_false];exact wpAny_pure (h p q1 q2)
end
section
variable {X:Cx}
theorem Jx:Ci X (.builtin "sorted") (fun xs H Q=>∃(a:Addr) (ns:List Int),xs=[.ref a]/\SqL X.K H a (ns.map V.int)/\ns.length < 64 /\
 ∀(l:Addr) (ms:List Int),ms.Perm ns->ms.Pairwise (·<=·)->H l=none->Q (.ref l) (upd H l (.lst (ms.map V.int)))):=by
 intro pins s σ H xs us Q I r h;obtain ⟨a,ns,rfl,hq,h64,q⟩:=h;obtain ⟨u,rfl,rx⟩:=DB r
 cases rx
 obtain ⟨its,rv,pl,hz⟩:=I.list hq;have hlen:=rv.length;rw [length_map] at hlen;refine sorted_ints pl.isList (BE rv) (by omega) fun out ms i1 i2 i3=>?_;obtain ⟨e,he⟩:=sortedAll_at s.heap its out;have hfr:H (s.heap.objs.size+1)=none:=I.hok.fresh (Nat.le_succ _);refine ⟨.ref _,_,I.laid (t':=s.toks) (fun b o hb=>sortedAll_old hb) (Nat.le_succ _) (show AY X.prog X.w _ _ _ (.lst (ms.map V.int)) from ⟨?_,out.toList,e,Em i1,he⟩),rfl,q _ ms i2 i3 hfr⟩;rw [length_map,i2.length_eq,sizeLine_eq];omega
theorem HL:∀as:List Addr,A8 (as.map V.ref) (as.map Value.ref)
 | []=>.nil
 | a :: as=>.cons rfl (HL as)
end
end L2
namespace L2
open PySem PySem.W PySem.Spec PyProof.Rows
noncomputable def Df (h:Heap) (d:Addr) (es:Array DictEntry) (ep:Nat):Prop:=∃o,h.get? d=some o/\o.ExactDict/\o.data=.dict es ep
theorem Df.at {h h':Heap} {d:Addr} {es:Array DictEntry} {ep:Nat} (x:Df h d es ep) (e:∀o,h.get? d=some o->h'.get? d=some o):Df h' d es ep:=let ⟨o,ho,r⟩:=x;⟨o,e _ ho,r⟩
theorem Df.lt {h:Heap} {d:Addr} {es:Array DictEntry} {ep:Nat} (x:Df h d es ep):d < h.objs.size:=let ⟨_,ho,_⟩:=x;Heap.lt_size ho
theorem Df.typeIs {s:Shared} {d:Addr} {es:Array DictEntry} {ep:Nat} (x:Df s.heap d es ep):s.TypeIs (.ref d) "dict":=let ⟨o,ho,hc,_⟩:=x;⟨o,ho,hc.1⟩
section
variable {prog:Program} {w:World} {A:Around} {E:Value->Shared->Prop} {s:Shared} {d:Addr} {es:Array DictEntry} {ep:Nat}
theorem Oe {Q:Value->Shared->Prop} (hd:(d == sysModules)=false) (hm:Df s.heap d es ep)
 (hQ:Q (.ref s.heap.objs.size) { s with heap:=s.heap.push { cls:=.type "dict_keyiterator",data:=.fields #[.ref d,.int 0 0,.int es.size 0,.int ep 0] } }):wpAny (model prog w) A (pyIter (.ref d)) Q E s:=by
 have hT:=hm.typeIs;obtain ⟨o,ho,hc,hdat⟩:=id hm;refine wpAny_pyIter_slot hT F.slot_dict_iter (wpAny_call_entry F.slot_dict_iter hT F.entry_dict_iter ?_ (F.args_dict_iter_1 _));unfold Builtin.«dict.__iter__»;refine wpAny_bind ?_;unfold Builtin.Dict.dictSlotNone;refine wpAny_bind (wpAny_notOrdered_dict hT ?_);show wpAny _ _ (pure (Value.ref d)) _ _ s;refine wpAny_pure ?_;show wpAny _ _ (Builtin.Dict.showsAll d >>= _) _ _ s;unfold Builtin.Dict.showsAll;rw [if_neg (by rw [hd];exact Bool.false_ne_true)];refine wpAny_bind (wpAny_pure ?_);refine wpAny_bind (wpAny_dictEntries ho hdat ?_);refine wpAny_bind (wpAny_dictEpoch ho hdat ?_);refine wpAny_bind (wpAny_newObj_type (wpAny_pure ⟨_,rfl,"dict_keyiterator",_,⟨_,Heap.get?_push_size _ rfl,rfl⟩,F.slot_dict_keyiterator_next.lookup,?_⟩));simpa [rawInt] using hQ
theorem OF {it:Addr} {i:Nat} {e:DictEntry} {Q:Option Value->Shared->Prop} (hit:s.heap.IsKeyIter it d i es.size ep) (hm:Df s.heap d es ep) (hx:es[i]?=some e)
 (hQ:∀h',h'.IsKeyIter it d (i+1) es.size ep->Heap.SameBut it s.heap h'->Q (some e.key) { s with heap:=h' }):wpAny (model prog w) A (pyNext (.ref it)) Q E s:=by
 obtain ⟨o,ho,hc,hd⟩:=id hit;obtain ⟨od,hod,hcd,hdd⟩:=id hm;unfold pyNext
 refine wpAny_bind (wpAny_attempt (wpAny_callSpecial?_slot (name:=Str.ofString "__next__") hit.typeIs F.slot_dict_keyiterator_next
  (wpAny_call_entry F.slot_dict_keyiterator_next hit.typeIs F.entry_dict_keyiterator_next ?_ (F.args_dict_keyiterator_next_1 _))))
 refine wpAny_bind (wpAny_pure ?_);refine wpAny_bind ?_;refine wpAny_bind ?_
 first | refine wpAny_bind (wpAny_typeNameOfWhole_keyiter hit.typeIs (wpAny_pure ?_)) | refine wpAny_bind (wpAny_typeNameOf_keyiter hit.typeIs (wpAny_pure ?_))
 refine wpAny_bind (wpAny_fieldsOf ho hd ?_);have hown:Builtin.Dict_items.ownsTuple "dict_keyiterator"=false:=by decide
 simp only [hown,Bool.false_eq_true,if_false];show wpAny _ _ (if (Value.ref d == Value.none)=true then _ else _) _ _ s;rw [if_neg (show ¬ ((Value.ref d == Value.none)=true) from Bool.false_ne_true)];refine wpAny_bind (wpAny_pure ?_);refine wpAny_bind (wpAny_dictEntries hod hdd ?_);rw [if_neg (by simp)];refine wpAny_bind (wpAny_pure ?_);refine wpAny_bind (wpAny_dictEpoch hod hdd ?_);rw [if_neg (by simp)];refine wpAny_pure ?_;simp only [show ¬ ((i:Int) < 0) from by omega,if_false,Int.toNat_natCast,hx];refine wpAny_bind ?_
 first | refine wpAny_bind (wpAny_typeNameOfWhole_keyiter hit.typeIs (wpAny_pure ?_)) | refine wpAny_bind (wpAny_typeNameOf_keyiter hit.typeIs (wpAny_pure ?_))
 refine wpAny_bind (wpAny_isOneOf_keyiter hit.typeIs ?_);show wpAny _ _ (setField (.ref it) 1 (rawInt ((i:Int)+1)) >>= _) _ _ s;refine wpAny_bind (wpAny_setField ho hd (by simp) ?_)
 have hit':(s.heap.update it (Obj.mapFields (·.setIfInBounds 1 (rawInt ((i:Int)+1))))).IsKeyIter it d (i+1) es.size ep :=
  ⟨_,Heap.get?_update_self _ ho (Obj.isFreed_of_fields (Obj.data_mapFields hd _)),(Obj.cls_mapFields ..).trans hc,by rw [Obj.data_mapFields hd];simp [rawInt]⟩
 refine wpAny_bind (wpAny_holding ?_);refine wpAny_bind (wpAny_isOneOf_keyiter (s:={ s with heap:=s.heap.update it (Obj.mapFields (·.setIfInBounds 1 (rawInt ((i:Int)+1)))) }) hit'.typeIs ?_);show wpAny _ _ (pure e.key) _ _ _;exact wpAny_pure (wpAny_pure ⟨_,rfl,wpAny_pure (hQ _ hit' (Heap.SameBut.update ..))⟩)
theorem PX {it:Addr} {i:Nat} {Q:Option Value->Shared->Prop} (hh:A.handled=none) (hit:s.heap.IsKeyIter it d i es.size ep) (hm:Df s.heap d es ep) (hx:es.size<=i)
 (hQ:∀h',Heap.ExtBut it s.heap h'->Q none { s with heap:=h' }):wpAny (model prog w) A (pyNext (.ref it)) Q E s:=by
 obtain ⟨o,ho,hc,hd⟩:=id hit;obtain ⟨od,hod,hcd,hdd⟩:=id hm;unfold pyNext
 refine wpAny_bind (wpAny_attempt (wpAny_callSpecial?_slot (name:=Str.ofString "__next__") hit.typeIs F.slot_dict_keyiterator_next
  (wpAny_call_entry F.slot_dict_keyiterator_next hit.typeIs F.entry_dict_keyiterator_next ?_ (F.args_dict_keyiterator_next_1 _))))
 refine wpAny_bind (wpAny_pure ?_);refine wpAny_bind ?_;refine wpAny_bind ?_
 first | refine wpAny_bind (wpAny_typeNameOfWhole_keyiter hit.typeIs (wpAny_pure ?_)) | refine wpAny_bind (wpAny_typeNameOf_keyiter hit.typeIs (wpAny_pure ?_))
 refine wpAny_bind (wpAny_fieldsOf ho hd ?_);have hown:Builtin.Dict_items.ownsTuple "dict_keyiterator"=false:=by decide
 simp only [hown,Bool.false_eq_true,if_false];show wpAny _ _ (if (Value.ref d == Value.none)=true then _ else _) _ _ s;rw [if_neg (show ¬ ((Value.ref d == Value.none)=true) from Bool.false_ne_true)];refine wpAny_bind (wpAny_pure ?_);refine wpAny_bind (wpAny_dictEntries hod hdd ?_);rw [if_neg (by simp)];refine wpAny_bind (wpAny_pure ?_);refine wpAny_bind (wpAny_dictEpoch hod hdd ?_);rw [if_neg (by simp)];refine wpAny_pure ?_;simp only [show ¬ ((i:Int) < 0) from by omega,if_false,Int.toNat_natCast,Array.getElem?_eq_none hx];refine wpAny_bind ?_
 first | refine wpAny_bind (wpAny_typeNameOfWhole_keyiter hit.typeIs (wpAny_pure ?_)) | refine wpAny_bind (wpAny_typeNameOf_keyiter hit.typeIs (wpAny_pure ?_))
 show wpAny _ _ (setField (.ref it) 0 .none >>= _) _ _ s;refine wpAny_bind (wpAny_setField ho hd (by simp) ?_);show wpAny _ _ (newExc (.type "StopIteration") [] >>= _) _ _ _;refine wpAny_bind ?_;simp only [newExc,newTuple];refine wpAny_bind (wpAny_newObj_type ?_ (by size_fits));refine wpAny_bind (m:=firstArgMember _ _) (wpAny_of_eq (a:=Value.none) (by first | rfl | (simp only [firstArgMember];rfl)) ?_);refine wpAny_newObj_type ?_ (by size_fits);simp only [raiseNew];refine wpAny_bind (wpAny_handled ?_);rw [show A.in1.handled=none from hh];refine wpAny_bind (wpAny_pure (wpAny_throw ?_));refine wpAny_bind (wpAny_isInstance (T:="StopIteration") (b:=true) ⟨_,Heap.get?_push_size _ rfl,rfl⟩ isSubtype_stop ?_);exact wpAny_pure (hQ _ (((Heap.SameBut.update ..).extBut.push _).push _))
theorem MD (hh:A.handled=none) (I:Addr) (hne:d≠I):Walks prog w A I [I,d] [I] es.size (fun i v=>∃e,es[i]?=some e/\v=e.key) (fun i h=>h.IsKeyIter I d i es.size ep/\Df h d es ep) where
 sub:=fun b hb=>by simp at hb;simp [hb]
 frame:=fun _ _ _ st hk=>⟨st.1.at fun o e=>hk I (by simp) o e,st.2.at fun o e=>hk d (by simp) o e⟩
 item:=fun i s Q E hi st hQ=>by
  obtain ⟨e,hx⟩:∃e,es[i]?=some e:=⟨es[i],by simp [hi]⟩;refine OF st.1 st.2 hx fun h' hit' hs'=>?_;exact hQ e.key h' s.toks ⟨e,hx,rfl⟩ ⟨hit',st.2.at fun o q=>hs'.extBut d o hne q⟩ fun b o hb q=>hs'.extBut b o (fun h=>hb (by simp [h])) q
 done:=fun s Q E st hQ=>PX hh st.1 st.2 (Nat.le_refl _) fun h' he'=>hQ h' s.toks fun b o hb q=>he' b o (fun h=>hb (by simp [h])) q
 self:=fun _ _ _ _ st hQ=>wpAny_pyIter_keyiter st.1 hQ
theorem Po (lo:(d == sysModules)=false):KdlSrc prog w "dict" d d es.size (fun i v=>∃e,es[i]?=some e/\v=e.key) (fun h=>Df h d es ep) where
 type:=fun _ hm=>hm.typeIs
 there:=fun _ hm=>⟨hm.lt,hm.lt⟩
 keep:=fun _ _ hm hk=>hm.at fun o e=>hk d (.inl rfl) o e
 notList:=by decide
 notTuple:=by decide
 hint:=fun _ _ _ _ hm hq=>kdl_hint_dict hm.typeIs hq
 iter:=fun _ s hh hm=>⟨_,_,(fun _ _ hq=>Oe lo hm hq),MD hh _ (Nat.ne_of_lt hm.lt),⟨⟨_,Heap.get?_push_size _ rfl,rfl,rfl⟩,hm.at fun o e=>Heap.get?_push_of_some _ e⟩⟩
theorem OS {acc:Array Value} (h:ItemsOf (fun i v=>∃e,es[i]?=some e/\v=e.key) acc es.size):acc=es.map (·.key):=by
 obtain ⟨h1,h2⟩:=h;apply Array.ext
 ·simpa using h1
 ·intro i hi hj;obtain ⟨e,he,hk⟩:=h2 i acc[i] (by simp [hi]);have hi':i < es.size:=by omega
  rw [Array.getElem?_eq_getElem hi'] at he;rw [hk,Array.getElem_map,Option.some.inj he]
theorem KJ {R:List Value->Shared->Prop} (lo:(d == sysModules)=false) (hm:Df s.heap d es ep) (hh:A.handled=none) (hn:es.size<=sizeLine)
 (h:∀(h':Heap) (tk:Nat),(∀b o,s.heap.get? b=some o->h'.get? b=some o)->s.heap.objs.size < h'.objs.size->R (es.toList.map (·.key)) { s with heap:=h',toks:=tk }) :
 wpAny (model prog w) A (collect (.ref d)) R E s:=by
 have hlt:=hm.lt;unfold collect;refine wpAny_bind (wpAny_runValue (codeAny_builtin entry_proto_collect' ?_));rw [Around.under_plainId PySem.F.plain_proto_collect _];show wpAny _ A.in1 (newList [] >>= fun l=>again (.builtin "list.__iadd__" ⟨[l,.ref d],[]⟩)) _ _ s;refine wpAny_bind (wpAny_newObj_type ?_);refine wpAny_pure ⟨plainId_quiet PySem.F.plain_list_iadd _,codeAny_builtin entry_list_iadd' ?_⟩;rw [Around.under_plainId PySem.F.plain_list_iadd _];have hS₁:(s.heap.push { cls:=.type "list",data:=.seq ([]:List Value).toArray }).get? s.heap.objs.size=some { cls:=.type "list",data:=.seq #[] }:=Heap.get?_push_size _ rfl;show wpAny _ A.in1 (Builtin.List.listExtendWith (.ref s.heap.objs.size) (.ref d) (.ref s.heap.objs.size)) _ _ _
 have key:=kdl_extend (A:=A) (s:={ s with heap:=s.heap.push { cls:=.type "list",data:=.seq ([]:List Value).toArray } })
  (R:=fun (q:Result) (s':Shared)=>∃(h':Heap) (tk c':Nat),q=.ok (.ret (.ref s.heap.objs.size))/\s'={ s with heap:=h',toks:=tk } /\
   (∀b o,s.heap.get? b=some o->h'.get? b=some o)/\h'.get? s.heap.objs.size=some { cls:=.type "list",dict:=none,data:=.seq (es.map (·.key)) c',slots:=#[] })
  (Po (prog:=prog) (w:=w) (es:=es) (ep:=ep) lo) hh (hm.at fun o e=>Heap.get?_push_of_some _ e) s.heap.objs.size (Nat.ne_of_gt hlt) (Nat.ne_of_gt hlt) (.ref s.heap.objs.size) 0 hS₁
  (fun h' tk acc' c' hk hS' hacc=>⟨h',tk,c',rfl,rfl,fun b o e=>hk b o (Nat.ne_of_lt (Heap.lt_size e)) (Heap.get?_push_of_some _ e),by rw [<- OS hacc];exact hS'⟩) hn
 refine wpAny_mono key (fun fin s' x=>?_) fun e s' x=>?_
 ·cases fin with
  | done f =>
    obtain ⟨h',tk,c',e,rfl,hk,hS'⟩:=x
    cases e
    show wpAny _ A (load s.heap.objs.size >>= _) _ _ _;refine wpAny_bind (wpAny_load hS' ?_);have:=h h' tk hk (Heap.lt_size hS');rw [<- Array.toList_map] at this;exact wpAny_pure this
  | again c₁ =>
    refine ⟨x.1,codeAny_mono x.2 fun q s₂ y=>?_⟩;obtain ⟨h',tk,c',rfl,rfl,hk,hS'⟩:=y;show wpAny _ A (load s.heap.objs.size >>= _) _ _ _;refine wpAny_bind (wpAny_load hS' ?_);have:=h h' tk hk (Heap.lt_size hS');rw [<- Array.toList_map] at this;exact wpAny_pure this
 ·obtain ⟨_,_,_,e',_⟩:=x
  cases e'
theorem FU {vs:List Value} (lo:(d == sysModules)=false) (hm:Df s.heap d es ep) (hz:es.size < 64) (hh:A.handled=none) (hv:es.toList.map (·.key)=vs) {R:Value->Shared->Prop}
 (h:∀(h':Heap) (tk:Nat) (a:Addr),(∀b o,s.heap.get? b=some o->h'.get? b=some o/\b≠a)->s.heap.objs.size<=a->h'.get? a=some (seqObj "list" vs.toArray 0) ->
  wpAny (model prog w) A.in1.in1 (Builtin.«list.sort» ⟨[.ref a],[]⟩) (fun fin s'=>∃v,fin=.done (.ret v)/\R (.ref a) s') E { s with heap:=h',toks:=tk }) :
 wpAny (model prog w) A (call (.builtin "sorted") [.ref d]) R E s:=by
 refine Calls.call_function_entry kind_sorted plain_sorted entry_sorted (args_sorted1 _) ?_;unfold Builtin.«sorted»;refine wpAny_bind (m:=checkCount "sorted" 1 1 _) (wpAny_pure ?_);refine wpAny_bind (KJ (A:=A.in1) lo hm hh (by rw [sizeLine_eq];omega) fun h' tk hk ge=>?_);rw [hv];have hl:vs.length < 64:=by rw [<- hv,length_map,Array.length_toList];exact hz
 refine wpAny_bind (wpAny_newList ?_ (by rw [sizeLine_eq];omega));have ho:(h'.push (seqObj "list" vs.toArray 0)).get? h'.objs.size=some (seqObj "list" vs.toArray 0):=Heap.get?_push_size _ rfl;refine wpAny_bind (wpAny_holding (wpAny_call_entry slot_list_sort ⟨_,ho,rfl⟩ entry_list_sort ?_ (args_list_sort _)));refine wpAny_mono (h _ tk h'.objs.size (fun b o e=>⟨Heap.get?_push_of_some _ (hk b o e),Nat.ne_of_lt (Heap.lt_size (hk b o e))⟩) (Nat.le_of_lt ge) ho) (fun fin s' x=>?_) fun _ _ x=>x;obtain ⟨v,rfl,q⟩:=x;exact ⟨_,rfl,wpAny_pure ⟨_,rfl,q⟩⟩
end
section
variable {X:Cx}
theorem PQ {H:Hp}:∀{kvs:List (List Key × V)} {xs:List (List Key × Addr × Value)} {ks:List (List Int)},KT H kvs xs->kvs.map (·.1)=ks.map (List.map Sum.inl) ->
 ∃qs:List (Addr × List Int),xs.map (fun x=>Value.ref x.2.1)=(qs.map (·.1)).map Value.ref/\qs.map (·.2)=ks/\∀q∈qs,H q.1=some (.tup (q.2.map V.int)):=by
 intro kvs xs ks r
 induction r generalizing ks with
 | nil =>
   intro e
   cases ks with
   | nil=>exact ⟨[],rfl,rfl,fun _ m=>nomatch m⟩
   | cons _ _=>cases e
 | @cons p q ps qr hq t ih =>
   intro e
   cases ks with
   | nil=>cases e
   | cons k ks =>
     injection e with e1 e2
     obtain ⟨qs,a1,a2,a3⟩:=ih e2;refine ⟨(q.2.1,k) :: qs,?_,?_,fun x m=>?_⟩
     ·rw [map_cons,a1];rfl
     ·rw [map_cons,a2]
     ·rcases mem_cons.mp m with m | m
      ·subst m;have h:=hq.2.1;have e1':p.1=k.map Sum.inl:=e1;rw [e1',map_map] at h;exact h
      ·exact a3 x m
theorem Hw (hc:X.calm=true) (hu:X.A.units+64 < cLine):Ci X (.builtin "sorted") (fun xs H Q=>∃(d:Addr) (kvs:List (List Key × V)) (ks:List (List Int)),xs=[.ref d]/\Rd H d (.dT kvs)/\kvs.map (·.1)=ks.map (List.map Sum.inl)/\ks.length < 64 /\
 ∀(l:Addr) (rs:List (Addr × List Int)),(∀q∈rs,H q.1=some (.tup (q.2.map V.int)))->(rs.map (·.2)).Perm ks->rs.Pairwise (fun x y=>HT.lexLt y.2 x.2=false)->H l=none->Q (.ref l) (upd H l (.lst (rs.map fun q=>V.ref q.1)))):=by
 intro pins s σ H xs us Q I r h;obtain ⟨d,kvs,ks,rfl,hd,hks,h64,q⟩:=h;obtain ⟨u,rfl,rx⟩:=DB r
 cases rx
 obtain ⟨_,lo,xs,kt,o,es,ep,h1,h2,h3,h4,_,_⟩:=IA I.hok hd;obtain ⟨qs,b1,b2,b3⟩:=PQ kt hks
 have hv:es.toList.map (·.key)=(qs.map (·.1)).map Value.ref:=by
  rw [h4,map_map,<- b1];rfl
 have hql:qs.length=ks.length:=by rw [<- b2,length_map]
 have hes:es.size=qs.length:=by
  have:=congrArg List.length hv;simpa using this
 have hp:Paired (DD s.heap) ((qs.map (·.1)).map Value.ref) (qs.map (·.2)):=by
  clear hv hql hes b1 b2
  induction qs with
  | nil=>exact .nil
  | cons q0 qr ih =>
    refine .cons ?_ (ih fun q m=>b3 q (mem_cons_of_mem _ m));obtain ⟨jts,rj,tj,_⟩:=I.tuple (SqT.of (b3 q0 (mem_cons_self ..)));exact ⟨q0.1,jts.toArray,rfl,tj,by simpa using BE rj⟩
 refine FU lo ⟨o,h1,h2,h3⟩ (by omega) (I.ok.hd hc) hv fun h' tk a kp ge ho=>?_;have hp':Paired (DD h') ((qs.map (·.1)).map Value.ref) (qs.map (·.2)):=Paired.mapP hp fun v ns x=>x.keep fun b o _ e=>(kp b o e).1;have ll:((qs.map (·.1)).map Value.ref).length=qs.length:=by rw [length_map,length_map]
 refine NG (s:={ s with heap:=h',toks:=tk }) ho hp' (by omega) (by show X.A.units+1+1 < cLine;omega) fun p a1 a2=>⟨_,rfl,?_⟩;obtain ⟨e,he⟩:=sortedHeap_at (out:=List.toArray (p.toList.map fun i=>((qs.map (·.1)).map Value.ref).getD i Value.none)) ho;have hfr:H a=none:=I.hok.fresh ge;have hps:=a1.size
 have lt:∀i∈p.toList,i < qs.length:=fun i m=>by
  have:=mem_range.mp (a1.mem_iff.mp m);omega
 let rs:=p.toList.map fun i=>qs.getD i (0,[])
 have eo:(p.toList.map fun i=>((qs.map (·.1)).map Value.ref).getD i Value.none)=(rs.map (·.1)).map Value.ref:=by
  show _=((p.toList.map fun i=>qs.getD i (0,[])).map (·.1)).map Value.ref;simp only [map_map];refine map_congr_left fun i m=>?_;have hi:=lt i m;simp [hi]
 rw [eo] at he ⊢
 have pm:rs.Perm qs:=by
  have e1:(List.range ((qs.map (·.1)).map Value.ref).length).map (fun i=>qs.getD i ((0:Addr),([]:List Int)))=qs:=by
   rw [ll];apply ext_getElem
   ·simp
   ·intro i h1 h2;simp [h2]
  have:=List.Perm.map (fun i=>qs.getD i ((0:Addr),([]:List Int))) a1;rw [e1] at this;exact this
 refine ⟨.ref _,_,I.laid (t':=tk) (fun b o hb=>?_) ge (show AY X.prog X.w _ _ _ (.lst (rs.map fun q=>V.ref q.1)) from ⟨?_,(rs.map (·.1)).map Value.ref,e,?_,he⟩),rfl,q _ rs (fun q m=>b3 q (pm.mem_iff.mp m)) (by rw [<- b2];exact pm.map _) ?_ hfr⟩
 ·obtain ⟨k1,k2⟩:=kp b o hb;rw [sortedHeap_old k2 (Heap.lt_size k1)];exact k1
 ·rw [length_map,pm.length_eq,sizeLine_eq];omega
 ·have:=HL (rs.map (·.1));rw [map_map] at this;exact this
 ·rw [pairwise_iff_getElem];intro i j hi hj hij;have hi':i < p.size:=by simpa [rs] using hi
  have hj':j < p.size:=by simpa [rs] using hj
  have g:=a2 i j (by omega) (by omega)
  have gi:(qs.map (·.2)).getD (p.getD i 0) []=(rs[i]).2:=by
   have l1:=lt p[i] (by simp);simp [rs,Array.getD,hi',l1]
  have gj:(qs.map (·.2)).getD (p.getD j 0) []=(rs[j]).2:=by
   have l1:=lt p[j] (by simp);simp [rs,Array.getD,hj',l1]
  have g2:HT.lexLt ((qs.map (·.2)).getD (p.getD j 0) []) ((qs.map (·.2)).getD (p.getD i 0) [])=false:=g;rw [gi,gj] at g2;exact g2
theorem NC {P:Program} {w:World} {kvs:List (Key × V)} {vs:List (Key × Value)} (r:KV kvs vs):∀{es:List DictEntry} {ns:List Int},Pairs (Bu P w) es vs->kvs.map (·.1)=ns.map Sum.inl->IntsAre (es.map (·.key)) ns:=by
 intro es ns hp e;rw [r.keys] at e;clear r
 induction hp generalizing ns with
 | nil =>
   cases ns with
   | nil=>exact .nil
   | cons _ _=>cases e
 | @cons ent kv es' vs' h _ t ih =>
   cases ns with
   | nil=>cases e
   | cons n ns =>
     injection e with e1 e2
     have e1':kv.1=Sum.inl n:=e1;have hk:=h;rw [e1'] at hk;rcases Bf (show Hh (Sum.inl n) ent.key=true from hk) with ⟨i,t',a,b⟩ | ⟨x,t',a,_⟩
     ·cases a
      rw [map_cons,b];exact .cons n t' (ih e2)
     ·cases a
theorem HB (hc:X.calm=true):Ci X (.builtin "sorted") (fun xs H Q=>∃(d:Addr) (kvs:List (Key × V)) (ns:List Int),xs=[.ref d]/\Rd H d (.dK kvs)/\kvs.map (·.1)=ns.map Sum.inl/\ns.length < 64 /\
 ∀(l:Addr) (ms:List Int),ms.Perm ns->ms.Pairwise (·<=·)->H l=none->Q (.ref l) (upd H l (.lst (ms.map V.int)))):=by
 intro pins s σ H xs us Q I r h;obtain ⟨d,kvs,ns,rfl,hd,hks,h64,q⟩:=h;obtain ⟨u,rfl,rx⟩:=DB r
 cases rx
 obtain ⟨_,lo,vs,kv,o,es,ep,h1,h2,h3,h4,h5,_⟩:=HW I.hok hd;have hi:=NC kv h5 hks;have hl:=hi.length;have hes:es.size=ns.length:=by simpa using hl
 refine FU lo ⟨o,h1,h2,h3⟩ (by omega) (I.ok.hd hc) rfl fun h' tk a kp ge ho=>?_;refine list_sort_tree (s:={ s with heap:=h',toks:=tk }) ho hi (by rw [hl];exact h64) fun out ms i1 i2 i3=>⟨_,rfl,?_⟩;obtain ⟨e,he⟩:=sortedHeap_at (out:=out) ho;have hfr:H a=none:=I.hok.fresh ge;refine ⟨.ref _,_,I.laid (t':=tk) (fun b o hb=>?_) ge (show AY X.prog X.w _ _ _ (.lst (ms.map V.int)) from ⟨?_,out.toList,e,Em i1,he⟩),rfl,q _ ms i2 i3 hfr⟩
 ·obtain ⟨k1,k2⟩:=kp b o hb;rw [sortedHeap_old k2 (Heap.lt_size k1)];exact k1
 ·rw [length_map,i2.length_eq,sizeLine_eq];omega
theorem FI (hc:X.calm=true):Ci X (.builtin "max") (fun xs H Q=>∃(a:Addr) (ns:List Int),xs=[.ref a]/\SqL X.K H a (ns.map V.int)/\0 < ns.length/\∀M,M∈ns->(∀z∈ns,z<=M)->Q (.int M) H):=by
 intro pins s σ H xs us Q I r h;obtain ⟨a,ns,rfl,hq,hne,q⟩:=h;obtain ⟨u,rfl,rx⟩:=DB r
 cases rx
 obtain ⟨its,rv,pl,hz⟩:=I.list hq;have hi:=BE rv;obtain ⟨xs,e⟩:=hi.allInts.items
 have hns:ns=xs.toList.map (·.1):=by
  rw [<- hi.numsOf,<- nums_intItems,<- e]
 have hsz:0 < xs.size:=by
  have h3:=hne;rw [hns,length_map,Array.length_toList] at h3;exact h3
 have hl:=pl.isList;rw [e] at hl;refine max_intList (I.ok.hd hc) hl hsz fun v h' tk hv hk=>?_;obtain ⟨t,rfl⟩:=intItems_at hv;obtain ⟨_,h2⟩:=argBest_gt (numAt xs) (xs.size - 1);refine ⟨.int _,H,I.kept hk,⟨t,rfl⟩,q _ ?_ fun z m=>?_⟩
 ·rw [hns,numAt_eq];exact getD_mem (by rw [length_map,Array.length_toList];omega)
 ·rw [hns] at m;obtain ⟨j,hj,rfl⟩:=mem_getD m;rw [length_map,Array.length_toList] at hj;rw [<- numAt_eq];exact h2 j (by omega)
theorem Eh (hc:X.calm=true):Ci X (.builtin "min") (fun xs H Q=>∃(a:Addr) (ns:List Int),xs=[.ref a]/\SqL X.K H a (ns.map V.int)/\0 < ns.length/\∀M,M∈ns->(∀z∈ns,M<=z)->Q (.int M) H):=by
 intro pins s σ H xs us Q I r h;obtain ⟨a,ns,rfl,hq,hne,q⟩:=h;obtain ⟨u,rfl,rx⟩:=DB r
 cases rx
 obtain ⟨its,rv,pl,hz⟩:=I.list hq;have hi:=BE rv;obtain ⟨xs,e⟩:=hi.allInts.items
 have hns:ns=xs.toList.map (·.1):=by
  rw [<- hi.numsOf,<- nums_intItems,<- e]
 have hsz:0 < xs.size:=by
  have h3:=hne;rw [hns,length_map,Array.length_toList] at h3;exact h3
 have hl:=pl.isList;rw [e] at hl;refine min_intList (I.ok.hd hc) hl hsz fun v h' tk hv hk=>?_;obtain ⟨t,rfl⟩:=intItems_at hv;obtain ⟨_,h2⟩:=argBest_lt (numAt xs) (xs.size - 1);refine ⟨.int _,H,I.kept hk,⟨t,rfl⟩,q _ ?_ fun z m=>?_⟩
 ·rw [hns,numAt_eq];exact getD_mem (by rw [length_map,Array.length_toList];omega)
 ·rw [hns] at m;obtain ⟨j,hj,rfl⟩:=mem_getD m;rw [length_map,Array.length_toList] at hj;rw [<- numAt_eq];exact h2 j (by omega)
end
end L2
namespace L2
open PySem
noncomputable def Ris (xs:Array Nat):Prop:=∀i j,i < j->j < xs.size->xs.getD i 0 < xs.getD j 0
theorem Kb {xs:Array Nat} {i:Nat} (h:i < xs.size) (a b:Nat):xs.getD i a=xs.getD i b:=by
 simp [Array.getD,h]
theorem G5 {xs:Array Nat} (hr:Ris xs) (j:Nat):∀(f lo hi:Nat),lo<=hi->hi<=xs.size->hi - lo<=f->(∀i,i < lo->xs.getD i 0 < j)->(∀i,hi<=i->i < xs.size->j<=xs.getD i 0) ->
 SetTable.below.go xs j f lo hi<=xs.size/\(∀i,i < SetTable.below.go xs j f lo hi->xs.getD i 0 < j)/\∀i,SetTable.below.go xs j f lo hi<=i->i < xs.size->j<=xs.getD i 0
 | 0,lo,hi,h1,h2,h3,h4,h5=>by
   have:lo=hi:=by omega
   subst this;exact ⟨h2,h4,h5⟩
 | f+1,lo,hi,h1,h2,h3,h4,h5=>by
   unfold SetTable.below.go;by_cases c:lo < hi
   ·rw [if_pos c];dsimp only;have hm:(lo+hi) / 2 < xs.size:=by omega
    by_cases c2:xs.getD ((lo+hi) / 2) j < j
    ·rw [if_pos c2];refine G5 hr j f _ hi (by omega) h2 (by omega) (fun i hi'=>?_) h5;rw [Kb hm j 0] at c2;by_cases e:i=(lo+hi) / 2
     ·rw [e];exact c2
     ·exact Nat.lt_trans (hr i ((lo+hi) / 2) (by omega) hm) c2
    ·rw [if_neg c2];refine G5 hr j f lo _ (by omega) (by omega) (by omega) h4 (fun i a b=>?_);rw [Kb hm j 0] at c2;by_cases e:i=(lo+hi) / 2
     ·rw [e];omega
     ·have:=hr ((lo+hi) / 2) i (by omega) b;omega
   ·rw [if_neg c];have:lo=hi:=by omega
    subst this;exact ⟨h2,h4,h5⟩
theorem N9 {xs:Array Nat} (hr:Ris xs) (j:Nat):SetTable.below xs j<=xs.size/\(∀i,i < SetTable.below xs j->xs.getD i 0 < j)/\∀i,SetTable.below xs j<=i->i < xs.size->j<=xs.getD i 0 :=
 G5 hr j xs.size 0 xs.size (Nat.zero_le _) (Nat.le_refl _) (by omega) (fun i h=>absurd h (Nat.not_lt_zero _)) (fun i a b=>absurd a (by omega))
theorem KG {α:Type} {xs:Array α} {p:Nat} (hp:p<=xs.size) (x:α):(SetTable.insertAt xs p x).size=xs.size+1:=by
 unfold SetTable.insertAt;simp;omega
theorem FM {xs:Array Nat} {p:Nat} (hp:p<=xs.size) (x i:Nat):(SetTable.insertAt xs p x).getD i 0=if i < p then xs.getD i 0 else if i=p then x else xs.getD (i - 1) 0:=by
 unfold SetTable.insertAt;rw [Array.getD_eq_getD_getElem?,Array.getElem?_append];by_cases c:i < p
 ·rw [if_pos c,if_pos (by simp;omega),Array.getElem?_push];rw [if_neg (by simp;omega),Array.getElem?_extract];rw [if_pos (by omega),Array.getD_eq_getD_getElem?];simp
 ·rw [if_neg c];by_cases c2:i=p
  ·subst c2;rw [if_pos rfl,if_pos (by simp;omega),Array.getElem?_push,if_pos (by simp;omega)];rfl
  ·rw [if_neg c2,if_neg (by simp;omega),Array.getElem?_extract,Array.getD_eq_getD_getElem?];have e:((xs.extract 0 p).push x).size=p+1:=by simp;omega
   rw [e];by_cases c3:i - (p+1) < min xs.size xs.size - p
   ·rw [if_pos c3]
    congr 2
    omega
   ·rw [if_neg c3,Array.getElem?_eq_none (by omega)]
theorem Ris.put {xs:Array Nat} (hr:Ris xs) {j:Nat} (hj:xs[SetTable.below xs j]?≠some j):Ris (SetTable.insertAt xs (SetTable.below xs j) j):=by
 obtain ⟨h0,h1,h2⟩:=N9 hr j;intro a b hab hb;rw [KG h0] at hb;rw [FM h0,FM h0];generalize hp:SetTable.below xs j=p at *
 have gt:∀i,p<=i->i < xs.size->j < xs.getD i 0:=fun i a b=>by
  have l:=h2 i a b;by_cases e:i=p
  ·subst e;have:xs.getD i 0≠j:=fun z=>hj (by simp [Array.getD,b] at z;simp [b,z]);omega
  ·have:=h2 p (Nat.le_refl _) (by omega);have:=hr p i (by omega) b;omega
 by_cases ca:a < p
 ·rw [if_pos ca];by_cases cb:b < p
  ·rw [if_pos cb];exact hr a b hab (by omega)
  ·rw [if_neg cb];by_cases cb2:b=p
   ·rw [if_pos cb2];exact h1 a ca
   ·rw [if_neg cb2];exact hr a (b - 1) (by omega) (by omega)
 ·rw [if_neg ca];by_cases ca2:a=p
  ·rw [if_pos ca2,if_neg (show ¬ b < p by omega),if_neg (show ¬ b=p by omega)];exact gt (b - 1) (by omega) (by omega)
  ·rw [if_neg ca2,if_neg (show ¬ b < p by omega),if_neg (show ¬ b=p by omega)];exact hr (a - 1) (b - 1) (by omega) (by omega)
theorem Nw (n:Nat):Ris (Array.range n):=fun i j hij hj=>by
 have hj':j < n:=by simpa using hj
 have hi':i < n:=by omega
 simp [Array.getD,hj',hi'];exact hij
theorem Gg {l:List Nat} (h:l.Pairwise (· < ·)):Ris l.toArray:=fun i j hij hj=>by
 have hj':j < l.length:=by simpa using hj
 have hi':i < l.length:=by omega
 have:=pairwise_iff_getElem.mp h i j hi' hj' hij;simpa [Array.getD,hj',hi'] using this
theorem KZ {owner:Array (Option Nat)} (n:Nat):(((List.range n).filterMap fun j=>(owner.getD j none).map (j,·)).map (·.1)).Pairwise (· < ·):=by
 rw [pairwise_map,pairwise_filterMap];refine List.Pairwise.imp ?_ pairwise_lt_range;intro a b hab x hx y hy
 cases e1:owner.getD a none with
 | none=>rw [e1] at hx;cases hx
 | some u =>
   cases e2:owner.getD b none with
   | none=>rw [e2] at hy;cases hy
   | some v =>
     rw [e1] at hx;rw [e2] at hy
     cases hx
     cases hy
     exact hab
theorem Qk {mask finger moves:Nat} {led plain:Bool} {hashes:Array Int} {t:SetTable} {order:Array Nat} (h:SetTable.laid mask finger moves led plain hashes=some (t,order)):Ris t.place/\t.led=led:=by
 unfold SetTable.laid at h
 cases e:SetTable.layClean mask hashes with
 | none=>rw [e] at h;cases h
 | some owner =>
   rw [e] at h
   cases h
   exact ⟨Gg (KZ _),rfl⟩
theorem EH {t:SetTable} {f:Nat->Int} {hv:Int}:∀(n:Nat) (p:SetTable.Probe) {j:Nat} {du:Option Nat},(∀d,p.dummy=some d->t.place[SetTable.below t.place d]?≠some d) ->
 SetTable.probe.go t f hv n p=some (.empty j du)->(∀d,du=some d->t.place[SetTable.below t.place d]?≠some d)/\t.place[SetTable.below t.place j]?≠some j
 | 0,p,j,du,hd,e=>by cases e
 | n+1,p,j,du,hd,e=>by
   unfold SetTable.probe.go at e;by_cases c:t.place[SetTable.below t.place p.j]?=some p.j
   ·have es:t.slot p.j=.live (SetTable.below t.place p.j):=by
     unfold SetTable.slot;simp [c]
    rw [es] at e;dsimp only at e;by_cases c2:(f (SetTable.below t.place p.j) == hv)=true
    ·rw [if_pos c2] at e;cases e
    ·rw [if_neg c2] at e;refine EH n _ ?_ e;unfold SetTable.advance;by_cases c3:p.more > 0
     ·rw [if_pos c3];exact hd
     ·rw [if_neg c3];exact hd
   ·by_cases c4:SetTable.has t.dummies p.j=true
    ·have es:t.slot p.j=.dummy:=by
      unfold SetTable.slot;simp [c,c4]
     rw [es] at e;dsimp only at e;refine EH n _ ?_ e
     have k:∀d,some p.j=some d->t.place[SetTable.below t.place d]?≠some d:=fun d z=>by
      cases z
      exact c
     unfold SetTable.advance;by_cases c3:p.more > 0
     ·rw [if_pos c3];exact k
     ·rw [if_neg c3];exact k
    ·have es:t.slot p.j=.empty:=by
      unfold SetTable.slot;simp [c,c4]
     rw [es] at e
     cases e
     exact ⟨hd,c⟩
theorem Qc {t:SetTable} {hv:Int} {slot:Nat} {b:Bool} (h:t.freeSlot hv=some (slot,b)):t.place[SetTable.below t.place slot]?≠some slot:=by
 unfold SetTable.freeSlot SetTable.probe at h
 cases e:SetTable.probe.go t (fun _=>hv+1) hv (10*SetTable.turns t.mask) (t.probeStart hv) with
 | none=>rw [e] at h;cases h
 | some m =>
   rw [e] at h
   cases m with
   | candidate j i nx=>cases h
   | empty j du =>
     obtain ⟨a,b'⟩:=EH _ _ (fun d z=>by cases z) e
     cases du with
     | none =>
       cases h
       exact b'
     | some d =>
       cases h
       exact a d rfl
def DZ (t:SetTable):Prop:=Ris t.place/\t.led=true
theorem DZ.standIn {t:SetTable} (h:DZ t) (n:Nat):DZ (t.standIn n):=⟨Nw n,h.2⟩
theorem DZ.orStandIn {t:SetTable} (h:DZ t) (n:Nat):DZ (t.orStandIn n):=by
 unfold SetTable.orStandIn
 split
 ·exact h
 ·exact h.standIn n
theorem DZ.lay {t:SetTable} (h:DZ t) (es:Array (Int × Value)) (hv:Int) (x:Value):DZ (layNew t es hv x).2.1:=by
 unfold layNew
 cases e:t.freeSlot hv with
 | none=>exact h.standIn _
 | some q =>
   obtain ⟨slot,b⟩:=q;have w:DZ (t.put slot).1:=⟨h.1.put (Qc e),h.2⟩;exact w.orStandIn _
theorem DZ.relay {t:SetTable} (h:DZ t) (es:Array (Int × Value)) (n:Nat):DZ (relayAll t es n).2.1:=by
 unfold relayAll SetTable.relaid
 cases e:SetTable.laid (SetTable.sizeAbove n - 1) t.finger (t.movedTo (SetTable.sizeAbove n - 1)) t.led t.plain (es.map (·.1)) with
 | none=>exact h.standIn _
 | some q =>
   obtain ⟨t',order⟩:=q;obtain ⟨a,b⟩:=Qk e;dsimp only
   split
   ·exact ⟨a,b.trans h.2⟩
   ·exact h.standIn _
end L2
namespace L2
open PySem PySem.W PySem.Spec PyProof.Rows
def Fr (w:World):Bool:=w.params.followText "set-order"
noncomputable def Gj (prog:Program) (w:World) (h:Heap) (a:Addr) (l:List Int):Prop :=
 ∃o es ep t ms,h.get? a=some o/\o.ExactSet/\o.data=.set es ep t/\ElemsOf (intKind prog w) es.toList/\IntsAre (es.toList.map (·.2)) ms/\ms.Perm l/\es.size < scanBound/\t.fits es.size=true/\(Fr w=true\/DZ t)
theorem Io {vs vs':List Value} (p:vs'.Perm vs):∀{ns:List Int},IntsAre vs ns->∃ns',IntsAre vs' ns'/\ns'.Perm ns:=by
 induction p with
 | nil=>intro ns h;cases h;exact ⟨[],.nil,.refl _⟩
 | cons x _ ih =>
   intro ns h
   cases h with
   | cons n t h =>
     obtain ⟨ns',a,b⟩:=ih h;exact ⟨n :: ns',.cons n t a,b.cons n⟩
 | swap x y l =>
   intro ns h
   cases h with
   | cons n t h =>
     cases h with
     | cons m u h=>exact ⟨m :: n :: _,.cons m u (.cons n t h),.swap _ _ _⟩
 | trans _ _ ih1 ih2 =>
   intro ns h;obtain ⟨n1,a1,b1⟩:=ih2 h;obtain ⟨n2,a2,b2⟩:=ih1 a1;exact ⟨n2,a2,b2.trans b1⟩
theorem Gb:∀{vs us:List Value} {ns ms:List Int},IntsAre vs ns->IntsAre us ms->IntsAre (vs++us) (ns++ms)
 | _,_,_,_,.nil,h=>h
 | _,_,_,_,.cons n t a,h=>.cons n t (Gb a h)
theorem Fj:∀{vs:List Value} {ns:List Int},IntsAre vs ns->∀{n:Int},n∈ns↔∃t,Value.int n t∈vs
 | _,_,.nil,n=>⟨(fun h=>by cases h),(fun ⟨_,h⟩=>by cases h)⟩
 | _,_,.cons m u a,n=>by
   constructor
   ·intro h;rcases mem_cons.mp h with e | h
    ·subst e;exact ⟨u,mem_cons_self ..⟩
    ·obtain ⟨t,ht⟩:=(Fj a).mp h;exact ⟨t,mem_cons_of_mem _ ht⟩
   ·rintro ⟨t,h⟩;rcases mem_cons.mp h with e | h
    ·cases e
     exact mem_cons_self ..
    ·exact mem_cons_of_mem _ ((Fj a).mpr ⟨t,h⟩)
section
variable {prog:Program} {w:World} {A:Around} {E:Value->Shared->Prop} {s:Shared}
theorem Ii {h:Heap} {a:Addr} {o:Obj} {es:Array (Int × Value)} {ep:Nat} {t:SetTable} (ho:h.get? a=some o) (hd:o.data=.set es ep t) (es':Array (Int × Value)) (t':SetTable) :
 (h.update a (Obj.putSet es' t')).get? a=some { o with data:=.set es' (ep+1) t' }:=by
 have:=Heap.get?_update_self (Obj.putSet es' t') ho (by rw [putSet_of es' t' hd];rfl);rw [putSet_of es' t' hd] at this;exact this
theorem Kj {g:Bool->Sem Unit} (hg:∀(b:Bool) (s₁:Shared) (Q':Unit->Shared->Prop),Q' () s₁->wpAny (model prog w) A (g b) Q' E s₁)
 {a:Addr} {o:Obj} {es:Array (Int × Value)} {ep:Nat} {t:SetTable} (ho:s.heap.get? a=some o) (hex:o.ExactSet) (hd:o.data=.set es ep t)
 {es1:Array (Int × Value)} {t2:SetTable} {ms l:List Int} (hel1:ElemsOf (intKind prog w) es1.toList) (hi:IntsAre (es1.toList.map (·.2)) ms) (hp:ms.Perm l)
 (hb1:es1.size < scanBound) (hf2:t2.fits es1.size=true) (hw:Fr w=true\/DZ t2) {wasDummy:Bool} {R:Option Bool->Shared->Prop}
 (h:∀h',Heap.SameBut a s.heap h'->Gj prog w h' a l->R (some true) { s with heap:=h' }) :
 wpAny (model prog w) A (do
  storeSet a es1 t2
  if (!wasDummy && t2.tooFull)=true then do
      g (relayAll t2 es1 (SetTable.grown es1.size)).2.2
      storeSet a (relayAll t2 es1 (SetTable.grown es1.size)).1 (relayAll t2 es1 (SetTable.grown es1.size)).2.1
      pure (some true)
   else pure (some true)) R E s:=by
 refine wpAny_bind (wpAny_storeSet_of ho hd ?_ (fits_of_scanBound hb1));have ho1:=Ii ho hd es1 t2;have hsb1:=Heap.SameBut.update s.heap a (Obj.putSet es1 t2)
 split
 ·have pr:=relayAll_perm t2 es1 (SetTable.grown es1.size);have fr:=relayAll_fits t2 es1 (SetTable.grown es1.size);have wr:Fr w=true\/DZ (relayAll t2 es1 (SetTable.grown es1.size)).2.1:=hw.imp id fun x=>x.relay _ _;generalize relayAll t2 es1 (SetTable.grown es1.size)=Rl at pr fr wr ⊢;obtain ⟨es2,t3,gave2⟩:=Rl;dsimp only at pr fr wr ⊢;have hsz:es2.size=es1.size:=by rw [<- Array.length_toList,pr.length_eq,Array.length_toList]
  obtain ⟨ms2,i2,p2⟩:=Io (pr.map (·.2)) hi;refine wpAny_bind (hg _ _ _ ?_);refine wpAny_bind (wpAny_storeSet_of ho1 rfl ?_ (fits_of_scanBound (by rw [hsz];exact hb1)));exact wpAny_pure (h _ (hsb1.trans (Heap.SameBut.update _ a _)) ⟨_,es2,_,t3,ms2,Ii ho1 rfl es2 t3,hex,rfl,hel1.perm pr,i2,p2.trans hp,by rw [hsz];exact hb1,fr,wr⟩)
 ·exact wpAny_pure (h _ hsb1 ⟨_,es1,_,t2,ms,ho1,hex,rfl,hel1,hi,hp,hb1,hf2,hw⟩)
theorem add_int {a:Addr} {l:List Int} {k:Int} {tk:Tok} {Q:Bool->Shared->Prop} (hS:Gj prog w s.heap a l) (hroom:l.length+1 < scanBound)
 (h:∀h' b,Heap.SameBut a s.heap h'->Gj prog w h' a (step_dedup l k)->Q b { s with heap:=h' }) :
 wpAny (model prog w) A (setAddHashed a (.int k tk) ((intKind prog w).hash k)) Q E s:=by
 obtain ⟨o,es,ep,t,ms,ho,hex,hd,hel,hi,hp,hb,hf,hw⟩:=hS;have hkey:(intKind prog w).is k (.int k tk)=true:=intKind_is _ _ _ _;have hsc:(Value.int k tk).scannable=true:=rfl
 have hlen:es.size=l.length:=by
  have:=hi.length;rw [length_map,Array.length_toList] at this;rw [this,hp.length_eq]
 unfold setAddHashed setAddHashedIn;refine wpAny_holding (wpAny_bind (wpAny_setState_of ho hd hf ?_));dsimp only;rw [byScan_of hsc hb hel];simp only [↓reduceIte];unfold setAddByScan;refine wpAny_bind ?_;refine wpAny_bind (wpAny_rule ?_);refine wpAny_bind (wpAny_setScan_of hkey ho hd hf hel ?_)
 cases hr:List.findIdx? (fun e=>(intKind prog w).is k e.2) es.toList with
 | some j =>
   dsimp only;obtain ⟨hj,hpj,_⟩:=List.findIdx?_eq_some_iff_getElem.mp hr
   have mem:k∈l:=by
    refine hp.mem_iff.mp ((Fj hi).mpr ?_);obtain ⟨t',e⟩:=Value.isInt_shape (show Value.isInt k es.toList[j].2=true from hpj);exact ⟨t',mem_map.mpr ⟨_,getElem_mem hj,e⟩⟩
   have es':step_dedup l k=l:=by
    unfold step_dedup;rw [if_pos (any_eq_true.mpr ⟨k,mem,by simp⟩)]
   refine wpAny_pure (wpAny_pure ?_);exact h s.heap _ (Heap.SameBut.refl a s.heap) ⟨o,es,ep,t,ms,ho,hex,hd,hel,hi,by rw [es'];exact hp,hb,hf,hw⟩
 | none =>
   dsimp only
   have nmem:¬ k∈l:=fun m=>by
    obtain ⟨t',ht⟩:=(Fj hi).mp (hp.mem_iff.mpr m);obtain ⟨e,he,hv⟩:=mem_map.mp ht;have:=List.findIdx?_eq_none_iff.mp hr e he;rw [hv,intKind_is] at this;exact Bool.noConfusion this
   have es':step_dedup l k=l++[k]:=by
    unfold step_dedup
    rw [if_neg (by
     intro z;obtain ⟨y,hy,ey⟩:=any_eq_true.mp z;have:y=k:=by simpa using ey
     exact nmem (this ▸ hy))]
   have hgw:∀(b:Bool) {s₁:Shared} {Q':Unit->Shared->Prop},Q' () s₁->wpAny (model prog w) A (match b with | true=>rule "set.scan.the-table-gave-way" | false=>pure ()) Q' E s₁ :=
    fun b s₁ Q' hq=>by cases b <;> first | exact wpAny_pure hq | exact wpAny_rule hq
   have pr:=layNew_perm t es ((intKind prog w).hash k) (.int k tk);have fr:=layNew_fits t es ((intKind prog w).hash k) (.int k tk);have wr:Fr w=true\/DZ (layNew t es ((intKind prog w).hash k) (.int k tk)).2.1:=hw.imp id fun x=>x.lay _ _ _;generalize layNew t es ((intKind prog w).hash k) (.int k tk)=L at pr fr wr ⊢;obtain ⟨es1,t1,wasDummy,gave⟩:=L;dsimp only at pr fr wr ⊢;rw [Array.toList_push] at pr;have hel1:ElemsOf (intKind prog w) es1.toList:=(hel.push hkey hsc).perm pr
   have hi0:IntsAre ((es.toList++[((intKind prog w).hash k,Value.int k tk)]).map (·.2)) (ms++[k]):=by
    rw [map_append];exact Gb hi (.cons k tk .nil)
   obtain ⟨ms1,i1,p1⟩:=Io (pr.map (·.2)) hi0;have hp1:ms1.Perm (step_dedup l k):=by rw [es'];exact p1.trans (hp.append_right [k])
   have hb1:es1.size < scanBound:=by rw [<- Array.length_toList,pr.length_eq,length_append,Array.length_toList,hlen];simpa using hroom
   refine wpAny_bind (hgw _ ?_)
   split
   ·refine wpAny_bind ?_;rw [hashByValue_scannable 8 hsc];refine wpAny_pure ?_;refine Kj ?_ ho hex hd hel1 i1 hp1 hb1 ?_ ?_ ?_
    ·intro b s₁ Q' hq;cases b <;> first | exact wpAny_pure hq | exact wpAny_rule hq
    ·split
     ·exact fr
     ·exact SetTable.fits_plain_off fr
    ·split
     ·exact wr
     ·exact wr
    ·intro h' hsb hS';dsimp only;exact wpAny_pure (h h' _ hsb hS')
   ·refine wpAny_bind (wpAny_pure ?_);simp only [↓reduceIte];refine Kj ?_ ho hex hd hel1 i1 hp1 hb1 fr wr ?_
    ·intro b s₁ Q' hq;cases b <;> first | exact wpAny_pure hq | exact wpAny_rule hq
    ·intro h' hsb hS';dsimp only;exact wpAny_pure (h h' _ hsb hS')
theorem Gj.at {h h':Heap} {a:Addr} {l:List Int} (x:Gj prog w h a l) (e:∀o,h.get? a=some o->h'.get? a=some o):Gj prog w h' a l:=by
 obtain ⟨o,es,ep,t,ms,ho,r⟩:=x;exact ⟨o,es,ep,t,ms,e o ho,r⟩
end
section
variable {prog:Program} {w:World} {A:Around} {R:Result->Shared->Prop} {I:Addr} {fp wr:List Addr} {G:Array GenState->Array GenState->Prop} {n:Nat} {P:Nat->Value->Prop} {St:Nat->Shared->Prop}
theorem OE (W:WalksS prog w A.in1 I fp wr G n P St) (S:Addr) (hSf:S ∉ fp) (val:Nat->Int) (hval:∀i v,P i v->∃t,v=.int (val i) t) (hb:n+1 < scanBound) :
 ∀(k i:Nat) (s:Shared),n - i=k->i<=n->St i s->Gj prog w s.heap S (firstMet val i)->(∀s',Moved (S :: wr) G s s'->Gj prog w s'.heap S (firstMet val n)->R (.ok (.ret .none)) s') ->
  codeAny (model prog w) A (.builtin "set.update.loop" ⟨[.ref S,.ref I],[]⟩) R s:=by
 have hSw:S ∉ wr:=fun h=>hSf (W.sub _ h);have hsub:∀b∈wr,b∈S :: wr:=fun b hb=>mem_cons_of_mem _ hb;intro k
 induction k with
 | zero =>
   intro i s hk hi hst hS hR;have hin:i=n:=by omega
   subst hin;refine codeAny_builtin F.entry_set_update_loop ?_;rw [Around.under_plainId F.plain_set_update_loop _];show wpAny _ A.in1 (pyNext (.ref I) >>= _) _ _ s;refine wpAny_bind (W.done s _ _ hst fun s' hm=>?_);show wpAny _ A.in1 (ret Value.none) _ _ s';exact wpAny_pure (hR s' (hm.mono hsub) (hS.at fun o e=>hm.heap S o hSw e))
 | succ k ih =>
   intro i s hk hi hst hS hR;have hlt:i < n:=by omega
   refine codeAny_builtin F.entry_set_update_loop ?_;rw [Around.under_plainId F.plain_set_update_loop _];show wpAny _ A.in1 (pyNext (.ref I) >>= _) _ _ s;refine wpAny_bind (W.item i s _ _ hlt hst fun v s' hP hst' hm=>?_);obtain ⟨t,rfl⟩:=hval i v hP;have hS':=hS.at fun o e=>hm.heap S o hSw e;show wpAny _ A.in1 (holding [Value.int (val i) t] (setAdd S (.int (val i) t)) >>= _) _ _ s';refine wpAny_bind (wpAny_holding ?_);unfold setAdd;refine wpAny_holding ?_;refine wpAny_bind ((intKind prog w).pyHash (k:=val i) (intKind_is _ _ _ _) ?_);have hroom:(firstMet val i).length+1 < scanBound:=by have:=firstMet_length_le val i;omega
   refine add_int (s:={ s' with toks:=s'.toks+1 }) hS' hroom fun h' b hsb hS2=>?_;have hSi:Gj prog w h' S (firstMet val (i+1)):=by rw [firstMet_succ];exact hS2
   refine wpAny_pure ⟨plainId_quiet F.plain_set_update_loop _,ih (i+1) _ (by omega) hlt (W.frame _ s' _ _ hst' (Nat.le_succ _) fun b hb o e=>?_) hSi fun s'' hm'' hS''=>?_⟩
   ·rw [hsb.2 b (fun h:b=S=>hSf (by rw [<- h];exact hb))];exact e
   ·refine hR s'' (Moved.trans W.gtrans ((hm.mono hsub).then_heap (Nat.le_succ _) fun b o hb e=>?_) hm'') hS'';rw [hsb.2 b (fun h:b=S=>hb (by rw [h];exact mem_cons_self))];exact e
end
section
variable {prog:Program} {w:World} {A:Around} {E:Value->Shared->Prop} {s:Shared}
abbrev By (w:World):Obj:={ cls:=.type "set",dict:=none,data:=.set #[] 0 (.fresh 0 0 (!Fr w)) }
theorem PB (a:Value) {Q₁:Value->Shared->Prop} (h:Q₁ (.ref s.heap.objs.size) { s with heap:=s.heap.push (By w) }) :
 codeAny (model prog w) A (.call (.builtin "set.__new__") ⟨[.type "set",a],[]⟩) (wants Q₁ E) s:=by
 refine codeAny_of_tree ?_;show wpAny _ A.in1 (do checkBuiltinCall "set.__new__" ⟨[.type "set",a],[]⟩;again (.builtin "set.__new__" ⟨[.type "set",a],[]⟩)) _ _ s;refine wpAny_bind (wpAny_of_eq (PySem.F.newCall_set_1 a) (wpAny_pure ⟨plainId_quiet PySem.F.plain_set_new _,codeAny_builtin PySem.F.entry_set_new ?_⟩));rw [Around.under_plainId PySem.F.plain_set_new _];unfold Builtin.«set.__new__» Builtin.Frozenset.newClass;have hsub:=sub_set_self;obtain ⟨hp,g,d,tk,os⟩:=s;dsimp only
 wp_walk
 refine wpAny_askSetting (wpAny_pure ?_);dsimp only;simp only [newObj];refine wpAny_bind (wpAny_alloc (wpAny_pure ?_));exact wpAny_pure h
theorem MG {h:Heap} {a:Addr} (ho:h.get? a=some (By w)):Gj prog w h a [] :=
 ⟨_,#[],0,_,[],ho,⟨rfl,rfl,rfl⟩,rfl,fun e he=>by simp at he,.nil,.refl _,by decide,rfl,by
  cases e:Fr w with
  | true=>exact .inl rfl
  | false=>exact .inr ⟨fun i j _ hj=>absurd hj (by simp [SetTable.fresh]),by simp [SetTable.fresh]⟩⟩
set_option maxRecDepth 100000 in
set_option maxHeartbeats 3200000 in
theorem JM {l:Addr} {items:Array Value} {ns:List Int} {Q:Value->Shared->Prop} (hh:A.handled=none) (hl:s.heap.IsList l items) (hi:IntsAre items.toList ns) (hb:items.size+1 < scanBound)
 (h:∀(h':Heap) (tk:Nat),Gj prog w h' s.heap.objs.size (firstMet (fun i=>ns.getD i 0) items.size)->(∀b o,b < s.heap.objs.size->s.heap.get? b=some o->h'.get? b=some o)->Q (.ref s.heap.objs.size) { s with heap:=h',toks:=tk }) :
 wpAny (model prog w) A (call (.type "set") [.ref l]) Q E s:=by
 obtain ⟨c,tl,hmro⟩:=PySem.F.called_set.mro;have hmade:=PySem.F.called_set.made;have hsub:=PySem.F.called_set.sub;refine wpAny_call (codeAny_of_tree ?_);show wpAny _ _ (callAny (.type "set") _) _ _ _;refine wpAny_pure ⟨Code.quiet_builtin _ (by decide +kernel),codeAny_builtin PySem.F.entry_type_call ?_⟩;rw [Around.under_plain (weight_type_call_type "set" [.ref l] []) rfl];have h1:=PySem.F.called_set.notType;have h2:=PySem.F.called_set.canCreate;have hct:=PySem.F.typeCall_set_1 (.ref l)
 repeat (any_goals (first | assumption | wp_step))
 refine codeAny_mono (PB (.ref l) (E:=E) (Q₁:=fun obj s₁=>obj=.ref s.heap.objs.size/\s₁={ s with heap:=s.heap.push (By w) }) ⟨rfl,rfl⟩) fun r s₁ hr=>?_
 cases r with
 | error e=>exact hr
 | ok fl =>
   cases fl with
   | ret obj =>
     obtain ⟨rfl,rfl⟩:=hr;have hS:(s.heap.push (By w)).get? s.heap.objs.size=some (By w):=Heap.get?_push_size _ rfl;have hT:Shared.TypeIs { s with heap:=s.heap.push (By w) } (.ref s.heap.objs.size) "set":=⟨_,hS,rfl⟩;have hli:=PySem.F.called_set.init.lookup;have hbi:=PySem.F.called_set.init.bind (.ref s.heap.objs.size)
     repeat (any_goals (first | assumption | wp_step))
     refine codeAny_mono (codeAny_call_builtin (R:=wants (fun r s₂=>r=.none/\∃h' tk,s₂={ s with heap:=h',toks:=tk }/\Gj prog w h' s.heap.objs.size (firstMet (fun i=>ns.getD i 0) items.size) /\
      (∀b o,b < s.heap.objs.size->s.heap.get? b=some o->h'.get? b=some o)) E) PySem.F.called_set.init.plain PySem.F.entry_set_init (check_set_init_1 hT ?_)) fun r₂ s₂ hr₂=>?_
     ·obtain ⟨ol,hol,hcl,nl,hdl⟩:=hl;obtain ⟨ocls,odict,odata,oslots⟩:=ol;simp only at hcl hdl;subst hcl;subst hdl;have hol':(s.heap.push (By w)).get? l=some { cls:=.type "list",dict:=odict,data:=.seq items nl,slots:=oslots }:=Heap.get?_push_of_some _ hol;have hsls:=PySem.F.sub_list_set;have hslf:=PySem.F.sub_list_frozenset;have hne:(Value.type "list" == Value.type "dict")=false:=by decide
      have hl1:(s.heap.push (By w)).IsList l items:=⟨_,hol',rfl,nl,rfl⟩;unfold Builtin.«set.__init__» noKeywords Builtin.Frozenset.updateFrom;generalize hPI:pyIter=PI
      wp_walk
      subst hPI;refine wpAny_pyIter_list hl1 ?_;refine wpAny_bind (wpAny_runValue ?_);have hlS:l < s.heap.objs.size:=Heap.lt_size hol;have hh3:A.in1.in1.in1.handled=none:=by simp [hh]
      have hneI:l≠(s.heap.push (By w)).objs.size:=by
       rw [Heap.size_push];exact Nat.ne_of_lt (Nat.lt_succ_of_lt hlS)
      have hSf:s.heap.objs.size ∉ [(s.heap.push (By w)).objs.size,l]:=by
       rw [Heap.size_push];simp only [mem_cons,mem_singleton,List.not_mem_nil,or_false,not_or];exact ⟨Nat.ne_of_lt (Nat.lt_succ_self _),Nat.ne_of_gt hlS⟩
      have hval:∀(i:Nat) (v:Value),items[i]?=some v->∃t,v=.int ((fun i=>ns.getD i 0) i) t:=fun i v hv =>
       IntsAre.int_at hi i v (by rw [Array.getElem?_toList];exact hv)
      refine OE ((Walks.list hh3 _ l hneI items).toS) s.heap.objs.size hSf (fun i=>ns.getD i 0) hval hb (items.size - 0) 0 _ (by omega) (Nat.zero_le _)
       ⟨⟨_,Heap.get?_push_size _ rfl,rfl,rfl⟩,(hl1.push _)⟩ (MG (Heap.get?_push_of_some _ hS)) ?_
      intro s' hm hS';obtain ⟨h',g',d',tk',os'⟩:=s';have eg:g'=s.gens:=hm.gens;have ed:d'=s.drawn:=hm.drawn;have eo:os'=s.os:=hm.os;subst eg;subst ed;subst eo;show wpAny _ _ _ _ _ _;refine wpAny_pure ?_;show wpAny _ _ (ret Value.none) _ _ _;refine wpAny_pure ⟨rfl,h',tk',rfl,hS',fun b o hb e=>?_⟩;have hb1:b≠s.heap.objs.size:=Nat.ne_of_lt hb
      have hb2:b≠(s.heap.push (By w)).objs.size:=by
       rw [Heap.size_push];exact Nat.ne_of_lt (Nat.lt_succ_of_lt hb)
      exact hm.heap b o (by simp only [mem_cons,mem_singleton,List.not_mem_nil,or_false,not_or];exact ⟨hb1,hb2⟩) (Heap.get?_push_of_some _ (Heap.get?_push_of_some _ e))
     ·cases r₂ with
      | error e=>exact hr₂
      | ok fl₂ =>
        cases fl₂ with
        | ret r =>
          obtain ⟨rfl,h',tk,rfl,hS',hk'⟩:=hr₂
          repeat (any_goals (first | assumption | wp_step))
          exact h _ _ hS' hk'
        | _=>exact hr₂.elim
   | _=>exact hr.elim
end
end L2
namespace L2
open PySem PySem.W PySem.Spec PyProof.Rows
section
variable {prog:Program} {w:World} {A:Around} {E:Value->Shared->Prop} {s:Shared}
end
section
variable {prog:Program} {w:World} {A:Around} {E:Value->Shared->Prop} {s:Shared} {a:Addr} {es:Array (Int × Value)} {ep:Nat} {t:SetTable}
end
end L2
namespace L2
open PySem PySem.W PySem.Spec PyProof.Rows
theorem KK (val:Nat->Int):∀i,(firstMet val i).Nodup
 | 0=>by rw [firstMet_zero];exact nodup_nil
 | i+1=>by
   rw [firstMet_succ];unfold step_dedup;have ih:=KK val i
   split
   ·exact ih
   ·rename_i c
    refine nodup_append.mpr ⟨ih,by simp,fun a ha b hb e=>?_⟩;have:b=val i:=by simpa using hb
    subst this;exact c (any_eq_true.mpr ⟨a,ha,by simp [e]⟩)
theorem Lq (ns:List Int):(List.range ns.length).map (fun i=>ns.getD i 0)=ns:=by
 apply ext_getElem
 ·simp
 ·intro i h1 h2;simp [h2]
theorem QW {ns:List Int} {z:Int}:z∈firstMet (fun i=>ns.getD i 0) ns.length↔z∈ns:=by
 have e:=firstMet_any (fun i=>ns.getD i 0) ns.length z;rw [Lq] at e
 constructor
 ·intro h;have a:(firstMet (fun i=>ns.getD i 0) ns.length).any (· == z)=true:=any_eq_true.mpr ⟨z,h,by simp⟩;rw [e] at a;obtain ⟨y,hy,ey⟩:=any_eq_true.mp a;have:y=z:=by simpa using ey
  exact this ▸ hy
 ·intro h;have a:ns.any (· == z)=true:=any_eq_true.mpr ⟨z,h,by simp⟩;rw [<- e] at a;obtain ⟨y,hy,ey⟩:=any_eq_true.mp a;have:y=z:=by simpa using ey
  exact this ▸ hy
section
variable {X:Cx} {e:Expr} {te:TE} {p p2 pos pos2:Pos}
end
end L2
namespace L2
open PySem PySem.Spec PyProof.Rows
section
variable {X:Cx} {pins:List (Addr × Obj)} {σ:St} {H:Hp} {s:Shared} {h':Heap}
theorem Inv.turnedAll {t':Nat} {fp:List Addr} (I:Inv X pins σ H s) (k:∀b o,b ∉ fp->s.heap.get? b=some o->h'.get? b=some o) (hf:∀b∈fp,Gm X pins H b):Inv X pins σ H { s with heap:=h',toks:=t' }:=by
 have nin:∀b u,H b=some u->b ∉ fp:=fun b u e z=>by rw [(hf b z).1] at e;cases e
 refine I.step (g':=s.gens) (d':=s.drawn) (ch:=fp) (fun b hb=>?_) (fun b o _ _ hc e _=>k b o hc e) (fun b o _ _ hc e _=>⟨o.slots,k b o hc e⟩) (fun _ _ _ _ n=>n)
  (fun b o hc e=>⟨o,k b o hc e⟩) (fun _ _ e=>e) (fun _ _ _ e=>e) (fun b ps e=>⟨#[],by rw [e];simp⟩) (fun m hm=>?_) (fun b u e=>?_) I.bare
 ·obtain ⟨_,f1,_,f3,f4,f5⟩:=hf b hb;exact ⟨f3,f1,f4,f5⟩
 ·obtain ⟨o,es,ep,ho,r⟩:=hm;exact ⟨o,es,ep,k _ o (fun z=>(hf _ z).2.1 rfl) ho,r⟩
 ·refine (I.hok b u e).stay (fun c v hc q=>k c v ?_ q) (fun _ q=>q) fun _ _ q=>q;rcases hc with z | z
  ·rw [z];exact nin b u e
  ·exact nin c _ z
theorem Inv.laidTurned {t':Nat} {fp:List Addr} {a:Addr} {o:HO} (I:Inv X pins σ H s) (k:∀b u,b ∉ fp->s.heap.get? b=some u->h'.get? b=some u) (hf:∀b∈fp,Gm X pins H b) (hp:s.heap.objs.size<=a)
 (new:AY X.prog X.w (upd H a o) h' a o):Inv X pins σ (upd H a o) { s with heap:=h',toks:=t' }:=by
 have nin:∀b u,H b=some u->b ∉ fp:=fun b u e z=>by rw [(hf b z).1] at e;cases e
 have hn:H a=none:=I.hok.fresh hp
 refine I.step (g':=s.gens) (d':=s.drawn) (ch:=fp) (fun b hb=>?_) (fun b o _ _ hc e _=>k b o hc e) (fun b o _ _ hc e _=>⟨o.slots,k b o hc e⟩)
  (fun b u _ q n=>by rw [Ak (Nat.ne_of_lt (Nat.lt_of_lt_of_le (Heap.lt_size q) hp))];exact n)
  (fun b o hc e=>⟨o,k b o hc e⟩) (fun b xs q=>by rw [Ak (AX q hn)];exact q) (fun b u xs q=>by rw [Ak (AX q hn)];exact q) (fun b ps q=>⟨#[],by rw [Ak (AX q hn),q];simp⟩) (fun m hm=>?_) (fun b u e=>?_) I.bare
 ·obtain ⟨_,f1,_,f3,f4,f5⟩:=hf b hb;exact ⟨f3,f1,f4,f5⟩
 ·obtain ⟨o,es,ep,ho,r⟩:=hm;exact ⟨o,es,ep,k _ o (fun z=>(hf _ z).2.1 rfl) ho,r⟩
 ·by_cases hb:b=a
  ·subst hb;rw [Ab] at e;cases e;exact new
  ·rw [Ak hb] at e;refine (I.hok b u e).stay (fun c v hc q=>k c v ?_ q) (fun c q=>by rw [Ak (AX q hn)];exact q) fun c xs q=>by rw [Ak (AX q hn)];exact q
   rcases hc with z | z
   ·rw [z];exact nin b u e
   ·exact nin c _ z
end
noncomputable def Ite (K:PySem.W.Frag) (a:Addr):It :=
 ⟨fun i H=>∃xs x,SqL K H a xs/\xs[i]?=some x,fun i H x H'=>∃T y,x=.ref T/\H T=none/\H'=upd H T (.tup [.int (i:Int),y])/\∀xs,SqL K H a xs->xs[i]?=some y,fun i H=>∃xs,SqL K H a xs/\xs.length<=i⟩
theorem MW {P:Program} {w:World} {K:PySem.W.Frag} {es:List Expr} {k:Nat} {pos:Pos} (a e it:Addr) (hne:e≠it) :
 KC P w K (.Tuple es k pos) (Ite K a) [e,it] e (fun i h=>(∃old,IsEnum h e it (i:Nat) old)/\h.IsListIter it a i) where
 mem:=by simp
 obj:=fun i h st b hb=>by
  obtain ⟨⟨old,he⟩,o,e1,c,d⟩:=st;rcases mem_cons.mp hb with z | z
  ·subst z;exact ⟨_,he,fun v z=>by cases (show Data.fields _=Data.cell v from z)⟩
  ·have z':b=it:=by simpa using z
   subst z';exact ⟨o,e1,fun v z=>by rw [d] at z;cases z⟩
 keep:=fun i h h' st kk=>by
  obtain ⟨⟨old,he⟩,st⟩:=st;exact ⟨⟨old,kk e (by simp) _ he⟩,st.at fun o q=>kk it (by simp) o q⟩
 item:=by
  intro X hP hw hK hc i pins s σ H E I hf st hg;subst hP hw hK;obtain ⟨xs,x,hq,hx⟩:=hg;obtain ⟨its,rv,p,hz⟩:=I.list hq;obtain ⟨u,hu,ru⟩:=rv.get hx;obtain ⟨⟨old,he⟩,hit⟩:=st;refine wpAny_pyNext_enum_item he hit p.isList (x:=u) (by simpa using hu) hne fun h1 ho hit1 hT hsz hk=>⟨_,rfl,?_⟩;refine wpAny_letOwnedTupleGo_enum ho fun h2 he2 sb=>?_;have fr:H s.heap.objs.size=none:=I.hok.fresh (Nat.le_refl _);have lte:e < s.heap.objs.size:=Heap.lt_size he;have lti:it < s.heap.objs.size:=by obtain ⟨o,q,_⟩:=id hit;exact Heap.lt_size q
  refine ⟨.ref s.heap.objs.size,upd H s.heap.objs.size (.tup [.int (i:Int),x]),?_,rfl,⟨_,x,rfl,fr,rfl,fun ys hy=>by rw [I.list_inj hy hq];exact hx⟩,⟨⟨_,by simpa using he2⟩,hit1.at fun o q=>(sb.2 it (Ne.symm hne)).trans q⟩,fun b hb=>?_⟩
  ·refine I.laidTurned (fp:=[e,it]) (t':=s.toks+1) (fun b o hb q=>(sb.2 b (fun z=>hb (by simp [z]))).trans (hk b o (fun z=>hb (by simp [z])) (fun z=>hb (by simp [z])) q)) hf (Nat.le_refl _) ?_;refine ⟨by show 2<=sizeLine;decide,[.int i s.toks,u],.cons ⟨_,rfl⟩ (.cons ru .nil),⟨_,(sb.2 _ (Nat.ne_of_gt lte)).trans hT,rfl,_,rfl⟩⟩
  ·rw [Ak (fun z=>?_)]
   ·exact (hf b hb).1
   ·rcases mem_cons.mp hb with q | q
    ·rw [q] at z;exact absurd lte (by rw [z];exact Nat.lt_irrefl _)
    ·have q':b=it:=by simpa using q
     rw [q'] at z;exact absurd lti (by rw [z];exact Nat.lt_irrefl _)
 done:=by
  intro X hP hw hK hc i pins s σ H E I hf st hg;subst hP hw hK;obtain ⟨xs,hq,hx⟩:=hg;obtain ⟨its,rv,p,hz⟩:=I.list hq;obtain ⟨f0,f1,f2,f3,f4,f5⟩:=hf it (by simp);obtain ⟨⟨old,he⟩,hit⟩:=st;have hl:=rv.length;exact wpAny_pyNext_enum_end (I.ok.hd hc) he hit p.isList (by simp;omega) fun h' eb=>⟨rfl,I.turned (t':=s.toks) (fun b o hb e=>eb b o hb e) f0 f1 f3 f4 f5⟩
 self:=fun _ _ _ _ _ st h=>by
  obtain ⟨⟨old,he⟩,_⟩:=st;exact wpAny_pyIter_enum he h
section
variable {X:Cx}
noncomputable def RI (K:PySem.W.Frag) (ta:TA):TI:=fun σ H R=>ta σ H fun vs H1=>∃a,vs=[.ref a]/\(∃xs,SqL K H1 a xs)/\R (Ite K a) H1
theorem IK {l:Expr} {ta:TA} {p pos pt:Pos} {es:List Expr} {k:Nat} (hg:Gl X "enumerate") (hm:X.mg "enumerate"=none) (ha:PA X [l] ta) (hs:starEach [l] X.env=[(false,eval l X.env)]:=by rfl) :
 PI X (.Tuple es k pt) (.Call (.Name "enumerate" p) [l] [] pos) (RI X.K ta):=by
 intro pins s σ H R I h;refine Call_ (Cv I hg hm boot_enumerate (PyProof.Rows.callWith_type1 (thn (ha pos pins s σ H _ I h) fun us s1 ⟨vs,H1,I1,r1,q1⟩=>?_) hs rfl));obtain ⟨a,e,⟨xs,hq⟩,q⟩:=q1;subst e
 cases r1 with
 | cons r rr =>
   cases rr
   cases r
   obtain ⟨its,rv,pl,hz⟩:=I1.list hq;refine call_enumerate_list pl.isList fun h' he hit hsz hk=>?_;refine wpAny_pyIter_enum (s:={ s1 with heap:=h' }) he ?_;refine ⟨s1.heap.objs.size+1,[s1.heap.objs.size+1,s1.heap.objs.size],_,_,H1,rfl,I1.kept (t':=s1.toks) hk,MW a _ _ (Nat.succ_ne_self _),⟨⟨_,he⟩,hit⟩,fun b hb=>?_,q⟩
   have ge:s1.heap.objs.size<=b:=by
    rcases mem_cons.mp hb with z | z
    ·rw [z];exact Nat.le_succ _
    ·have z':b=s1.heap.objs.size:=by simpa using z
     rw [z'];exact Nat.le_refl _
   exact I1.fpOk ge (I1.hok.fresh ge)
end
theorem KA {K:PySem.W.Frag} {a:Addr} {xs:List V} {g:TG} {tb:TS} {D:F8} {σ:St} {H:Hp} (Pv:Nat->St->Hp->Prop) (h0:Pv 0 σ H) (hl:∀i σ H,i<=xs.length->Pv i σ H->SqL K H a xs)
 (hs:∀i x T σ H,xs[i]?=some x->Pv i σ H->H T=none->g (.ref T) σ (upd H T (.tup [.int (i:Int),x])) fun σ2 H2=>tb { D with nx:=Pv (i+1),ct:=Pv (i+1),bk:=D.nx } σ2 H2) (hd:∀σ H,Pv xs.length σ H->D.nx σ H) :
 ∃W:Nat->Nat->St->Hp->Prop,(∃m,W 0 m σ H)/\∀i m σ H,W i m σ H ->
  ((Ite K a).stop i H/\D.nx σ H)\/((Ite K a).go i H/\∃N:St->Hp->Prop,(∀σ' H',N σ' H'->∃m',m' < m/\W (i+1) m' σ' H')/\∀x H',(Ite K a).yld i H x H'->g x σ H' fun σ2 H2=>tb { D with nx:=N,ct:=N,bk:=D.nx } σ2 H2):=by
 refine ⟨fun i m σ H=>m=xs.length - i/\i<=xs.length/\Pv i σ H,⟨xs.length,by simp,Nat.zero_le _,h0⟩,?_⟩;rintro i m σ H ⟨rfl,hi,p⟩;have q:=hl i σ H hi p;by_cases hlt:i < xs.length
 ·refine .inr ⟨⟨xs,xs[i],q,by simp [hlt]⟩,Pv (i+1),fun σ' H' p'=>⟨xs.length - (i+1),by omega,rfl,hlt,p'⟩,fun x H' y=>?_⟩;obtain ⟨T,y,rfl,hT,rfl,hy⟩:=y;exact hs i y T σ H (hy xs q) p hT
 ·have e:i=xs.length:=by omega
  subst e;exact .inl ⟨⟨xs,q,Nat.le_refl _⟩,hd σ H p⟩
section
variable {X:Cx}
theorem E5:∀{bs:List Bool} {us:List Value},A8 (bs.map V.bl) us->us=bs.map Value.bool
 | [],_,.nil=>rfl
 | _ :: _,_,.cons r rr=>by
   cases r
   rw [E5 rr];rfl
theorem M4 (bs:List Bool):(List.range bs.length).all (fun i=>bs.getD i false)=bs.all id:=by
 rw [Bool.eq_iff_iff,all_eq_true,all_eq_true]
 constructor
 ·intro h b hb;obtain ⟨i,hi,rfl⟩:=mem_iff_getElem.mp hb;have:=h i (mem_range.mpr hi);simpa [getD_eq_getElem?_getD,hi] using this
 ·intro h i hi;have hi':=mem_range.mp hi;have:=h _ (getElem_mem hi');simpa [getD_eq_getElem?_getD,hi'] using this
theorem Nm (bs:List Bool):(List.range bs.length).any (fun i=>bs.getD i false)=bs.any id:=by
 rw [Bool.eq_iff_iff,any_eq_true,any_eq_true]
 constructor
 ·rintro ⟨i,hi,h⟩;have hi':=mem_range.mp hi;exact ⟨_,getElem_mem hi',by simpa [getD_eq_getElem?_getD,hi'] using h⟩
 ·rintro ⟨b,hb,h⟩;obtain ⟨i,hi,rfl⟩:=mem_iff_getElem.mp hb;exact ⟨i,mem_range.mpr hi,by simpa [getD_eq_getElem?_getD,hi] using h⟩
theorem FO {P:Program} {w:World} {A:Around} {bs:List Bool}:TruthOf P w A (fun i v=>(bs.map Value.bool).toArray[i]?=some v) (fun i=>bs.getD i false):=by
 intro i v s Q E hP hQ;have hP':(bs.map Value.bool)[i]?=some v:=by simpa using hP
 rw [List.getElem?_map] at hP'
 cases e:bs[i]? with
 | none=>rw [e] at hP';cases hP'
 | some b =>
   rw [e] at hP';have:Value.bool b=v:=Option.some.inj hP';subst this;refine wpAny_truthy_bool ?_;have e2:bs.getD i false=b:=by rw [getD_eq_getElem?_getD,e];rfl
   dsimp only at hQ;rw [e2] at hQ;exact hQ
theorem Hb (hc:X.calm=true) {K:PySem.W.Frag} (hK:X.K=K:=by rfl):Ci X (.builtin "all") (fun xs H Q=>∃(a:Addr) (bs:List Bool),xs=[.ref a]/\SqL K H a (bs.map V.bl)/\Q (.bl (bs.all id)) H):=by
 subst hK;intro pins s σ H xs us Q I r h;obtain ⟨a,bs,rfl,hq,q⟩:=h;obtain ⟨u,rfl,rx⟩:=DB r
 cases rx
 obtain ⟨its,rv,pl,hz⟩:=I.list hq;have ei:=E5 rv;subst ei;have lt:a < s.heap.objs.size:=by obtain ⟨o,q,_⟩:=pl.isList;exact Heap.lt_size q
 refine call_all_walk (wpAny_pyIter_list pl.isList ?_);refine ⟨_,_,_,_,_,_,_,rfl,Walks.list (A:=X.A.in1) (I.ok.hd hc) s.heap.objs.size a (Nat.ne_of_lt lt) (bs.map Value.bool).toArray,⟨⟨_,Heap.get?_push_size _ rfl,rfl,rfl⟩,pl.isList.at fun o q=>Heap.get?_push_of_some _ q⟩,FO,fun h' tk hk=>?_⟩;rw [size_toArray,length_map,M4];exact ⟨.bl _,H,I.kept (t':=tk) fun b o q=>hk b o (by simpa using Nat.ne_of_lt (Heap.lt_size q)) (Heap.get?_push_of_some _ q),rfl,q⟩
theorem NI (hc:X.calm=true) {K:PySem.W.Frag} (hK:X.K=K:=by rfl):Ci X (.builtin "any") (fun xs H Q=>∃(a:Addr) (bs:List Bool),xs=[.ref a]/\SqL K H a (bs.map V.bl)/\Q (.bl (bs.any id)) H):=by
 subst hK;intro pins s σ H xs us Q I r h;obtain ⟨a,bs,rfl,hq,q⟩:=h;obtain ⟨u,rfl,rx⟩:=DB r
 cases rx
 obtain ⟨its,rv,pl,hz⟩:=I.list hq;have ei:=E5 rv;subst ei;have lt:a < s.heap.objs.size:=by obtain ⟨o,q,_⟩:=pl.isList;exact Heap.lt_size q
 refine call_any_walk (wpAny_pyIter_list pl.isList ?_);refine ⟨_,_,_,_,_,_,_,rfl,Walks.list (A:=X.A.in1) (I.ok.hd hc) s.heap.objs.size a (Nat.ne_of_lt lt) (bs.map Value.bool).toArray,⟨⟨_,Heap.get?_push_size _ rfl,rfl,rfl⟩,pl.isList.at fun o q=>Heap.get?_push_of_some _ q⟩,FO,fun h' tk hk=>?_⟩;rw [size_toArray,length_map,Nm];exact ⟨.bl _,H,I.kept (t':=tk) fun b o q=>hk b o (by simpa using Nat.ne_of_lt (Heap.lt_size q)) (Heap.get?_push_of_some _ q),rfl,q⟩
end
end L2
namespace L2
open PySem PySem.Spec PyProof.Rows
noncomputable def IW (n:Nat) (wi:TI) (g:TG) (tt:TT) (te:TE):TE:=fun σ H Q=>wi σ H fun J H1=>∀D,H1 D=none->∃W:Nat->Nat->List V->Hp->Prop,(∃m,W 0 m [] (upd H1 D (.lst [])))/\∀i m ys H2,W i m ys H2 ->
 H2 D=some (.lst ys)/\((J.stop i H2/\Q (.ref D) H2)\/(J.go i H2/\ys.length < sizeLine/\∀x H3,J.yld i H2 x H3->∀os:St,os.length=n->g x (σ++os) H3 fun σ4 H4=>(∃os':St,σ4=σ++os'/\os'.length=n)/\tt σ4 H4 fun b H5=>if b=true then te σ4 H5 fun y H6=>H6 D=some (.lst ys)/\∃m',m' < m/\W (i+1) m' (ys++[y]) (upd H6 D (.lst (ys++[y])))
  else ∃m',m' < m/\W (i+1) m' ys H5))
structure Dj (N Nc:List Str) (xs:List Str) (sc fsc:Scope):Prop where
 kind:sc.kind=.function
 cell:∀y∈sc.names,y.2≠.cell
 nm:∀y∈sc.names,y.2=.local->sc.names.lookup y.1=some .local
 own:∀x∈xs,sc.names.lookup x=some .local
 fr:∀y∈sc.names,y.2=.free->fsc.names.lookup y.1=some .cell\/fsc.names.lookup y.1=some .free
 len:Nc.length=N.length+xs.length
 nd:Nc.Nodup
 last:Nc.drop N.length=xs
 slot:((List.range N.length).all fun i=>match Nc[i]? with
  | some y=>(match sc.names.lookup y with | some .free=>N[i]? == some y | some .local=>false | some .cell=>false | _=>true)
  | none=>true)=true
theorem Dj.at {N Nc:List Str} {xs:List Str} {sc fsc:Scope} (C:Dj N Nc xs sc fsc) {i:Nat} {y:Str} (hi:i < N.length) (h:Nc[i]?=some y):sc.names.lookup y≠some .local/\sc.names.lookup y≠some .cell/\(sc.names.lookup y=some .free->N[i]?=some y):=by
 have q:=all_eq_true.mp C.slot i (mem_range.mpr hi);rw [h] at q;dsimp only at q
 cases e:sc.names.lookup y with
 | none=>exact ⟨fun z=>(nomatch z),fun z=>(nomatch z),fun z=>(nomatch z)⟩
 | some k =>
   rw [e] at q
   cases k with
   | «local»=>exact absurd (show false=true from q) Bool.false_ne_true
   | cell=>exact absurd (show false=true from q) Bool.false_ne_true
   | free=>exact ⟨fun z=>(nomatch z),fun z=>(nomatch z),fun _=>by simpa using q⟩
   | _=>exact ⟨fun z=>(nomatch z),fun z=>(nomatch z),fun z=>(nomatch z)⟩
theorem BZ {X:Cx} {N Nc xs:List Str} {sc fsc:Scope} {cl:List (Str × Addr)} {s:Shared} {H:Hp} {ex:List Addr} {x:Str} {px:Pos} {j n:Nat} (cn:Dj N Nc xs sc fsc) (hj:xs[j]?=some x) (hn:n=N.length+j):PG (X.inComp Nc sc cl s H ex) (.Name x px) (B0 n):=by
 have own:(relabel sc X.env).names.lookup x=some .local:=by
  have e:=Cc X.env sc.names x;rw [cn.own x (mem_of_getElem? hj)] at e;exact e
 refine A0 (X:=X.inComp Nc sc cl s H ex) cn.nd ?_ (.inl own) (.inr own);show Nc[n]?=some x;rw [hn,<- List.getElem?_drop,cn.last];exact hj
theorem RQ {prog:Program} {w:World} {A:Around} {R:Result->Shared->Prop} {s:Shared} {elt tg iter:Expr} {ifs:List Expr} {scope:Scope} {pos:Pos} {it acc:Value} {env:Env} (I:Nat->Shared->Prop)
 (turn:∀n s,I n s->wpAny (model prog w) A (pyNext it) (fun r s₁=>match r with
  | none=>R (.ok .next) s₁
  | some v=>wpAny (model prog w) A (letOwnedTupleGo tg it v) (fun _ z=>wpAny (model prog w) A (assign tg env v) (fun _ s₂ =>
   wpAny (model prog w) A (forIn ifs true fun c r=>if r=true then do let ok <- isTrue c env (eval c env);pure (ForInStep.yield ok) else pure (ForInStep.yield r)) (fun ok s₃ =>
    if ok=true then wpAny (model prog w) A (eval elt env) (fun x s₄=>wpAny (model prog w) A (call (.builtin "list.append") [acc,x]) (fun _ s₅=>∃m,m < n/\I m s₅) (fun _ _=>False) s₄) (fun _ _=>False) s₃
    else ∃m,m < n/\I m s₃) (fun _ _=>False) s₂) (fun _ _=>False) z) (fun _ _=>False) s₁) (fun _ _=>False) s)
 (n:Nat) (h:I n s):codeAny (model prog w) A (.compLoop (.ListComp elt [⟨tg,iter,ifs,0⟩] scope pos) 0 it acc env) R s:=by
 refine codeAny_loop rfl I (fun k z y=>?_) n h;show wpAny _ A ((compTurn (.ListComp elt [⟨tg,iter,ifs,0⟩] scope pos) 0 it acc env).onRaise fun x=>do noteFrame x env;theTreesLotGoes x) _ _ z;refine wpAny_noted ?_;rw [compTurn_list];refine wpAny_bind (wpAny_standAt (wpAny_bind (E4 (turn k z y) fun r s₁ q1=>?_)))
 cases r with
 | none=>exact wpAny_pure q1
 | some v =>
   refine wpAny_bind (E4 q1 fun _ z q2=>wpAny_bind (E4 q2 fun _ s₂ q3=>wpAny_bind (E4 q3 fun ok s₃ q4=>?_)))
   cases ok with
   | false=>exact wpAny_pure ⟨rfl,q4⟩
   | true=>exact wpAny_bind (wpAny_bind (E4 q4 fun x s₄ q5=>wpAny_bind (E4 q5 fun _ s₅ q6=>wpAny_pure (wpAny_pure ⟨rfl,q6⟩))))
section
variable {X:Cx} {elt iter:Expr} {xs:List Str} {tg:Expr} {g:TG} {pos:Pos} {ifs:List Expr} {sc fsc:Scope} {N Nc:List Str} {wi:TI} {tt:TT} {te:TE}
theorem D3 (hE:X.env.scope=fsc) (hXN:X.N=N) (cn:Dj N Nc xs sc fsc) (hc:X.calm=true)
 (hg:∀cl s H ex,PG (X.inComp Nc sc cl s H ex) tg g) (ht:∀cl s H ex,Fn (X.inComp Nc sc cl s H ex) ifs tt) (he:∀cl s H ex,PE (X.inComp Nc sc cl s H ex) elt te)
 {cl:List (Str × Addr)} (clS:∀y c,cl.lookup y=some c->X.env.cells.lookup y=some c) (clH:∀y∈sc.names,y.2=.free->∃c,cl.lookup y.1=some c)
 {pins:List (Addr × Obj)} {σ:St} {H2:Hp} {s2:Shared} {it:Addr} {fp:List Addr} {tn:Nat->Heap->Prop} {J:It} {Q:VK} {E:Value->Shared->Prop}
 (I2:Inv X pins σ H2 s2) (T:KC X.prog X.w X.K tg J fp it tn) (st2:tn 0 s2.heap) (f2:∀b∈fp,Gm X pins H2 b)
 (h2:∀D,H2 D=none->∃W:Nat->Nat->List V->Hp->Prop,(∃m,W 0 m [] (upd H2 D (.lst [])))/\∀i m ys H2,W i m ys H2 ->
  H2 D=some (.lst ys)/\((J.stop i H2/\Q (.ref D) H2)\/(J.go i H2/\ys.length < sizeLine/\∀x H3,J.yld i H2 x H3->∀os:St,os.length=xs.length->g x (σ++os) H3 fun σ4 H4=>(∃os':St,σ4=σ++os'/\os'.length=xs.length)/\tt σ4 H4 fun b H5=>if b=true then te σ4 H5 fun y H6=>H6 D=some (.lst ys)/\∃m',m' < m/\W (i+1) m' (ys++[y]) (upd H6 D (.lst (ys++[y])))
   else ∃m',m' < m/\W (i+1) m' ys H5))) :
 wpAny (model X.prog X.w) X.A (newList []) (fun acc s₃=>wpAny (model X.prog X.w) X.A (newFunctionEnv sc X.env.globals cl [] X.env.qual none .none (some X.env)) (fun cenv s₄ =>
  codeAny (model X.prog X.w) X.A (.compStart (.ListComp elt [⟨tg,iter,ifs,0⟩] sc pos) 0 (.ref it) acc { cenv with scope:=relabel sc X.env })
   (fun r s'=>r=.ok .next/\∃D H',acc=.ref D/\Inv X pins σ H' s'/\Q (.ref D) H'/\DI X pins H' cenv.locals/\∃m,s'.heap.Ns cenv.locals m) s₄) E s₃) E s2:=by
 refine wpAny_newObj_type (wpAny_newFunctionEnv cn.cell (by intro y hy;simp at hy) (fun h₁ hns₁ hsb₁=>?_) cn.kind);dsimp only at hns₁ hsb₁ ⊢;have hD:H2 s2.heap.objs.size=none:=I2.hok.fresh (Nat.le_refl _);obtain ⟨W,⟨m0,w0⟩,turn⟩:=h2 s2.heap.objs.size hD
 have I3:Inv X pins σ (upd H2 s2.heap.objs.size (.lst [])) { s2 with heap:=s2.heap.push { cls:=.type "list",dict:=none,data:=.seq ([]:List Value).toArray } } :=
  I2.laid (t':=s2.toks) (fun b u e=>Heap.get?_push_of_some _ e) (Nat.le_refl _) ⟨Nat.zero_le _,[],0,.nil,Heap.get?_push_size _ rfl⟩
 generalize hs3:({ s2 with heap:=s2.heap.push { cls:=.type "list",dict:=none,data:=.seq ([]:List Value).toArray } }:Shared)=s3 at I3;have eh:s3.heap=s2.heap.push { cls:=.type "list",dict:=none,data:=.seq ([]:List Value).toArray }:=by rw [<- hs3]
 have e2:({ s2 with heap:=h₁,toks:=s2.toks+([]:List (Str × Value)).length }:Shared)={ s3 with heap:=h₁,toks:=s3.toks }:=by rw [<- hs3];rfl
 generalize hH3:upd H2 s2.heap.objs.size (.lst [])=H3 at I3 w0;rw [<- eh] at hns₁ hsb₁ ⊢;rw [e2]
 have below2:∀b,b∈fp->b < s3.heap.objs.size:=fun b hb=>by
  obtain ⟨o,e,_⟩:=T.obj _ _ st2 b hb;have:s2.heap.objs.size<=s3.heap.objs.size:=by rw [eh,Heap.size_push];exact Nat.le_succ _
  exact Nat.lt_of_lt_of_le (Heap.lt_size e) this
 have old:∀b o,s3.heap.get? b=some o->h₁.get? b=some o:=fun b o e=>(hsb₁.2 b (Nat.ne_of_lt (Heap.lt_size e))).trans (Heap.get?_push_of_some _ e);have old2:∀b o,s2.heap.get? b=some o->s3.heap.get? b=some o:=fun b o e=>by rw [eh];exact Heap.get?_push_of_some _ e
 have hsz3:s2.heap.objs.size < s3.heap.objs.size:=by rw [eh,Heap.size_push];exact Nat.lt_succ_self _
 have fpFree:∀b∈fp,H3 b=none:=fun b hb=>by
  rw [<- hH3,Ak (fun z=>?_)]
  ·exact (f2 b hb).1
  ·obtain ⟨o,e,_⟩:=T.obj _ _ st2 b hb;have:=Heap.lt_size e;rw [z] at this;exact Nat.lt_irrefl _ this
 have rl:∀y,(relabel sc X.env).names.lookup y=(sc.names.lookup y).map fun k=>if (k == NameKind.free && X.env.scope.kind == .function && X.env.kindOf y == some .cell) then NameKind.cell else k:=fun y=>Cc X.env sc.names y;have freeOf:∀y,sc.names.lookup y=some .free->∃c,cl.lookup y=some c:=fun y e=>clH (y,.free) (PySem.mem_of_lookup e) rfl;have noCell:∀y,sc.names.lookup y≠some .cell:=fun y e=>cn.cell (y,.cell) (PySem.mem_of_lookup e) rfl
 have isFree:∀y,((relabel sc X.env).names.lookup y=some .cell\/(relabel sc X.env).names.lookup y=some .free)->sc.names.lookup y=some .free:=fun y h=>by
  rw [rl y] at h
  cases e:sc.names.lookup y with
  | none=>rw [e] at h;rcases h with z | z <;> exact absurd z (by simp)
  | some k =>
    rw [e] at h
    cases k with
    | free=>rfl
    | cell=>exact absurd e (noCell y)
    | «local»=>rcases h with z | z <;> exact absurd z (by simp)
    | _=>rcases h with z | z <;> exact absurd z (by simp)
 have exOk:∀b∈fp,b≠s3.heap.objs.size/\(∀y c,X.env.cells.lookup y=some c->c≠b)/\b ∉ frs X.stack:=fun b hb=>by
  obtain ⟨g0,g1,g2,g3,g4,g5⟩:=f2 b hb;refine ⟨Nat.ne_of_lt (below2 b hb),g4,fun z=>?_⟩;rcases mem_cons.mp (I2.stkSub b z) with z | z
  ·exact g1 z
  ·exact g2 z
 have hCnew:X.s₀.heap.objs.size<=s3.heap.objs.size:=I3.sz
 have hCcell:∀y c,X.env.cells.lookup y=some c->c≠s3.heap.objs.size:=fun y c e z=>by
  obtain ⟨v,q⟩:=I3.cell y c e;have:=q.lt;rw [z] at this;exact Nat.lt_irrefl _ this
 have hCpin:∀p∈X.pn++pins,p.1≠s3.heap.objs.size:=fun p hp z=>by
  have:=Heap.lt_size (I3.pin p hp).1;rw [z] at this;exact Nat.lt_irrefl _ this
 have okc:(X.inComp Nc sc cl s3 H3 fp).Ok:=by
  refine ⟨I3.ok.mod,cn.kind,I3.ok.glob,I3.ok.blt,Nat.le_refl _,fun y z c h1 h2=>I3.ok.inj y z c (clS y c h1) (clS z c h2),fun y hy=>freeOf y (isFree y hy),fun y c hf=>absurd (show false=true from hf) Bool.false_ne_true,I3.ok.hd,I3.ok.frames,.inl rfl,
   fun b hb=>⟨(exOk b hb).1,fun y c e=>(exOk b hb).2.1 y c (clS y c e)⟩,fun b o e=>I3.bs b o e,Nat.le_trans I3.ok.bsz I3.sz,fun b o e hb=>?_,fun b hb=>(exOk b hb).2.2,I3.stack,I3.stkFree⟩
  obtain ⟨g0,g1,g2,g3,g4,g5⟩:=f2 b hb;rcases g3 with z | z
  ·exact I3.ok.noex b o e z
  ·exact absurd (Heap.lt_size (I3.ok.bs b o e).1) (Nat.not_lt.mpr z)
 have hlen:σ.length=N.length:=by rw [I3.len,hXN]
 have Ic:Inv (X.inComp Nc sc cl s3 H3 fp) [] (σ++List.replicate xs.length none) H3 { s3 with heap:=h₁,toks:=s3.toks }:=by
  refine ⟨okc,rfl,I3.bare,Un.kept old,⟨_,hns₁,fun i y v h1 h2 h3=>?_⟩,fun y c e=>?_,I3.hok.fresh (Nat.le_refl _),fun y c e=>I3.freeC y c (clS y c e),fun p hp=>absurd (show p∈([]:List (Addr × Obj)) from hp) (by simp),I3.hok.kept old,?_⟩
  ·have hi:i < σ.length:=by
    by_cases hi:i < σ.length
    ·exact hi
    ·rw [List.getElem?_append_right (Nat.not_lt.mp hi)] at h2;rw [List.getElem?_replicate] at h2
     split at h2 <;> cases h2
   rw [List.getElem?_append_left hi] at h2;have hi':i < N.length:=by rw [<- hlen];exact hi
   obtain ⟨n1,n2,n3⟩:=cn.at hi' h1
   have hf:sc.names.lookup y=some .free:=by
    rcases h3 with z | z
    ·exfalso;have z':(relabel sc X.env).names.lookup y=some .local:=z;rw [rl y] at z'
     cases e:sc.names.lookup y with
     | none=>rw [e] at z';simp at z'
     | some k =>
       rw [e] at z'
       cases k with
       | «local»=>exact n1 e
       | cell=>exact n2 e
       | free =>
         simp only [Option.map_some,Option.some.injEq] at z'
         split at z' <;> cases z'
       | _=>simp at z'
    ·exact isFree y z
   have hN:X.N[i]?=some y:=by rw [hXN];exact n3 hf
   obtain ⟨m,hn,hl⟩:=I3.loc;have hv:fsc.names.lookup y=some .cell\/fsc.names.lookup y=some .free:=cn.fr (y,.free) (PySem.mem_of_lookup hf) rfl;have hv':X.env.scope.names.lookup y=some .cell\/X.env.scope.names.lookup y=some .free:=by rw [hE];exact hv
   obtain ⟨u,ru,lk⟩:=hl i y v hN h2 (.inr hv');refine ⟨u,ru,.inr ⟨?_,?_⟩⟩
   ·show (relabel sc X.env).names.lookup y=some .cell\/(relabel sc X.env).names.lookup y=some .free;rw [rl y,hf];simp only [Option.map_some,Option.some.injEq]
    split
    ·exact .inl rfl
    ·exact .inr rfl
   ·rcases lk with ⟨kl,_⟩ | ⟨_,c,hc,hcell⟩
    ·exfalso;have kl':X.env.scope.names.lookup y=some .local:=kl;rw [kl'] at hv';rcases hv' with z | z <;> cases z
    ·obtain ⟨d,hd⟩:=freeOf y hf;have ed:=clS y d hd;rw [hc] at ed
     cases ed
     exact ⟨c,hd,hcell.keeps old⟩
  ·obtain ⟨v,q⟩:=I3.cell y c (clS y c e);exact ⟨v,q.keeps old⟩
  ·show (σ++List.replicate xs.length none).length=Nc.length;rw [length_append,hlen,cn.len,length_replicate]
 have stc:tn 0 ({ s3 with heap:=h₁,toks:=s3.toks }:Shared).heap:=T.keep _ _ _ st2 fun b _ o e=>old b o (old2 b o e)
 have hDf:s2.heap.objs.size ∉ fp:=fun hm=>by
  obtain ⟨o,e,_⟩:=T.obj _ _ st2 _ hm;exact Nat.lt_irrefl _ (Heap.lt_size e)
 have fpc:∀{pins':List (Addr × Obj)} {H':Hp},pins'=[]->(∀b∈fp,H' b=none)->∀b∈fp,Gm (X.inComp Nc sc cl s3 H3 fp) pins' H' b:=fun {pins' H'} hp hn b hb=>by
  subst hp;exact ⟨hn b hb,(exOk b hb).1,(exOk b hb).2.2,.inl hb,fun y c e=>(exOk b hb).2.1 y c (clS y c e),fun p hp=>absurd (show p∈([]:List (Addr × Obj)) from hp) (by simp)⟩
 have loop:∀s₄:Shared,s₄={ s3 with heap:=h₁,toks:=s3.toks } ->
  codeAny (model X.prog X.w) X.A (.compLoop (.ListComp elt [⟨tg,iter,ifs,0⟩] sc pos) 0 (.ref it) (.ref s2.heap.objs.size) (compEnvC sc cl s3.heap.objs.size X.env))
   (fun r s'=>r=.ok .next/\∃D H',(Value.ref s2.heap.objs.size)=.ref D/\Inv X pins σ H' s'/\Q (.ref D) H'/\DI X pins H' s3.heap.objs.size/\∃m,s'.heap.Ns s3.heap.objs.size m) s₄:=by
  rintro s₄ rfl;refine RQ (fun n s'=>∃(i:Nat) (o:St) (H':Hp) (ys:List V),o.length=xs.length/\Inv (X.inComp Nc sc cl s3 H3 fp) [] (σ++o) H' s'/\tn i s'.heap/\(∀b∈fp,H' b=none)/\W i n ys H') ?_ m0 ⟨0,_,H3,[],length_replicate ..,Ic,stc,fpFree,w0⟩;rintro n s' ⟨i,o,H',ys,lo,I',st',fr',w'⟩;obtain ⟨hDl,tw⟩:=turn i n ys H' w';rcases tw with ⟨stop,q⟩ | ⟨go,hz,step⟩
  ·
   refine thn (T.done (X.inComp Nc sc cl s3 H3 fp) rfl rfl rfl hc i [] s' _ H' _ I' (fpc rfl fr') st' stop) fun r s5 ⟨hr,I5⟩=>?_;subst hr
   have Ix:Inv X pins σ H' s5:=I3.call' (ch:=fp) I5.os I5.base I5.hok I5.bare fun b hb=>by
    obtain ⟨g0,g1,g2,g3,g4,g5⟩:=f2 b hb;exact ⟨g3,g1,g4,g5⟩
   have hCf:H' s3.heap.objs.size=none:=I5.free;obtain ⟨m,hn,_⟩:=I5.loc;exact ⟨rfl,s2.heap.objs.size,H',rfl,Ix,q,⟨hCf,fun z=>Nat.lt_irrefl _ (by have:=I3.lt;rw [<- z] at this;exact this),hCnew,hCcell,hCpin⟩,m,hn⟩
  ·
   refine thn (T.item (X.inComp Nc sc cl s3 H3 fp) rfl rfl rfl hc i [] s' _ H' _ I' (fpc rfl fr') st' go) fun r s5 ⟨u,hr,h4⟩=>?_;subst hr;dsimp only;refine E4 h4 fun _ s6 ⟨xv,H5,I5,r5,y5,st5,fr5⟩=>?_;have I5':=I5.pinned (fpc rfl fr5) (T.obj _ _ st5)
   have again:∀{o':St} {H7:Hp} {s7:Shared} {m':Nat} {ys':List V},o'.length=xs.length->Inv (X.inComp Nc sc cl s3 H3 fp) ([]++FH fp s6.heap) (σ++o') H7 s7->m' < n->W (i+1) m' ys' H7 ->
    ∃m,m < n/\∃(i:Nat) (o:St) (H':Hp) (ys:List V),o.length=xs.length/\Inv (X.inComp Nc sc cl s3 H3 fp) [] (σ++o) H' s7/\tn i s7.heap/\(∀b∈fp,H' b=none)/\W i m ys H':=fun {o' H7 s7 m' ys'} lo' I7 hm w7=>by
    refine ⟨m',hm,i+1,o',H7,ys',lo',I7.unpinned,T.keep _ _ _ st5 fun b hb o e=>(I7.pin (b,o) (mem_append_right _ (mem_append_right _ (Cp hb e)))).1,fun b hb=>?_,w7⟩;obtain ⟨o',e,d⟩:=T.obj _ _ st5 b hb;exact (I7.pin (b,o') (mem_append_right _ (mem_append_right _ (Cp hb e)))).2.1
   refine E4 (hg cl s3 H3 fp _ s6 _ H5 xv u _ I5' r5 (step xv _ y5 o lo)) fun _ s7 ⟨σ7,H7,I7,⟨o7,e7,lo7⟩,q7⟩=>?_;subst e7;refine E4 (ht cl s3 H3 fp _ s7 _ _ _ I7 q7) fun b s8 ⟨H8,I8,q8⟩=>?_
   cases b with
   | false =>
     rw [if_neg Bool.false_ne_true] at q8 ⊢;obtain ⟨m',hm,w8⟩:=q8;exact again lo7 I8 hm w8
   | true =>
     rw [if_pos rfl] at q8 ⊢;refine E4 (he cl s3 H3 fp _ s8 _ H8 _ I8 q8) fun y s9 ⟨yv,H9,I9,r9,hD9,m',hm,w9⟩=>?_;refine E4 (Ct _ s9 _ H9 (.ref s2.heap.objs.size) [yv] (.ref s2.heap.objs.size) [y] (fun v H=>v=.non/\H=upd H9 s2.heap.objs.size (.lst (ys++[yv]))) I9 rfl (.cons r9 .nil) ⟨_,ys,yv,rfl,rfl,hD9,hz,rfl,rfl⟩) fun _ s10 ⟨v10,H10,I10,r10,e10,e11⟩=>?_;subst e11;exact again lo7 I10 hm w9
 exact codeAny_compStart_list (loop _ rfl) (T.self _ 0 _ _ _ stc (loop _ rfl))
theorem Ej (I:∀y,(X.env.kindOf y=some .cell\/X.env.kindOf y=some .free)->∃c,X.env.cells.lookup y=some c) (hE:X.env.scope=fsc) (cn:Dj N Nc xs sc fsc):∀y∈sc.names,y.2=.free->∃c,X.env.cells.lookup y.1=some c:=fun y hy hf=>by
 refine I y.1 ?_;show X.env.scope.names.lookup y.1=some .cell\/X.env.scope.names.lookup y.1=some .free;rw [hE];exact cn.fr y hy hf
theorem Oo (hE:X.env.scope=fsc) (hXN:X.N=N) (cn:Dj N Nc xs sc fsc) (hc:X.calm=true) (hi:PI X tg iter wi)
 (hg:∀cl s H ex,PG (X.inComp Nc sc cl s H ex) tg g) (ht:∀cl s H ex,Fn (X.inComp Nc sc cl s H ex) ifs tt) (he:∀cl s H ex,PE (X.inComp Nc sc cl s H ex) elt te)
 (hs:∀v,foldedSetIterable iter X.env v=pure v:=by intro _;rfl):PE X (.ListComp elt [⟨tg,iter,ifs,0⟩] sc pos) (IW xs.length wi g tt te):=by
 intro pins s σ H Q I h;obtain ⟨cl,hcl,clS,clH⟩:=Ck (env:=X.env) (sc:=sc) (Ej I.ok.has hE cn);rw [eval_ListComp];refine wpAny_comprehension_free (use:=none) rfl hs hcl cn.kind cn.nm (thn (hi pins s σ H _ I h) fun v s1 h1=>thn h1 fun itv s2 h2=>?_);obtain ⟨it,fp,tn,J,H2,rfl,I2,T,st2,f2,h2⟩:=h2;refine thn (D3 (pos:=pos) (iter:=iter) hE hXN cn hc hg ht he clS clH I2 T st2 f2 h2) fun acc s3 h3=>thn h3 fun cenv s4 h4=>codeAny_mono h4 fun r s' h5=>?_;obtain ⟨rfl,D,H',rfl,I',q,cloc,m,hn⟩:=h5;exact ⟨m,hn,fun h' k=>⟨.ref D,H',I'.sameBut cloc k,rfl,q⟩⟩
theorem OM {j:Nat} {y:Str} {py spos:Pos} (hE:X.env.scope=fsc) (hXN:X.N=N) (cn:Dj N Nc xs sc fsc) (hc:X.calm=true) (hnd:X.N.Nodup) (hj:X.N[j]?=some y) (hy:X.env.scope.names.lookup y=some .local) (hi:PI X tg iter wi)
 (hg:∀cl s H ex,PG (X.inComp Nc sc cl s H ex) tg g) (ht:∀cl s H ex,Fn (X.inComp Nc sc cl s H ex) ifs tt) (he:∀cl s H ex,PE (X.inComp Nc sc cl s H ex) elt te)
 (hsw:swapsWith (.ListComp elt [⟨tg,iter,ifs,0⟩] sc pos) (some (.Name y py)) spos.line X.env=pure true)
 (hs:∀v,foldedSetIterable iter X.env v=pure v:=by intro _;rfl):PS X (.Assign [.Name y py] (.ListComp elt [⟨tg,iter,ifs,0⟩] sc pos) spos) (NO (IW xs.length wi g tt te) (B0 j)):=by
 intro pins s σ H D I h;obtain ⟨cl,hcl,clS,clH⟩:=Ck (env:=X.env) (sc:=sc) (Ej I.ok.has hE cn);rw [exec_Assign_Name_used _ _ _ _ hsw];refine wpAny_bind (wpAny_standAt (wpAny_bind ?_));show wpAny _ X.A (do let _ <- comprehension (.ListComp elt [⟨tg,iter,ifs,0⟩] sc pos) sc X.env _ (newList []) false (eval iter X.env) (some (assign (.Name y py) X.env))) _ _ s;refine wpAny_bind (thn (wpAny_comprehension_free (Q:=fun _ s'=>SP X pins D .next s') rfl hs hcl cn.kind cn.nm (thn (hi pins s σ H _ I h) fun v s1 h1=>thn h1 fun itv s2 h2=>?_)) fun _ s' hq=>wpAny_pure (wpAny_pure hq));obtain ⟨it,fp,tn,J,H2,rfl,I2,T,st2,f2,h2⟩:=h2;refine thn (D3 (pos:=pos) (iter:=iter) (Q:=fun x H1=>B0 j x σ H1 D.nx) hE hXN cn hc hg ht he clS clH I2 T st2 f2 h2) fun acc s3 h3=>thn h3 fun cenv s4 h4=>codeAny_mono h4 fun r s' h5=>?_;obtain ⟨rfl,D',H',rfl,I',q,cloc,m,hn⟩:=h5;refine wpAny_assign_Name (FD (v:=.ref D') I' hnd hj (.inl hy) rfl (fun s6 I6 sb=>?_) (.inr hy));obtain ⟨a,k,ha⟩:=sb;refine ⟨m,hn.sameBut k (fun z=>?_),fun h' k'=>⟨_,H',I6.sameBut cloc k',q⟩⟩;rcases ha with ha | ha
 ·exact cloc.ne (z.trans ha)
 ·exact cloc.cells _ _ ha z.symm
end
section
variable {X:Cx} {elt iter:Expr} {x1 x2 x3:Str} {p1 p2 p3 pt pos:Pos} {k:Nat} {ifs:List Expr} {sc fsc:Scope} {N Nc:List Str} {wi:TI} {tt:TT} {te:TE}
theorem Jz (hE:X.env.scope=fsc) (hXN:X.N=N) (cn:Dj N Nc [x1,x2] sc fsc) (hc:X.calm=true) (hi:PI X (.Tuple [.Name x1 p1,.Name x2 p2] k pt) iter wi)
 (ht:∀cl s H ex,Fn (X.inComp Nc sc cl s H ex) ifs tt) (he:∀cl s H ex,PE (X.inComp Nc sc cl s H ex) elt te) (hs:∀v,foldedSetIterable iter X.env v=pure v:=by intro _;rfl) :
 PE X (.ListComp elt [⟨.Tuple [.Name x1 p1,.Name x2 p2] k pt,iter,ifs,0⟩] sc pos) (IW 2 wi (MM X.K 2 (C2 (B0 N.length) (C2 (B0 (N.length+1)) Nf))) tt te) :=
 Oo hE hXN cn hc hi (fun cl s H ex=>Di (X:=X.inComp Nc sc cl s H ex) hc (A9 (BZ (j:=0) cn rfl rfl) (A9 (BZ (j:=1) cn rfl rfl) C0))) ht he hs
end
end L2
namespace L2
open PySem PySem.Spec PyProof.Rows
theorem DC.ns {N Nc:List Str} {x:Str} {sc fsc:Scope} (c:DC N Nc x sc fsc):Dj N Nc [x] sc fsc:=⟨c.kind,c.cell,c.nm,fun y m=>by rw [mem_singleton.mp m];exact c.own,c.fr,c.len,c.nd,by
 have l:=c.len;refine ext_getElem? fun i=>?_;rw [List.getElem?_drop]
 cases i with
 | zero=>exact c.last
 | succ i=>rw [List.getElem?_eq_none (by omega),List.getElem?_eq_none (by show 1<=i+1;omega)],c.slot⟩
section
variable {X:Cx} {elt iter:Expr} {x:Str} {px pos:Pos} {ifs:List Expr} {sc fsc:Scope} {N Nc:List Str} {wi:TI} {tt:TT} {te:TE}
theorem Im {J:It} {σ:St} {H1:Hp} {Q:VK} {n:Nat} (hn:n=σ.length) (h:∀D,H1 D=none->∃W:Nat->Nat->List V->Hp->Prop,(∃m,W 0 m [] (upd H1 D (.lst [])))/\∀i m ys H2,W i m ys H2 ->
 H2 D=some (.lst ys)/\((J.stop i H2/\Q (.ref D) H2)\/(J.go i H2/\ys.length < sizeLine/\∀x H3,J.yld i H2 x H3->tt (σ++[some x]) H3 fun b H4=>if b=true then te (σ++[some x]) H4 fun y H5=>H5 D=some (.lst ys)/\∃m',m' < m/\W (i+1) m' (ys++[y]) (upd H5 D (.lst (ys++[y])))
  else ∃m',m' < m/\W (i+1) m' ys H4))) :
 ∀D,H1 D=none->∃W:Nat->Nat->List V->Hp->Prop,(∃m,W 0 m [] (upd H1 D (.lst [])))/\∀i m ys H2,W i m ys H2 ->
  H2 D=some (.lst ys)/\((J.stop i H2/\Q (.ref D) H2)\/(J.go i H2/\ys.length < sizeLine/\∀x H3,J.yld i H2 x H3->∀os:St,os.length=1->B0 n x (σ++os) H3 fun σ4 H4=>(∃os':St,σ4=σ++os'/\os'.length=1)/\tt σ4 H4 fun b H5=>if b=true then te σ4 H5 fun y H6=>H6 D=some (.lst ys)/\∃m',m' < m/\W (i+1) m' (ys++[y]) (upd H6 D (.lst (ys++[y])))
   else ∃m',m' < m/\W (i+1) m' ys H5)):=by
 intro D hD;obtain ⟨W,w0,w1⟩:=h D hD;refine ⟨W,w0,fun i m ys H2 w=>?_⟩;obtain ⟨a,b⟩:=w1 i m ys H2 w;refine ⟨a,b.imp id fun ⟨c,d,e⟩=>⟨c,d,fun x H3 y os ho=>?_⟩⟩
 match os,ho with
 | [o],_ =>
   have e2:(σ++[o]).set n (some x)=σ++[some x]:=by rw [hn];exact Ke
   show (∃os':St,(σ++[o]).set n (some x)=σ++os'/\os'.length=1)/\_;rw [e2];exact ⟨⟨[some x],rfl,rfl⟩,e x H3 y⟩
theorem Bb (hE:X.env.scope=fsc) (hXN:X.N=N) (cn:DC N Nc x sc fsc) (hc:X.calm=true) (hi:PI X (.Name x px) iter wi)
 (ht:∀cl s H ex,Fn (X.inComp Nc sc cl s H ex) ifs tt) (he:∀cl s H ex,PE (X.inComp Nc sc cl s H ex) elt te)
 (hs:∀v,foldedSetIterable iter X.env v=pure v:=by intro _;rfl):PE X (.ListComp elt [⟨.Name x px,iter,ifs,0⟩] sc pos) (La wi tt te):=by
 intro pins s σ H Q I h;obtain ⟨cl,hcl,clS,clH⟩:=Ck (env:=X.env) (sc:=sc) (Ej I.ok.has hE cn.ns);rw [eval_ListComp];refine wpAny_comprehension_free (use:=none) rfl hs hcl cn.kind cn.nm (thn (hi pins s σ H _ I h) fun v s1 h1=>thn h1 fun itv s2 h2=>?_);obtain ⟨it,fp,tn,J,H2,rfl,I2,T,st2,f2,h2⟩:=h2;refine thn (D3 (pos:=pos) (iter:=iter) hE hXN cn.ns hc (fun cl s H ex=>BZ (j:=0) cn.ns rfl rfl) ht he clS clH I2 T st2 f2 (Im (by rw [I2.len,hXN];rfl) h2)) fun acc s3 h3=>thn h3 fun cenv s4 h4=>codeAny_mono h4 fun r s' h5=>?_;obtain ⟨rfl,D,H',rfl,I',q,cloc,m,hn⟩:=h5;exact ⟨m,hn,fun h' k=>⟨.ref D,H',I'.sameBut cloc k,rfl,q⟩⟩
theorem Cw {j:Nat} {y:Str} {py spos:Pos} (hE:X.env.scope=fsc) (hXN:X.N=N) (cn:DC N Nc x sc fsc) (hc:X.calm=true) (hnd:X.N.Nodup) (hj:X.N[j]?=some y) (hy:X.env.scope.names.lookup y=some .local) (hi:PI X (.Name x px) iter wi)
 (ht:∀cl s H ex,Fn (X.inComp Nc sc cl s H ex) ifs tt) (he:∀cl s H ex,PE (X.inComp Nc sc cl s H ex) elt te)
 (hsw:swapsWith (.ListComp elt [⟨.Name x px,iter,ifs,0⟩] sc pos) (some (.Name y py)) spos.line X.env=pure true)
 (hs:∀v,foldedSetIterable iter X.env v=pure v:=by intro _;rfl):PS X (.Assign [.Name y py] (.ListComp elt [⟨.Name x px,iter,ifs,0⟩] sc pos) spos) (NO (La wi tt te) (B0 j)):=by
 intro pins s σ H D I h;obtain ⟨cl,hcl,clS,clH⟩:=Ck (env:=X.env) (sc:=sc) (Ej I.ok.has hE cn.ns);rw [exec_Assign_Name_used _ _ _ _ hsw];refine wpAny_bind (wpAny_standAt (wpAny_bind ?_));show wpAny _ X.A (do let _ <- comprehension (.ListComp elt [⟨.Name x px,iter,ifs,0⟩] sc pos) sc X.env _ (newList []) false (eval iter X.env) (some (assign (.Name y py) X.env))) _ _ s;refine wpAny_bind (thn (wpAny_comprehension_free (Q:=fun _ s'=>SP X pins D .next s') rfl hs hcl cn.kind cn.nm (thn (hi pins s σ H _ I h) fun v s1 h1=>thn h1 fun itv s2 h2=>?_)) fun _ s' hq=>wpAny_pure (wpAny_pure hq));obtain ⟨it,fp,tn,J,H2,rfl,I2,T,st2,f2,h2⟩:=h2;refine thn (D3 (pos:=pos) (iter:=iter) (Q:=fun x H1=>B0 j x σ H1 D.nx) hE hXN cn.ns hc (fun cl s H ex=>BZ (j:=0) cn.ns rfl rfl) ht he clS clH I2 T st2 f2 (Im (Q:=fun x H1=>B0 j x σ H1 D.nx) (by rw [I2.len,hXN];rfl) h2)) fun acc s3 h3=>thn h3 fun cenv s4 h4=>codeAny_mono h4 fun r s' h5=>?_;obtain ⟨rfl,D',H',rfl,I',q,cloc,m,hn⟩:=h5;refine wpAny_assign_Name (FD (v:=.ref D') I' hnd hj (.inl hy) rfl (fun s6 I6 sb=>?_) (.inr hy));obtain ⟨a,k,ha⟩:=sb;refine ⟨m,hn.sameBut k (fun z=>?_),fun h' k'=>⟨_,H',I6.sameBut cloc k',q⟩⟩;rcases ha with ha | ha
 ·exact cloc.ne (z.trans ha)
 ·exact cloc.cells _ _ ha z.symm
end
end L2
namespace L2
open PySem PySem.Spec PyProof.Rows
noncomputable def Itz (K:PySem.W.Frag) (a b:Addr):It :=
 ⟨fun i H=>∃xs ys x y,SqL K H a xs/\SqL K H b ys/\xs[i]?=some x/\ys[i]?=some y,fun i H x H'=>∃T y z,x=.ref T/\H T=none/\H'=upd H T (.tup [y,z])/\(∀xs,SqL K H a xs->xs[i]?=some y)/\∀xs,SqL K H b xs->xs[i]?=some z,
  fun i H=>∃xs ys,SqL K H a xs/\SqL K H b ys/\(xs.length<=i\/ys.length<=i)⟩
theorem Ni {n a b:Nat} (ha:a < n) (hb:b < n):ZipApart (n+4) (n+2) (n+3) n (n+1) a b:=by
 constructor <;> (show @Ne Nat _ _) <;> omega
theorem OL {z TO i1 i2 TI c:Addr} (h:c ∉ [z,TI,TO,i1,i2]):c≠z/\c≠TO/\c≠i1/\c≠i2 :=
 ⟨fun e=>h (by simp [e]),fun e=>h (by simp [e]),fun e=>h (by simp [e]),fun e=>h (by simp [e])⟩
theorem ND {P:Program} {w:World} {K:PySem.W.Frag} {es:List Expr} {k:Nat} {pos:Pos} (a b z TI TO i1 i2:Addr) (D:ZipApart z TI TO i1 i2 a b) :
 KC P w K (.Tuple es k pos) (Itz K a b) [z,TI,TO,i1,i2] z (fun i h=>IsZip h z TI TO .none/\IsPair h TI (.ref i1) (.ref i2)/\(∃u v,IsPair h TO u v)/\h.IsListIter i1 a i/\h.IsListIter i2 b i) where
 mem:=by simp
 obj:=fun i h st c hc=>by
  obtain ⟨hz,hTI,⟨u,v,hTO⟩,⟨o1,e1,c1,d1⟩,o2,e2,c2,d2⟩:=st;simp only [mem_cons,List.not_mem_nil,or_false] at hc;rcases hc with q | q | q | q | q <;> subst q
  ·exact ⟨_,hz,fun v z=>by cases (show Data.fields _=Data.cell v from z)⟩
  ·exact ⟨_,hTI,fun v z=>by cases (show Data.seq _ _=Data.cell v from z)⟩
  ·exact ⟨_,hTO,fun v z=>by cases (show Data.seq _ _=Data.cell v from z)⟩
  ·exact ⟨o1,e1,fun v z=>by rw [d1] at z;cases z⟩
  ·exact ⟨o2,e2,fun v z=>by rw [d2] at z;cases z⟩
 keep:=fun i h h' st kk=>by
  obtain ⟨hz,hTI,⟨u,v,hTO⟩,h1,h2⟩:=st;exact ⟨kk z (by simp) _ hz,kk TI (by simp) _ hTI,⟨u,v,kk TO (by simp) _ hTO⟩,h1.at fun o q=>kk i1 (by simp) o q,h2.at fun o q=>kk i2 (by simp) o q⟩
 item:=by
  intro X hP hw hK hc i pins s σ H E I hf st hg;subst hP hw hK;obtain ⟨xs,ys,x,y,hx,hy,ex,ey⟩:=hg;obtain ⟨its,rv,p,_⟩:=I.list hx;obtain ⟨jts,rw',p',_⟩:=I.list hy;obtain ⟨u,hu,ru⟩:=rv.get ex;obtain ⟨v,hv,rv'⟩:=rw'.get ey;obtain ⟨hz,hTI,⟨c,d,hTO⟩,h1,h2⟩:=st;refine wpAny_pyNext_zip_item D hz hTI hTO h1 h2 p.isList p'.isList (x:=u) (y:=v) (by simpa using hu) (by simpa using hv) fun g1 z1 t1 a1 a2 nT hsz hk=>⟨_,rfl,?_⟩;refine wpAny_letOwnedTupleGo_zip z1 fun g2 z2 sb=>?_;have fr:H s.heap.objs.size=none:=I.hok.fresh (Nat.le_refl _)
  have lt:∀b∈[z,TI,TO,i1,i2],b < s.heap.objs.size:=fun b hb=>by
   obtain ⟨o1,e1,_⟩:=id h1;obtain ⟨o2,e2,_⟩:=id h2;simp only [mem_cons,List.not_mem_nil,or_false] at hb;rcases hb with q | q | q | q | q <;> subst q
   ·exact Heap.lt_size hz
   ·exact Heap.lt_size hTI
   ·exact Heap.lt_size hTO
   ·exact Heap.lt_size e1
   ·exact Heap.lt_size e2
  refine ⟨.ref s.heap.objs.size,upd H s.heap.objs.size (.tup [x,y]),?_,rfl,⟨_,x,y,rfl,fr,rfl,fun l hl=>by rw [I.list_inj hl hx];exact ex,fun l hl=>by rw [I.list_inj hl hy];exact ey⟩,
   ⟨z2,(sb.2 TI D.TIz).trans (hk TI _ D.TIz D.TITO D.TIi1 D.TIi2 hTI),⟨u,v,(sb.2 TO D.TOz).trans t1⟩,a1.at fun o q=>(sb.2 i1 D.i1z).trans q,a2.at fun o q=>(sb.2 i2 D.i2z).trans q⟩,fun b hb=>?_⟩
  ·refine I.laidTurned (fp:=[z,TI,TO,i1,i2]) (t':=s.toks) (fun c o hc q=>?_) hf (Nat.le_refl _) ?_
   ·obtain ⟨n1,n2,n3,n4⟩:=OL hc;exact (sb.2 c n1).trans (hk c o n1 n2 n3 n4 q)
   ·exact ⟨by show 2<=sizeLine;decide,[u,v],.cons ru (.cons rv' .nil),⟨_,(sb.2 _ (Nat.ne_of_gt (lt z (by simp)))).trans nT,rfl,_,rfl⟩⟩
  ·rw [Ak (Nat.ne_of_lt (lt b hb))];exact (hf b hb).1
 done:=by
  intro X hP hw hK hc i pins s σ H E I hf st hg;subst hP hw hK;obtain ⟨xs,ys,hx,hy,en⟩:=hg;obtain ⟨its,rv,p,_⟩:=I.list hx;obtain ⟨jts,rw',p',_⟩:=I.list hy;obtain ⟨hz,hTI,⟨c,d,hTO⟩,h1,h2⟩:=st;have l1:=rv.length;have l2:=rw'.length;refine wpAny_pyNext_zip_end (I.ok.hd hc) D hz hTI hTO h1 h2 p.isList p'.isList ?_ fun h' hk=>⟨rfl,I.turnedAll (fp:=[z,TI,TO,i1,i2]) (t':=s.toks) (fun c o hc q=>?_) hf⟩
  ·rcases en with q | q
   ·exact .inl (by simp;omega)
   ·exact .inr (by simp;omega)
  ·obtain ⟨n1,n2,n3,n4⟩:=OL hc;exact hk c o n1 n2 n3 n4 q
 self:=fun _ _ _ _ _ st h=>wpAny_pyIter_zip st.1 h
section
variable {X:Cx}
noncomputable def Su (K:PySem.W.Frag) (ta:TA):TI:=fun σ H R=>ta σ H fun vs H1=>∃a b,vs=[.ref a,.ref b]/\(∃xs,SqL K H1 a xs)/\(∃ys,SqL K H1 b ys)/\R (Itz K a b) H1
theorem Rk {l m:Expr} {ta:TA} {p pos pt:Pos} {es:List Expr} {k:Nat} (hg:Gl X "zip") (hm:X.mg "zip"=none) (ha:PA X [l,m] ta) (hs:starEach [l,m] X.env=[(false,eval l X.env),(false,eval m X.env)]:=by rfl) (hs2:starEach [m] X.env=[(false,eval m X.env)]:=by rfl) :
 PI X (.Tuple es k pt) (.Call (.Name "zip" p) [l,m] [] pos) (Su X.K ta):=by
 intro pins s σ H R I h;refine Call_ (Cv I hg hm boot_zip (PyProof.Rows.callWith_type1 (thn (ha pos pins s σ H _ I h) fun us s1 ⟨vs,H1,I1,r1,q1⟩=>?_) (by rw [hs,hs2]) (by rw [hs2];rfl)));obtain ⟨a,b,e,⟨xs,hx⟩,⟨ys,hy⟩,q⟩:=q1;subst e
 cases r1 with
 | cons r rr =>
   cases rr with
   | cons r' rr =>
     cases rr
     cases r
     cases r'
     obtain ⟨its,rv,p1,_⟩:=I1.list hx;obtain ⟨jts,rw',p2,_⟩:=I1.list hy;have lta:a < s1.heap.objs.size:=by obtain ⟨o,q,_⟩:=p1.isList;exact Heap.lt_size q
     have ltb:b < s1.heap.objs.size:=by obtain ⟨o,q,_⟩:=p2.isList;exact Heap.lt_size q
     refine call_zip_2 p1.isList p2.isList fun h' hz hTI hTO h1 h2 hsz hk=>?_;refine wpAny_pyIter_zip (s:={ s1 with heap:=h' }) hz ?_;have D:ZipApart (s1.heap.objs.size+4) (s1.heap.objs.size+2) (s1.heap.objs.size+3) s1.heap.objs.size (s1.heap.objs.size+1) a b:=Ni lta ltb;refine ⟨s1.heap.objs.size+4,[s1.heap.objs.size+4,s1.heap.objs.size+2,s1.heap.objs.size+3,s1.heap.objs.size,s1.heap.objs.size+1],_,_,H1,rfl,I1.kept (t':=s1.toks) hk,ND a b _ _ _ _ _ D,⟨hz,hTI,⟨_,_,hTO⟩,h1,h2⟩,fun c hc=>?_,q⟩
     have ge:s1.heap.objs.size<=c:=by
      simp only [mem_cons,List.not_mem_nil,or_false] at hc;rcases hc with q | q | q | q | q <;> rw [q] <;> first | exact Nat.le_refl _ | exact Nat.le_add_right _ _
     exact I1.fpOk ge (I1.hok.fresh ge)
end
section
variable {X:Cx}
theorem Fh {K:PySem.W.Frag} (hK:X.K=K:=by rfl):MtR X "list.index" (fun x vs H Q=>∃(a:Addr) (ns:List Int) (k:Int),x=.ref a/\vs=[.int k]/\SqL K H a (ns.map V.int)/\k∈ns/\Q (.int (ns.idxOf k:Nat)) H):=by
 subst hK;intro pins s σ H x vs v us Q I rx rv h;obtain ⟨a,ns,k,rfl,rfl,hq,hk,q⟩:=h
 cases rx
 obtain ⟨u,rfl,t,rfl⟩:=DB rv;obtain ⟨its,rv,pl,hz⟩:=I.list hq;have hi:=BE rv;have hl:=hi.length;have hj:ns.idxOf k < ns.length:=idxOf_lt_length_iff.mpr hk;have hb:ns.length<=sizeLine:=by rw [length_map] at hz;exact hz
 rw [sizeLine_eq] at hb;obtain ⟨⟨cls,dd,data,sl⟩,ho,hc,n,hd⟩:=pl.isList
 replace hc:cls=.type "list":=hc
 replace hd:data=.seq its.toArray n:=hd
 subst hc hd;refine call_meets PySem.F.slot_list_index ⟨_,ho,rfl⟩ PySem.F.entry_list_index (PySem.F.args_list_index_2 _ _) (PySem.SeqAt.list_indexAt a its.toArray n dd sl (.int k t) (isInt k) (ns.idxOf k) (by rw [size_toArray];omega) (by omega) ?_ ?_) ⟨ho,fun y hy=>(eq_isInt k t hi y (by simpa using hy)).at _ _,?_⟩
 ·have:isInt k its[ns.idxOf k]=true:=by rw [isInt_at k hi _ (by omega) hj];simpa using getElem_idxOf hj
  exact this
 ·intro j hjs hlt;have:isInt k its[j]=false:=by rw [isInt_at k hi j (by simpa using hjs) (by omega)];exact ne_of_lt_idxOf hlt _
  exact this
 ·exact ⟨.int _,H,I.tok _,⟨_,rfl⟩,q⟩
end
theorem Fk:∀ns ms:List Int,PyData.eqvAll (ns.map .int) (ms.map .int)=decide (ns=ms)
 | [],[]=>rfl
 | [],_ :: _=>rfl
 | _ :: _,[]=>rfl
 | n :: ns,m :: ms=>by
   show ((n == m) && PyData.eqvAll (ns.map .int) (ms.map .int))=_;rw [Fk ns ms];by_cases h:n=m
   ·by_cases k:ns=ms
    ·subst h;subst k;simp
    ·simp [h,k]
   ·simp [h]
theorem lay_ints:∀ns:List Int,PyData.canLayAll0 (ns.map .int)=true/\PyData.depthAll (ns.map .int)<=0
 | []=>⟨rfl,Nat.le_refl _⟩
 | n :: ns=>by
   obtain ⟨h1,h2⟩:=lay_ints ns;refine ⟨?_,?_⟩
   ·show (true && PyData.canLayAll0 (ns.map .int))=true;rw [h1];rfl
   ·show max 0 (PyData.depthAll (ns.map .int))<=0;omega
theorem Cm (ns:List Int):SeqAt.shaped (.tuple (ns.map .int))=true/\SeqAt.shaped (.list (ns.map .int))=true:=by
 obtain ⟨h1,h2⟩:=lay_ints ns
 constructor
 ·unfold SeqAt.shaped;rw [Bool.and_eq_true];refine ⟨h1,decide_eq_true ?_⟩;show PyData.depthAll (ns.map .int)+1<=64;omega
 ·unfold SeqAt.shaped;rw [Bool.and_eq_true];refine ⟨h1,decide_eq_true ?_⟩;show PyData.depthAll (ns.map .int)+1<=64;omega
section
variable {X:Cx}
end
end L2
namespace L2
open PySem PySem.Spec PyProof.Rows
namespace CutT
open HT
section
variable {prog:Program} {w:World} {A:Around} {E:Value->Shared->Prop} {s:Shared}
end
end CutT
end L2
namespace L2
open PySem PySem.Spec PyProof.Rows
section
variable {prog:Program} {w:World} {A:Around} {E:Value->Shared->Prop} {s:Shared}
end
section
variable {M:Model} {A:Around} {E:Value->Shared->Prop} {s:Shared} {env:Env}
end
section
variable {X:Cx}
end
end L2
namespace L2
open PySem PySem.Spec PyProof.Rows
theorem map_erase {α β:Type} (f:α->β):∀(xs:List α) (j:Nat),(xs.map f).eraseIdx j=(xs.eraseIdx j).map f
 | [],_=>rfl
 | _ :: _,0=>rfl
 | x :: xs,j+1=>congrArg (f x :: ·) (map_erase f xs j)
section
variable {X:Cx}
noncomputable def PN:V->List V->Hp->VK->Prop:=fun x vs H Q=>∃(l:Addr) (ns:List Int) (k:Int),x=.ref l/\vs=[.int k]/\H l=some (.lst (ns.map V.int))/\k∈ns/\Q .non (upd H l (.lst ((ns.eraseIdx (ns.idxOf k)).map V.int)))
theorem Iu:MtM X "list.remove" PN:=by
 intro pins s σ H x vs v us Q I rx rv h;obtain ⟨l,ns,k,rfl,rfl,hH,hk,q⟩:=h
 cases rx
 obtain ⟨u,rfl,ru⟩:=rv.one;obtain ⟨t,rfl⟩:=ru;obtain ⟨z,its,n,r,hl,e⟩:=I.lstM hH;have hi:=BE r;have hn:=hi.length;have hj:ns.idxOf k < ns.length:=idxOf_lt_length_iff.mpr hk;have ml:(ns.map V.int).length=ns.length:=length_map ..;refine call_meets PySem.F.slot_list_remove ⟨_,e,rfl⟩ PySem.F.entry_list_remove (PySem.F.args_list_remove_2 _ _) (MeetsSeq.list_remove l its.toArray n (.int k t) (isInt k) (fun y hy=>eq_isInt k t hi y (by simpa using hy)) (ns.idxOf k) (by rw [size_toArray];omega) ?_ ?_ (by rw [size_toArray];omega)) ⟨e,?_⟩
 ·have:isInt k its[ns.idxOf k]=true:=by rw [isInt_at k hi _ (by omega) hj];simpa using getElem_idxOf hj
  exact this
 ·intro j hjs hlt;have:isInt k its[j]=false:=by rw [isInt_at k hi j (by simpa using hjs) (by omega)];exact ne_of_lt_idxOf hlt _
  exact this
 ·rw [<- map_erase] at q;refine ⟨.non,_,I.lset (its':=its.eraseIdx (ns.idxOf k)) hH e ?_ (r.eraseIdx (ns.idxOf k)) ?_,rfl,q⟩
  ·show its.toArray.eraseIdxIfInBounds (ns.idxOf k)=(its.eraseIdx (ns.idxOf k)).toArray;rw [eraseIdxIfInBounds_toArray]
  ·have:=Fx (ns.map V.int) (ns.idxOf k);omega
end
theorem JF:∀{xs:List V} {us:List Value},xs.length=us.length->(∀(i:Nat) x u,xs[i]?=some x->us[i]?=some u->AE x u)->A8 xs us
 | [],[],_,_=>.nil
 | [],_ :: _,h,_=>by cases h
 | _ :: _,[],h,_=>by cases h
 | x :: xs,u :: us,h,k=>.cons (k 0 x u rfl rfl) (JF (Nat.succ.inj h) fun i y v h1 h2=>k (i+1) y v h1 h2)
section
variable {X:Cx} {e:Expr} {te:TE} {p p2 pos pos2:Pos}
noncomputable def Qj (te:TE):TE:=fun σ H Q=>te σ H fun x H1=>∃n:Nat,x=.int (n:Int)/\n < 1000/\∀l,H1 l=none->Q (.ref l) (upd H1 l (.lst ((List.range n).map fun i:Nat=>V.int (i:Int))))
theorem Cb (hc:X.calm=true) (hg:Gl X "list") (hm:X.mg "list"=none) (hg2:Gl X "range") (hm2:X.mg "range"=none) (he:PE X e te)
 (hs:starEach [e] X.env=[(false,eval e X.env)]:=by rfl)
 (hs2:starEach [(.Call (.Name "range" p2) [e] [] pos2:Expr)] X.env=[(false,eval (.Call (.Name "range" p2) [e] [] pos2) X.env)]:=by rfl) :
 PE X (.Call (.Name "list" p) [.Call (.Name "range" p2) [e] [] pos2] [] pos) (Qj te):=by
 intro pins s σ H Q I h;refine wpAny_Call_Name_kw (Cv I hg hm boot_list ?_ (by decide) (by decide));refine callWith_type1 ?_ hs2 rfl;rw [hs2];refine Calls.spliced_cons ?_;refine wpAny_Call_Name_kw (Cv I hg2 hm2 boot_range ?_ (by decide) (by decide));refine callWith_type1 ?_ hs rfl;rw [hs];refine Calls.spliced_cons (thn (he pins s σ H _ I h) fun u s1 ⟨x,H1,I1,r1,n,hx,hn,q⟩=>?_);subst hx;obtain ⟨t,rfl⟩:=r1;refine Calls.spliced_nil ?_;refine call_range_1 ?_;refine Calls.spliced_nil ?_;refine call_list_range (n:=n) (I1.ok.hd hc) (IsRange.new ..) (small_one (by omega) (by omega) (by omega) (by omega)) (by rw [rangeSize_one];split <;> omega) (by omega) fun h' tk acc c' kp eS it=>?_;have kp':∀b o,s1.heap.get? b=some o->h'.get? b=some o:=fun b o e=>kp b o (Heap.get?_push_of_some _ e);have hp:s1.heap.objs.size<=(s1.heap.push { cls:=.type "range",data:=.fields #[.int 0 s1.toks,.int (n:Int) t,.int 1 (s1.toks+1)] }).objs.size:=by simp [Heap.push]
 have rv:A8 ((List.range n).map fun i:Nat=>V.int (i:Int)) acc.toList:=by
  refine JF (by simp [it.1]) fun i x u hx hu=>?_;rw [List.getElem?_map] at hx;obtain ⟨t',e⟩:=it.2 i u (by simpa using hu)
  have hi:i < n:=by
   have:=(List.getElem?_eq_some_iff.mp hu).1;rw [Array.length_toList,it.1] at this;exact this
  rw [List.getElem?_range hi] at hx;have hx':x=V.int (i:Int):=(Option.some.inj hx).symm;subst hx';exact ⟨t',by rw [e];simp⟩
 have hz:((List.range n).map fun i:Nat=>V.int (i:Int)).length<=sizeLine:=by rw [length_map,length_range];exact Nat.le_of_lt (Av (by omega))
 exact ⟨.ref _,_,I1.laid (t':=tk) kp' hp (show AY X.prog X.w _ h' _ (.lst ((List.range n).map fun i:Nat=>V.int (i:Int))) from ⟨hz,acc.toList,c',rv,by simpa using eS⟩),rfl,q _ (I1.hok.fresh hp)⟩
end
section
variable {prog:Program} {w:World} {A:Around} {E:Value->Shared->Prop} {s:Shared}
end
section
variable {X:Cx}
end
end L2
namespace L2
open PySem PySem.Spec PyProof.Rows
section
variable {P:Program} {w:World} {K:PySem.W.Frag} {mg:Str->Option Value} {base:Heap}
end
section
variable {X:Cx} {k:Nat} {f:Addr} {fd:FuncData} {ps:List Str} {sp:Sp} {x:Str} {p pos:Pos} {e:Expr} {es:List Expr} {t:TA}
end
section
variable {X:Cx}
end
end L2
namespace L2
open PySem PySem.Spec PyProof.Rows
section
variable {prog:Program} {w:World} {A:Around} {E:Value->Shared->Prop} {s:Shared}
end
section
variable {X:Cx} {pins:List (Addr × Obj)} {σ:St} {H:Hp}
end
end L2
namespace L2
open PySem PySem.Spec PyProof.Rows
section
variable {prog:Program} {w:World} {A:Around} {E:Value->Shared->Prop} {s:Shared}
end
section
variable {X:Cx}
end
end L2
namespace L2
open PySem PySem.Spec PyProof.Rows
structure Qq (K:PySem.W.Frag) (x qual:Str) (st:Stmt) (f:Addr) (fd:FuncData):Prop where
 ex:∃(oc:Value) (od:Option Addr) (dV kV doc pm:Value) (an:Option Addr) (cdv ct:Value) (osl:Array (Option Value)),
  fd=PySem.W.fnOf x qual (En st) (CI st) (Ag st) dV kV doc pm an cdv ct/\K.lookup f=some ⟨oc,od,.func fd,osl⟩/\PySem.W.codeIn K cdv qual=true
 kp:PySem.W.keepIn K (.ref f)=true
section
variable {P:Program} {w:World} {K:PySem.W.Frag} {mg:Str->Option Value} {base:Heap}
theorem Qq.ok {x qual:Str} {st:Stmt} {f:Addr} {fd:FuncData} {N ps:List Str} {k:Nat} {sp:Sp} (F:Qq K x qual st f fd) (S:Aq N ps (Ag st)) (len:∀vs H Q E,sp vs H Q E->vs.length=ps.length)
 (hbody:∀(cdv:Value) (A:Around) (outer:List Env) (s:Shared) (H:Hp) (vs:List V) (Q:VK) (E:XK),C7 k (A.deeper (envOfC qual (Ag st) s.heap.objs.size f cdv))->sp vs H Q E ->
  ∃t,PSs (JD CX0 P w K mg base N qual (Ag st) f cdv A outer s H E).nox (CI st) t/\t { nx:=fun _ H'=>Q .non H',rt:=Q } (start N vs) H):AK P w K mg base CX0 (k+1) f fd ps sp:=by
 obtain ⟨oc,od,dV,kV,doc,pm,an,cdv,ct,osl,rfl,lk,hcd⟩:=F.ex;refine OZ lk hcd S len fun A outer s H vs Q E hr hsp=>?_;obtain ⟨t,h,q⟩:=hbody cdv A outer s H vs Q E hr hsp;exact ⟨t,h.nox,q⟩
theorem fund_mk {x qual:Str} {st:Stmt} {f:Addr} {oc:Value} {od an:Option Addr} {osl:Array (Option Value)} {dV kV doc pm cdv ct:Value} (l:K.lookup f=some ⟨oc,od,.func (PySem.W.fnOf x qual (En st) (CI st) (Ag st) dV kV doc pm an cdv ct),osl⟩)
 (c:PySem.W.codeIn K cdv qual=true) (k:PySem.W.keepIn K (.ref f)=true):Qq K x qual st f (PySem.W.fnOf x qual (En st) (CI st) (Ag st) dV kV doc pm an cdv ct):=⟨⟨oc,od,dV,kV,doc,pm,an,cdv,ct,osl,rfl,l,c⟩,k⟩
end
section
variable {X:Cx} {CX:CXT} {W:St->XK} {k:Nat} {f C:Addr} {fd:FuncData} {ps:List Str} {sp:Sp} {dvs:List V} {ds:List Value} {E:XK} {x m:Str} {p pos apos:Pos} {e o:Expr} {es:List Expr} {ta:TE} {t:TA}
end
end L2
namespace L2
open PySem PySem.Spec PyProof.Rows
noncomputable def Cx.inCompC (X:Cx) (Nc:List Str) (sc:Scope) (x:Str) (cl:List (Str × Addr)) (s:Shared) (H:Hp) (ex:List Addr):Cx :=
 { X with N:=Nc,s₀:=s,H₀:=H,env:=compEnvC sc ((x,s.heap.objs.size+1) :: cl) s.heap.objs.size X.env,outer:=X.stack,stack:=X.stack,ex:=ex,fn:=fun y=>decide (y=x),pn:=[],xe:=fun _ _=>False }
structure GZ (N Nc:List Str) (x:Str) (sc fsc:Scope):Prop where
 kind:sc.kind=.function
 one:(sc.names.filter fun y=>y.2 == .cell)=[(x,.cell)]
 nm:∀y∈sc.names,y.2=.local->sc.names.lookup y.1=some .local
 own:sc.names.lookup x=some .cell
 fr:∀y∈sc.names,y.2=.free->fsc.names.lookup y.1=some .cell\/fsc.names.lookup y.1=some .free
 len:Nc.length=N.length+1
 nd:Nc.Nodup
 last:Nc[N.length]?=some x
 slot:((List.range N.length).all fun i=>match Nc[i]? with
  | some y=>(match sc.names.lookup y with | some .free=>N[i]? == some y | some .local=>false | some .cell=>false | _=>true)
  | none=>true)=true
theorem GZ.at {N Nc:List Str} {x:Str} {sc fsc:Scope} (C:GZ N Nc x sc fsc) {i:Nat} {y:Str} (hi:i < N.length) (h:Nc[i]?=some y):sc.names.lookup y≠some .local/\sc.names.lookup y≠some .cell/\(sc.names.lookup y=some .free->N[i]?=some y):=by
 have q:=all_eq_true.mp C.slot i (mem_range.mpr hi);rw [h] at q;dsimp only at q
 cases e:sc.names.lookup y with
 | none=>exact ⟨fun z=>(nomatch z),fun z=>(nomatch z),fun z=>(nomatch z)⟩
 | some k =>
   rw [e] at q
   cases k with
   | «local»=>exact absurd (show false=true from q) Bool.false_ne_true
   | cell=>exact absurd (show false=true from q) Bool.false_ne_true
   | free=>exact ⟨fun z=>(nomatch z),fun z=>(nomatch z),fun _=>by simpa using q⟩
   | _=>exact ⟨fun z=>(nomatch z),fun z=>(nomatch z),fun z=>(nomatch z)⟩
theorem Cn:∀(names:List (Str × NameKind)) (n:Nat) (acc:List (Str × Addr)),cellsFrom n names acc=cellsFrom n (names.filter fun y=>y.2 == .cell) acc
 | [],_,_=>rfl
 | (y,k) :: r,n,acc=>by
   rw [filter_cons]
   cases e:k == NameKind.cell with
   | true=>simp only [if_true,cellsFrom,e];exact Cn r _ _
   | false=>simp only [Bool.false_eq_true,if_false,cellsFrom,e];exact Cn r _ _
theorem Cq:∀(names:List (Str × NameKind)) (h:Heap),pushCells h names=pushCells h (names.filter fun y=>y.2 == .cell)
 | [],_=>rfl
 | (y,k) :: r,h=>by
   rw [filter_cons]
   cases e:k == NameKind.cell with
   | true=>simp only [if_true,pushCells,e];exact Cq r _
   | false=>simp only [Bool.false_eq_true,if_false,pushCells,e];exact Cq r _
theorem Hy {M:Model} {A:Around} {E:Value->Shared->Prop} {s:Shared} {scope:Scope} {globals:Addr} {closure:List (Str × Addr)} {qual:Str} {outer:Env} {x:Str} {Q:Env->Shared->Prop}
 (one:(scope.names.filter fun y=>y.2 == .cell)=[(x,.cell)])
 (hQ:Q (newEnv scope s.heap.objs.size globals ((x,s.heap.objs.size+1) :: closure) qual none .none (some outer) builtinsNs) { s with heap:=(s.heap.push { cls:=.type "dict",data:=.dict #[] }).push { cls:=.type "cell",data:=.cell none } }) :
 wpAny M A (newFunctionEnv scope globals closure [] qual none .none (some outer)) Q E s:=by
 simp only [newFunctionEnv,Option.isSome_some,if_true];refine wpAny_bind (wpAny_alloc ?_);refine wpAny_bind (wpAny_layCells _ (fun name kind cells=>by cases hkc:kind == NameKind.cell <;> simp [hkc]) _ _ _ _ ?_);rw [Cn,Cq,one];rw [show ({ s with heap:=s.heap.push { cls:=.type "dict",data:=.dict #[] } }:Shared).heap.objs.size=s.heap.objs.size+1 from Heap.size_push ..];rw [forIn_nil];exact wpAny_bind (wpAny_pure (wpAny_pure hQ))
section
variable {X:Cx} {elt iter:Expr} {x:Str} {px pos:Pos} {ifs:List Expr} {sc fsc:Scope} {N Nc:List Str} {wi:TI} {tt:TT} {te:TE}
theorem Lg (hE:X.env.scope=fsc) (hXN:X.N=N) (cn:GZ N Nc x sc fsc) (hc:X.calm=true)
 (ht:∀cl s H ex,Fn (X.inCompC Nc sc x cl s H ex) ifs tt) (he:∀cl s H ex,PE (X.inCompC Nc sc x cl s H ex) elt te)
 {cl:List (Str × Addr)} (clS:∀y c,cl.lookup y=some c->X.env.cells.lookup y=some c) (clH:∀y∈sc.names,y.2=.free->∃c,cl.lookup y.1=some c)
 {pins:List (Addr × Obj)} {σ:St} {H2:Hp} {s2:Shared} {it:Addr} {fp:List Addr} {tn:Nat->Heap->Prop} {J:It} {Q:VK} {E:Value->Shared->Prop}
 (I2:Inv X pins σ H2 s2) (T:KC X.prog X.w X.K (.Name x px) J fp it tn) (st2:tn 0 s2.heap) (f2:∀b∈fp,Gm X pins H2 b)
 (h2:∀D,H2 D=none->∃W:Nat->Nat->List V->Hp->Prop,(∃m,W 0 m [] (upd H2 D (.lst [])))/\∀i m ys H2,W i m ys H2 ->
  H2 D=some (.lst ys)/\((J.stop i H2/\Q (.ref D) H2)\/(J.go i H2/\ys.length < sizeLine/\∀x H3,J.yld i H2 x H3->tt (σ++[some x]) H3 fun b H4=>if b=true then te (σ++[some x]) H4 fun y H5=>H5 D=some (.lst ys)/\∃m',m' < m/\W (i+1) m' (ys++[y]) (upd H5 D (.lst (ys++[y])))
   else ∃m',m' < m/\W (i+1) m' ys H4))) :
 wpAny (model X.prog X.w) X.A (newList []) (fun acc s₃=>wpAny (model X.prog X.w) X.A (newFunctionEnv sc X.env.globals cl [] X.env.qual none .none (some X.env)) (fun cenv s₄ =>
  codeAny (model X.prog X.w) X.A (.compStart (.ListComp elt [⟨.Name x px,iter,ifs,0⟩] sc pos) 0 (.ref it) acc { cenv with scope:=relabel sc X.env })
   (fun r s'=>r=.ok .next/\∃D H',acc=.ref D/\Inv X pins σ H' s'/\Q (.ref D) H'/\DI X pins H' cenv.locals/\∃m,s'.heap.Ns cenv.locals m) s₄) E s₃) E s2:=by
 refine wpAny_newObj_type (Hy cn.one ?_);dsimp only;have hD:H2 s2.heap.objs.size=none:=I2.hok.fresh (Nat.le_refl _);obtain ⟨W,⟨m0,w0⟩,turn⟩:=h2 s2.heap.objs.size hD
 have I3:Inv X pins σ (upd H2 s2.heap.objs.size (.lst [])) { s2 with heap:=s2.heap.push { cls:=.type "list",dict:=none,data:=.seq ([]:List Value).toArray } } :=
  I2.laid (t':=s2.toks) (fun b u e=>Heap.get?_push_of_some _ e) (Nat.le_refl _) ⟨Nat.zero_le _,[],0,.nil,Heap.get?_push_size _ rfl⟩
 generalize hs3:({ s2 with heap:=s2.heap.push { cls:=.type "list",dict:=none,data:=.seq ([]:List Value).toArray } }:Shared)=s3 at I3;have eh:s3.heap=s2.heap.push { cls:=.type "list",dict:=none,data:=.seq ([]:List Value).toArray }:=by rw [<- hs3]
 generalize hH3:upd H2 s2.heap.objs.size (.lst [])=H3 at I3 w0;rw [<- eh];have hns₁:((s3.heap.push { cls:=.type "dict",data:=.dict #[] }).push { cls:=.type "cell",data:=.cell none }).Ns s3.heap.objs.size (fun _=>none):=(Heap.Ns.new s3.heap (.type "dict")).keeps fun b o e=>Heap.get?_push_of_some _ e
 have hcell₁:((s3.heap.push { cls:=.type "dict",data:=.dict #[] }).push { cls:=.type "cell",data:=.cell none }).IsCell (s3.heap.objs.size+1) none:=by
  refine ⟨{ cls:=.type "cell",data:=.cell none },?_,rfl⟩;have:=Heap.get?_push_size (s3.heap.push { cls:=.type "dict",data:=.dict #[] }) (o:={ cls:=.type "cell",data:=.cell none }) rfl;rw [Heap.size_push] at this;exact this
 have old:∀b o,s3.heap.get? b=some o->((s3.heap.push { cls:=.type "dict",data:=.dict #[] }).push { cls:=.type "cell",data:=.cell none }).get? b=some o:=fun b o e=>Heap.get?_push_of_some _ (Heap.get?_push_of_some _ e);have e2:({ s2 with heap:=(s3.heap.push { cls:=.type "dict",data:=.dict #[] }).push { cls:=.type "cell",data:=.cell none } }:Shared)={ s3 with heap:=(s3.heap.push { cls:=.type "dict",data:=.dict #[] }).push { cls:=.type "cell",data:=.cell none },toks:=s3.toks }:=by rw [<- hs3]
 rw [e2];generalize (s3.heap.push { cls:=.type "dict",data:=.dict #[] }).push { cls:=.type "cell",data:=.cell none }=h₁ at hns₁ hcell₁ old ⊢
 have below2:∀b,b∈fp->b < s3.heap.objs.size:=fun b hb=>by
  obtain ⟨o,e,_⟩:=T.obj _ _ st2 b hb;have:s2.heap.objs.size<=s3.heap.objs.size:=by rw [eh,Heap.size_push];exact Nat.le_succ _
  exact Nat.lt_of_lt_of_le (Heap.lt_size e) this
 have old2:∀b o,s2.heap.get? b=some o->s3.heap.get? b=some o:=fun b o e=>by rw [eh];exact Heap.get?_push_of_some _ e
 have hsz3:s2.heap.objs.size < s3.heap.objs.size:=by rw [eh,Heap.size_push];exact Nat.lt_succ_self _
 have fpFree:∀b∈fp,H3 b=none:=fun b hb=>by
  rw [<- hH3,Ak (fun z=>?_)]
  ·exact (f2 b hb).1
  ·obtain ⟨o,e,_⟩:=T.obj _ _ st2 b hb;have:=Heap.lt_size e;rw [z] at this;exact Nat.lt_irrefl _ this
 have rl:∀y,(relabel sc X.env).names.lookup y=(sc.names.lookup y).map fun k=>if (k == NameKind.free && X.env.scope.kind == .function && X.env.kindOf y == some .cell) then NameKind.cell else k:=fun y=>Cc X.env sc.names y;have freeOf:∀y,sc.names.lookup y=some .free->∃c,cl.lookup y=some c:=fun y e=>clH (y,.free) (PySem.mem_of_lookup e) rfl
 have onlyX:∀y,sc.names.lookup y=some .cell->y=x:=fun y e=>by
  have m:(y,NameKind.cell)∈sc.names.filter fun y=>y.2 == .cell:=mem_filter.mpr ⟨PySem.mem_of_lookup e,rfl⟩;rw [cn.one] at m;exact (Prod.mk.inj (mem_singleton.mp m)).1
 have clD:∀y c,((x,s3.heap.objs.size+1) :: cl).lookup y=some c->(y=x/\c=s3.heap.objs.size+1)\/(y≠x/\cl.lookup y=some c):=fun y c e=>by
  rw [lookup_cons] at e
  cases hb:y == x with
  | true=>rw [hb] at e;exact .inl ⟨by simpa using hb,(Option.some.inj e).symm⟩
  | false=>rw [hb] at e;exact .inr ⟨by simpa using hb,e⟩
 have clN:∀y c,y≠x->cl.lookup y=some c->((x,s3.heap.objs.size+1) :: cl).lookup y=some c:=fun y c n e=>by
  rw [lookup_cons,show (y == x)=false by simpa using n];exact e
 have clX:((x,s3.heap.objs.size+1) :: cl).lookup x=some (s3.heap.objs.size+1):=by rw [lookup_cons,show (x == x)=true by simp]
 have isFree:∀y,((relabel sc X.env).names.lookup y=some .cell\/(relabel sc X.env).names.lookup y=some .free)->(sc.names.lookup y=some .free\/y=x):=fun y h=>by
  rw [rl y] at h
  cases e:sc.names.lookup y with
  | none=>rw [e] at h;rcases h with z | z <;> exact absurd z (by simp)
  | some k =>
    rw [e] at h
    cases k with
    | free=>exact .inl rfl
    | cell=>exact .inr (onlyX y e)
    | «local»=>rcases h with z | z <;> exact absurd z (by simp)
    | _=>rcases h with z | z <;> exact absurd z (by simp)
 have ownC:(relabel sc X.env).names.lookup x=some .cell:=by rw [rl x,cn.own];rfl
 have exOk:∀b∈fp,b≠s3.heap.objs.size/\(∀y c,X.env.cells.lookup y=some c->c≠b)/\b ∉ frs X.stack:=fun b hb=>by
  obtain ⟨g0,g1,g2,g3,g4,g5⟩:=f2 b hb;refine ⟨Nat.ne_of_lt (below2 b hb),g4,fun z=>?_⟩;rcases mem_cons.mp (I2.stkSub b z) with z | z
  ·exact g1 z
  ·exact g2 z
 have hCnew:X.s₀.heap.objs.size<=s3.heap.objs.size:=I3.sz
 have hCcell:∀y c,X.env.cells.lookup y=some c->c≠s3.heap.objs.size:=fun y c e z=>by
  obtain ⟨v,q⟩:=I3.cell y c e;have:=q.lt;rw [z] at this;exact Nat.lt_irrefl _ this
 have hCpin:∀p∈X.pn++pins,p.1≠s3.heap.objs.size:=fun p hp z=>by
  have:=Heap.lt_size (I3.pin p hp).1;rw [z] at this;exact Nat.lt_irrefl _ this
 have ltC:∀y c,X.env.cells.lookup y=some c->c < s3.heap.objs.size:=fun y c e=>by
  obtain ⟨v,q⟩:=I3.cell y c e;exact q.lt
 have injC:∀y z c,((x,s3.heap.objs.size+1) :: cl).lookup y=some c->((x,s3.heap.objs.size+1) :: cl).lookup z=some c->y=z:=fun y z c h1 h2=>by
  rcases clD y c h1 with ⟨e1,e2⟩ | ⟨_,e2⟩ <;> rcases clD z c h2 with ⟨f1,f2'⟩ | ⟨_,f2'⟩
  ·rw [e1,f1]
  ·exact absurd (ltC z c (clS z c f2')) (by rw [e2];exact Nat.not_lt.mpr (Nat.le_succ _))
  ·exact absurd (ltC y c (clS y c e2)) (by rw [f2'];exact Nat.not_lt.mpr (Nat.le_succ _))
  ·exact I3.ok.inj y z c (clS y c e2) (clS z c f2')
 have hasC:∀y,((relabel sc X.env).names.lookup y=some .cell\/(relabel sc X.env).names.lookup y=some .free)->∃c,((x,s3.heap.objs.size+1) :: cl).lookup y=some c:=fun y hy=>by
  by_cases e:y=x
  ·exact ⟨_,by rw [e];exact clX⟩
  ·rcases isFree y hy with f | f
   ·obtain ⟨c,hc⟩:=freeOf y f;exact ⟨c,clN y c e hc⟩
   ·exact absurd f e
 have exC:∀b∈fp,∀y c,((x,s3.heap.objs.size+1) :: cl).lookup y=some c->c≠b:=fun b hb y c h=>by
  rcases clD y c h with ⟨_,e2⟩ | ⟨_,e2⟩
  ·exact fun z=>absurd (below2 b hb) (by rw [<- z,e2];exact Nat.not_lt.mpr (Nat.le_succ _))
  ·exact (exOk b hb).2.1 y c (clS y c e2)
 have okc:(X.inCompC Nc sc x cl s3 H3 fp).Ok:=by
  refine ⟨I3.ok.mod,cn.kind,I3.ok.glob,I3.ok.blt,Nat.le_refl _,injC,hasC,fun y c hf e=>?_,I3.ok.hd,I3.ok.frames,.inl rfl,
   fun b hb=>⟨(exOk b hb).1,exC b hb⟩,fun b o e=>I3.bs b o e,Nat.le_trans I3.ok.bsz I3.sz,fun b o e hb=>?_,fun b hb=>(exOk b hb).2.2,I3.stack,I3.stkFree⟩
  ·have ey:y=x:=of_decide_eq_true hf;rcases clD y c e with ⟨_,e2⟩ | ⟨n,_⟩
   ·show s3.heap.objs.size<=c;omega
   ·exact absurd ey n
  obtain ⟨g0,g1,g2,g3,g4,g5⟩:=f2 b hb;rcases g3 with z | z
  ·exact I3.ok.noex b o e z
  ·exact absurd (Heap.lt_size (I3.ok.bs b o e).1) (Nat.not_lt.mpr z)
 have hlen:σ.length=N.length:=by rw [I3.len,hXN]
 have Ic:Inv (X.inCompC Nc sc x cl s3 H3 fp) [] (σ++[none]) H3 { s3 with heap:=h₁,toks:=s3.toks }:=by
  refine ⟨okc,rfl,I3.bare,Un.kept old,⟨_,hns₁,fun i y v h1 h2 h3=>?_⟩,fun y c e=>?_,I3.hok.fresh (Nat.le_refl _),fun y c e=>?_,fun p hp=>absurd (show p∈([]:List (Addr × Obj)) from hp) (by simp),I3.hok.kept old,?_⟩
  ·have hi:i < σ.length:=by
    by_cases hi:i < σ.length
    ·exact hi
    ·rw [List.getElem?_append_right (Nat.not_lt.mp hi)] at h2
     cases e:i - σ.length with
     | zero=>rw [e] at h2;cases h2
     | succ k=>rw [e] at h2;simp at h2
   rw [List.getElem?_append_left hi] at h2;have hi':i < N.length:=by rw [<- hlen];exact hi
   obtain ⟨n1,n2,n3⟩:=cn.at hi' h1
   have hf:sc.names.lookup y=some .free:=by
    rcases h3 with z | z
    ·exfalso;have z':(relabel sc X.env).names.lookup y=some .local:=z;rw [rl y] at z'
     cases e:sc.names.lookup y with
     | none=>rw [e] at z';simp at z'
     | some k =>
       rw [e] at z'
       cases k with
       | «local»=>exact n1 e
       | cell=>exact n2 e
       | free =>
         simp only [Option.map_some,Option.some.injEq] at z'
         split at z' <;> cases z'
       | _=>simp at z'
    ·rcases isFree y z with f | f
     ·exact f
     ·exact absurd (by rw [f];exact cn.own) n2
   have hN:X.N[i]?=some y:=by rw [hXN];exact n3 hf
   obtain ⟨m,hn,hl⟩:=I3.loc;have hv:fsc.names.lookup y=some .cell\/fsc.names.lookup y=some .free:=cn.fr (y,.free) (PySem.mem_of_lookup hf) rfl;have hv':X.env.scope.names.lookup y=some .cell\/X.env.scope.names.lookup y=some .free:=by rw [hE];exact hv
   obtain ⟨u,ru,lk⟩:=hl i y v hN h2 (.inr hv');refine ⟨u,ru,.inr ⟨?_,?_⟩⟩
   ·show (relabel sc X.env).names.lookup y=some .cell\/(relabel sc X.env).names.lookup y=some .free;rw [rl y,hf];simp only [Option.map_some,Option.some.injEq]
    split
    ·exact .inl rfl
    ·exact .inr rfl
   ·rcases lk with ⟨kl,_⟩ | ⟨_,c,hc,hcell⟩
    ·exfalso;have kl':X.env.scope.names.lookup y=some .local:=kl;rw [kl'] at hv';rcases hv' with z | z <;> cases z
    ·obtain ⟨d,hd⟩:=freeOf y hf;have ed:=clS y d hd;rw [hc] at ed
     cases ed
     exact ⟨c,clN y c (fun z=>n2 (by rw [z];exact cn.own)) hd,hcell.keeps old⟩
  ·rcases clD y c e with ⟨_,e2⟩ | ⟨_,e2⟩
   ·exact ⟨none,by rw [e2];exact hcell₁⟩
   ·obtain ⟨v,q⟩:=I3.cell y c (clS y c e2);exact ⟨v,q.keeps old⟩
  ·rcases clD y c e with ⟨_,e2⟩ | ⟨_,e2⟩
   ·exact I3.hok.fresh (by omega)
   ·exact I3.freeC y c (clS y c e2)
  ·show (σ++[none]).length=Nc.length;rw [length_append,hlen,cn.len];rfl
 have stc:tn 0 ({ s3 with heap:=h₁,toks:=s3.toks }:Shared).heap:=T.keep _ _ _ st2 fun b _ o e=>old b o (old2 b o e)
 have hDf:s2.heap.objs.size ∉ fp:=fun hm=>by
  obtain ⟨o,e,_⟩:=T.obj _ _ st2 _ hm;exact Nat.lt_irrefl _ (Heap.lt_size e)
 have fpc:∀{pins':List (Addr × Obj)} {H':Hp},pins'=[]->(∀b∈fp,H' b=none)->∀b∈fp,Gm (X.inCompC Nc sc x cl s3 H3 fp) pins' H' b:=fun {pins' H'} hp hn b hb=>by
  subst hp;exact ⟨hn b hb,(exOk b hb).1,(exOk b hb).2.2,.inl hb,exC b hb,fun p hp=>absurd (show p∈([]:List (Addr × Obj)) from hp) (by simp)⟩
 have hg:PG (X.inCompC Nc sc x cl s3 H3 fp) (.Name x px) (B0 σ.length):=A0 (X:=X.inCompC Nc sc x cl s3 H3 fp) cn.nd (by show Nc[σ.length]?=some x;rw [hlen];exact cn.last) (.inr ownC) (.inl (decide_eq_true rfl))
 have loop:∀s₄:Shared,s₄={ s3 with heap:=h₁,toks:=s3.toks } ->
  codeAny (model X.prog X.w) X.A (.compLoop (.ListComp elt [⟨.Name x px,iter,ifs,0⟩] sc pos) 0 (.ref it) (.ref s2.heap.objs.size) (compEnvC sc ((x,s3.heap.objs.size+1) :: cl) s3.heap.objs.size X.env))
   (fun r s'=>r=.ok .next/\∃D H',(Value.ref s2.heap.objs.size)=.ref D/\Inv X pins σ H' s'/\Q (.ref D) H'/\DI X pins H' s3.heap.objs.size/\∃m,s'.heap.Ns s3.heap.objs.size m) s₄:=by
  rintro s₄ rfl;refine codeAny_compLoop_tests (fun n s'=>∃(i:Nat) (o:Option V) (H':Hp) (ys:List V),Inv (X.inCompC Nc sc x cl s3 H3 fp) [] (σ++[o]) H' s'/\tn i s'.heap/\(∀b∈fp,H' b=none)/\W i n ys H') ?_ m0 ⟨0,none,H3,[],Ic,stc,fpFree,w0⟩;rintro n s' ⟨i,o,H',ys,I',st',fr',w'⟩;obtain ⟨hDl,tw⟩:=turn i n ys H' w';rcases tw with ⟨stop,q⟩ | ⟨go,hz,step⟩
  ·
   refine thn (T.done (X.inCompC Nc sc x cl s3 H3 fp) rfl rfl rfl hc i [] s' _ H' _ I' (fpc rfl fr') st' stop) fun r s5 ⟨hr,I5⟩=>?_;subst hr
   have Ix:Inv X pins σ H' s5:=I3.call' (ch:=fp) I5.os I5.base I5.hok I5.bare fun b hb=>by
    obtain ⟨g0,g1,g2,g3,g4,g5⟩:=f2 b hb;exact ⟨g3,g1,g4,g5⟩
   have hCf:H' s3.heap.objs.size=none:=I5.free;obtain ⟨m,hn,_⟩:=I5.loc;exact ⟨rfl,s2.heap.objs.size,H',rfl,Ix,q,⟨hCf,fun z=>Nat.lt_irrefl _ (by have:=I3.lt;rw [<- z] at this;exact this),hCnew,hCcell,hCpin⟩,m,hn⟩
  ·
   refine thn (T.item (X.inCompC Nc sc x cl s3 H3 fp) rfl rfl rfl hc i [] s' _ H' _ I' (fpc rfl fr') st' go) fun r s5 ⟨u,hr,h4⟩=>?_;subst hr;dsimp only;have e0:letOwnedTupleGo (.Name x px) (.ref it) u=pure ():=rfl;have e1:(letOwnedTupleGo (.Name x px) (.ref it) u >>= fun _=>assign (.Name x px) (compEnvC sc ((x,s3.heap.objs.size+1) :: cl) s3.heap.objs.size X.env) u)=assign (.Name x px) (compEnvC sc ((x,s3.heap.objs.size+1) :: cl) s3.heap.objs.size X.env) u:=by rw [e0,pure_bind]
   rw [<- e1];refine wpAny_bind (thn h4 fun _ s6 ⟨xv,H5,I5,r5,y5,st5,fr5⟩=>?_);have I5':=I5.pinned (fpc rfl fr5) (T.obj _ _ st5)
   have again:∀{H7:Hp} {s7:Shared} {m':Nat} {ys':List V},Inv (X.inCompC Nc sc x cl s3 H3 fp) ([]++FH fp s6.heap) (σ++[some xv]) H7 s7->m' < n->W (i+1) m' ys' H7 ->
    ∃m,m < n/\∃(i:Nat) (o:Option V) (H':Hp) (ys:List V),Inv (X.inCompC Nc sc x cl s3 H3 fp) [] (σ++[o]) H' s7/\tn i s7.heap/\(∀b∈fp,H' b=none)/\W i m ys H':=fun {H7 s7 m' ys'} I7 hm w7=>by
    refine ⟨m',hm,i+1,some xv,H7,ys',I7.unpinned,T.keep _ _ _ st5 fun b hb o e=>(I7.pin (b,o) (mem_append_right _ (mem_append_right _ (Cp hb e)))).1,fun b hb=>?_,w7⟩;obtain ⟨o',e,d⟩:=T.obj _ _ st5 b hb;exact (I7.pin (b,o') (mem_append_right _ (mem_append_right _ (Cp hb e)))).2.1
   refine E4 (hg _ s6 _ H5 xv u (fun σ' H''=>σ'=σ++[some xv]/\H''=H5) I5' r5 ⟨Ke,rfl⟩) fun _ s7 ⟨σ7,H7,I7,e7,e7'⟩=>?_;subst e7;subst e7';refine E4 (ht cl s3 H3 fp _ s7 _ _ _ I7 (step xv _ y5)) fun b s8 ⟨H8,I8,q8⟩=>?_
   cases b with
   | false =>
     rw [if_neg Bool.false_ne_true] at q8 ⊢;obtain ⟨m',hm,w8⟩:=q8;exact again I8 hm w8
   | true =>
     rw [if_pos rfl] at q8 ⊢;refine E4 (he cl s3 H3 fp _ s8 _ H8 _ I8 q8) fun y s9 ⟨yv,H9,I9,r9,hD9,m',hm,w9⟩=>?_;refine E4 (Ct _ s9 _ H9 (.ref s2.heap.objs.size) [yv] (.ref s2.heap.objs.size) [y] (fun v H=>v=.non/\H=upd H9 s2.heap.objs.size (.lst (ys++[yv]))) I9 rfl (.cons r9 .nil) ⟨_,ys,yv,rfl,rfl,hD9,hz,rfl,rfl⟩) fun _ s10 ⟨v10,H10,I10,r10,e10,e11⟩=>?_;subst e11;exact again I10 hm w9
 exact codeAny_compStart_list (loop _ rfl) (T.self _ 0 _ _ _ stc (loop _ rfl))
theorem MY (I:∀y,(X.env.kindOf y=some .cell\/X.env.kindOf y=some .free)->∃c,X.env.cells.lookup y=some c) (hE:X.env.scope=fsc) (cn:GZ N Nc x sc fsc):∀y∈sc.names,y.2=.free->∃c,X.env.cells.lookup y.1=some c:=fun y hy hf=>by
 refine I y.1 ?_;show X.env.scope.names.lookup y.1=some .cell\/X.env.scope.names.lookup y.1=some .free;rw [hE];exact cn.fr y hy hf
theorem Hc (hE:X.env.scope=fsc) (hXN:X.N=N) (cn:GZ N Nc x sc fsc) (hc:X.calm=true) (hi:PI X (.Name x px) iter wi)
 (ht:∀cl s H ex,Fn (X.inCompC Nc sc x cl s H ex) ifs tt) (he:∀cl s H ex,PE (X.inCompC Nc sc x cl s H ex) elt te)
 (hs:∀v,foldedSetIterable iter X.env v=pure v:=by intro _;rfl):PE X (.ListComp elt [⟨.Name x px,iter,ifs,0⟩] sc pos) (La wi tt te):=by
 intro pins s σ H Q I h;obtain ⟨cl,hcl,clS,clH⟩:=Ck (env:=X.env) (sc:=sc) (MY I.ok.has hE cn);rw [eval_ListComp];refine wpAny_comprehension_free (use:=none) rfl hs hcl cn.kind cn.nm (thn (hi pins s σ H _ I h) fun v s1 h1=>thn h1 fun itv s2 h2=>?_);obtain ⟨it,fp,tn,J,H2,rfl,I2,T,st2,f2,h2⟩:=h2;refine thn (Lg (pos:=pos) (iter:=iter) hE hXN cn hc ht he clS clH I2 T st2 f2 h2) fun acc s3 h3=>thn h3 fun cenv s4 h4=>codeAny_mono h4 fun r s' h5=>?_;obtain ⟨rfl,D,H',rfl,I',q,cloc,m,hn⟩:=h5;exact ⟨m,hn,fun h' k=>⟨.ref D,H',I'.sameBut cloc k,rfl,q⟩⟩
end
noncomputable def JU (sc fsc:Scope):Scope:={ sc with names:=sc.names.map fun (n,k)=>if (k == .free && fsc.kind == .function && fsc.names.lookup n == some .cell) then (n,.cell) else (n,k) }
theorem K3 {X:Cx} {sc fsc:Scope} (h:X.env.scope=fsc):relabel sc X.env=JU sc fsc:=by
 subst h;rfl
section
variable {X:Cx} {elt iter:Expr} {x y:Str} {py pos:Pos} {ifs:List Expr} {sc sc2 fsc:Scope} {Nc Nd:List Str} {wi:TI} {tt:TT} {te:TE} {cl:List (Str × Addr)} {s:Shared} {H:Hp} {ex:List Addr}
theorem FG (hE:X.env.scope=fsc) (cn:DC Nc Nd y sc2 (JU sc fsc)) (hc:X.calm=true) (hi:PI (X.inCompC Nc sc x cl s H ex) (.Name y py) iter wi)
 (ht:∀cl' s' H' ex',Fn ((X.inCompC Nc sc x cl s H ex).inComp Nd sc2 cl' s' H' ex') ifs tt) (he:∀cl' s' H' ex',PE ((X.inCompC Nc sc x cl s H ex).inComp Nd sc2 cl' s' H' ex') elt te)
 (hs:∀v,foldedSetIterable iter (X.inCompC Nc sc x cl s H ex).env v=pure v:=by intro _;rfl):PE (X.inCompC Nc sc x cl s H ex) (.ListComp elt [⟨.Name y py,iter,ifs,0⟩] sc2 pos) (La wi tt te) :=
 Bb (X:=X.inCompC Nc sc x cl s H ex) (fsc:=JU sc fsc) (N:=Nc) (K3 hE) rfl cn hc hi ht he hs
theorem Ln (hE:X.env.scope=fsc) (cn:DC Nc Nd y sc2 (JU sc fsc)) (hc:X.calm=true) (hi:PI (X.inComp Nc sc cl s H ex) (.Name y py) iter wi)
 (ht:∀cl' s' H' ex',Fn ((X.inComp Nc sc cl s H ex).inComp Nd sc2 cl' s' H' ex') ifs tt) (he:∀cl' s' H' ex',PE ((X.inComp Nc sc cl s H ex).inComp Nd sc2 cl' s' H' ex') elt te)
 (hs:∀v,foldedSetIterable iter (X.inComp Nc sc cl s H ex).env v=pure v:=by intro _;rfl):PE (X.inComp Nc sc cl s H ex) (.ListComp elt [⟨.Name y py,iter,ifs,0⟩] sc2 pos) (La wi tt te) :=
 Bb (X:=X.inComp Nc sc cl s H ex) (fsc:=JU sc fsc) (N:=Nc) (K3 hE) rfl cn hc hi ht he hs
end
theorem He {X:Cx} {tg e:Expr} {te:TE} (K:PySem.W.Frag) (he:PE X e te) (h:X.K=K:=by rfl):PI X tg e (Q0 K te):=by
 subst h;exact AD he
end L2
namespace L2
open PySem PySem.W PySem.Spec PyProof.Rows
noncomputable def GR (c:Addr) (q:Str):HO:=.ext fun h=>h.CodeRec (.ref c) q
structure GB (base:Heap) (mg:Str->Option Value) (c P:Addr):Prop where
 hd:CodeHd base c P
 bm:∃bm ob,mg "__builtins__"=some (.ref bm)/\bm≠builtinsNs/\base.get? bm=some ob/\ob.cls=.type "module"/\ob.dict=some builtinsNs/\ob.data=.plain
 out:base.get? P=none
noncomputable def Et (P:Addr) (pos:Pos) (q:Str) (H:Hp):Prop:=∃c,H P=some (.tbl #[rawInt pos.line,rawInt pos.col,.ref c])/\H c=some (GR c q)
noncomputable def GF (P:Addr) (pos:Pos) (q:Str) (H:Hp):Prop:=H P=some (.tbl #[])\/Et P pos q H
noncomputable def SmL (P:Addr) (H H':Hp):Prop:=∀b u,b≠P->H b=some u->H' b=some u
theorem Et.same {P:Addr} {pos:Pos} {q:Str} {H H':Hp} (x:Et P pos q H) (e:An H H'):Et P pos q H':=let ⟨c,h1,h2⟩:=x;⟨c,e _ _ h1,e _ _ h2⟩
theorem Et.put {P l:Addr} {pos:Pos} {q:Str} {H:Hp} {xs:List V} {o:HO} (t:Et P pos q H) (e:H l=some (.lst xs)):Et P pos q (upd H l o):=by
 obtain ⟨c,h1,h2⟩:=t;exact ⟨c,by rw [Ak (fun z=>by rw [z,e] at h1;cases h1)];exact h1,by rw [Ak (fun z=>by rw [z,e] at h2;cases h2)];exact h2⟩
theorem GF.put {P l:Addr} {pos:Pos} {q:Str} {H:Hp} {xs:List V} {o:HO} (t:GF P pos q H) (e:H l=some (.lst xs)):GF P pos q (upd H l o):=by
 rcases t with t | t
 ·exact .inl (by rw [Ak (fun z=>by rw [z,e] at t;cases t)];exact t)
 ·exact .inr (t.put e)
theorem GF.same {P:Addr} {pos:Pos} {q:Str} {H H':Hp} (t:GF P pos q H) (s:An H H'):GF P pos q H':=t.elim (fun t=>.inl (s _ _ t)) fun t=>.inr (t.same s)
theorem Nx (pos:Pos):codeAmong pos (#[]:Array Value).toList=none:=rfl
theorem M9 (pos:Pos) (c:Addr):codeAmong pos (#[rawInt pos.line,rawInt pos.col,.ref c]:Array Value).toList=some (.ref c):=by
 simp [codeAmong,rawInt]
theorem O3 {P:Program} {w:World} {H:Hp} {h:Heap} {c:Addr} {q:Str} (x:h.CodeRec (.ref c) q):AY P w H h c (GR c q):=by
 refine ⟨x,?_,fun h1 h2 y k=>?_⟩
 ·obtain ⟨c',o,vs,t,e,g,_⟩:=x
  cases e
  exact ⟨o,g⟩
 ·obtain ⟨c',o,vs,t,e,g,r⟩:=y
  cases e
  exact ⟨c,o,vs,t,rfl,k o g,r⟩
theorem M1 {P:Program} {w:World} {H:Hp} {h:Heap} {c:Addr} {q:Str} (x:AY P w H h c (GR c q)):h.CodeRec (.ref c) q:=x.1
section
variable {X:Cx} {pins:List (Addr × Obj)} {σ:St} {H:Hp} {s:Shared} {c P:Addr} {pos:Pos} {params:Arguments} {body:Expr} {sc:Scope} {cl:List (Str × Addr)} {q:Str} {M:Model} {A:Around} {E:Value->Shared->Prop} {Q:Value->Shared->Prop}
theorem GB.at (LB:GB X.base X.mg c P) (I:Inv X pins σ H s) (hp:∃ps,H P=some (.tbl ps)):s.heap.Ns mainGlobals X.mg/\CodeHd s.heap c P/\mainGlobals≠P/\s.heap.BuiltinsAt X.mg P:=by
 have G:s.heap.Ns mainGlobals X.mg:=I.mod.glob.keeps I.bk
 have gP:mainGlobals≠P:=fun z=>by
  obtain ⟨o,_,_,e,_⟩:=I.mod.glob;rw [z,LB.out] at e;cases e
 obtain ⟨bm,ob,b1,b2,b3,b4,b5,b6⟩:=LB.bm;refine ⟨G,LB.hd.keeps I.bk,gP,bm,ob,b1,b2,fun z=>?_,fun z=>?_,I.bk _ _ b3,b4,b5,b6⟩
 ·obtain ⟨o,es,ep,e,hd,_⟩:=I.mod.glob;rw [<- z,b3] at e;cases e;rw [b6] at hd;cases hd
 ·rw [z,LB.out] at b3;cases b3
theorem Inv.pin1 {f:Addr} {o:Obj} (I:Inv X pins σ H s) (c:DI X pins H f) (e:s.heap.get? f=some o) (hf:f ∉ X.fs) (d:∀v,o.data≠.cell v):Inv X ((f,o) :: pins) σ H s :=
 I.pins_of fun p hp=>by
  rcases mem_cons.mp hp with rfl | hp
  ·exact ⟨e,c.free,c.ne,hf,d⟩
  ·exact I.pin p (mem_append_right _ hp)
theorem Inv.cloc {f:Addr} (I:Inv X pins σ H s) (h:s.heap.objs.size<=f):DI X pins H f:=by
 obtain ⟨g0,g1,g2,g3,g4,g5⟩:=I.fpOk h (I.hok.fresh h);exact ⟨g0,g1,Nat.le_trans I.sz h,g4,g5⟩
theorem Pa (LB:GB X.base X.mg c P) (hcode:X.env.code=.ref c) (hcl:closureFor sc X.env=pure cl) (I:Inv X pins σ H s) (t:GF P pos q H)
 (h:∀(f c':Addr) (pm ctv:Value) (H':Hp) (s':Shared),Inv X ((f,kla_obj "<lambda>" q params body sc cl pm c' ctv) :: pins) σ H' s'->H' c'=some (GR c' q)->DI X pins H' f->Et P pos q H'->SmL P H H'->(Et P pos q H->H=H')->(∀b,H' b=none->H b=none)->Q (.ref f) s') :
 wpAny M A (makeFunction "<lambda>" q params (.expr body) sc X.env [] [] [] pos pos.line) Q E s:=by
 rcases t with t | ⟨c',t1,t2⟩
 ·obtain ⟨G,C,gP,B⟩:=LB.at I ⟨_,t⟩;have hP:s.heap.get? P=some (tabObj #[]):=I.hok P _ t;refine kla_makeFunction (mg:=X.mg) hcl I.ok.glob G hcode C hP trivial (Nx pos) gP B fun c' ctv h' tk hx hge hlt hrec htb=>?_;have hc':H c'=none:=I.hok.fresh hge;have cP:c'≠P:=fun z=>by rw [z,t] at hc';cases hc'
  have nP:∀{b:Addr},H b=none->b≠P:=fun e z=>by rw [z,t] at e;cases e
  have htb':h'.get? P=some (tabObj (#[]++#[rawInt pos.line,rawInt pos.col,.ref c'])):=htb;have ht0:((#[]:Array Value)++#[rawInt pos.line,rawInt pos.col,.ref c'])=#[rawInt pos.line,rawInt pos.col,.ref c']:=rfl;generalize eH:upd (upd H P (.tbl #[rawInt pos.line,rawInt pos.col,.ref c'])) c' (GR c' q)=H';have hb:∀{b:Addr},b≠P->b≠c'->H' b=H b:=fun n1 n2=>by rw [<- eH,Ak n2,Ak n1]
  have hPH:H' P=some (.tbl #[rawInt pos.line,rawInt pos.col,.ref c']):=by rw [<- eH,Ak (Ne.symm cP),Ab]
  have hcH:H' c'=some (GR c' q):=by rw [<- eH,Ab]
  have ne':∀{b:Addr} {o:Obj},s.heap.get? b=some o->b≠c':=fun e=>Nat.ne_of_lt (Nat.lt_of_lt_of_le (Heap.lt_size e) hge);have neH:∀{b:Addr} {u:HO},H b=some u->b≠c':=fun e z=>by rw [z,hc'] at e;cases e
  have U:Un X.fs [] H H' s.heap h':=⟨fun b o e n _ _=>hx b o (nP n) e,fun b o e n _ _=>⟨o.slots,hx b o (nP n) e⟩,fun b o e n _=>by rw [hb (nP n) (ne' e)];exact n,fun b o e _=>by
   by_cases z:b=P
   ·rw [z];exact ⟨_,htb⟩
   ·exact ⟨o,hx b o z e⟩,fun b xs e=>by
   rw [hb (fun z=>by rw [z,t] at e;cases e) (neH e)];exact e,fun b o u e=>by
   rw [hb (fun z=>by rw [z,t] at e;cases e) (neH e)];exact e,fun b ps e=>by
   by_cases z:b=P
   ·rw [z,t] at e
    cases e
    exact ⟨#[rawInt pos.line,rawInt pos.col,.ref c'],by rw [z,hPH];rfl⟩
   ·exact ⟨#[],by rw [hb z (neH e),e];simp⟩⟩
  have hok:HOk X.prog X.w H' h':=fun a o e=>by
   by_cases z:a=P
   ·subst z;rw [hPH] at e
    cases e
    exact htb
   ·by_cases z2:a=c'
    ·subst z2;rw [hcH] at e
     cases e
     exact O3 hrec
    ·rw [hb z z2] at e;refine (I.hok a o e).stay (fun b u hbu g=>?_) (fun b g=>?_) fun b xs g=>?_
     ·refine hx b u (fun y=>?_) g;rcases hbu with rfl | hbu
      ·exact z y
      ·rw [y,t] at hbu;cases hbu
     ·rw [hb (fun y=>by rw [y,t] at g;cases g) (neH g)];exact g
     ·rw [hb (fun y=>by rw [y,t] at g;cases g) (neH g)];exact g
  have I1:Inv X pins σ H' { s with heap:=h',toks:=tk }:=I.un U hok;have I2:=I1.kept (t':=tk) (h':=h'.push (kla_obj "<lambda>" q params body sc cl ((X.mg "__name__").getD .none) c' ctv)) fun b u e=>Heap.get?_push_of_some _ e;have cf:DI X pins H' h'.objs.size:=I1.cloc (Nat.le_refl _);refine h _ c' _ ctv H' _ (I2.pin1 cf (Heap.get?_push_size _ rfl) (I1.nofs (Nat.le_refl _)) (fun v z=>by cases z)) hcH cf ⟨c',hPH,hcH⟩ (fun b u n e=>by rw [hb n (neH e)];exact e) (fun ⟨_,y,_⟩=>by rw [t] at y;cases y) fun b e=>?_;rw [hb (fun z=>by rw [z,hPH] at e;cases e) (fun z=>by rw [z,hcH] at e;cases e)] at e;exact e
 ·obtain ⟨G,C,gP,B⟩:=LB.at I ⟨_,t1⟩;have hP:s.heap.get? P=some (tabObj #[rawInt pos.line,rawInt pos.col,.ref c']):=I.hok P _ t1;refine kla_makeFunctionHit (mg:=X.mg) hcl I.ok.glob G hcode C hP trivial (M9 pos c') B fun ctv h' tk hk hsz=>?_;have I1:Inv X pins σ H { s with heap:=h',toks:=tk }:=I.kept hk;have I2:=I1.kept (t':=tk) (h':=h'.push (kla_obj "<lambda>" q params body sc cl ((X.mg "__name__").getD .none) c' ctv)) fun b u e=>Heap.get?_push_of_some _ e;have cf:DI X pins H h'.objs.size:=I1.cloc (Nat.le_refl _);exact h _ c' _ ctv H _ (I2.pin1 cf (Heap.get?_push_size _ rfl) (I1.nofs (Nat.le_refl _)) (fun v z=>by cases z)) t2 cf ⟨c',t1,t2⟩ (fun _ _ _ e=>e) (fun _=>rfl) fun _ e=>e
end
noncomputable def Cx.inLam (X:Cx) (A:Around) (Nc:List Str) (q:Str) (sc:Scope) (cl:List (Str × Addr)) (f c':Addr) (s:Shared) (H:Hp):Cx :=
 { X with A:=A.deeper (envX q sc s.heap.objs.size f (.ref c') cl),N:=Nc,s₀:=s,H₀:=H,env:=envX q sc s.heap.objs.size f (.ref c') cl,outer:=X.stack,stack:=envX q sc s.heap.objs.size f (.ref c') cl :: X.stack,ex:=[],fn:=fun _=>false,calm:=true,pn:=[],xe:=fun _ _=>False }
section
variable {X:Cx} {pins:List (Addr × Obj)} {σ:St} {H:Hp} {s:Shared} {params:Arguments} {body:Expr} {sc fsc:Scope} {cl:List (Str × Addr)} {q x:Str} {A:Around} {N Nc:List Str} {f c':Addr} {te:TE} {E:Value->Shared->Prop}
theorem Qn (hE:X.env.scope=fsc) (hXN:X.N=N) (cn:DC N Nc x sc fsc)
 (clS:∀y c,cl.lookup y=some c->X.env.cells.lookup y=some c) (clH:∀y∈sc.names,y.2=.free->∃c,cl.lookup y.1=some c) (hA:A.frames=X.A.frames) (hh:A.handled=none)
 (I:Inv X pins σ H s) {v:V} {u:Value} (rv:AE v u) {h₁:Heap} {tk:Nat} (hns:h₁.Ns s.heap.objs.size fun y=>[(x,u)].reverse.lookup y) (old:∀b o,s.heap.get? b=some o->h₁.get? b=some o) :
 Inv (X.inLam A Nc q sc cl f c' s H) [] (σ++[some v]) H { s with heap:=h₁,toks:=tk }:=by
 have hlen:σ.length=N.length:=by rw [I.len,hXN]
 have noE:∀b:Addr,b ∉ (X.inLam A Nc q sc cl f c' s H).ex:=fun b z=>absurd (show b∈([]:List Addr) from z) (by simp);have freeOf:∀y,sc.names.lookup y=some .free->∃c,cl.lookup y=some c:=fun y e=>clH (y,.free) (PySem.mem_of_lookup e) rfl;have noCell:∀y,sc.names.lookup y≠some .cell:=fun y e=>cn.cell (y,.cell) (PySem.mem_of_lookup e) rfl
 refine ⟨⟨I.ok.mod,cn.kind,rfl,rfl,Nat.le_refl _,fun y z c e1 e2=>I.ok.inj y z c (clS _ _ e1) (clS _ _ e2),fun y hy=>?_,fun y c z=>absurd (show false=true from z) Bool.false_ne_true,fun _=>hh,Around.frames_deeper (hA.trans I.ok.frames),.inr ⟨rfl,rfl⟩,fun b z=>absurd z (noE b),I.bs,Nat.le_trans I.ok.bsz I.sz,fun b _ _=>noE b,fun b z=>absurd z (noE b),I.stack,I.stkFree⟩,
  rfl,I.bare,Un.kept old,⟨_,hns,fun i y v' h1 h2 h3=>?_⟩,fun y c e=>?_,I.hok.fresh (Nat.le_refl _),fun y c e=>I.freeC y c (clS y c e),fun p hp=>absurd (show p∈([]:List (Addr × Obj)) from hp) (by simp),I.hok.kept old,?_⟩
 ·have hy:sc.names.lookup y=some .cell\/sc.names.lookup y=some .free:=hy;rcases hy with hy | hy
  ·exact absurd hy (noCell y)
  ·exact freeOf y hy
 ·have h1:Nc[i]?=some y:=h1;have h3:sc.names.lookup y=some .local\/sc.names.lookup y=some .cell\/sc.names.lookup y=some .free:=h3;by_cases hi:i < N.length
  ·obtain ⟨n1,n2,n3⟩:=cn.at hi h1
   have hf:sc.names.lookup y=some .free:=by
    rcases h3 with z | z | z
    ·exact absurd z n1
    ·exact absurd z n2
    ·exact z
   rw [List.getElem?_append_left (by omega)] at h2;have hN:X.N[i]?=some y:=by rw [hXN];exact n3 hf
   obtain ⟨m,hn,hl⟩:=I.loc;have hv:fsc.names.lookup y=some .cell\/fsc.names.lookup y=some .free:=cn.fr (y,.free) (PySem.mem_of_lookup hf) rfl;have hv':X.env.scope.names.lookup y=some .cell\/X.env.scope.names.lookup y=some .free:=by rw [hE];exact hv
   obtain ⟨u',ru,lk⟩:=hl i y v' hN h2 (.inr hv');refine ⟨u',ru,.inr ⟨.inr hf,?_⟩⟩;rcases lk with ⟨kl,_⟩ | ⟨_,c,hc,hcell⟩
   ·exfalso;have kl':X.env.scope.names.lookup y=some .local:=kl;rw [kl'] at hv';rcases hv' with z | z <;> cases z
   ·obtain ⟨d,hd⟩:=freeOf y hf;have ed:=clS y d hd;rw [hc] at ed
    cases ed
    exact ⟨c,hd,hcell.keeps old⟩
  ·have hi':i < (σ++[some v]).length:=(List.getElem?_eq_some_iff.mp h2).1;rw [length_append,length_singleton] at hi';have ei:i=N.length:=by omega
   subst ei;rw [cn.last] at h1
   cases h1
   rw [List.getElem?_append_right (by omega),hlen,Nat.sub_self] at h2
   cases h2
   exact ⟨u,rv,.inl ⟨cn.own,by simp⟩⟩
 ·obtain ⟨w,z⟩:=I.cell y c (clS y c e);exact ⟨w,z.keeps old⟩
 ·show (σ++[some v]).length=Nc.length;rw [length_append,hlen,cn.len];rfl
theorem NZ (hE:X.env.scope=fsc) (hXN:X.N=N) (cn:DC N Nc x sc fsc) (hco:sc.isCoroutine=false) (hgen:sc.isGenerator=false)
 (clS:∀y c,cl.lookup y=some c->X.env.cells.lookup y=some c) (clH:∀y∈sc.names,y.2=.free->∃c,cl.lookup y.1=some c) (hA:A.frames=X.A.frames) (hh:A.handled=none) (hroom:A.depth < recursionLimit)
 (he:∀s H,PE (X.inLam A Nc q sc cl f c' s H) body te)
 (hbind:∀pm ctv u,bindArgs (kla_fn "<lambda>" q params body sc cl pm (.ref c') ctv) ⟨[u],[]⟩=pure [(x,u)])
 (I:Inv X pins σ H s) {pm ctv:Value} (hf:(f,kla_obj "<lambda>" q params body sc cl pm c' ctv)∈pins) (hc:H c'=some (GR c' q)) {v:V} {u:Value} (rv:AE v u) {R:VK} (h:te (σ++[some v]) H R) :
 wpAny (model X.prog X.w) A (call (.ref f) [u]) (fun u' s'=>∃y H',Inv X pins σ H' s'/\AE y u'/\R y H') E s:=by
 have lim:s.heap.NoLimit:=I.nolimit;refine wpAny_call (kla_callFunE hroom (I.pin _ (mem_append_right _ hf)).1 rfl hco hgen rfl (M1 (I.hok _ _ hc)) ?_);rw [hbind];refine wpAny_pure (wpAny_newFunctionEnv cn.cell (fun y hy=>?_) (fun h₁ hns hsb=>⟨lim.fresh _ hsb,?_⟩) cn.kind)
 ·rw [mem_singleton.mp hy];exact cn.own
 ·show codeAny _ _ (.expr body (envX q sc s.heap.objs.size f (.ref c') cl)) _ _;have old:∀b o,s.heap.get? b=some o->h₁.get? b=some o:=fun b o e=>hsb.extBut b o (Nat.ne_of_lt (Heap.lt_size e)) (Heap.get?_push_of_some _ e);have Ic:=Qn (q:=q) (f:=f) (c':=c') (tk:=s.toks+[(x,u)].length) hE hXN cn clS clH hA hh I rv hns old;refine kla_codeExpr (wpAny_mono (he s H [] _ (σ++[some v]) H R Ic h) (fun u' s' ⟨y,H',I',r',q'⟩=>?_) fun _ _ z=>z.elim);exact ⟨y,H',I.call' (ch:=[]) I'.os I'.base I'.hok I'.bare (fun b hb=>absurd hb (by simp)),r',q'⟩
end
section
variable {X:Cx} {pins:List (Addr × Obj)} {σ:St} {H:Hp}
theorem Inv.sub {ps:List (Addr × Obj)} {s:Shared} (I:Inv X pins σ H s) (h:∀p∈ps,p∈pins):Inv X ps σ H s:=I.pins_of fun p hp=>I.pin p (mem_append_right _ (h p hp))
theorem DI.cons {C S:Addr} {o:Obj} (c:DI X pins H C) (n:S≠C):DI X ((S,o) :: pins) H C:=⟨c.free,c.ne,c.new,c.cells,fun p hp=>by
 rcases mem_append.mp hp with hp | hp
 ·exact c.pins p (mem_append_left _ hp)
 ·rcases mem_cons.mp hp with rfl | hp
  ·exact n
  ·exact c.pins p (mem_append_right _ hp)⟩
theorem Inv.repin {s:Shared} {C:Addr} {o o':Obj} {h':Heap} {t':Nat} (I:Inv X ((C,o) :: pins) σ H s) (c:DI X pins H C) (k:∀b u,b≠C->s.heap.get? b=some u->h'.get? b=some u) (e:h'.get? C=some o') (d:∀v,o'.data≠.cell v) :
 Inv X ((C,o') :: pins) σ H { s with heap:=h',toks:=t' }:=by
 obtain ⟨_,_,_,nf,_⟩:=I.pin (C,o) (mem_append_right _ (mem_cons_self ..));have I0:Inv X pins σ H s:=I.sub fun p hp=>mem_cons_of_mem _ hp;exact (I0.turned (t':=t') k c.free c.ne (.inr c.new) c.cells c.pins).pin1 c e nf d
variable {xs:List V} {l f I S:Addr}
theorem NF (hc:X.calm=true) (kf:Nat->Int) {R:Result->Shared->Prop} (hq:SqL X.K H l xs) (hlI:l≠I) (hSI:S≠I) (cI:DI X pins H I) (cS:DI X pins H S)
 (turn:∀(i:Nat) (x:V) (u:Value) (ps:List (Addr × Obj)) (s:Shared),xs[i]?=some x->AE x u->(∀p∈pins,p∈ps)->Inv X ps σ H s->wpAny (model X.prog X.w) X.A.in1 (call (.ref f) [u]) (fun v s'=>Inv X ps σ H s'/\∃t,v=.int (kf i) t) (fun _ _=>False) s)
 (hR:∀(i:Nat) (x:V) (v:Value) (s:Shared),xs[i]?=some x->AE x v->(∀j,j < xs.length->kf j<=kf i/\(j < i->kf j < kf i))->Inv X pins σ H s->R (.ok (.ret v)) s) :
 ∀(r j i:Nat) (s:Shared) (vb:Value) (x:V) (tb:Tok) (c:Nat) (oI:Obj),xs.length - (j+1)=r->j+1<=xs.length->Inv X ((S,seqObj "list" #[vb,.int (kf i) tb] c) :: (I,oI) :: pins) σ H s->s.heap.IsListIter I l (j+1)->xs[i]?=some x->AE x vb->i<=j ->
  (∀j',j'<=j->kf j'<=kf i/\(j' < i->kf j' < kf i))->codeAny (model X.prog X.w) X.A (.builtin "max.loop" ⟨[.ref I,.ref f,.ref S],[]⟩) R s:=by
 have hname:(toString "max"++toString ".loop":String)="max.loop":=by decide
 intro r
 induction r with
 | zero =>
   intro j i s vb x tb c oI hr hj Iv hit hx rx hij hbest;obtain ⟨its,rv,pl,hz⟩:=Iv.list hq;have hlen:xs.length=its.length:=rv.length;have W:=Walks.list (prog:=X.prog) (w:=X.w) (A:=X.A.in1) (Iv.ok.hd hc) I l hlI its.toArray;have hsz:its.toArray.size=its.length:=size_toArray ..;have hin:j+1=its.length:=by omega
   have gS:=(Iv.pin _ (mem_append_right _ (mem_cons_self ..))).1;refine codeAny_builtin PySem.F.entry_max_loop ?_;rw [Around.under_plainId PySem.F.plain_max_loop _];show wpAny _ X.A.in1 (seqItems? (.ref S) >>= _) _ _ _;refine wpAny_bind (wpAny_seqItems gS rfl ?_);show wpAny _ X.A.in1 (tryCatch (pyNext (.ref I)) _ >>= _) _ _ _;refine wpAny_bind (wpAny_tryCatch (W.done _ _ _ ⟨by rw [hsz,<- hin];exact hit,pl.isList⟩ fun h' tk' hk'=>?_));have I0:Inv X pins σ H s:=Iv.sub fun p hp=>mem_cons_of_mem _ (mem_cons_of_mem _ hp);have I1:=I0.turned (t':=tk') (it:=I) (h':=h') (fun b o n e=>hk' b o (by simpa using n) e) cI.free cI.ne (.inr cI.new) cI.cells cI.pins;have hS':=hk' S _ (by simpa using hSI) gS;have s1:=Heap.SameBut.update h' S (Obj.mapSeq fun _=>(#[]:Array Value));show wpAny _ X.A.in1 (updateSeq S (fun _=>#[]) >>= _) _ _ _;refine wpAny_bind ?_;refine wpAny_updateSeq hS' rfl (wpAny_bind (wpAny_letGo (wpAny_pure ?_)));exact hR i x vb _ hx rx (fun j' hj'=>hbest j' (by omega)) (I1.turned (t':=tk') (it:=S) (fun b o n e=>(s1.2 b n).trans e) cS.free cS.ne (.inr cS.new) cS.cells cS.pins)
 | succ r ih =>
   intro j i s vb x tb c oI hr hj Iv hit hx rx hij hbest;obtain ⟨its,rv,pl,hz⟩:=Iv.list hq;have hlen:xs.length=its.length:=rv.length;have W:=Walks.list (prog:=X.prog) (w:=X.w) (A:=X.A.in1) (Iv.ok.hd hc) I l hlI its.toArray;have hsz:its.toArray.size=its.length:=size_toArray ..;have hlt:j+1 < its.length:=by omega
   have gS:=(Iv.pin _ (mem_append_right _ (mem_cons_self ..))).1;refine codeAny_builtin PySem.F.entry_max_loop ?_;rw [Around.under_plainId PySem.F.plain_max_loop _];show wpAny _ X.A.in1 (seqItems? (.ref S) >>= _) _ _ _;refine wpAny_bind (wpAny_seqItems gS rfl ?_);show wpAny _ X.A.in1 (tryCatch (pyNext (.ref I)) _ >>= _) _ _ _;refine wpAny_bind (wpAny_tryCatch (W.item (j+1) _ _ _ (by rw [hsz];exact hlt) ⟨hit,pl.isList⟩ fun v h' tk' hP hst' hk'=>?_));have hv:its[j+1]?=some v:=by simpa using hP
   obtain ⟨oI',hoI',hoc,hod⟩:=id hst'.1;obtain ⟨x2,hx2⟩:∃x2,xs[j+1]?=some x2:=⟨_,List.getElem?_eq_getElem (by omega)⟩;obtain ⟨v2,hv2,rx2⟩:=rv.get hx2;rw [hv] at hv2
   cases hv2
   have Ia:Inv X ((I,oI) :: (S,seqObj "list" #[vb,.int (kf i) tb] c) :: pins) σ H s:=Iv.sub fun p hp=>by
    rcases mem_cons.mp hp with rfl | hp
    ·exact mem_cons_of_mem _ (mem_cons_self ..)
    ·rcases mem_cons.mp hp with rfl | hp
     ·exact mem_cons_self ..
     ·exact mem_cons_of_mem _ (mem_cons_of_mem _ hp)
   have I1:=Ia.repin (t':=tk') (h':=h') (o':=oI') (cI.cons hSI) (fun b o n e=>hk' b o (by simpa using n) e) hoI' (fun z y=>by rw [hod] at y;cases y);show wpAny _ X.A.in1 (tryCatch (holding [v] (call (.ref f) [v])) _ >>= _) _ _ _;refine wpAny_bind (wpAny_tryCatch (wpAny_holding (wpAny_mono (turn (j+1) x2 v _ _ hx2 rx2 (fun p hp=>mem_cons_of_mem _ (mem_cons_of_mem _ hp)) I1) (fun y s2 he=>?_) fun _ _ hF=>hF.elim)));obtain ⟨I2,t2,rfl⟩:=he;have gI2:=(I2.pin _ (mem_append_right _ (mem_cons_self ..))).1;have gS2:=(I2.pin _ (mem_append_right _ (mem_cons_of_mem _ (mem_cons_self ..)))).1;have hit2:s2.heap.IsListIter I l (j+1+1):=⟨oI',gI2,hoc,hod⟩
   have I2':Inv X ((S,seqObj "list" #[vb,.int (kf i) tb] c) :: (I,oI') :: pins) σ H s2:=I2.sub fun p hp=>by
    rcases mem_cons.mp hp with rfl | hp
    ·exact mem_cons_of_mem _ (mem_cons_self ..)
    ·rcases mem_cons.mp hp with rfl | hp
     ·exact mem_cons_self ..
     ·exact mem_cons_of_mem _ (mem_cons_of_mem _ hp)
   show wpAny _ X.A.in1 (tryCatch (holding [v,.int (kf (j+1)) t2] (richCompare .Gt (.int (kf (j+1)) t2) (.int (kf i) tb) >>= _)) _ >>= _) _ _ _;refine wpAny_bind (wpAny_tryCatch (wpAny_holding (wpAny_bind (CmpOf.ints_gt (prog:=X.prog) (w:=X.w) (A:=X.A.in1) (P:=fun i v=>∃t,v=.int (kf i) t) kf (fun i v h=>h) (j+1) i _ _ _ _ _ ⟨t2,rfl⟩ ⟨tb,rfl⟩ ?_))));refine wpAny_bind (wpAny_holding (wpAny_truthy_bool ?_));refine wpAny_bind (wpAny_letGo (wpAny_pure ?_));by_cases hb':kf (j+1) > kf i
   ·have s1:=Heap.SameBut.update s2.heap S (Obj.mapSeq fun _=>#[v,.int (kf (j+1)) t2]);obtain ⟨c2,hc2⟩:∃c2,(s2.heap.update S (Obj.mapSeq fun _=>#[v,.int (kf (j+1)) t2])).get? S=some (seqObj "list" #[v,.int (kf (j+1)) t2] c2):=⟨_,get?_update_seq gS2 fun _=>#[v,.int (kf (j+1)) t2]⟩;simp only [hb',decide_true,if_true];refine wpAny_bind ?_;refine wpAny_updateSeq gS2 rfl (wpAny_bind (wpAny_letGo ?_));rw [hname];have I3:=I2'.repin (t':=s2.toks) (o':=seqObj "list" #[v,.int (kf (j+1)) t2] c2) (cS.cons (Ne.symm hSI)) (fun b o n e=>(s1.2 b n).trans e) hc2 (fun z y=>by cases y);refine wpAny_pure ⟨plainId_quiet PySem.F.plain_max_loop _,ih (j+1) (j+1) _ v x2 t2 c2 oI' (by omega) (by omega) I3 ⟨oI',(s1.2 I hSI.symm).trans gI2,hoc,hod⟩ hx2 rx2 (Nat.le_refl _) fun j' hj'=>?_⟩;by_cases e:j'=j+1
    ·subst e;exact ⟨by omega,fun z=>by omega⟩
    ·have hb1:=(hbest j' (by omega)).1;exact ⟨by omega,fun _=>by omega⟩
   ·simp only [hb',decide_false,Bool.false_eq_true,if_false];refine wpAny_bind (wpAny_letGo ?_);rw [hname];refine wpAny_pure ⟨plainId_quiet PySem.F.plain_max_loop _,ih (j+1) i _ vb x tb c oI' (by omega) (by omega) I2' hit2 hx rx (by omega) fun j' hj'=>?_⟩;by_cases e:j'=j+1
    ·subst e;exact ⟨by omega,fun z=>by omega⟩
    ·exact hbest j' (by omega)
theorem PZ (hc:X.calm=true) (kf:Nat->Int) {s:Shared} {Q:Value->Shared->Prop} {E:Value->Shared->Prop} (hq:SqL X.K H l xs) (hne:0 < xs.length) (Iv:Inv X pins σ H s)
 (turn:∀(i:Nat) (x:V) (u:Value) (ps:List (Addr × Obj)) (s:Shared),xs[i]?=some x->AE x u->(∀p∈pins,p∈ps)->Inv X ps σ H s->wpAny (model X.prog X.w) X.A.in1 (call (.ref f) [u]) (fun v s'=>Inv X ps σ H s'/\∃t,v=.int (kf i) t) (fun _ _=>False) s)
 (hQ:∀(i:Nat) (x:V) (v:Value) (s:Shared),xs[i]?=some x->AE x v->(∀j,j < xs.length->kf j<=kf i/\(j < i->kf j < kf i))->Inv X pins σ H s->Q v s) :
 wpAny (model X.prog X.w) X.A (call (.builtin "max") [.ref l] [(Str.ofString "key",.ref f)]) Q E s:=by
 have hname:(toString "max"++toString ".loop":String)="max.loop":=by decide
 obtain ⟨its,rv,pl,hz⟩:=Iv.list hq;have hlen:xs.length=its.length:=rv.length;have hls:=pl.isList;obtain ⟨ol,hol,_⟩:=id hls;have hll:l < s.heap.objs.size:=Heap.lt_size hol;refine kmk_tree PySem.F.kind_max PySem.F.plain_max PySem.F.entry_max (kmk_max_key _ _) ?_;show wpAny _ X.A.in1 (Builtin.Builtins.bindParams "max" ["key","default"] 0 ⟨[],[(Str.ofString "key",.ref f)]⟩ >>= _) _ _ s;refine wpAny_bind (wpAny_of_eq (show Builtin.Builtins.bindParams "max" ["key","default"] 0 ⟨[],[(Str.ofString "key",.ref f)]⟩=pure [some (.ref f),none] from rfl) ?_);refine wpAny_bind (wpAny_pure ?_);refine wpAny_bind (wpAny_pyIter_list hls ?_);refine wpAny_bind (wpAny_newList ?_ (Nat.zero_le _));rw [hname];have hS:(s.heap.push { cls:=.type "list_iterator",data:=.fields #[.ref l,.int 0 0] }).objs.size=s.heap.objs.size+1:=size_push' ..;have hlI:l≠s.heap.objs.size:=Nat.ne_of_lt hll;have hSI:(s.heap.push { cls:=.type "list_iterator",data:=.fields #[.ref l,.int 0 0] }).objs.size≠s.heap.objs.size:=by rw [hS];exact Nat.ne_of_gt (Nat.lt_succ_self _)
 have I1:=Iv.kept (t':=s.toks) (h':=s.heap.push { cls:=.type "list_iterator",data:=.fields #[.ref l,.int 0 0] }) fun b u e=>Heap.get?_push_of_some _ e;have cI:DI X pins H s.heap.objs.size:=Iv.cloc (Nat.le_refl _);have cS:DI X pins H (s.heap.push { cls:=.type "list_iterator",data:=.fields #[.ref l,.int 0 0] }).objs.size:=I1.cloc (Nat.le_refl _);have nfI:=Iv.nofs (Nat.le_refl _);have nfS:=I1.nofs (Nat.le_refl _);have I2:=I1.kept (t':=s.toks) (h':=(s.heap.push { cls:=.type "list_iterator",data:=.fields #[.ref l,.int 0 0] }).push (seqObj "list" #[] 0)) fun b u e=>Heap.get?_push_of_some _ e
 have gI:((s.heap.push { cls:=.type "list_iterator",data:=.fields #[.ref l,.int 0 0] }).push (seqObj "list" #[] 0)).get? s.heap.objs.size=some { cls:=.type "list_iterator",data:=.fields #[.ref l,.int 0 0] } :=
  Heap.get?_push_of_some _ (Heap.get?_push_size _ rfl)
 have gS:((s.heap.push { cls:=.type "list_iterator",data:=.fields #[.ref l,.int 0 0] }).push (seqObj "list" #[] 0)).get? (s.heap.push { cls:=.type "list_iterator",data:=.fields #[.ref l,.int 0 0] }).objs.size=some (seqObj "list" #[] 0):=Heap.get?_push_size _ rfl;generalize (s.heap.push { cls:=.type "list_iterator",data:=.fields #[.ref l,.int 0 0] }).objs.size=S at hSI cS nfS gS ⊢;generalize hI:s.heap.objs.size=I at hSI cI nfI gI hlI ⊢;have I3:=(I2.pin1 cS gS nfS (fun z y=>by cases y)).pin1 (cI.cons hSI) gI nfI (fun z y=>by cases y);refine wpAny_pure ⟨plainId_quiet PySem.F.plain_max_loop _,?_⟩;obtain ⟨its,rv,pl,hz⟩:=I3.list hq;have hlen:xs.length=its.length:=rv.length;have W:=Walks.list (prog:=X.prog) (w:=X.w) (A:=X.A.in1) (I3.ok.hd hc) I l hlI its.toArray;have hsz:its.toArray.size=its.length:=size_toArray ..;refine codeAny_builtin PySem.F.entry_max_loop ?_;rw [Around.under_plainId PySem.F.plain_max_loop _];show wpAny _ X.A.in1 (seqItems? (.ref _) >>= _) _ _ _;refine wpAny_bind (wpAny_seqItems gS rfl ?_);show wpAny _ X.A.in1 (tryCatch (pyNext (.ref I)) _ >>= _) _ _ _;refine wpAny_bind (wpAny_tryCatch (W.item 0 _ _ _ (by rw [hsz,<- hlen];exact hne) ⟨⟨_,gI,rfl,rfl⟩,pl.isList⟩ fun v h' tk' hP hst' hk'=>?_));have hv:its[0]?=some v:=by simpa using hP
 obtain ⟨oI',hoI',hoc,hod⟩:=id hst'.1;obtain ⟨x2,hx2⟩:∃x2,xs[0]?=some x2:=⟨_,List.getElem?_eq_getElem hne⟩;obtain ⟨v2,hv2,rx2⟩:=rv.get hx2;rw [hv] at hv2
 cases hv2
 have I4:=I3.repin (t':=tk') (h':=h') (o':=oI') (cI.cons hSI) (fun b o n e=>hk' b o (by simpa using n) e) hoI' (fun z y=>by rw [hod] at y;cases y);show wpAny _ X.A.in1 (tryCatch (holding [v] (call (.ref f) [v])) _ >>= _) _ _ _;refine wpAny_bind (wpAny_tryCatch (wpAny_holding (wpAny_mono (turn 0 x2 v _ _ hx2 rx2 (fun p hp=>mem_cons_of_mem _ (mem_cons_of_mem _ hp)) I4) (fun y s2 he=>?_) fun _ _ hF=>hF.elim)));obtain ⟨I5,t2,rfl⟩:=he;have gI2:=(I5.pin _ (mem_append_right _ (mem_cons_self ..))).1;have gS2:=(I5.pin _ (mem_append_right _ (mem_cons_of_mem _ (mem_cons_self ..)))).1
 have I5':Inv X ((S,seqObj "list" #[] 0) :: (I,oI') :: pins) σ H s2:=I5.sub fun p hp=>by
  rcases mem_cons.mp hp with rfl | hp
  ·exact mem_cons_of_mem _ (mem_cons_self ..)
  ·rcases mem_cons.mp hp with rfl | hp
   ·exact mem_cons_self ..
   ·exact mem_cons_of_mem _ (mem_cons_of_mem _ hp)
 have s1:=Heap.SameBut.update s2.heap S (Obj.mapSeq fun _=>#[v,.int (kf 0) t2]);obtain ⟨c2,hc2⟩:∃c2,(s2.heap.update S (Obj.mapSeq fun _=>#[v,.int (kf 0) t2])).get? S=some (seqObj "list" #[v,.int (kf 0) t2] c2):=⟨_,get?_update_seq gS2 fun _=>#[v,.int (kf 0) t2]⟩;show wpAny _ X.A.in1 (updateSeq S (fun _=>#[v,.int (kf 0) t2]) >>= _) _ _ _;refine wpAny_bind ?_;refine wpAny_updateSeq gS2 rfl ?_;rw [hname];have I6:=I5'.repin (t':=s2.toks) (o':=seqObj "list" #[v,.int (kf 0) t2] c2) (cS.cons (Ne.symm hSI)) (fun b o n e=>(s1.2 b n).trans e) hc2 (fun z y=>by cases y);refine wpAny_pure ⟨plainId_quiet PySem.F.plain_max_loop _,NF hc kf hq hlI hSI cI cS turn hQ _ 0 0 _ v x2 t2 c2 oI' rfl hne I6 ⟨oI',(s1.2 I hSI.symm).trans gI2,hoc,hod⟩ hx2 rx2 (Nat.le_refl _) fun j' hj'=>?_⟩;have e:j'=0:=by omega
 subst e;exact ⟨by omega,fun z=>absurd z (Nat.lt_irrefl _)⟩
end
theorem Fun.okC {P:Program} {w:World} {K:PySem.W.Frag} {mg:Str->Option Value} {base:Heap} {x qual:Str} {st:Stmt} {f:Addr} {fd:FuncData} {N ps:List Str} {k:Nat} {sp:Sp} (F:Fun K x qual st f fd) (S:Aq N ps (Ag st)) (len:∀vs H Q E,sp vs H Q E->vs.length=ps.length)
 (hbody:∀(cdv:Value),fd.code=cdv->∀(A:Around) (outer:List Env) (s:Shared) (H:Hp) (vs:List V) (Q:VK) (E:XK),C7 k (A.deeper (envOfC qual (Ag st) s.heap.objs.size f cdv))->sp vs H Q E ->
  ∃t,PSs (JD CX0 P w K mg base N qual (Ag st) f cdv A outer s H E).nox (CI st) t/\t { nx:=fun _ H'=>Q .non H',rt:=Q } (start N vs) H):AK P w K mg base CX0 (k+1) f fd ps sp:=by
 obtain ⟨oc,od,kV,doc,pm,an,cdv,ct,osl,rfl,lk,hcd⟩:=F.ex;refine OZ lk hcd S len fun A outer s H vs Q E hr hsp=>?_;obtain ⟨t,h,q⟩:=hbody cdv rfl A outer s H vs Q E hr hsp;exact ⟨t,h.nox,q⟩
section
variable {M:Model} {A:Around} {E:Value->Shared->Prop} {s:Shared} {env:Env}
theorem Oy {pos:Pos} {T:String} {e:Expr} {kws:List Keyword} {Q:Value->Shared->Prop}
 (h:wpAny M A (spliced (backTo pos (starEach [e] env))) (fun vs z=>wpAny M A (evalAll ((backToKw pos (keywordEach kws env)).map (·.2))) (fun us y=>wpAny M A (call (.builtin T) vs (((backToKw pos (keywordEach kws env)).filterMap (·.1)).zip us)) Q E y) E z) E s)
 (he:backTo pos (starEach [e] env)=(false,eval e env) :: backTo pos (starEach [] env)) (hp:(backTo pos (starEach [e] env)).any (·.1)=false)
 (ha:(backToKw pos (keywordEach kws env)).all (·.1.isSome)=true) (hk:(backToKw pos (keywordEach kws env)).any (·.1.isNone)=false) :
 wpAny M A (callWith pos (.builtin T) [] (backTo pos (starEach [e] env)) (backToKw pos (keywordEach kws env))) Q E s:=by
 unfold callWith
 have y:wpAny M A (evalArgs (.builtin T) true (backTo pos (starEach [e] env)) (backToKw pos (keywordEach kws env))) (fun a z=>wpAny M A (call (.builtin T) ([]++a.pos) a.kw) Q E z) E s:=by
  rw [he] at h ⊢;exact evalArgs_kwB ha h
 refine wpAny_bind (wpAny_holding (wpAny_mono y (fun a z q=>wpAny_bind (wpAny_standAt ?_)) fun _ _ x=>x));simp only [hp,hk,Bool.or_false];refine wpAny_bind (wpAny_pure (wpAny_bind ?_));exact wpAny_mono q (fun r z hr=>wpAny_bind (wpAny_holding (wpAny_point (wpAny_pure hr)))) fun _ _ x=>x
end
noncomputable def Pl (K:PySem.W.Frag) (P:Addr) (lpos:Pos) (q:Str) (tl tb:TE):TE:=fun σ H Q=>tl σ H fun x H1=>∃(a:Addr) (xs:List V) (kf:Nat->Int),x=.ref a/\0 < xs.length/\GF P lpos q H1 /\
 ∀H2,Et P lpos q H2->SmL P H1 H2->(Et P lpos q H1->H1=H2)->(∀b,H2 b=none->H1 b=none) ->
  SqL K H2 a xs/\(∀i x,xs[i]?=some x->tb (σ++[some x]) H2 fun y H3=>y=.int (kf i)/\H3=H2)/\∀i x,xs[i]?=some x->(∀j,j < xs.length->kf j<=kf i/\(j < i->kf j < kf i))->Q x H2
section
variable {X:Cx} {c P:Addr} {e body:Expr} {tl tb:TE} {sc fsc:Scope} {N Nc:List Str} {x:Str} {params:Arguments} {lpos kp p pos:Pos}
theorem Nz (hc:X.calm=true) (LB:GB X.base X.mg c P) (hcode:X.env.code=.ref c) (hr:C7 1 X.A) (hg:Gl X "max") (hm:X.mg "max"=none) (hE:X.env.scope=fsc) (hXN:X.N=N) (cn:DC N Nc x sc fsc) (hco:sc.isCoroutine=false) (hgen:sc.isGenerator=false) (he:PE X e tl)
 (hb:∀cl f c' s H,PE (X.inLam X.A.in1 Nc (X.env.qual++"<lambda>") sc cl f c' s H) body tb)
 (hbind:∀cl c' pm ctv u,bindArgs (kla_fn "<lambda>" (X.env.qual++"<lambda>") params body sc cl pm (.ref c') ctv) ⟨[u],[]⟩=pure [(x,u)]:=by intros;rfl) (hdef:defaultsOf params X.env=([],[]):=by rfl)
 (h1:backTo pos (starEach [e] X.env)=(false,eval e X.env) :: backTo pos (starEach [] X.env):=by rfl) (h2:(backTo pos (starEach [e] X.env)).any (·.1)=false:=by rfl)
 (h3:(backToKw pos (keywordEach [⟨some "key",.Lambda params body sc lpos,kp⟩] X.env)).all (·.1.isSome)=true:=by rfl) (h4:(backToKw pos (keywordEach [⟨some "key",.Lambda params body sc lpos,kp⟩] X.env)).any (·.1.isNone)=false:=by rfl)
 (h5:(backToKw pos (keywordEach [⟨some "key",.Lambda params body sc lpos,kp⟩] X.env)).filterMap (·.1)=[("key":Str)]:=by rfl) :
 PE X (.Call (.Name "max" p) [e] [⟨some "key",.Lambda params body sc lpos,kp⟩] pos) (Pl X.K P lpos (X.env.qual++"<lambda>") tl tb):=by
 intro pins s σ H Q I h;obtain ⟨cl,hcl,clS,clH⟩:=Ck (env:=X.env) (sc:=sc) (OJ I.ok.has hE cn);refine wpAny_Call_Name_kw (Cv I hg hm boot_max ?_ (by decide) (by decide));refine Oy ?_ h1 h2 h3 h4;rw [h1];refine Calls.spliced_cons (thn (he pins s σ H _ I h) fun u s1 ⟨y,H1,I1,r1,a,xs,kf,hx,hne,lt,q⟩=>?_);subst hx
 cases r1
 refine Calls.spliced_nil ?_;refine kws_cons (kla_eval hdef (Pa LB hcode hcl I1 lt fun f c' pm ctv H2 s2 I2 hc2 cf l2 sm l12 fr=>kws_nil ?_));rw [h5];show wpAny (model X.prog X.w) X.A (call (.builtin "max") [.ref a] [(Str.ofString "key",.ref f)]) _ _ s2;obtain ⟨hq,keys,fin⟩:=q H2 l2 sm l12 fr;refine PZ hc kf hq hne I2 (fun i z u ps s3 hz rz hps I3=>?_) fun i z v s3 hz rz best I3=>?_
 ·refine thn (NZ hE hXN cn hco hgen clS clH (A:=X.A.in1) rfl hr.hd (by have:=hr.dp;show X.A.depth < _;omega) (fun s H=>hb cl f c' s H) (fun pm ctv u=>hbind cl c' pm ctv u) I3 (hps _ (mem_cons_self ..)) hc2 rz (keys i z hz)) fun v s4 ⟨y,H4,I4,r4,e1,e2⟩=>?_;subst e1 e2;exact ⟨I4,r4⟩
 ·exact ⟨z,H2,I3.sub fun p hp=>mem_cons_of_mem _ hp,rz,fin i z hz best⟩
end
noncomputable def LM (K:PySem.W.Frag):Bool:=K.all fun p=>match p.2.data with
 | .fields v=>!(v.isEmpty && p.2.cls == Value.none)
 | _=>true
theorem Kn {α:Type} {a:Addr} {v:α}:∀{l:List (Addr × α)},l.lookup a=some v->(a,v)∈l
 | (k,u) :: r,h=>by
   rw [lookup_cons] at h
   cases hx:(a == k) with
   | true =>
     rw [hx] at h;have e:a=k:=by simpa using hx
     cases h
     rw [e];exact mem_cons_self ..
   | false =>
     rw [hx] at h;exact mem_cons_of_mem _ (Kn h)
theorem L9 {K:PySem.W.Frag} (h:LM K=true) {P:Addr}:K.lookup P≠some (tabObj #[]):=fun e=>by
 have:=all_eq_true.mp h _ (Kn e);exact absurd (show (!((#[]:Array Value).isEmpty && (Value.none == Value.none)))=true from this) (by decide)
theorem Nl {P:Program} {w:World} {K:PySem.W.Frag} {mg mb:Str->Option Value} {CX:CXT} {k:Nat} {fa a c Pt:Addr} {fd:FuncData} {x:Str} {sp:Sp} {s₁:Shared} {vs:List Value} {ns:List Int}
 (KX:K.In s₁.heap) (hnt:LM K=true) (hns:s₁.heap.Ns mainGlobals mg) (hb:s₁.heap.Ns builtinsNs mb) (hbb:∀x:Str,x≠"__name__"->mb x=bootBuiltins x) (hlim:s₁.heap.NoLimit) (hg:s₁.gens=#[])
 (ha:s₁.heap.get? a=some { cls:=.type "list",data:=.seq vs.toArray }) (hi:IntsAre vs ns) (hl:ns.length<=sizeLine) (hr:C7 k callerA)
 (hco:s₁.heap.IsCode c Pt #[]) (hta:s₁.heap.TableAt c Pt #[]) (hbm:∃bm ob,mg "__builtins__"=some (.ref bm)/\bm≠builtinsNs/\s₁.heap.get? bm=some ob/\ob.cls=.type "module"/\ob.dict=some builtinsNs/\ob.data=.plain)
 (F:∀base:Heap,K.In base->base.Ns mainGlobals mg->GB base mg c Pt->AK P w K mg base CX k fa fd [x] sp) (hbind:∀(s:Shared) (u:Value),BindsTo s fd ⟨[u],[]⟩ [(x,u)])
 (hsp:∀H:Hp,H Pt=some (.tbl #[])->SqL K H a (ns.map V.int)->sp [.ref a] H (fun v _=>v=.bl true) fun _ _ _=>False)
 (hCX:∀H e s',CX [] H s₁ (fun _ _ _=>False) e s'->False) :
 codeAny (model P w) callerA (.call (.ref fa) ⟨[.ref a],[]⟩) (fun r s'=>r=.ok (.ret (.bool true))/\OldK s₁.heap s'.heap/\s'.os=s₁.os/\AllBare s'.gens) s₁:=by
 have rv:=Em hi;have lenV:=hi.length;have hPt:s₁.heap.get? Pt=some (tabObj #[]):=hta.2;have aP:a≠Pt:=fun z=>by rw [z,hPt] at ha;cases ha
 have kP:K.lookup Pt=none:=by
  cases e:K.lookup Pt with
  | none=>rfl
  | some o =>
    have:=KX _ _ e;rw [hPt] at this;rw [<- Option.some.inj this] at e;exact absurd e (L9 hnt)
 have core:∀H:Hp,(∀b,H b=none\/(b=Pt/\H b=some (.tbl #[]))\/(b=a/\∃o xs,H b=some (.frz o (.lst xs))))->H Pt=some (.tbl #[])->SqL K H a (ns.map V.int)->HOk P w H s₁.heap->(H a≠none->K.lookup a=none) ->
  codeAny (model P w) callerA (.call (.ref fa) ⟨[.ref a],[]⟩) (fun r s'=>r=.ok (.ret (.bool true))/\OldK s₁.heap s'.heap/\s'.os=s₁.os/\AllBare s'.gens) s₁:=by
  intro H hO hP hS hok hK;have base_of:∀{b:Addr} {o:Obj},s₁.heap.get? b=some o->H b=none->(Hn s₁.heap H).get? b=some o:=fun e n=>N8 e n
  have other:∀{b:Addr} {o:Obj},s₁.heap.get? b=some o->o.cls≠.type "list"->(o.cls≠.none\/∀v,o.data≠.fields v)->H b=none:=fun {b o} e n1 n2=>by
   rcases hO b with z | ⟨z,_⟩ | ⟨z,_⟩
   ·exact z
   ·subst z;rw [hPt] at e;cases e;rcases n2 with n2 | n2
    ·exact absurd rfl n2
    ·exact absurd rfl (n2 _)
   ·subst z;rw [ha] at e;cases e;exact absurd rfl n1
  have noA:∀{b:Addr} {o:Obj} {es:Array DictEntry} {ep:Nat},s₁.heap.get? b=some o->o.data=.dict es ep->H b=none:=fun {b o es ep} e d=>by
   rcases hO b with z | ⟨z,_⟩ | ⟨z,_⟩
   ·exact z
   ·subst z;rw [hPt] at e;cases e;cases d
   ·subst z;rw [ha] at e;cases e;cases d
  have nsK:∀{b:Addr} {m:Str->Option Value},s₁.heap.Ns b m->(Hn s₁.heap H).Ns b m:=fun {b m} ⟨o,es,ep,e,d,r⟩=>⟨o,es,ep,base_of e (noA e d),d,r⟩
  have hKb:K.In (Hn s₁.heap H):=fun b o e=>base_of (KX b o e) (by
   rcases hO b with z | ⟨z,_⟩ | ⟨z,y⟩
   ·exact z
   ·subst z;rw [kP] at e;cases e
   ·subst z
    cases q:H b with
    | none=>rfl
    | some u=>rw [hK (by rw [q];simp)] at e;cases e)
  have hM:Mod K mg (Hn s₁.heap H):=⟨hKb,nsK hns,⟨mb,nsK hb,hbb⟩,let ⟨mc,h1,h2⟩:=hlim;⟨mc,nsK h1,h2⟩⟩
  have LB:GB (Hn s₁.heap H) mg c Pt:=by
   refine ⟨?_,?_,?_⟩
   ·obtain ⟨o,vs',file,tf,flags,tg,inF,text,tt,e,ec,r⟩:=CodeHd.of hco hta;exact ⟨o,vs',file,tf,flags,tg,inF,text,tt,base_of e (other e (by rw [ec];decide) (.inl (by rw [ec];decide))),ec,r⟩
   ·obtain ⟨bm,ob,b1,b2,b3,b4,r⟩:=hbm;exact ⟨bm,ob,b1,b2,base_of b3 (other b3 (by rw [b4];decide) (.inl (by rw [b4];decide))),b4,r⟩
   ·cases e:(Hn s₁.heap H).get? Pt with
    | none=>rfl
    | some o=>rw [(LW e).2] at hP;cases hP
  have e0:L8 P w K mg (Hn s₁.heap H) callerA [] s₁ H:=⟨rfl,hM,fun b o e=>LW e,Nat.le_of_eq (Ng _ _),trivial,fun b hb=>absurd (show b∈([]:List Addr) from hb) (by simp),hok,.of_eq hg⟩;refine codeAny_mono ((F _ hKb (nsK hns) LB).run callerA [] s₁ H ⟨[.ref a],[]⟩ [.ref a] [.ref a] _ _ hr e0 (hbind s₁ (.ref a)) (.cons rfl .nil) (hsp H hP hS)) fun r s' h=>?_
  cases r with
  | error e=>exact (hCX H e s' h).elim
  | ok fl =>
    cases fl with
    | next=>exact False.elim h
    | brk=>exact False.elim h
    | cont=>exact False.elim h
    | ret u =>
      obtain ⟨v,H',os,bare,un,hok',r',q⟩:=h;have q':v=.bl true:=q;subst q';obtain rfl:u=Value.bool true:=r';refine ⟨rfl,⟨fun b o e=>?_,fun b o e=>un.there b o e (by simp)⟩,os,bare⟩;rcases hO b with z | ⟨z,y⟩ | ⟨z,ob,xs,y⟩
      ·exact .inl (un.keep b o e z (by intro z;exact absurd (show b∈([]:List Addr) from z) (by simp)) (by simp))
      ·subst z;rw [hPt] at e;cases e;obtain ⟨more,z2⟩:=un.tbls b _ y;exact .inr (.inl ⟨hta.isCodeTable,rfl,#[],more,rfl,hok' b _ z2⟩)
      ·have z2:=un.frzs b ob _ y;obtain ⟨e1,_⟩:=hok b _ y;obtain ⟨e2,_⟩:=hok' b _ z2;rw [e] at e1;cases e1;exact .inl e2
 cases hk:K.lookup a with
 | some o =>
   have e:=KX a o hk;rw [ha] at e
   cases e
   refine core (fun b=>if b=Pt then some (.tbl #[]) else none) (fun b=>?_) (if_pos rfl) (.inr ⟨_,vs.toArray,_,hk,rfl,rfl,rfl,by rw [size_toArray,lenV];exact hl,by simpa using rv⟩) (fun b u z=>?_) fun z=>absurd (if_neg aP) z
   ·by_cases hb:b=Pt
    ·exact .inr (.inl ⟨hb,if_pos hb⟩)
    ·exact .inl (if_neg hb)
   ·by_cases hb:b=Pt
    ·have z':=(if_pos hb).symm.trans z
     cases z'
     subst hb;exact hPt
    ·have z':=(if_neg hb).symm.trans z
     cases z'
 | none =>
   refine core (fun b=>if b=Pt then some (.tbl #[]) else if b=a then some (.frz { cls:=.type "list",data:=.seq vs.toArray } (.lst (ns.map V.int))) else none) (fun b=>?_) (if_pos rfl) (.inl (.inr ⟨{ cls:=.type "list",data:=.seq vs.toArray },(if_neg aP).trans (if_pos rfl)⟩)) (fun b u z=>?_) fun _=>hk
   ·by_cases hb:b=Pt
    ·exact .inr (.inl ⟨hb,if_pos hb⟩)
    ·by_cases hb2:b=a
     ·exact .inr (.inr ⟨hb2,_,_,(if_neg hb).trans (if_pos hb2)⟩)
     ·exact .inl ((if_neg hb).trans (if_neg hb2))
   ·by_cases hb:b=Pt
    ·have z':=(if_pos hb).symm.trans z
     cases z'
     subst hb;exact hPt
    ·have z:=(if_neg hb).symm.trans z;by_cases hb2:b=a
     ·have z':=(if_pos hb2).symm.trans z
      cases z'
      subst hb2;exact ⟨ha,by rw [length_map];exact hl,vs,_,rv,ha⟩
     ·have z':=(if_neg hb2).symm.trans z
      cases z'
theorem walk_of1 {l:PySem.W.OpenLaw} {n k:Nat} {q:Program} {loose:List Str} {XP:(Str->Option Value)->Heap->Prop} {YP:World->Heap->Prop} {d dn:DefRec} {K:Params->PySem.W.Frag} {CX:World->CXT} {sp:World->Addr->Sp} {x:Str}
 (hn:l.most=some n) (hn2:n<=sizeLine) (hdf:d.params.defaults=[]) (hr:C7 k callerA)
 (hY:∀(w:World) (h:Heap),YP w h->(K w.params).In h) (hnt:∀p,LM (K p)=true) (hdn:dn∈recsOf q)
 (F:∀(w:World) (mg:Str->Option Value) (fa f c Pt:Addr) (h:Heap),(K w.params).In h->h.Ns mainGlobals mg->mg d.name=some (.ref fa)->mg dn.name=some (.ref f)->(∃o fd,h.get? f=some o/\o.data=.func fd/\fd.code=.ref c) ->
  ∃fd:FuncData,(∀(s:Shared) (u:Value),BindsTo s fd ⟨[u],[]⟩ [(x,u)]) /\
   ∀base:Heap,(K w.params).In base->base.Ns mainGlobals mg->GB base mg c Pt->AK l.prog w (K w.params) mg base (CX w) k fa fd [x] (sp w Pt))
 (hsp:∀(w:World) (Pt:Addr) (H:Hp) (a:Addr) (ns:List Int),ns.length<=n->H Pt=some (.tbl #[])->SqL (K w.params) H a (ns.map V.int)->sp w Pt [.ref a] H (fun v _=>v=.bl true) fun _ _ _=>False)
 (hCX:∀(w:World) (H:Hp) (s:Shared) (e:Value) (s':Shared),CX w [] H s (fun _ _ _=>False) e s'->False) :
 PySem.W.WalkO q loose XP YP l.row.toRowW d [] (fun f vs=>PySem.call f vs):=by
 refine Att.attach_call hn hdf fun w s₀ s₁ mg mb fa o pm cd doc a vs ns G Y ho hd hcd hmg hobj hints hlen hg=>?_;have KX:=hY w _ Y;obtain ⟨f,o',fd',c,Pt,t1,t2,t3,t4,t5,t6⟩:=G.T.tab dn hdn;obtain ⟨fd,hb,hF⟩:=F w mg fa f c Pt _ KX G.T.g hmg t1 ⟨o',fd',t2,t3,t4⟩;exact Nl KX (hnt _) G.T.g G.T.b G.T.builtins G.T.nolimit hg hobj hints (Nat.le_trans hlen hn2) hr t5 t6 G.T.bmain hF hb (fun H hP hS=>hsp w Pt H a ns hlen hP hS) fun H e s'=>hCX w H s₁ e s'
end L2
namespace L2
open PySem PySem.W PySem.Spec PyProof.Rows
section
variable {X:Cx}
noncomputable def Qr:V->List V->Hp->VK->Prop:=fun x vs H Q=>∃(l:Addr) (xs:List V) (k:Nat) (y:V),x=.ref l/\vs=[.int (k:Int),y]/\H l=some (.lst xs)/\k<=xs.length/\xs.length < sizeLine/\Q .non (upd H l (.lst (xs.take k++y :: xs.drop k)))
theorem Nu:MtM X "list.insert" Qr:=by
 intro pins s σ H x vs v us Q I rx rv h;obtain ⟨l,xs,k,y,rfl,rfl,hH,hk,hz1,q⟩:=h
 cases rx
 obtain ⟨u1,u2,rfl,ru1,ru2⟩:∃u1 u2,us=[u1,u2]/\AE (.int (k:Int)) u1/\AE y u2:=by
  cases rv with
  | cons r1 t=>cases t with
    | cons r2 t2=>cases t2;exact ⟨_,_,rfl,r1,r2⟩
 obtain ⟨t,rfl⟩:=ru1;obtain ⟨z,its,n,r,hl,e⟩:=I.lstM hH;have hs:sizeLine=16777216:=sizeLine_eq;obtain ⟨i,hi⟩:∃i:Int,i=(k:Int):=⟨_,rfl⟩;rw [<- hi];have fi:Builtin.List.listFitsIndex i=true:=fitsIndex_both (by omega) (by omega);have zi:its.toArray.size<=sizeLine:=by rw [size_toArray];omega
 refine call_meets PySem.F.slot_list_insert ⟨_,e,rfl⟩ PySem.F.entry_list_insert (PySem.F.args_list_insert_3 _ _ _) (PySem.AutoSeq1.list_insert_list_int_val_1 l its.toArray n i t u2 (by simp [fi]) zi) ⟨e,?_⟩;refine ⟨.non,_,I.lset (its':=its.take k++u2 :: its.drop k) hH e ?_ ((r.take k).append (.cons ru2 (r.drop k))) ?_,rfl,q⟩
 ·have kk:(if i < 0 then (i+(its.toArray.size:Int)).toNat else min i.toNat its.toArray.size)=k:=by
   rw [if_neg (by omega),hi,Int.toNat_natCast,size_toArray];omega
  show (its.toArray.extract 0 (if i < 0 then (i+(its.toArray.size:Int)).toNat else min i.toNat its.toArray.size)).push u2++its.toArray.extract (if i < 0 then (i+(its.toArray.size:Int)).toNat else min i.toNat its.toArray.size)=_;rw [kk];apply Array.ext';simp;exact take_of_length_le (by rw [length_drop];exact Nat.le_refl _)
 ·rw [length_append,length_cons,length_take,length_drop];omega
end
section
variable {X:Cx} {e:Expr} {te:TE} {p p2 pos pos2:Pos}
noncomputable def PV (K:PySem.W.Frag) (te:TE):TE:=fun σ H Q=>te σ H fun x H1=>∃(a:Addr) (ns:List Int),x=.ref a/\SqL K H1 a (ns.map V.int)/\ns.length < 64 /\
 ∀ms:List Int,ms.Nodup->(∀z,z∈ms↔z∈ns)->Q (.int (ms.length:Int)) H1
theorem Np (hc:X.calm=true) (hg:Gl X "len") (hm:X.mg "len"=none) (hg2:Gl X "set") (hm2:X.mg "set"=none) (he:PE X e te)
 (hs:starEach [e] X.env=[(false,eval e X.env)]:=by rfl)
 (hs2:starEach [(.Call (.Name "set" p2) [e] [] pos2:Expr)] X.env=[(false,eval (.Call (.Name "set" p2) [e] [] pos2) X.env)]:=by rfl) :
 PE X (.Call (.Name "len" p) [.Call (.Name "set" p2) [e] [] pos2] [] pos) (PV X.K te):=by
 intro pins s σ H Q I h;refine wpAny_Call_Name_kw (Cv I hg hm boot_len ?_ (by decide) (by decide));refine callWith_builtin1 ?_ hs2 rfl;rw [hs2];refine Calls.spliced_cons ?_;refine wpAny_Call_Name_kw (Cv I hg2 hm2 boot_set ?_ (by decide) (by decide));refine callWith_type1 ?_ hs rfl;rw [hs];refine Calls.spliced_cons (thn (he pins s σ H _ I h) fun u s1 ⟨x,H1,I1,r1,a,ns,hx,hq,h64,q⟩=>?_);subst hx
 cases r1
 refine Calls.spliced_nil ?_;obtain ⟨its,rv,pl,hz⟩:=I1.list hq;have hi:=BE rv;have hlen:its.length=ns.length:=hi.length;refine JM (items:=its.toArray) (ns:=ns) (I1.ok.hd hc) pl.isList (by simpa using hi) (by rw [size_toArray,hlen];unfold scanBound;omega) fun h2 tk2 hS k2=>?_;refine Calls.spliced_nil ?_;have ez:its.toArray.size=ns.length:=by rw [size_toArray];exact hlen
 rw [ez] at hS
 have l64:(firstMet (fun i=>ns.getD i 0) ns.length).length < 64:=by
  have:=firstMet_length_le (fun i=>ns.getD i 0) ns.length;omega
 obtain ⟨o,es,ep,t,ms,ho,hc',hd,_,i1,i2,hsz,hf,_⟩:=hS
 have el:es.size=(firstMet (fun i=>ns.getD i 0) ns.length).length:=by
  have a1:=i1.length;rw [length_map,Array.length_toList] at a1;rw [a1,i2.length_eq]
 have kp:∀b o,s1.heap.get? b=some o->h2.get? b=some o:=fun b o q=>k2 b o (Heap.lt_size q) q;have I2:=I1.kept (t':=tk2) kp;refine call_len_set (s:={ s1 with heap:=h2,toks:=tk2 }) ho hc' hd hf (by omega) ?_;refine ⟨.int _,H1,I2.tok _,⟨_,by rw [el]⟩,q _ (KK _ _) fun z=>QW⟩
end
end L2
namespace L2
open PySem PySem.W PySem.Spec PyProof.Rows
section
variable {prog:Program} {w:World} {A:Around} {E:Value->Shared->Prop} {s:Shared}
end
section
variable {prog:Program} {w:World} {A:Around} {E:Value->Shared->Prop} {s:Shared}
end
section
variable {X:Cx} {e e2:Expr} {te te2:TE} {p p2 p3 pos pos2 pos3 pos4:Pos}
end
end L2
namespace L2
open PySem PySem.Spec PyProof.Rows
section
variable {X:Cx} {W:St->XK} {k:Nat} {f C:Addr} {fd:FuncData} {ps:List Str} {sp:Sp} {dvs:List V} {ds:List Value} {x m:Str} {p pos apos:Pos} {e o:Expr} {es:List Expr} {ta:TE} {t:TA}
theorem NA:OpR X (compareOp .Is) (fun x y H Q=>∃b:Bool,y=.bl b/\Q (.bl (decide (x=.bl b))) H):=by
 intro pins s σ H x y v u Q I rx ry h;obtain ⟨b,rfl,q⟩:=h
 cases ry
 cases x with
 | bl a =>
   cases rx
   have e:(Value.bool a == Value.bool b)=decide (V.bl a=V.bl b):=by cases a <;> cases b <;> rfl
   refine wpAny_pure ⟨.bl (decide (V.bl a=V.bl b)),H,I,?_,q⟩;show Value.bool (Value.bool a == Value.bool b)=Value.bool _;rw [e]
 | _ =>
   first
    | (cases rx;exact wpAny_pure ⟨.bl false,H,I,rfl,q⟩)
    | (obtain ⟨t,rfl⟩:=rx;exact wpAny_pure ⟨.bl false,H,I,rfl,q⟩)
end
end L2
namespace L2
open PySem PySem.W PySem.Spec PyProof.Rows
section
variable {prog:Program} {w:World} {A:Around} {E:Value->Shared->Prop} {s:Shared} {Q:Bool->Shared->Prop}
end
section
variable {X:Cx}
theorem Ek:OpR X (compareOp .IsNot) (fun x y H Q=>∃b:Bool,y=.bl b/\Q (.bl (!decide (x=.bl b))) H):=by
 intro pins s σ H x y v u Q I rx ry h;obtain ⟨b,rfl,q⟩:=h
 cases ry
 cases x with
 | bl a =>
   cases rx
   have e:(Value.bool a == Value.bool b)=decide (V.bl a=V.bl b):=by cases a <;> cases b <;> rfl
   refine wpAny_pure ⟨.bl (!decide (V.bl a=V.bl b)),H,I,?_,q⟩;show Value.bool (!(Value.bool a == Value.bool b))=Value.bool _;rw [e]
 | _ =>
   first
    | (cases rx;exact wpAny_pure ⟨.bl true,H,I,rfl,q⟩)
    | (obtain ⟨t,rfl⟩:=rx;exact wpAny_pure ⟨.bl true,H,I,rfl,q⟩)
end
end L2
namespace L2
open PySem PySem.Spec PyProof.Rows
section
variable {prog:Program} {w:World} {A:Around} {E:Value->Shared->Prop} {s:Shared} {d:Addr} {es:Array DictEntry} {ep:Nat}
end
section
variable {X:Cx}
end
section
variable {prog:Program} {w:World} {A:Around} {E:Value->Shared->Prop} {s:Shared}
end
section
variable {X:Cx}
end
end L2
namespace PySem
open Sem (wp)
section
variable {prog:Program} {w:World} {K:Type} [DecidableEq K] (knd:KeyKind prog w K)
variable {knd}
variable {A:Around} {E:Value->Shared->Prop} {s:Shared}
end
end PySem
namespace L2
open PySem PySem.Spec PyProof.Rows
section
variable {P:Program} {w:World} {H:Hp} {h:Heap} {a:Addr}
end
section
variable {X:Cx} {o i e value:Expr} {pos pos' tpos:Pos} {td ty tv:TE}
end
end L2
namespace L2
open PySem PySem.Spec PyProof.Rows
section
variable {X:Cx}
end
section
variable {prog:Program} {w:World} {A:Around} {E:Value->Shared->Prop} {s:Shared}
end
end L2
namespace L2
open PySem PySem.Spec PyProof.Rows
section
variable {prog:Program} {w:World} {A:Around} {E:Value->Shared->Prop} {s:Shared}
end
section
variable {prog:Program} {w:World} {A:Around} {E:Value->Shared->Prop} {s:Shared}
end
section
variable {X:Cx} {pins:List (Addr × Obj)} {σ:St} {H:Hp}
end
section
variable {X:Cx} {e:Expr} {te:TE} {p p2 pos pos2:Pos}
end
end L2
namespace L2
open PySem PySem.Spec PyProof.Rows
section
variable {X:Cx} {pins:List (Addr × Obj)} {σ:St} {H:Hp}
end
end L2
namespace L2
open PySem PySem.Spec PyProof.Rows
end L2
namespace L2
open PySem PySem.Spec PyProof.Rows
theorem Kh {K:PySem.W.Frag} {a:Addr} {zs:List V} {tt:TT} {te:TE} {σ:St} {H1:Hp} {Q:Addr->Hp->Prop} {n m o n4 n5:Nat} (hn:n=σ.length) (hm:m=σ.length+1) (ho:o=σ.length+2) (h4:n4=σ.length+3) (h5:n5=σ.length+4) (hz:zs.length<=sizeLine) (Pv:Addr->Nat->List V->Hp->Prop)
 (h0:∀D,H1 D=none->Pv D 0 [] (upd H1 D (.lst []))) (hD:∀D i ys H,Pv D i ys H->H D=some (.lst ys)/\ys.length<=i) (hl:∀D i ys H,H1 D=none->Pv D i ys H->SqL K H a zs)
 (hs:∀D i x ys H (K1:VK) (K2:Hp->Prop),H1 D=none->zs[i]?=some x->Pv D i ys H->(∀y H5,H5 D=some (.lst ys)->Pv D (i+1) (ys++[y]) (upd H5 D (.lst (ys++[y])))->K1 y H5)->(∀H4,Pv D (i+1) ys H4->K2 H4) ->
  ∃t v w z u5 u6,x=.ref t/\SqT K H t [v,w,z,u5,u6]/\tt (σ++[some v,some w,some z,some u5,some u6]) H fun b H4=>if b=true then te (σ++[some v,some w,some z,some u5,some u6]) H4 K1 else K2 H4)
 (hd:∀D ys H,H1 D=none->Pv D zs.length ys H->Q D H) :
 ∀D,H1 D=none->∃W:Nat->Nat->List V->Hp->Prop,(∃m,W 0 m [] (upd H1 D (.lst [])))/\∀i k ys H2,W i k ys H2 ->
  H2 D=some (.lst ys)/\(((Itl K a).stop i H2/\Q D H2)\/((Itl K a).go i H2/\ys.length < sizeLine/\∀x H3,(Itl K a).yld i H2 x H3->∀os:St,os.length=5->MM K 5 (C2 (B0 n) (C2 (B0 m) (C2 (B0 o) (C2 (B0 n4) (C2 (B0 n5) Nf))))) x (σ++os) H3 fun σ4 H4=>(∃os':St,σ4=σ++os'/\os'.length=5)/\tt σ4 H4 fun b H5=>if b=true then te σ4 H5 fun y H6=>H6 D=some (.lst ys)/\∃m',m' < k/\W (i+1) m' (ys++[y]) (upd H6 D (.lst (ys++[y])))
   else ∃m',m' < k/\W (i+1) m' ys H5)):=by
 intro D hDn;subst hn hm ho h4 h5;refine ⟨fun i m ys H=>m=zs.length - i/\i<=zs.length/\Pv D i ys H,⟨zs.length,rfl,Nat.zero_le _,h0 D hDn⟩,?_⟩;rintro i m ys H2 ⟨rfl,hi,p⟩;obtain ⟨e,l⟩:=hD D i ys H2 p;have q:=hl D i ys H2 hDn p;refine ⟨e,?_⟩;by_cases hlt:i < zs.length
 ·refine .inr ⟨⟨zs,zs[i],q,by simp [hlt]⟩,Nat.lt_of_le_of_lt l (Nat.lt_of_lt_of_le hlt hz),fun x H3 y os ho'=>?_⟩;obtain ⟨e1,y⟩:=y;subst e1;obtain ⟨t,v,w,z,u5,u6,rfl,ht,q5⟩:=hs D i x ys _ (fun y H6=>H6 D=some (.lst ys)/\∃m',m' < zs.length - i/\m'=zs.length - (i+1)/\i+1<=zs.length/\Pv D (i+1) (ys++[y]) (upd H6 D (.lst (ys++[y])))) (fun H5=>∃m',m' < zs.length - i/\m'=zs.length - (i+1)/\i+1<=zs.length/\Pv D (i+1) ys H5) hDn (y zs q) p (fun y H5 h5 p5=>⟨h5,zs.length - (i+1),by omega,rfl,hlt,p5⟩) fun H4 p4=>⟨zs.length - (i+1),by omega,rfl,hlt,p4⟩
  match os,ho' with
  | [o1,o2,o3,o4,o5],_ =>
    have e2:(((((σ++[o1,o2,o3,o4,o5]).set σ.length (some v)).set (σ.length+1) (some w)).set (σ.length+2) (some z)).set (σ.length+3) (some u5)).set (σ.length+4) (some u6)=σ++[some v,some w,some z,some u5,some u6]:=by
     rw [set_append_right _ _ (Nat.le_refl _),Nat.sub_self,set_append_right _ _ (Nat.le_add_right _ 1),set_append_right _ _ (Nat.le_add_right _ 2),set_append_right _ _ (Nat.le_add_right _ 3),set_append_right _ _ (Nat.le_add_right _ 4)];rw [show (List.length σ+1) - List.length σ=1 by omega,show (List.length σ+2) - List.length σ=2 by omega,show (List.length σ+3) - List.length σ=3 by omega,show (List.length σ+4) - List.length σ=4 by omega];rfl
    refine ⟨t,[v,w,z,u5,u6],rfl,ht,rfl,v,[w,z,u5,u6],rfl,w,[z,u5,u6],rfl,z,[u5,u6],rfl,u5,[u6],rfl,u6,[],rfl,rfl,?_⟩;refine ⟨⟨[some v,some w,some z,some u5,some u6],e2,rfl⟩,?_⟩;rw [e2];exact q5
 ·have ei:i=zs.length:=by omega
  subst ei;exact .inl ⟨⟨zs,q,Nat.le_refl _⟩,hd D ys H2 hDn p⟩
section
variable {X:Cx} {elt iter:Expr} {x1 x2 x3 x4 x5:Str} {p1 p2 p3 p4 p5 pt pos:Pos} {k:Nat} {ifs:List Expr} {sc fsc:Scope} {N Nc:List Str} {wi:TI} {tt:TT} {te:TE}
theorem OC {j:Nat} {y:Str} {py spos:Pos} (hE:X.env.scope=fsc) (hXN:X.N=N) (cn:Dj N Nc [x1,x2,x3,x4,x5] sc fsc) (hc:X.calm=true) (hnd:X.N.Nodup) (hj:X.N[j]?=some y) (hy:X.env.scope.names.lookup y=some .local) (hi:PI X (.Tuple [.Name x1 p1,.Name x2 p2,.Name x3 p3,.Name x4 p4,.Name x5 p5] k pt) iter wi)
 (ht:∀cl s H ex,Fn (X.inComp Nc sc cl s H ex) ifs tt) (he:∀cl s H ex,PE (X.inComp Nc sc cl s H ex) elt te)
 (hsw:swapsWith (.ListComp elt [⟨.Tuple [.Name x1 p1,.Name x2 p2,.Name x3 p3,.Name x4 p4,.Name x5 p5] k pt,iter,ifs,0⟩] sc pos) (some (.Name y py)) spos.line X.env=pure true)
 (hs:∀v,foldedSetIterable iter X.env v=pure v:=by intro _;rfl) :
 PS X (.Assign [.Name y py] (.ListComp elt [⟨.Tuple [.Name x1 p1,.Name x2 p2,.Name x3 p3,.Name x4 p4,.Name x5 p5] k pt,iter,ifs,0⟩] sc pos) spos) (NO (IW 5 wi (MM X.K 5 (C2 (B0 N.length) (C2 (B0 (N.length+1)) (C2 (B0 (N.length+2)) (C2 (B0 (N.length+3)) (C2 (B0 (N.length+4)) Nf)))))) tt te) (B0 j)) :=
 OM hE hXN cn hc hnd hj hy hi (fun cl s H ex=>Di (X:=X.inComp Nc sc cl s H ex) hc (A9 (BZ (j:=0) cn rfl rfl) (A9 (BZ (j:=1) cn rfl rfl) (A9 (BZ (j:=2) cn rfl rfl) (A9 (BZ (j:=3) cn rfl rfl) (A9 (BZ (j:=4) cn rfl rfl) C0)))))) ht he hsw hs
end
end L2
namespace L2
open PySem PySem.W PySem.Spec PyProof.Rows
section
variable {O:KeyOrd} {ky:Nat->O.α} {n:Nat} {cmp:Nat->Nat->(Bool->Shared->Prop)->Shared->Prop} {J:Shared->Prop}
end
end L2
namespace L2
open PySem PySem.W PySem.Spec PyProof.Rows
section
variable {X:Cx} {pins:List (Addr × Obj)} {σ:St} {H:Hp} {xs:List V} {l f a kS:Addr} {E:Value->Shared->Prop} {P:PySem.Fin->Shared->Prop}
end
section
variable {X:Cx} {c P:Addr} {e body:Expr} {tl tb:TE} {sc fsc:Scope} {N Nc:List Str} {x:Str} {params:Arguments} {lpos kp p pos:Pos}
end
end L2
set_option maxHeartbeats 4000000
namespace Law
open PySem L2
noncomputable def LG (K:PySem.W.Frag) (P:Addr):Sp:=fun vs H Q _=>∃(p:Addr) (ns:List Int),vs=[.ref p]/\SqL K H p (ns.map V.int)/\ns.length<=63/\H P=some (.tbl #[])/\∀H',Q (.bl true) H'
noncomputable def PF:Sp:=fun vs H Q _=>∃c:Int,vs=[.int c]/\Q (.bl true) H
theorem Ac {H:Hp} {p:Addr} (h:H p=none) (o:HO):An H (upd H p o):=fun b u q=>by rw [Ak (AX q h)];exact q
theorem AH (x:Int) {y:Int} (h:0 < y):0<=x.fmod y/\x.fmod y < y:=⟨Int.fmod_nonneg_of_pos x h,Int.fmod_lt_of_pos x h⟩
theorem P8 (x:Int) {y:Int} {n:Nat} (h:0 < y) (k:Sz n y):Sz n (x.fmod y):=by
 have e:=AH x h;unfold Sz at k ⊢;omega
noncomputable def QN:Sp:=fun vs H Q _=>∃t b:Int,vs=[.int t,.int b]/\0 < b/\Sz 9000 b/\Q (.int (t.fdiv b)) H
noncomputable def S6:Sp:=fun vs H Q _=>∃t b:Int,vs=[.int t,.int b]/\0 < b/\Sz 9000 b/\Q (.int (-((-t).fdiv b))) H
def OQ:Pos:=⟨88,32,88,55⟩
def RP:Str:=("reached_from":Str)++".<locals>."++"<lambda>"
def Hid (u v:TS):Prop:=u=v
theorem KP {t u:TS} {D:F8} {σ:St} {H:Hp} (h:∀v,Hid v u->t { D with nx:=v D } σ H):Rv t u D σ H:=h u rfl
theorem IN {u v:TS} {D:F8} {σ:St} {H:Hp} (h:Hid u v) (g:v D σ H):u D σ H:=by rw [show u=v from h];exact g
theorem Me {u v:TS} {D:F8} {r:VK} {b c:St->Hp->Prop} {σ:St} {H:Hp} (h:Hid u v) (g:v D σ H):(F8.mk (u D) r b c).nx σ H:=by show u D σ H;exact IN h g
theorem Fc {xs:List V} {j:Nat}:CN xs (some (j:Int)) none=xs.drop j:=by
 unfold CN;rw [HT.sIx_none,HT.sIx_nat];by_cases h:j<=xs.length
 ·rw [Nat.min_eq_left h];exact take_of_length_le (by rw [length_drop];exact Nat.le_refl _)
 ·rw [Nat.min_eq_right (by omega),drop_of_length_le (Nat.le_refl _),drop_of_length_le (by omega)];exact take_nil
noncomputable def bit (m:Int) (i:Nat):Bool:=decide (m / 2 ^ i % 2=1)
noncomputable def A1:Nat->(Nat->Bool)->Int
 | 0,_=>0
 | n+1,f=>(if f 0=true then 1 else 0)+2*A1 n (fun i=>f (i+1))
theorem DU (s:Int) (i:Nat):bit (s / 2) i=bit s (i+1):=by
 unfold bit;rw [Int.ediv_ediv_of_nonneg (by decide:(0:Int)<=2)];have e:(2:Int)*2 ^ i=2 ^ (i+1):=by rw [Int.pow_succ,Int.mul_comm]
 rw [e]
theorem DW (s:Int):bit s 0=decide (s % 2=1):=by
 unfold bit;rw [Int.pow_zero,Int.ediv_one]
theorem Dd:∀n f,0<=A1 n f
 | 0,_=>Int.le_refl _
 | n+1,f=>by
   have:=Dd n (fun i=>f (i+1));show 0<=(if f 0=true then (1:Int) else 0)+2*A1 n (fun i=>f (i+1))
   split <;> omega
theorem ET:∀n f,A1 n f < 2 ^ n
 | 0,_=>by show (0:Int) < 1;decide
 | n+1,f=>by
   have:=ET n (fun i=>f (i+1));show (if f 0=true then (1:Int) else 0)+2*A1 n (fun i=>f (i+1)) < 2 ^ (n+1);rw [Int.pow_succ]
   split <;> omega
theorem HR (n f):A1 (n+1) f / 2=A1 n (fun i=>f (i+1)):=by
 show ((if f 0=true then (1:Int) else 0)+2*A1 n (fun i=>f (i+1))) / 2=_
 split <;> omega
theorem GD (n f):(A1 (n+1) f % 2=1)↔f 0=true:=by
 show (((if f 0=true then (1:Int) else 0)+2*A1 n (fun i=>f (i+1))) % 2=1)↔_
 split <;> rename_i h
 ·exact ⟨fun _=>h,fun _=>by omega⟩
 ·exact ⟨fun e=>by omega,fun e=>absurd e h⟩
theorem AS:∀n {f g:Nat->Bool},(∀i,i < n->f i=g i)->A1 n f=A1 n g
 | 0,_,_,_=>rfl
 | n+1,f,g,h=>by
   show (if f 0=true then (1:Int) else 0)+2*A1 n (fun i=>f (i+1))=(if g 0=true then (1:Int) else 0)+2*A1 n (fun i=>g (i+1));rw [h 0 (by omega),AS n (f:=fun i=>f (i+1)) (g:=fun i=>g (i+1)) fun i hi=>h (i+1) (by omega)]
theorem Cu:∀n f,A1 (n+1) f=A1 n f+(if f n=true then 2 ^ n else 0)
 | 0,f=>by
   show (if f 0=true then (1:Int) else 0)+2*0=0+(if f 0=true then (1:Int) else 0)
   split <;> decide
 | n+1,f=>by
   show (if f 0=true then (1:Int) else 0)+2*A1 (n+1) (fun i=>f (i+1))=(if f 0=true then (1:Int) else 0)+2*A1 n (fun i=>f (i+1))+(if f (n+1)=true then 2 ^ (n+1) else 0);rw [Cu n (fun i=>f (i+1)),Int.pow_succ]
   split <;> split <;> omega
theorem Bh:∀n f i,bit (A1 n f) i=(decide (i < n) && f i)
 | 0,f,i=>by
   unfold bit;show decide ((0:Int) / 2 ^ i % 2=1)=_;rw [Int.zero_ediv];rfl
 | n+1,f,0=>by
   rw [DW];by_cases h:f 0=true
   ·rw [decide_eq_true ((GD n f).mpr h),h];rfl
   ·rw [decide_eq_false (fun e=>h ((GD n f).mp e)),Bool.eq_false_iff.mpr h];rfl
 | n+1,f,i+1=>by
   rw [<- DU,HR,Bh n]
   have:decide (i < n)=decide (i+1 < n+1):=by
    by_cases h:i < n
    ·rw [decide_eq_true h,decide_eq_true (by omega)]
    ·rw [decide_eq_false h,decide_eq_false (by omega)]
   rw [this]
theorem K8:∀n f s,Builtin.bitAnd (A1 n f) s=A1 n (fun i=>f i && bit s i)
 | 0,f,s=>by
   show Builtin.bitAnd 0 s=0;rw [PyProof.Rows.bitAnd_comm,PyProof.Rows.bitAnd_zero]
 | n+1,f,s=>by
   rw [PySem.W.kbt_halves,HR,K8 n];show _=(if (f 0 && bit s 0)=true then (1:Int) else 0)+2*A1 n (fun i=>f (i+1) && bit s (i+1));have e:A1 n (fun i=>f (i+1) && bit (s / 2) i)=A1 n (fun i=>f (i+1) && bit s (i+1)):=AS n fun i _=>by rw [DU]
   rw [e]
   have c:(A1 (n+1) f % 2=1/\s % 2=1)↔(f 0 && bit s 0)=true:=by
    rw [Bool.and_eq_true,GD,DW,decide_eq_true_eq]
   by_cases h:(f 0 && bit s 0)=true
   ·rw [if_pos h,if_pos (c.mpr h)];omega
   ·rw [if_neg h,if_neg (fun z=>h (c.mp z))];omega
theorem Er {n:Nat} {f:Nat->Bool} (h:∀i,i < n->f i=false):A1 n f=0:=by
 induction n with
 | zero=>rfl
 | succ n ih =>
   rw [Cu,h n (by omega),ih fun i hi=>h i (by omega)];rfl
noncomputable def hands (n:Nat) (f:Nat->Bool):List Int:=((List.range n).filter f).map fun i:Nat=>(i:Int)
theorem CW (n:Nat) (f:Nat->Bool):hands (n+1) f=if f n=true then hands n f++[(n:Int)] else hands n f:=by
 unfold hands;rw [range_succ,filter_append,map_append];by_cases h:f n=true
 ·rw [if_pos h];simp [h]
 ·rw [if_neg h];have h':f n=false:=by simpa using h
  simp [h']
theorem BU (n:Nat) (f:Nat->Bool):(hands n f).length<=n:=by
 unfold hands;rw [length_map];exact Nat.le_trans (length_filter_le _ _) (by simp)
theorem Bx {n:Nat} {f:Nat->Bool} {z:Int}:z∈hands n f↔∃i:Nat,i < n/\f i=true/\z=(i:Int):=by
 unfold hands;rw [mem_map]
 constructor
 ·rintro ⟨i,hi,rfl⟩;obtain ⟨h1,h2⟩:=mem_filter.mp hi;exact ⟨i,mem_range.mp h1,h2,rfl⟩
 ·rintro ⟨i,h1,h2,rfl⟩;exact ⟨i,mem_filter.mpr ⟨mem_range.mpr h1,h2⟩,rfl⟩
noncomputable def ins (x:Int):List Int->List Int
 | []=>[x]
 | y :: r=>if x < y then x :: y :: r else if x=y then y :: r else y :: ins x r
noncomputable def Lh:List Int->List Int
 | []=>[]
 | x :: r=>ins x (Lh r)
theorem IO {x z:Int}:∀{l:List Int},z∈ins x l↔z=x\/z∈l
 | []=>by unfold ins;simp
 | y :: r=>by
   unfold ins
   split
   ·simp
   ·split
    ·rename_i h;subst h;simp
    ·rw [mem_cons,IO (l:=r),mem_cons]
     constructor
     ·rintro (h | h | h)
      ·exact .inr (.inl h)
      ·exact .inl h
      ·exact .inr (.inr h)
     ·rintro (h | h | h)
      ·exact .inr (.inl h)
      ·exact .inl h
      ·exact .inr (.inr h)
theorem K7 {x:Int}:∀{l:List Int},l.Pairwise (· < ·)->(ins x l).Pairwise (· < ·)
 | [],_=>by unfold ins;simp
 | y :: r,h=>by
   unfold ins;rw [pairwise_cons] at h
   split
   ·rename_i c
    rw [pairwise_cons];refine ⟨fun z hz=>?_,pairwise_cons.mpr h⟩;rcases mem_cons.mp hz with e | e
    ·omega
    ·have:=h.1 z e;omega
   ·split
    ·exact pairwise_cons.mpr h
    ·rename_i c d
     rw [pairwise_cons];refine ⟨fun z hz=>?_,K7 h.2⟩;rcases IO.mp hz with e | e
     ·omega
     ·exact h.1 z e
theorem Hd {z:Int}:∀{l:List Int},z∈Lh l↔z∈l
 | []=>Iff.rfl
 | x :: r=>by
   show z∈ins x (Lh r)↔_;rw [IO,Hd,mem_cons]
theorem Fq:∀l:List Int,(Lh l).Pairwise (· < ·)
 | []=>.nil
 | x :: r=>K7 (Fq r)
theorem HQ:∀{a b:List Int},a.Pairwise (· < ·)->b.Pairwise (· < ·)->(∀z,z∈a↔z∈b)->a=b
 | [],[],_,_,_=>rfl
 | [],y :: b,_,_,h=>nomatch (h y).mpr (mem_cons_self ..)
 | x :: a,[],_,_,h=>nomatch (h x).mp (mem_cons_self ..)
 | x :: a,y :: b,ha,hb,h=>by
   rw [pairwise_cons] at ha hb
   have e:x=y:=by
    rcases mem_cons.mp ((h x).mp (mem_cons_self ..)) with e | e
    ·exact e
    ·rcases mem_cons.mp ((h y).mpr (mem_cons_self ..)) with f | f
     ·exact f.symm
     ·have:=ha.1 y f;have:=hb.1 x e;omega
   subst e;rw [HQ ha.2 hb.2 fun z=>?_]
   constructor
   ·intro hz;rcases mem_cons.mp ((h z).mp (mem_cons_of_mem _ hz)) with e | e
    ·have:=ha.1 z hz;omega
    ·exact e
   ·intro hz;rcases mem_cons.mp ((h z).mpr (mem_cons_of_mem _ hz)) with e | e
    ·have:=hb.1 z hz;omega
    ·exact e
noncomputable def isR (rs:List Int) (r:Int) (i:Nat):Bool:=decide (rs[i]?=some r)
noncomputable def EG (rs:List Int) (r:Int):Int:=A1 rs.length (isR rs r)
noncomputable def Dc (rs:List Int):List Int:=((Lh rs).filter fun r=>decide (0 < r)).map (EG rs)
noncomputable def Rz (K:PySem.W.Frag):Sp:=fun vs H Q _=>∃(p:Addr) (ns:List Int) (k:Int),vs=[.ref p,.int k]/\SqL K H p (ns.map V.int)/\ns.length<=63/\0<=k/\k<=1000/\∀z:Int,0<=z->z < 10 ^ 40->Q (.int z) H
theorem EA {c:Int} (h0:0<=c) (h:c < 10 ^ 40):Sz 200 c:=DK (by omega) (by omega)
theorem Ax {H H':Hp} {l:Addr} {o:HO} (s:An H H') (n:H l=none):An H (upd H' l o):=fun b u e=>by
 rw [Ak (AX e n)];exact s b u e
theorem ifT {c:Bool} {A B:Prop} (e:c=true) (h:A):if c=true then A else B:=by rw [if_pos e];exact h
theorem ifF {c:Bool} {A B:Prop} (e:c=false) (h:B):if c=true then A else B:=by rw [if_neg (by rw [e];decide)];exact h
theorem L4 {a b:Int} (h:a≠b):(!decide (V.int a=V.int b))=true:=by rw [decide_eq_false (fun e=>h (V.int.inj e))];rfl
theorem Lc {a b:Int} (h:a=b):(!decide (V.int a=V.int b))=false:=by rw [h,decide_eq_true rfl];rfl
theorem D4 {a b:Int} (h:a=b):decide (V.int a=V.int b)=true:=by rw [h];exact decide_eq_true rfl
theorem D1 {a b:Int} (h:a≠b):decide (V.int a=V.int b)=false:=decide_eq_false fun e=>h (V.int.inj e)
theorem int_at {ns:List Int} {i:Nat} {x:V} (h:(ns.map V.int)[i]?=some x):∃z,ns[i]?=some z/\x=.int z:=by
 rw [List.getElem?_map] at h
 cases e:ns[i]? with
 | none=>rw [e] at h;cases h
 | some z=>rw [e] at h;exact ⟨z,rfl,(Option.some.inj h).symm⟩
theorem atN {ns:List Int} {i:Nat} {z:Int} (h:ns[i]?=some z):atI (ns.map V.int) (i:Int)=some (.int z):=Bt (by rw [List.getElem?_map,h];rfl)
theorem Dm {h:Nat} (hh:h < 64):NB 1 (h:Int):=⟨by omega,by omega,by decide⟩
theorem Rt (x:Int):Builtin.bitAnd x 1=x % 2:=PySem.W.kbt_mask x 1
theorem Eg (m:Int) (h:Int):decide (V.int (Builtin.bitAnd (m / 2 ^ h.toNat) 1)=V.int 1)=bit m h.toNat:=by
 unfold bit;rw [Rt];by_cases c:m / 2 ^ h.toNat % 2=1
 ·rw [decide_eq_true c,decide_eq_true (congrArg V.int c)]
 ·rw [decide_eq_false c,decide_eq_false fun e=>c (V.int.inj e)]
theorem Ms (m:Int) (i:Nat):m / 2 ^ i % 2=if bit m i=true then 1 else 0:=by
 have e:m / 2 ^ i % 2=0\/m / 2 ^ i % 2=1:=by omega
 unfold bit;rcases e with e | e
 ·rw [e];rfl
 ·rw [e];rfl
theorem Pn (m:Int) (h:Nat):Builtin.bitOr m (1*2 ^ h)=m+2 ^ h*(if (!bit m h)=true then 1 else 0):=by
 rw [Int.one_mul,PyProof.Rows.bitOr_and,PySem.W.kbt_bit,Ms]
 cases bit m h <;> simp
noncomputable def PY:Sp:=fun vs H Q _=>∃m h:Int,vs=[.int m,.int h]/\0<=h/\Q (.bl (bit m h.toNat)) H
noncomputable def RM:Sp:=fun vs H Q _=>∃h:Int,vs=[.int h]/\0<=h/\h<=12/\Q (.int (1*2 ^ h.toNat - 1)) H
noncomputable def QV:Sp:=fun vs H Q _=>∃m h:Int,vs=[.int m,.int h]/\0<=h/\h < 12/\Q (.int (Builtin.bitOr m (1*2 ^ h.toNat))) H
noncomputable def MU:Sp:=fun vs H Q _=>∃m:Int,vs=[.int m]/\0<=m/\m < 4096/\∀(p:Addr) (H':Hp),H p=none->An H H'->H' p=some (.lst ((hands 12 (bit m)).map V.int))->Q (.ref p) H'
abbrev Tb:=List (Addr × List Int)
noncomputable def vtb (t:Tb):List V:=t.map fun r=>.ref r.1
noncomputable def RN (H:Hp) (t:Tb) (h:Nat):Prop:=t.length=h/\∀r∈t,H r.1=some (.lst (r.2.map V.int))/\r.2.length=h
noncomputable def ups (n:Nat):List Int:=(List.range n).map fun i:Nat=>(i:Int)
noncomputable def Nt:Sp:=fun vs H Q _=>∃(a:Addr) (t:Tb) (h:Nat),vs=[.ref a]/\H a=some (.lst (vtb t))/\t.length=h/\h<=12/\∀(l:Addr) (H':Hp),H l=none->An H H'->H' l=some (.lst ((ups h).map V.int))->Q (.ref l) H'
theorem atG {xs:List Int} {n:Nat} (h:n < xs.length):atI (xs.map V.int) (n:Int)=some (.int (xs.getD n 0)):=by
 refine atN ?_;rw [getD_eq_getElem?_getD,List.getElem?_eq_getElem h];rfl
theorem Jc {n i:Nat} {z:Int} (h:(ups n)[i]?=some z):z=(i:Int)/\i < n:=by
 unfold ups at h;rw [List.getElem?_map] at h;obtain ⟨j,hj,rfl⟩:=Option.map_eq_some_iff.mp h
 have hi:i < n:=by
  have:=(List.getElem?_eq_some_iff.mp hj).1;rwa [length_range] at this
 rw [List.getElem?_range hi] at hj;exact ⟨by rw [<- Option.some.inj hj],hi⟩
theorem Cy (n:Nat):(ups n).length=n:=by unfold ups;rw [length_map,length_range]
noncomputable def D0 (rs:List Int) (i:Nat):Int:=if rs.getD i 0=0 then 1000000000 else rs.getD i 0
theorem Qv {n j:Nat} (h:j < n):seqIndex? (j:Int) n=some j:=(II (i:=(j:Int)) (by unfold ixN;rw [if_pos (by omega)];simp [h])).1
theorem map_erase {α β:Type} (f:α->β):∀(l:List α) (k:Nat),(l.map f).eraseIdx k=(l.eraseIdx k).map f
 | [],_=>rfl
 | _ :: _,0=>rfl
 | x :: l,k+1=>by
   show f x :: (l.map f).eraseIdx k=f x :: (l.eraseIdx k).map f;rw [map_erase f l k]
theorem Kr:∀{b:List Int} {k:Nat} {y:Int},b[k]?=some y->(y :: b.eraseIdx k).Perm b
 | x :: b,0,y,h=>by
   have:x=y:=Option.some.inj h;rw [this];exact List.Perm.refl _
 | x :: b,k+1,y,h=>by
   show (y :: x :: b.eraseIdx k).Perm (x :: b);exact (List.Perm.swap x y _).trans ((Kr (b:=b) (k:=k) h).cons x)
theorem none_of {H H':Hp} {a:Addr} (s:An H H') (h:H' a=none):H a=none:=by
 cases e:H a with
 | none=>rfl
 | some u=>rw [s _ _ e] at h;cases h
theorem u1 {n:Nat} (h:n+64 < cLine):n+1 < cLine:=by omega
theorem DJ {m:Int} {i:Nat} (h0:0<=m) (h:m < 2 ^ i):bit m i=false:=by
 unfold bit;rw [Int.ediv_eq_zero_of_lt h0 h]
 decide
theorem GY {m:Int} {k:Nat} (h0:0<=m) (h:m < 2 ^ k):∀d:Nat,hands (k+d) (bit m)=hands k (bit m)
 | 0=>rfl
 | d+1=>by
   have p:(2:Int) ^ k<=2 ^ (k+d):=by
    have q:2 ^ k<=2 ^ (k+d):=Nat.pow_le_pow_right (by decide) (by omega);have e1:((2 ^ k:Nat):Int)=(2:Int) ^ k:=by simp
    have e2:((2 ^ (k+d):Nat):Int)=(2:Int) ^ (k+d):=by simp
    omega
   show hands ((k+d)+1) (bit m)=hands k (bit m);rw [CW,DJ h0 (by omega),if_neg (by decide),GY h0 h d]
theorem Ol {m:Int} (h0:0<=m) (h:m < 4096):hands (Builtin.Int.intBits m) (bit m)=hands 12 (bit m):=by
 have b:Builtin.Int.intBits m<=12:=intBits_le_iff.mpr (by show m.natAbs < 4096;omega);have l:m.natAbs < 2 ^ Builtin.Int.intBits m:=intBits_le_iff.mp (Nat.le_refl _)
 have l':m < (2:Int) ^ Builtin.Int.intBits m:=by
  have e:((2 ^ Builtin.Int.intBits m:Nat):Int)=(2:Int) ^ Builtin.Int.intBits m:=by simp
  omega
 obtain ⟨d,hd⟩:∃d,12=Builtin.Int.intBits m+d:=⟨12 - Builtin.Int.intBits m,by omega⟩;rw [hd,GY h0 l' d]
abbrev Ls:=List (Addr × Addr × List Int × Int)
noncomputable def vls (ls:Ls):List V:=ls.map fun q=>.ref q.1
noncomputable def My (h:Nat) (ts:List Int):Prop:=∃rs:List Int,rs.length=h/\(∀r∈rs,0<=r/\r<=1000)/\ts=Dc rs
noncomputable def DN (h:Nat) (H:Hp) (ls:Ls):Prop:=∀q∈ls,H q.1=some (.tup [.ref q.2.1,.int q.2.2.2])/\H q.2.1=some (.tup (q.2.2.1.map V.int))/\My h q.2.2.1
theorem LJ {ls:Ls} {i:Nat} {x:V} (h:(vls ls)[i]?=some x):∃q,ls[i]?=some q/\x=.ref q.1/\q∈ls/\ls.take (i+1)=ls.take i++[q]:=by
 unfold vls at h;rw [List.getElem?_map] at h
 cases e:ls[i]? with
 | none=>rw [e] at h;cases h
 | some q =>
   rw [e] at h;refine ⟨q,rfl,(Option.some.inj h).symm,mem_of_getElem? e,?_⟩;rw [take_succ,e];rfl
theorem Jn (ls:Ls):(vls ls).length=ls.length:=length_map ..
theorem G6 (ts:List Int):(ts.map Sum.inl:List Key).map kV=ts.map V.int:=by rw [map_map];rfl
noncomputable def Fl (f:List Int->Bool) (ds:List (List Int × Int)):Int:=(ds.map fun q=>if f q.1 then q.2 else 0).sum
noncomputable def dsL (ls:Ls):List (List Int × Int):=ls.map fun q=>(q.2.2.1,q.2.2.2)
theorem MC (f:List Int->Bool) (q:List Int × Int) (r:List (List Int × Int)):Fl f (q :: r)=(if f q.1 then q.2 else 0)+Fl f r:=by unfold Fl;rw [map_cons,sum_cons]
noncomputable def hv:V->Int
 | .int n=>n
 | _=>0
theorem Kg (f:List Int->Bool) (a b:List (List Int × Int)):Fl f (a++b)=Fl f a+Fl f b:=by
 unfold Fl;rw [map_append,sum_append]
theorem Qp (t:Int):∀i:Nat,bit (Builtin.bitNot t) i=!bit t i:=by
 have key:∀(i:Nat) (t:Int),bit (-t - 1) i=!bit t i:=by
  intro i
  induction i with
  | zero =>
    intro t;rw [DW,DW];by_cases c:t % 2=1
    ·rw [decide_eq_true c,decide_eq_false (by omega)];rfl
    ·rw [decide_eq_false c,decide_eq_true (by omega)];rfl
  | succ i ih =>
    intro t;rw [<- DU,<- DU,show (-t - 1) / 2=-(t / 2) - 1 from by omega];exact ih _
 intro i;rw [show Builtin.bitNot t=-t - 1 from by unfold Builtin.bitNot;omega];exact key i t
theorem Ig:∀h:Nat,(1:Int)*2 ^ h - 1=A1 h fun _=>true
 | 0=>rfl
 | h+1=>by
   rw [Cu,<- Ig h,if_pos rfl,Int.pow_succ];omega
theorem HZ {h:Nat} (h12:h<=12) (f:Nat->Bool):0<=A1 h f/\A1 h f < 4096:=by
 have a:=Dd h f;have b:=ET h f;have q:2 ^ h<=2 ^ 12:=Nat.pow_le_pow_right (by decide) h12;have e1:((2 ^ h:Nat):Int)=(2:Int) ^ h:=by simp
 omega
noncomputable def stp (s:(Nat->Bool) × (Nat->Nat->Int)) (t:Int):(Nat->Bool) × (Nat->Nat->Int):=(fun y=>s.1 y && !bit t y,fun x y=>s.2 x y+if (bit t x && (s.1 y && !bit t y))=true then 1 else 0)
noncomputable def stT (ts:List Int):(Nat->Bool) × (Nat->Nat->Int):=ts.foldl stp (fun _=>true,fun _ _=>0)
theorem OA (ts:List Int) (t:Int):stT (ts++[t])=stp (stT ts) t:=by unfold stT;rw [foldl_append];rfl
theorem Ka {rs:List Int} {i:Nat} {c u:Int} (h:rs[i]?=some c):bit (EG rs u) i=decide (c=u):=by
 obtain ⟨hi,_⟩:=List.getElem?_eq_some_iff.mp h;unfold EG;rw [Bh,decide_eq_true hi,Bool.true_and];unfold isR;rw [h];by_cases e:c=u
 ·rw [decide_eq_true e,decide_eq_true (by rw [e])]
 ·rw [decide_eq_false e,decide_eq_false (fun z=>e (Option.some.inj z))]
theorem K4 {rs:List Int} {x y:Nat} {a b:Int} (hx:rs[x]?=some a) (hy:rs[y]?=some b):∀(us:List Int) (s:(Nat->Bool) × (Nat->Nat->Int)),us.Pairwise (· < ·) ->
 ((us.map (EG rs)).foldl stp s).2 x y=s.2 x y+if s.1 y=true/\a∈us/\¬ (b∈us/\b<=a) then 1 else 0
 | [],s,_=>by
   rw [if_neg (fun z=>nomatch z.2.1)];exact (Int.add_zero _).symm
 | u :: us,s,pw=>by
   rw [pairwise_cons] at pw;rw [map_cons,foldl_cons,K4 hx hy us _ pw.2];unfold stp;simp only [Ka hx,Ka hy,mem_cons]
   cases s.1 y with
   | false=>simp
   | true =>
     by_cases c1:a=u
     ·have na:a ∉ us:=fun m=>by have:=pw.1 a m;omega
      by_cases c2:b=u
      ·subst c1;subst c2;simp
      ·have nb:¬ (b∈us/\b<=a):=fun m=>by have:=pw.1 b m.1;omega
       subst c1;simp [c2,na];intro mb;have:=pw.1 b mb;omega
     ·by_cases c2:b=u
      ·subst c2;by_cases m:a∈us
       ·have:=pw.1 a m;simp [c1,m];omega
       ·simp [c1,m]
      ·simp [c1,c2]
theorem FT {rs:List Int} (hR:∀r∈rs,0<=r/\r<=1000) {x y:Nat} (hx:x < rs.length) (hy:y < rs.length):(stT (Dc rs)).2 x y=if D0 rs x < D0 rs y then 1 else 0:=by
 have ex:=List.getElem?_eq_getElem hx;have ey:=List.getElem?_eq_getElem hy;unfold stT Dc D0;rw [K4 ex ey _ _ ((Fq rs).filter _),getD_eq_getElem?_getD,getD_eq_getElem?_getD,ex,ey];have ma:=getElem_mem hx;have mb:=getElem_mem hy;obtain ⟨a0,a1⟩:=hR _ ma;obtain ⟨b0,b1⟩:=hR _ mb
 have e:∀{c:Int},c∈rs->(c∈(Lh rs).filter (fun r=>decide (0 < r))↔0 < c):=fun {c} m=>by
  rw [mem_filter,Hd,decide_eq_true_eq];exact ⟨fun z=>z.2,fun z=>⟨m,z⟩⟩
 simp only [e ma,e mb];show (0:Int)+_=_;rw [Int.zero_add];show (if True/\0 < rs[x]/\¬ (0 < rs[y]/\rs[y]<=rs[x]) then (1:Int) else 0)=if (if rs[x]=0 then (1000000000:Int) else rs[x]) < (if rs[y]=0 then 1000000000 else rs[y]) then 1 else 0;generalize rs[x]=a at *;generalize rs[y]=b at *;by_cases c1:a=0
 ·rw [if_pos c1,if_neg (by omega)];by_cases c2:b=0
  ·rw [if_pos c2,if_neg (by omega)]
  ·rw [if_neg c2,if_neg (by omega)]
 ·rw [if_neg c1];by_cases c2:b=0
  ·rw [if_pos c2,if_pos ⟨trivial,by omega,by omega⟩,if_pos (by omega)]
  ·rw [if_neg c2];by_cases c3:a < b
   ·rw [if_pos c3,if_pos ⟨trivial,by omega,by omega⟩]
   ·rw [if_neg c3,if_neg (fun z=>z.2.2 ⟨by omega,by omega⟩)]
noncomputable def DT (x y:Nat) (ts:List Int):Bool:=decide ((stT ts).2 x y=1)
theorem MS {h x y:Nat} {ts:List Int} (f:My h ts) (hx:x < h) (hy:y < h) (n:Int):n*(stT ts).2 x y=if DT x y ts=true then n else 0:=by
 obtain ⟨rs,rl,hR,rfl⟩:=f;unfold DT;rw [FT hR (by omega) (by omega)];by_cases c:D0 rs x < D0 rs y
 ·rw [if_pos c,if_pos (by decide),Int.mul_one]
 ·rw [if_neg c,if_neg (by decide),Int.mul_zero]
noncomputable def Be (H:Hp) (as:List Addr) (h:Nat) (F:Nat->Nat->Int):Prop:=as.length=h/\as.Nodup/\∀x a,as[x]?=some a->H a=some (.lst (((List.range h).map fun y=>F x y).map V.int))
noncomputable def F9 (F:Nat->Nat->Int) (x y:Nat) (n:Int):Nat->Nat->Int:=fun x' y'=>F x' y'+if x'=x/\y'=y then n else 0
theorem Be.congr {H:Hp} {as:List Addr} {h:Nat} {F G:Nat->Nat->Int} (g:Be H as h F) (e:∀x y,x < h->y < h->F x y=G x y):Be H as h G:=by
 refine ⟨g.1,g.2.1,fun x a ha=>?_⟩;have hx:x < h:=by have:=(List.getElem?_eq_some_iff.mp ha).1;have:=g.1;omega
 rw [g.2.2 x a ha,show ((List.range h).map fun y=>F x y)=(List.range h).map fun y=>G x y from map_congr_left fun y m=>e x y hx (mem_range.mp m)]
theorem Be.put {H:Hp} {as:List Addr} {h:Nat} {F:Nat->Nat->Int} (g:Be H as h F) {x y:Nat} {a:Addr} (ha:as[x]?=some a) (n:Int):Be (upd H a (.lst ((((List.range h).map fun y=>F x y).map V.int).set y (.int (F x y+n))))) as h (F9 F x y n):=by
 refine ⟨g.1,g.2.1,fun x' a' ha'=>?_⟩;by_cases c:x'=x
 ·subst c;rw [ha] at ha'
  cases Option.some.inj ha'
  rw [Ab];refine congrArg (fun z=>some (HO.lst z)) (ext_getElem? fun k=>?_);rw [List.getElem?_set,length_map,length_map,length_range,List.getElem?_map,List.getElem?_map,List.getElem?_map,List.getElem?_map];by_cases ck:k < h
  ·rw [List.getElem?_range ck];by_cases cy:y=k
   ·subst cy;rw [if_pos rfl,if_pos ck];show some (V.int (F x' y+n))=some (V.int (F9 F x' y n x' y));unfold F9;rw [if_pos ⟨rfl,rfl⟩]
   ·rw [if_neg cy];show some (V.int (F x' k))=some (V.int (F9 F x' y n x' k));unfold F9;rw [if_neg (fun z=>cy z.2.symm),Int.add_zero]
  ·rw [List.getElem?_eq_none (l:=List.range h) (by rw [length_range];omega)];by_cases cy:y=k
   ·subst cy;rw [if_pos rfl,if_neg ck];rfl
   ·rw [if_neg cy];rfl
 ·have ne:a'≠a:=fun z=>by
   subst z;obtain ⟨l1,e1⟩:=List.getElem?_eq_some_iff.mp ha;obtain ⟨l2,e2⟩:=List.getElem?_eq_some_iff.mp ha';exact c ((getElem_inj g.2.1).mp (e2.trans e1.symm))
  rw [Ak ne,g.2.2 x' a' ha',show ((List.range h).map fun y'=>F9 F x y n x' y')=(List.range h).map fun y'=>F x' y' from map_congr_left fun y' _=>by unfold F9;rw [if_neg (fun z=>c z.1),Int.add_zero]]
noncomputable def CC (as:List Addr) (H H':Hp):Prop:=∀b o,b ∉ as->H b=some o->H' b=some o
theorem CC.trans {as:List Addr} {H H' H2:Hp} (a:CC as H H') (b:CC as H' H2):CC as H H2:=fun c o m e=>b c o m (a c o m e)
theorem CC.of {as:List Addr} {H H':Hp} (s:An H H'):CC as H H':=fun c o _ e=>s c o e
theorem CC.put {as:List Addr} {H H':Hp} {a:Addr} {o:HO} (k:CC as H H') (m:a∈as):CC as H (upd H' a o):=fun c u n e=>by
 rw [Ak (show c≠a from fun z=>n (by rw [z];exact m))];exact k c u n e
theorem CC.same {as:List Addr} {H H1 H':Hp} (k:CC as H1 H') (s:An H H1) (n:∀a∈as,H a=none):An H H':=fun b o e=>k b o (fun m=>by rw [n b m] at e;cases e) (s b o e)
theorem Be.same {H H':Hp} {as:List Addr} {h:Nat} {F:Nat->Nat->Int} (g:Be H as h F) (s:An H H'):Be H' as h F:=⟨g.1,g.2.1,fun x a ha=>s _ _ (g.2.2 x a ha)⟩
theorem Be.row {H:Hp} {as:List Addr} {h:Nat} {F:Nat->Nat->Int} (g:Be H as h F) {x:Nat} (hx:x < h):∃a,as[x]?=some a/\a∈as/\atI (as.map V.ref) (x:Int)=some (.ref a)/\H a=some (.lst (((List.range h).map fun y=>F x y).map V.int)):=by
 have hl:x < as.length:=by rw [g.1];exact hx
 refine ⟨as[x],List.getElem?_eq_getElem hl,getElem_mem hl,Bt (by rw [List.getElem?_map,List.getElem?_eq_getElem hl];rfl),g.2.2 x _ (List.getElem?_eq_getElem hl)⟩
theorem Bn {h:Nat} (F:Nat->Int) {y:Nat} (hy:y < h):atI (((List.range h).map fun y=>F y).map V.int) (y:Int)=some (.int (F y)):=atN (by rw [List.getElem?_map,List.getElem?_range hy];rfl)
theorem GC {h:Nat} (h12:h<=12) (f:Nat->Bool) {z:Int}:z∈hands 12 (bit (A1 h f))↔∃i:Nat,i < h/\f i=true/\z=(i:Int):=by
 rw [Bx];refine ⟨fun ⟨i,_,b,e⟩=>?_,fun ⟨i,a,b,e⟩=>⟨i,by omega,by rw [Bh,decide_eq_true a,b];rfl,e⟩⟩;rw [Bh,Bool.and_eq_true,decide_eq_true_eq] at b;exact ⟨i,b.1,b.2,e⟩
theorem Gc (n:Nat) (f:Nat->Bool):(hands n f).Nodup:=by
 unfold hands;exact List.Pairwise.map _ (fun a b (ne:a≠b) e=>ne (Int.ofNat.inj e)) (List.Pairwise.filter _ nodup_range)
theorem Fe {n i:Nat} (h:i < n):ixN n (i:Int)=some i:=by
 unfold ixN;rw [if_pos (by omega)];simp [h]
theorem Be.not {H:Hp} {as:List Addr} {h:Nat} {F:Nat->Nat->Int} (g:Be H as h F) {a:Addr} (e:H a=none):a ∉ as:=fun m=>by
 obtain ⟨x,hx⟩:=List.getElem?_of_mem m;rw [g.2.2 x a hx] at e
 cases e
theorem Js {xs:List Int} (nd:xs.Nodup) {k:Nat} {z:Int} (hz:xs[k]?=some z):xs.take (k+1)=xs.take k++[z]/\z ∉ xs.take k:=by
 have e:xs.take (k+1)=xs.take k++[z]:=by rw [take_add_one,hz];rfl
 refine ⟨e,fun m=>?_⟩;have n2:=(take_sublist (k+1) xs).nodup nd;rw [e,nodup_append] at n2;exact n2.2.2 z m z (mem_singleton.mpr rfl) rfl
theorem Ft (f:List Int->Bool) (a:Ls) (q:Addr × Addr × List Int × Int):Fl f (dsL (a++[q]))=Fl f (dsL a)+if f q.2.2.1=true then q.2.2.2 else 0:=by
 unfold dsL;rw [map_append,Kg];show _+Fl f [(_,_)]=_;rw [MC];show _+(_+0)=_;rw [Int.add_zero]
theorem Lx {h:Nat} {ts:List Int} {t:Int} (h12:h<=12) (f:My h ts) (m:t∈ts):∃g:Nat->Bool,t=A1 h g:=by
 obtain ⟨rs,rl,_,rfl⟩:=f;unfold Dc at m;obtain ⟨r,_,rfl⟩:=mem_map.mp m;exact ⟨isR rs r,by unfold EG;rw [rl]⟩
theorem Qw {p q r:Prop} [Decidable p] [Decidable q] [Decidable r] (n z:Int) (e:r↔p\/q) (d:¬ (p/\q)):z+(if p then n else 0)+(if q then n else 0)=z+if r then n else 0:=by
 by_cases c1:p
 ·rw [if_pos c1,if_neg (fun c2=>d ⟨c1,c2⟩),if_pos (e.mpr (.inl c1)),Int.add_zero]
 ·rw [if_neg c1,Int.add_zero];by_cases c2:q
  ·rw [if_pos c2,if_pos (e.mpr (.inr c2))]
  ·rw [if_neg c2,if_neg (fun c3=>(e.mp c3).elim c1 c2)]
theorem KI {xs:List Int} {x x':Nat}:(x':Int)∈xs++[(x:Int)]↔(x':Int)∈xs\/x'=x:=by
 rw [mem_append,mem_singleton];exact or_congr Iff.rfl ⟨fun e=>Int.ofNat.inj e,fun e=>by rw [e]⟩
noncomputable def Na:Sp:=fun vs H Q _=>∃(l:Addr) (ls:Ls) (h:Nat),vs=[.ref l,.int (h:Int)]/\H l=some (.lst (vls ls))/\DN h H ls/\ls.length<=60/\1<=h/\h<=12/\∀(b:Addr) (as:List Addr) (H':Hp),H b=none->An H H'->b ∉ as->(∀a∈as,H a=none)->H' b=some (.lst (as.map V.ref))->Be H' as h (fun x y=>Fl (DT x y) (dsL ls))->Q (.ref b) H'
theorem RZ:∀n:Nat,(List.replicate n [V.int 0]).flatten=((List.range n).map fun _=>(0:Int)).map V.int:=by
 intro n
 have e:∀n:Nat,((List.range n).map fun _=>(0:Int))=List.replicate n 0:=by
  intro n;rw [map_const',length_range]
 rw [e]
 induction n with
 | zero=>rfl
 | succ n ih=>rw [replicate_succ,flatten_cons,ih,replicate_succ,map_cons];rfl
noncomputable def KH (h:Nat) (F:Nat->Nat->Int):List (List Int):=(List.range h).map fun x=>(List.range h).map fun y=>F x y
theorem PL {h x:Nat} {F:Nat->Nat->Int} (hx:x < h):(KH h F)[x]?=some ((List.range h).map fun y=>F x y):=by
 unfold KH;rw [List.getElem?_map,List.getElem?_range hx];rfl
theorem KQ (h:Nat) (F:Nat->Nat->Int):(KH h F).length=h:=by unfold KH;rw [length_map,length_range]
noncomputable def KF (as:List Addr) (h:Nat) (F:Nat->Nat->Int):Tb:=as.zip (KH h F)
theorem Be.vtb {H:Hp} {as:List Addr} {h:Nat} {F:Nat->Nat->Int} (g:Be H as h F):vtb (KF as h F)=as.map V.ref:=by
 unfold Law.vtb KF;rw [show (fun r:Addr × List Int=>V.ref r.1)=V.ref ∘ Prod.fst from rfl,<- map_map,map_fst_zip (by rw [g.1,KQ];exact Nat.le_refl _)]
theorem Be.good {H:Hp} {as:List Addr} {h:Nat} {F:Nat->Nat->Int} (g:Be H as h F):RN H (KF as h F) h:=by
 refine ⟨by unfold KF;rw [length_zip,g.1,KQ,Nat.min_self],fun r m=>?_⟩;obtain ⟨i,hi⟩:=List.getElem?_of_mem m;unfold KF at hi;rw [List.getElem?_zip_eq_some] at hi;have hx:i < h:=by have:=(List.getElem?_eq_some_iff.mp hi.1).1;have:=g.1;omega
 rw [PL hx] at hi;rw [<- Option.some.inj hi.2];exact ⟨g.2.2 i _ hi.1,by rw [length_map,length_range]⟩
theorem Ez {X:Cx} (K:PySem.W.Frag) (hK:X.K=K:=by rfl):Ci X (.type "list") (fun xs H Q=>∃p ys,xs=[.ref p]/\(SqL K H p ys\/SqT K H p ys)/\∀l,H l=none->Q (.ref l) (upd H l (.lst ys))):=by
 subst hK;exact AB
structure CF (h x:Nat) (L:Nat->Nat->Int) (be bf:List Int):Prop where
 lenb:be.length=h
 lenf:bf.length=h
 own:be.getD x 0=L x x
 low:∀y,y < h->y≠x->L x y<=be.getD y 0
 stab:∀d y,d < h->y < h->d≠x->y≠x->d≠y->min (be.getD d 0) (L d y)<=be.getD y 0
 par:∃rk:Nat->Nat,∀y,y < h->y≠x->∃p:Nat,p < h/\bf.getD y 0=(p:Int)/\rk p < rk y/\(p=x->be.getD y 0=L x y)/\(p≠x->be.getD y 0=min (be.getD p 0) (L p y))
structure Dij (h x:Nat) (L:Nat->Nat->Int) (be bf left:List Int) (rk:Nat->Nat):Prop where
 lenb:be.length=h
 lenf:bf.length=h
 nd:left.Nodup
 sub:∀z∈left,∃y:Nat,y < h/\y≠x/\z=(y:Int)
 own:be.getD x 0=L x x
 low:∀y,y < h->y≠x->L x y<=be.getD y 0
 ord:∀d y:Nat,d < h->d≠x->(d:Int) ∉ left->(y:Int)∈left->be.getD y 0<=be.getD d 0
 stab:∀d y:Nat,d < h->y < h->d≠x->y≠x->d≠y->(d:Int) ∉ left->min (be.getD d 0) (L d y)<=be.getD y 0
 rkc:∀d:Nat,d < h->(d:Int) ∉ left->rk d+left.length < h
 par:∀y,y < h->y≠x->∃p:Nat,p < h/\bf.getD y 0=(p:Int)/\(p:Int) ∉ left/\((y:Int) ∉ left->rk p < rk y)/\(p=x->be.getD y 0=L x y)/\(p≠x->be.getD y 0=min (be.getD p 0) (L p y))
theorem Dij.done {h x:Nat} {L:Nat->Nat->Int} {be bf:List Int} {rk:Nat->Nat} (g:Dij h x L be bf [] rk):CF h x L be bf :=
 ⟨g.lenb,g.lenf,g.own,g.low,fun d y h1 h2 h3 h4 h5=>g.stab d y h1 h2 h3 h4 h5 (by simp),rk,fun y h1 h2=>let ⟨p,a,b,_,c,d⟩:=g.par y h1 h2;⟨p,a,b,c (by simp),d⟩⟩
noncomputable def Cs (h x:Nat):List Int:=((List.range h).filter fun y=>decide (y≠x)).map fun y:Nat=>(y:Int)
theorem Dw {h x:Nat} {z:Int}:z∈Cs h x↔∃y:Nat,y < h/\y≠x/\z=(y:Int):=by
 unfold Cs;simp only [mem_map,mem_filter,mem_range,decide_eq_true_eq];exact ⟨fun ⟨y,⟨a,b⟩,e⟩=>⟨y,a,b,e.symm⟩,fun ⟨y,a,b,e⟩=>⟨y,⟨a,b⟩,e.symm⟩⟩
theorem Mp (h x:Nat):(Cs h x).Nodup:=by
 unfold Cs;exact List.Pairwise.map _ (fun a b (ne:a≠b) e=>ne (Int.ofNat.inj e)) (List.Pairwise.filter _ nodup_range)
theorem BW {xs ys:List Int} (n:xs.Nodup) (s:∀z∈xs,z∈ys):xs.length<=ys.length:=by
 induction xs generalizing ys with
 | nil=>exact Nat.zero_le _
 | cons a r ih =>
   rw [nodup_cons] at n;have ma:=s a (mem_cons_self ..);have:=ih (ys:=ys.erase a) n.2 fun z mz=>(mem_erase_of_ne (fun e=>n.1 (by rw [<- e];exact mz))).mpr (s z (mem_cons_of_mem _ mz));rw [length_erase_of_mem ma] at this;have:=length_pos_of_mem ma;rw [length_cons];omega
theorem Ky {h x:Nat} (hx:x < h):(Cs h x).length < h:=by
 have a:=BW (xs:=(x:Int) :: Cs h x) (ys:=(List.range h).map fun y:Nat=>(y:Int)) (nodup_cons.mpr ⟨fun m=>by
  obtain ⟨y,_,n,e⟩:=Dw.mp m
  exact n (Int.ofNat.inj e).symm,Mp h x⟩) (fun z m=>by
  rcases mem_cons.mp m with m | m
  ·rw [m];exact mem_map.mpr ⟨x,mem_range.mpr hx,rfl⟩
  ·obtain ⟨y,a,_,e⟩:=Dw.mp m;rw [e];exact mem_map.mpr ⟨y,mem_range.mpr a,rfl⟩)
 rw [length_cons,length_map,length_range] at a;omega
theorem Dij.start {h x:Nat} (hx:x < h) (L:Nat->Nat->Int):Dij h x L ((List.range h).map fun y=>L x y) (List.replicate h (x:Int)) (Cs h x) fun _=>0:=by
 have g:∀y,y < h->((List.range h).map fun y=>L x y).getD y 0=L x y:=fun y hy=>by
  rw [getD_eq_getElem?_getD,List.getElem?_map,List.getElem?_range hy];rfl
 have inn:∀d:Nat,d < h->d≠x->(d:Int)∈Cs h x:=fun d a b=>Dw.mpr ⟨d,a,b,rfl⟩;refine ⟨by simp,by simp,Mp h x,fun z m=>Dw.mp m,g x hx,fun y hy _=>by rw [g y hy];exact Int.le_refl _,fun d y a b c=>absurd (inn d a b) c,fun d y a _ b _ _ c=>absurd (inn d a b) c,fun d a _=>by have:=Ky hx;omega,fun y hy ny=>⟨x,hx,?_,fun m=>?_,fun c=>absurd (inn y hy ny) c,fun _=>g y hy,fun c=>absurd rfl c⟩⟩
 ·rw [getD_eq_getElem?_getD,List.getElem?_replicate,if_pos hy];rfl
 ·obtain ⟨y,_,n,e⟩:=Dw.mp m;exact n (Int.ofNat.inj e).symm
noncomputable def Upd (h t:Nat) (L:Nat->Nat->Int) (be bf zs be' bf':List Int):Prop:=be'.length=h/\bf'.length=h/\∀y:Nat,y < h ->
 ((y:Int)∈zs/\be.getD y 0 < min (be.getD t 0) (L t y)->be'.getD y 0=min (be.getD t 0) (L t y)/\bf'.getD y 0=(t:Int)) /\
 (¬ ((y:Int)∈zs/\be.getD y 0 < min (be.getD t 0) (L t y))->be'.getD y 0=be.getD y 0/\bf'.getD y 0=bf.getD y 0)
theorem Dij.step {h x t:Nat} {L:Nat->Nat->Int} {be bf left be' bf':List Int} {rk:Nat->Nat} (g:Dij h x L be bf left rk) (hx:x < h) (ht:(t:Int)∈left) (best:∀y:Nat,(y:Int)∈left->be.getD y 0<=be.getD t 0)
 (u:Upd h t L be bf (left.erase (t:Int)) be' bf'):Dij h x L be' bf' (left.erase (t:Int)) fun y=>if y=t then h - left.length else rk y:=by
 obtain ⟨u1,u2,u3⟩:=u;obtain ⟨t',th,tx,et⟩:=g.sub _ ht;have ett:t=t':=Int.ofNat.inj et;subst ett;have mem:∀{z:Int},z∈left.erase (t:Int)↔z≠(t:Int)/\z∈left:=fun {z}=>g.nd.mem_erase_iff
 have ge:∀y,y < h->be.getD y 0<=be'.getD y 0:=fun y hy=>by
  by_cases c:(y:Int)∈left.erase (t:Int)/\be.getD y 0 < min (be.getD t 0) (L t y)
  ·rw [((u3 y hy).1 c).1];omega
  ·rw [((u3 y hy).2 c).1];exact Int.le_refl _
 have out:∀y:Nat,y < h->(y:Int) ∉ left.erase (t:Int)->be'.getD y 0=be.getD y 0/\bf'.getD y 0=bf.getD y 0:=fun y hy n=>(u3 y hy).2 fun c=>n c.1
 have nx:(x:Int) ∉ left:=fun m=>by
  obtain ⟨y,_,n,e⟩:=g.sub _ m;exact n (Int.ofNat.inj e).symm
 have nt:(t:Int) ∉ left.erase (t:Int):=fun m=>(mem.mp m).1 rfl
 have cut:∀{d:Nat},(d:Int) ∉ left.erase (t:Int)->d=t\/(d:Int) ∉ left:=fun {d} n=>by
  by_cases c:d=t
  ·exact .inl c
  ·exact .inr fun m=>n (mem.mpr ⟨fun e=>c (Int.ofNat.inj e),m⟩)
 have hxlt:∀{y:Nat},(y:Int)∈left->y < h/\y≠x:=fun {y} m=>by
  obtain ⟨y',a,b,e⟩:=g.sub _ m;rw [show y=y' from Int.ofNat.inj e];exact ⟨a,b⟩
 have len:(left.erase (t:Int)).length=left.length - 1:=length_erase_of_mem ht;have pos:=length_pos_of_mem ht;refine ⟨u1,u2,g.nd.erase _,fun z m=>g.sub z (mem.mp m).2,?_,fun y hy ny=>Int.le_trans (g.low y hy ny) (ge y hy),fun d y hd dx dn ym=>?_,fun d y hd hy dx yx dy dn=>?_,fun d hd dn=>?_,fun y hy yx=>?_⟩
 ·rw [(out x hx fun m=>nx (mem.mp m).2).1];exact g.own
 ·have ym':=mem.mp ym;have yh:=hxlt ym'.2;rw [(out d hd dn).1]
  have bd:be.getD t 0<=be.getD d 0:=by
   rcases cut dn with e | n
   ·rw [e];exact Int.le_refl _
   ·exact g.ord d t hd dx n ht
  have by':=best y ym'.2
  by_cases c:(y:Int)∈left.erase (t:Int)/\be.getD y 0 < min (be.getD t 0) (L t y)
  ·rw [((u3 y yh.1).1 c).1];omega
  ·rw [((u3 y yh.1).2 c).1];omega
 ·rw [(out d hd dn).1];have gy:=ge y hy;rcases cut dn with e | n
  ·subst e;by_cases c:(y:Int)∈left.erase (d:Int)
   ·by_cases c2:be.getD y 0 < min (be.getD d 0) (L d y)
    ·rw [((u3 y hy).1 ⟨c,c2⟩).1];exact Int.le_refl _
    ·omega
   ·rcases cut c with e | n
    ·exact absurd e.symm dy
    ·have:=g.ord y d hy yx n ht;omega
  ·have:=g.stab d y hd hy dx yx dy n;omega
 ·rw [len];rcases cut dn with e | n
  ·show (if d=t then h - left.length else rk d)+_ < h;rw [if_pos e];have:=g.rkc x hx nx;omega
  ·show (if d=t then h - left.length else rk d)+_ < h;rw [if_neg (fun e=>n (by rw [e];exact ht))];have:=g.rkc d hd n;omega
 ·obtain ⟨p,hp,p1,p2,p3,p4,p5⟩:=g.par y hy yx;by_cases c:(y:Int)∈left.erase (t:Int)/\be.getD y 0 < min (be.getD t 0) (L t y)
  ·obtain ⟨c1,c2⟩:=(u3 y hy).1 c;exact ⟨t,th,c2,nt,fun n=>absurd c.1 n,fun e=>absurd e tx,fun _=>by rw [c1,(out t th nt).1]⟩
  ·obtain ⟨c1,c2⟩:=(u3 y hy).2 c;have pn:(p:Int) ∉ left.erase (t:Int):=fun m=>p2 (mem.mp m).2;have pt:p≠t:=fun e=>p2 (by rw [e];exact ht);refine ⟨p,hp,by rw [c2,p1],pn,fun n=>?_,fun e=>by rw [c1];exact p4 e,fun e=>by rw [c1,(out p hp pn).1];exact p5 e⟩;show (if p=t then h - left.length else rk p) < if y=t then h - left.length else rk y;rw [if_neg pt];rcases cut n with e | n
   ·rw [if_pos e];have:=g.rkc p hp p2;omega
   ·rw [if_neg (fun e=>n (by rw [e];exact ht))];exact p3 n
theorem CF.le {h x:Nat} {L:Nat->Nat->Int} {be bf be' bf':List Int} (g:CF h x L be bf) (g':CF h x L be' bf'):∀y,y < h->y≠x->be.getD y 0<=be'.getD y 0:=by
 obtain ⟨rk,par⟩:=g.par
 have key:∀n y,rk y<=n->y < h->y≠x->be.getD y 0<=be'.getD y 0:=by
  intro n
  induction n with
  | zero =>
    intro y r hy yx;obtain ⟨p,_,_,p1,_⟩:=par y hy yx;omega
  | succ n ih =>
    intro y r hy yx;obtain ⟨p,hp,_,p1,p2,p3⟩:=par y hy yx;by_cases c:p=x
    ·rw [p2 c];exact g'.low y hy yx
    ·rw [p3 c];have a:=ih p (by omega) hp c;have b:=g'.stab p y hp hy c yx (fun e=>by rw [e] at p1;exact Nat.lt_irrefl _ p1);omega
 exact fun y=>key (rk y) y (Nat.le_refl _)
theorem CF.uniq {h x:Nat} {L:Nat->Nat->Int} {be bf be' bf':List Int} (g:CF h x L be bf) (g':CF h x L be' bf'):be=be':=by
 apply ext_getElem
 ·rw [g.lenb,g'.lenb]
 ·intro y h1 h2;have e1:be[y]=be.getD y 0:=by rw [getD_eq_getElem?_getD,List.getElem?_eq_getElem h1];rfl
  have e2:be'[y]=be'.getD y 0:=by rw [getD_eq_getElem?_getD,List.getElem?_eq_getElem h2];rfl
  rw [e1,e2];by_cases c:y=x
  ·rw [c,g.own,g'.own]
  ·have hy:y < h:=by rw [<- g.lenb];exact h1
   exact Int.le_antisymm (g.le g' y hy c) (g'.le g y hy c)
theorem CF.cut {h x:Nat} {L:Nat->Nat->Int} {be bf:List Int} (g:CF h x L be bf) {y u v:Nat} (hu:u < h) (hv:v < h) (cu:u=x\/be.getD y 0 < be.getD u 0) (cv:v≠x/\be.getD v 0<=be.getD y 0):L u v<=be.getD y 0:=by
 by_cases c:u=x
 ·subst c;have:=g.low v hv cv.1;omega
 ·have b:be.getD y 0 < be.getD u 0:=cu.resolve_left c;have:=g.stab u v hu hv c cv.1 (fun e=>by rw [e] at b;omega);omega
noncomputable def lk (L:Nat->Nat->Int) (ws:List Nat):List Int:=(List.range (ws.length - 1)).map fun k=>L (ws.getD k 0) (ws.getD (k+1) 0)
theorem IT (L:Nat->Nat->Int) (p w:Nat) (r:List Nat):lk L (p :: w :: r)=L p w :: lk L (w :: r):=by
 unfold lk;rw [show (p :: w :: r).length - 1=((w :: r).length - 1)+1 from rfl,range_succ_eq_map,map_cons,map_map];rfl
structure HH (h x y:Nat) (L:Nat->Nat->Int) (be:List Int) (rk:Nat->Nat) (w:Nat) (r:List Nat):Prop where
 all:∀z∈w :: r,z < h
 rise:(w :: r).Pairwise fun a b=>rk a < rk b
 last:(w :: r).getLast?=some y
 above:∀l∈lk L (w :: r),be.getD y 0<=l
 mid:w≠x->be.getD y 0<=be.getD w 0/\(be.getD y 0=be.getD w 0\/be.getD y 0∈lk L (w :: r))
 fin:w=x->be.getD y 0∈lk L (w :: r)/\r≠[]
theorem HH.start {h x y:Nat} {L:Nat->Nat->Int} {be:List Int} (rk:Nat->Nat) (hy:y < h) (ne:y≠x):HH h x y L be rk y [] :=
 ⟨fun z m=>by rw [mem_singleton.mp m];exact hy,pairwise_singleton ..,rfl,(fun l m=>by cases m),fun _=>⟨Int.le_refl _,.inl rfl⟩,fun e=>absurd e ne⟩
theorem HH.step {h x y w p:Nat} {L:Nat->Nat->Int} {be:List Int} {rk:Nat->Nat} {r:List Nat} (g:HH h x y L be rk w r) (wx:w≠x) (hp:p < h) (pr:rk p < rk w)
 (p1:p=x->be.getD w 0=L x w) (p2:p≠x->be.getD w 0=min (be.getD p 0) (L p w)):HH h x y L be rk p (w :: r):=by
 obtain ⟨m1,m2⟩:=g.mid wx
 have key:be.getD y 0<=L p w:=by
  by_cases c:p=x
  ·have:=p1 c;rw [c];omega
  ·have:=p2 c;omega
 refine ⟨fun z m=>?_,pairwise_cons.mpr ⟨fun z m=>?_,g.rise⟩,?_,fun l m=>?_,fun c=>?_,fun c=>?_⟩
 ·rcases mem_cons.mp m with m | m
  ·rw [m];exact hp
  ·exact g.all z m
 ·rcases mem_cons.mp m with m | m
  ·rw [m];exact pr
  ·exact Nat.lt_trans pr ((pairwise_cons.mp g.rise).1 z m)
 ·rw [List.getLast?_cons_cons];exact g.last
 ·rw [IT] at m;rcases mem_cons.mp m with m | m
  ·rw [m];exact key
  ·exact g.above l m
 ·have:=p2 c;refine ⟨by omega,?_⟩;rw [IT];rcases m2 with e | e
  ·by_cases z:be.getD p 0<=L p w
   ·exact .inl (by omega)
   ·exact .inr (by rw [show be.getD y 0=L p w by omega];exact mem_cons_self ..)
  ·exact .inr (mem_cons_of_mem _ e)
 ·rw [IT];have:=p1 c;refine ⟨?_,by simp⟩;rcases m2 with e | e
  ·rw [e,this,c];exact mem_cons_self ..
  ·exact mem_cons_of_mem _ e
structure Ed (h x y:Nat) (L:Nat->Nat->Int) (v:Int) (ws:List Nat):Prop where
 all:∀z∈ws,z < h
 nd:ws.Nodup
 first:ws.head?=some x
 last:ws.getLast?=some y
 two:2<=ws.length
 least:v∈lk L ws/\∀l∈lk L ws,v<=l
theorem HH.way {h x y:Nat} {L:Nat->Nat->Int} {be:List Int} {rk:Nat->Nat} {r:List Nat} (g:HH h x y L be rk x r):Ed h x y L (be.getD y 0) (x :: r):=by
 obtain ⟨f1,f2⟩:=g.fin rfl;refine ⟨g.all,g.rise.imp fun z e=>by rw [e] at z;exact Nat.lt_irrefl _ z,rfl,g.last,?_,f1,g.above⟩;have:=length_pos_iff.mpr f2;rw [length_cons];omega
theorem Ib {h x:Nat} (hx:x < h):(Cs h x).length+1=h:=by
 have a:=Ky hx
 have b:=BW (xs:=(List.range h).map fun y:Nat=>(y:Int)) (ys:=(x:Int) :: Cs h x) (List.Pairwise.map _ (fun a b (ne:a≠b) e=>ne (Int.ofNat.inj e)) nodup_range) fun z m=>by
  obtain ⟨y,hy,e⟩:=mem_map.mp m;by_cases c:y=x
  ·rw [<- e,c];exact mem_cons_self ..
  ·exact mem_cons_of_mem _ (Dw.mpr ⟨y,mem_range.mp hy,c,e.symm⟩)
 rw [length_cons,length_map,length_range] at b;omega
theorem Eo (i x:Nat):Cs (i+1) x=Cs i x++if i=x then [] else [(i:Int)]:=by
 unfold Cs;rw [range_succ,filter_append,map_append];by_cases c:i=x
 ·rw [if_pos c];simp [c]
 ·rw [if_neg c];simp [c]
theorem KU {xs:List Int} {z:Nat} (hz:z < xs.length) (v:Int) (y:Nat):(xs.set z v).getD y 0=if y=z then v else xs.getD y 0:=by
 rw [getD_eq_getElem?_getD,List.getElem?_set,getD_eq_getElem?_getD];by_cases c:z=y
 ·subst c;rw [if_pos rfl,if_pos hz,if_pos rfl];rfl
 ·rw [if_neg c,if_neg (Ne.symm c)]
theorem Upd.nil {h t:Nat} {L:Nat->Nat->Int} {be bf:List Int} (l1:be.length=h) (l2:bf.length=h):Upd h t L be bf [] be bf:=⟨l1,l2,fun y _=>⟨fun c=>(nomatch c.1),fun _=>⟨rfl,rfl⟩⟩⟩
theorem Upd.put {h t z:Nat} {L:Nat->Nat->Int} {be bf zs be' bf':List Int} (u:Upd h t L be bf zs be' bf') (hz:z < h) (c:be.getD z 0 < min (be.getD t 0) (L t z)):Upd h t L be bf (zs++[(z:Int)]) (be'.set z (min (be.getD t 0) (L t z))) (bf'.set z (t:Int)):=by
 obtain ⟨u1,u2,u3⟩:=u;refine ⟨by rw [length_set,u1],by rw [length_set,u2],fun y hy=>?_⟩;rw [KU (by omega),KU (by omega)];by_cases e:y=z
 ·subst e;rw [if_pos rfl,if_pos rfl];exact ⟨fun _=>⟨rfl,rfl⟩,fun n=>absurd ⟨mem_append_right _ (mem_singleton.mpr rfl),c⟩ n⟩
 ·rw [if_neg e,if_neg e]
  have m:(y:Int)∈zs++[(z:Int)]↔(y:Int)∈zs:=by
   rw [mem_append,mem_singleton];exact ⟨fun h=>h.elim id fun h=>absurd (Int.ofNat.inj h) e,.inl⟩
  rw [m];exact u3 y hy
theorem Upd.skip {h t z:Nat} {L:Nat->Nat->Int} {be bf zs be' bf':List Int} (u:Upd h t L be bf zs be' bf') (c:¬ be.getD z 0 < min (be.getD t 0) (L t z)):Upd h t L be bf (zs++[(z:Int)]) be' bf':=by
 obtain ⟨u1,u2,u3⟩:=u;refine ⟨u1,u2,fun y hy=>?_⟩;by_cases e:y=z
 ·subst e;refine ⟨fun k=>absurd k.2 c,fun _=>(u3 y hy).2 fun k=>c k.2⟩
 ·have m:(y:Int)∈zs++[(z:Int)]↔(y:Int)∈zs:=by
   rw [mem_append,mem_singleton];exact ⟨fun h=>h.elim id fun h=>absurd (Int.ofNat.inj h) e,.inl⟩
  rw [m];exact u3 y hy
theorem Upd.at {h t y:Nat} {L:Nat->Nat->Int} {be bf zs be' bf':List Int} (u:Upd h t L be bf zs be' bf') (hy:y < h) (n:(y:Int) ∉ zs):be'.getD y 0=be.getD y 0:=((u.2.2 y hy).2 fun c=>n c.1).1
theorem Fo {a:Int}:∀xs:List Int,xs.erase a=xs.eraseIdx (xs.idxOf a)
 | []=>rfl
 | b :: r=>by
   rw [erase_cons,idxOf_cons];by_cases c:b=a
   ·rw [if_pos (by simp [c])];simp [c]
   ·have n:(b == a)=false:=by simp [c]
    rw [if_neg (by rw [n];decide),n];show b :: r.erase a=_;rw [Fo r];rfl
noncomputable def IV:HO->Bool
 | .tbl _=>false
 | _=>true
structure Sm (H H':Hp):Prop where
 keep:∀b u,H b=some u->IV u=true->H' b=some u
 gone:∀b,H' b=none->H b=none
theorem Sm.of {H H':Hp} (s:An H H'):Sm H H':=⟨fun b u e _=>s b u e,fun b e=>none_of s e⟩
theorem Sm.trans {H H1 H2:Hp} (a:Sm H H1) (b:Sm H1 H2):Sm H H2:=⟨fun c u e n=>b.keep c u (a.keep c u e n) n,fun c e=>a.gone c (b.gone c e)⟩
theorem Sm.put {H H':Hp} {l:Addr} {o:HO} (s:Sm H H') (n:H l=none):Sm H (upd H' l o):=⟨fun b u e k=>by
 rw [Ak (AX e n)]
 exact s.keep b u e k,fun b e=>by
 by_cases c:b=l
 ·rw [c];exact n
 ·rw [Ak c] at e;exact s.gone b e⟩
theorem Sm.lst {H H':Hp} (s:Sm H H') {b:Addr} {xs:List V} (e:H b=some (.lst xs)):H' b=some (.lst xs):=s.keep _ _ e rfl
theorem Sm.tup {H H':Hp} (s:Sm H H') {b:Addr} {xs:List V} (e:H b=some (.tup xs)):H' b=some (.tup xs):=s.keep _ _ e rfl
theorem Sm.seq {K:PySem.W.Frag} {H H':Hp} (s:Sm H H') {b:Addr} {xs:List V} (h:SqL K H b xs):SqL K H' b xs:=by
 rcases h with (h | ⟨o,h⟩) | h
 ·exact .inl (.inl (s.lst h))
 ·exact .inl (.inr ⟨o,s.keep _ _ h rfl⟩)
 ·exact .inr h
theorem Be.sm {H H':Hp} {as:List Addr} {h:Nat} {F:Nat->Nat->Int} (g:Be H as h F) (s:Sm H H'):Be H' as h F:=⟨g.1,g.2.1,fun x a ha=>s.lst (g.2.2 x a ha)⟩
theorem QZ {P:Addr} {pos:Pos} {q:Str} {H H':Hp} (t:GF P pos q H) (s:SmL P H H') (g:∀b,H' b=none->H b=none):Sm H H':=⟨fun b u e n=>s b u (fun z=>by
 rw [z] at e;rcases t with t | ⟨_,t,_⟩
 ·rw [t] at e;rw [<- Option.some.inj e] at n;cases n
 ·rw [t] at e;rw [<- Option.some.inj e] at n;cases n) e,g⟩
abbrev LT (P:Addr) (H:Hp):Prop:=GF P OQ RP H
abbrev L1 (P:Addr) (H:Hp):Prop:=Et P OQ RP H
noncomputable def BM (P:Addr) (h:Nat) (H:Hp):Prop:=LT P H/\(h=1\/L1 P H)
theorem BM.same {P:Addr} {h:Nat} {H H':Hp} (t:BM P h H) (s:An H H'):BM P h H':=⟨t.1.same s,t.2.imp id fun t=>t.same s⟩
noncomputable def M8 (P:Addr):Sp:=fun vs H Q _=>∃(a:Addr) (as:List Addr) (h x:Nat) (L:Nat->Nat->Int),vs=[.ref a,.int (x:Int)]/\H a=some (.lst (as.map V.ref))/\Be H as h L/\x < h/\h<=12/\LT P H /\
 ∀(t b f:Addr) (be bf:List Int) (H':Hp),Sm H H'->(BM P h H->An H H')->BM P h H'->H t=none->H b=none->H f=none->b≠f->H' t=some (.tup [.ref b,.ref f])->H' b=some (.lst (be.map V.int))->H' f=some (.lst (bf.map V.int))->CF h x L be bf->Q (.ref t) H'
theorem Ro (a b:Int):(if b < a then b else a)=min a b:=by split <;> omega
theorem set_map (xs:List Int) (z:Nat) (v:Int):(xs.map V.int).set z (.int v)=(xs.set z v).map V.int:=by rw [map_set]
abbrev Us:=List (Addr × List Int)
noncomputable def fU (us:Us) (x y:Nat):Int:=(us.getD x (0,[])).2.getD y 0
theorem OB {us:Us} {x h:Nat} {r:Addr × List Int} (e:us[x]?=some r) (l:r.2.length=h):((List.range h).map fun y=>fU us x y)=r.2:=by
 have e':us.getD x (0,[])=r:=by rw [getD_eq_getElem?_getD,e];rfl
 unfold fU;rw [e'];apply ext_getElem
 ·simp [l]
 ·intro i h1 h2;simp [h2]
noncomputable def Bg (h:Nat) (L F:Nat->Nat->Int):Prop:=∀x,x < h->∃bf,CF h x L ((List.range h).map fun y=>F x y) bf
theorem BL {h y:Nat} (F:Nat->Int) (hy:y < h):((List.range h).map fun y=>F y).getD y 0=F y:=by rw [getD_eq_getElem?_getD,List.getElem?_map,List.getElem?_range hy];rfl
theorem Bg.at {h x y:Nat} {L F:Nat->Nat->Int} {be bf:List Int} (g:Bg h L F) (r:CF h x L be bf) (hx:x < h) (hy:y < h):F x y=be.getD y 0:=by
 obtain ⟨bf',r'⟩:=g x hx;rw [<- r'.uniq r,BL (F x) hy]
structure EW (H:Hp) (t:Addr) (h x:Nat) (L:Nat->Nat->Int) (be:List Int):Prop where
 is:∃(b f:Addr) (bf:List Int),H t=some (.tup [.ref b,.ref f])/\H b=some (.lst (be.map V.int))/\H f=some (.lst (bf.map V.int))/\CF h x L be bf
theorem EW.same {H H':Hp} {t:Addr} {h x:Nat} {L:Nat->Nat->Int} {be:List Int} (s:An H H') (g:EW H t h x L be):EW H' t h x L be:=by
 obtain ⟨b,f,bf,h1,h2,h3,h4⟩:=g.is;exact ⟨b,f,bf,s _ _ h1,s _ _ h2,s _ _ h3,h4⟩
noncomputable def Bk (ws:List Nat):List Int:=ws.map fun w:Nat=>(w:Int)
noncomputable def PM:Sp:=fun vs H Q _=>∃(t:Addr) (h x y:Nat) (L:Nat->Nat->Int) (be:List Int),vs=[.ref t,.int (x:Int),.int (y:Int)]/\EW H t h x L be/\y < h/\y≠x/\h<=12 /\
 ∀(r:Addr) (ws:List Nat) (H':Hp),H r=none->An H H'->H' r=some (.lst ((Bk ws).map V.int))->Ed h x y L (be.getD y 0) ws->Q (.ref r) H'
noncomputable def Ea (x y:Nat) (be:List Int) (i:Nat):Bool:=decide (i=x\/be.getD y 0 < be.getD i 0)
noncomputable def PK:Sp:=fun vs H Q _=>∃(t:Addr) (h x y:Nat) (L:Nat->Nat->Int) (be:List Int),vs=[.ref t,.int (x:Int),.int (y:Int)]/\EW H t h x L be/\x < h/\y < h/\h<=12/\∀H':Hp,An H H'->Q (.int (A1 h (Ea x y be))) H'
theorem Qx:∀{h k:Nat} (f:Nat->Bool),k < h->Builtin.bitOr (A1 h f) (1*2 ^ k)=A1 h fun i=>f i || decide (i=k):=by
 have key:∀(h k:Nat) (f:Nat->Bool),k < h->A1 h (fun i=>f i || decide (i=k))=A1 h f+2 ^ k*(if (!f k)=true then 1 else 0):=by
  intro h
  induction h with
  | zero=>intro k f hk;omega
  | succ h ih =>
    intro k f hk;rw [Cu,Cu];by_cases c:k=h
    ·subst c;rw [AS k (g:=f) (fun i hi=>by rw [decide_eq_false (by omega),Bool.or_false])]
     cases f k <;> simp
    ·rw [ih k f (by omega),decide_eq_false (show ¬ h=k from fun e=>c e.symm),Bool.or_false];omega
 intro h k f hk;rw [Pn,Bh,decide_eq_true hk,Bool.true_and,key h k f hk]
theorem Bg.tri {h:Nat} {L F:Nat->Nat->Int} (g:Bg h L F) {x y w:Nat} (hx:x < h) (hy:y < h) (hw:w < h) (xy:y≠x) (xw:w≠x) (yw:w≠y):min (F x y) (F y w)<=F x w:=by
 obtain ⟨bf,r⟩:=g x hx;obtain ⟨bf',r'⟩:=g y hy;obtain ⟨rk,par⟩:=r'.par
 have key:∀n w,rk w<=n->w < h->w≠x->w≠y->min (F x y) (F y w)<=F x w:=by
  intro n
  induction n with
  | zero =>
    intro w rn hw wx wy;obtain ⟨p,_,_,p1,_⟩:=par w hw wy;omega
  | succ n ih =>
    intro w rn hw wx wy;obtain ⟨p,hp,_,p1,p2,p3⟩:=par w hw wy;rw [BL (F y) hw] at p2 p3;by_cases c:p=y
    ·rw [p2 c];have:=r.stab y w hy hw xy wx (Ne.symm wy);rwa [BL (F x) hy,BL (F x) hw] at this
    ·have e:=p3 c;rw [BL (F y) hp] at e;rw [e];by_cases d:p=x
     ·have:=r.low w hw wx;rw [BL (F x) hw] at this;rw [d];omega
     ·have a:=ih p (by omega) hp d c;have b:=r.stab p w hp hw d wx (fun e=>by rw [e] at p1;exact Nat.lt_irrefl _ p1);rw [BL (F x) hp,BL (F x) hw] at b;omega
 exact key (rk w) w (Nat.le_refl _) hw xw yw
theorem Bg.trans {h:Nat} {L F:Nat->Nat->Int} (g:Bg h L F) {x y z:Nat} (hx:x < h) (hy:y < h) (hz:z < h) (a:F y x < F x y) (b:F z y < F y z):F z x < F x z:=by
 have xy:y≠x:=fun e=>by rw [e] at a;omega
 have yz:z≠y:=fun e=>by rw [e] at b;omega
 by_cases c:z=x
 ·rw [c] at b;omega
 ·have t1:=g.tri hx hy hz xy c yz;have t2:=g.tri hy hz hx yz (Ne.symm xy) (Ne.symm c);have t3:=g.tri hz hx hy (Ne.symm c) (Ne.symm yz) xy;omega
noncomputable def Ex (F:Nat->Nat->Int) (z o:Int):Bool:=decide (F z.toNat o.toNat < F o.toNat z.toNat)
noncomputable def CO (F:Nat->Nat->Int) (z:Int) (os:List Int):Bool:=os.any (Ex F z)
noncomputable def unb (F:Nat->Nat->Int) (left:List Int):List Int:=left.filter fun z=>!CO F z left
theorem Mh {h:Nat} {L F:Nat->Nat->Int} (g:Bg h L F):∀{left:List Int},left≠[]->(∀z∈left,∃i:Nat,i < h/\z=(i:Int))->∃z∈left,∀o∈left,Ex F z o=false
 | [],n,_=>absurd rfl n
 | [a],_,_=>⟨a,mem_singleton.mpr rfl,fun o mo=>by
   rw [mem_singleton.mp mo];exact decide_eq_false (Int.lt_irrefl _)⟩
 | a :: b :: r,_,s=>by
   obtain ⟨m,mm,hm⟩:=Mh g (left:=b :: r) (by simp) fun z mz=>s z (mem_cons_of_mem _ mz);obtain ⟨i,hi,rfl⟩:=s a (mem_cons_self ..);obtain ⟨j,hj,rfl⟩:=s m (mem_cons_of_mem _ mm);by_cases c:Ex F (j:Int) (i:Int)=true
   ·refine ⟨(i:Int),mem_cons_self ..,fun o mo=>?_⟩;rcases mem_cons.mp mo with e | mo
    ·rw [e];exact decide_eq_false (Int.lt_irrefl _)
    ·obtain ⟨k,hk,rfl⟩:=s o (mem_cons_of_mem _ mo);have n:=hm _ mo;unfold Ex at c n ⊢;have c:=of_decide_eq_true c;have n:=of_decide_eq_false n;refine decide_eq_false fun e=>n ?_;exact g.trans hk hi hj e c
   ·refine ⟨(j:Int),mem_cons_of_mem _ mm,fun o mo=>?_⟩;rcases mem_cons.mp mo with e | mo
    ·rw [e];exact Bool.eq_false_iff.mpr c
    ·exact hm o mo
theorem O9 {h:Nat} {L F:Nat->Nat->Int} (g:Bg h L F) {left:List Int} (n:left≠[]) (s:∀z∈left,∃i:Nat,i < h/\z=(i:Int)):unb F left≠[]:=fun e=>by
 obtain ⟨z,mz,hz⟩:=Mh g n s
 have:z∈unb F left:=mem_filter.mpr ⟨mz,by
  show (!CO F z left)=true;unfold CO;rw [Bool.not_eq_true',any_eq_false];exact fun o mo=>by rw [hz o mo];decide⟩
 rw [e] at this
 cases this
noncomputable def Aw (F:Nat->Nat->Int):Nat->List Int->List Int
 | 0,_=>[]
 | _+1,[]=>[]
 | s+1,z :: r=>(unb F (z :: r)).getD 0 0 :: Aw F s ((z :: r).erase ((unb F (z :: r)).getD 0 0))
theorem CL (F:Nat->Nat->Int) {s:Nat} {left:List Int} (n:left≠[]):Aw F (s+1) left=(unb F left).getD 0 0 :: Aw F s (left.erase ((unb F left).getD 0 0)):=by
 cases left with
 | nil=>exact absurd rfl n
 | cons z r=>rfl
theorem Da (F:Nat->Nat->Int):∀s,Aw F s []=[]
 | 0=>rfl
 | _+1=>rfl
theorem CH (F:Nat->Nat->Int) (left:List Int):Aw F 0 left=[]:=by cases left <;> rfl
noncomputable def off (H:Hp) (D:Addr):Hp:=fun b=>if b=D then none else H b
theorem F5 (H:Hp) (D:Addr):An (off H D) H:=fun b o e=>by
 unfold off at e
 split at e
 ·cases e
 ·exact e
theorem CP {H:Hp} {D b:Addr} {o:HO} (e:H b=some o) (n:b≠D):off H D b=some o:=by
 unfold off;rw [if_neg n];exact e
theorem JY {H:Hp} {D:Addr}:off H D D=none:=by unfold off;rw [if_pos rfl]
theorem Db {H H':Hp} {D:Addr} {o:HO} (s:An (off H D) H'):An (off H D) (upd H' D o):=fun b u e=>by
 rw [Ak (fun z=>by rw [z,JY] at e;cases e)];exact s _ _ e
theorem Li {H0 H:Hp} {D:Addr} (s:An H0 H) (n:H0 D=none):An H0 (off H D):=fun b o e=>CP (s _ _ e) fun z=>by rw [z,n] at e;cases e
theorem G3 {H:Hp} {D:Addr} {o:HO}:off (upd H D o) D=off H D:=funext fun b=>by
 unfold off;by_cases c:b=D
 ·rw [if_pos c,if_pos c]
 ·rw [if_neg c,if_neg c,Ak c]
theorem Qb (n:Nat):(ups n).Pairwise (·<=·):=pairwise_map.mpr (pairwise_lt_range.imp fun h=>by omega)
theorem Qy (n:Nat):(ups n).map V.int=(List.range n).map fun i:Nat=>V.int (i:Int):=by unfold ups;rw [map_map];rfl
theorem Ri {ms ns:List Int} {n:Nat} (p:ms.Perm ns) (s:ms.Pairwise (·<=·)) (h:ns.Perm (ups n)):ms=ups n:=(p.trans h).eq_of_pairwise (fun a b _ _ x y=>Int.le_antisymm x y) s (Qb n)
noncomputable def P4:Sp:=fun vs H Q _=>∃n:Int,vs=[.int n]/\1<=n/\n<=12/\Q (.bl true) H
noncomputable def Qi:Sp:=fun vs H Q _=>∃n:Int,vs=[.int n]/\1<=n/\n<=60/\Q (.bl true) H
noncomputable def Rr (K:PySem.W.Frag):Sp:=fun vs H Q _=>∃(l:Addr) (ns:List Int) (n:Nat),vs=[.ref l,.int (n:Int)]/\H l=some (.lst (ns.map V.int))/\ns.Perm (ups n)/\n<=12/\∀H':Hp,An H H'->Q (.bl true) H'
abbrev fsW (h s:Int) (l:Addr):List (Str × V):=[("hands",.int h),("seats",.int s),("lots",.ref l)]
theorem RW (x:V):CY "hands" x []=([("hands",x)]:List (Str × V)):=rfl
theorem RX (x y:V):CY "seats" y [("hands",x)]=([("hands",x),("seats",y)]:List (Str × V)):=by
 unfold CY;rw [if_neg (by decide)];rfl
theorem RJ (x y z:V):CY "lots" z [("hands",x),("seats",y)]=([("hands",x),("seats",y),("lots",z)]:List (Str × V)):=by
 unfold CY;rw [if_neg (by decide)];unfold CY;rw [if_neg (by decide)];rfl
noncomputable def IsP (C:Addr) (H:Hp) (a:Addr) (h s:Nat) (ns:List Int):Prop:=∃dx l,H a=some (.ins C dx (fsW (h:Int) (s:Int) l))/\H l=some (.lst (ns.map V.int))
theorem IsP.same {C:Addr} {H H':Hp} {a:Addr} {h s:Nat} {ns:List Int} (e:An H H') (k:IsP C H a h s ns):IsP C H' a h s ns:=let ⟨dx,l,k1,k2⟩:=k;⟨dx,l,e _ _ k1,e _ _ k2⟩
theorem IsP.sm {C:Addr} {H H':Hp} {a:Addr} {h s:Nat} {ns:List Int} (e:Sm H H') (k:IsP C H a h s ns):IsP C H' a h s ns:=let ⟨dx,l,k1,k2⟩:=k;⟨dx,l,e.keep _ _ k1 rfl,e.lst k2⟩
structure CD (C:Addr) (H:Hp) (a:Addr) (h s:Nat) (ns:List Int):Prop where
 is:IsP C H a h s ns
 pm:ns.Perm (ups h)
 h1:1<=h
 h12:h<=12
 s1:1<=s
 s60:s<=60
theorem CD.same {C:Addr} {H H':Hp} {a:Addr} {h s:Nat} {ns:List Int} (e:An H H') (k:CD C H a h s ns):CD C H' a h s ns:=⟨k.is.same e,k.pm,k.h1,k.h12,k.s1,k.s60⟩
theorem CD.sm {C:Addr} {H H':Hp} {a:Addr} {h s:Nat} {ns:List Int} (e:Sm H H') (k:CD C H a h s ns):CD C H' a h s ns:=⟨k.is.sm e,k.pm,k.h1,k.h12,k.s1,k.s60⟩
theorem NJ {h:Nat} {z:Int} (m:z∈ups h):∃i:Nat,i < h/\z=(i:Int):=by
 unfold ups at m;obtain ⟨i,hi,e⟩:=mem_map.mp m;exact ⟨i,mem_range.mp hi,e.symm⟩
noncomputable def Lr (K:PySem.W.Frag):Sp:=fun vs H Q _=>∃(a C dx:Addr) (h s:Nat) (lv:V) (ns:List Int),vs=[.ref a,.int (h:Int),.int (s:Int),lv]/\H a=some (.ins C dx [])/\Cls K C/\Ce K C "hands"/\Ce K C "seats"/\Ce K C "lots" /\
 1<=h/\h<=12/\1<=s/\s<=60/\((lv=.non/\ns=ups h)\/∃l,lv=.ref l/\H l=some (.lst (ns.map V.int))/\ns.Perm (ups h)) /\
 ∀(l':Addr) (H':Hp),l'≠a->H l'=none->An (off H a) H'->H' a=some (.ins C dx (fsW (h:Int) (s:Int) l'))->H' l'=some (.lst (ns.map V.int))->Q .non H'
noncomputable def Ph:Sp:=fun vs H Q _=>∃(r l:Addr) (rs:List Addr) (h i:Nat) (F:Nat->Nat->Int) (zs:List Int),vs=[.ref r,.int (i:Int),.ref l]/\H r=some (.lst (rs.map V.ref))/\Be H rs h F/\i < h/\H l=some (.lst (zs.map V.int))/\(∀z∈zs,∃j:Nat,j < h/\z=(j:Int))/\zs.length<=60/\∀H':Hp,An H H'->Q (.bl (CO F (i:Int) zs)) H'
noncomputable def Nv (C:Addr):Sp:=fun vs H Q _=>∃(a r:Addr) (rs:List Addr) (h s:Nat) (ns:List Int) (L F:Nat->Nat->Int),vs=[.ref a,.ref r]/\CD C H a h s ns/\H r=some (.lst (rs.map V.ref))/\Be H rs h F/\Bg h L F/\∀(p:Addr) (H':Hp),H p=none->An H H'->H' p=some (.lst ((Aw F s ns).map V.int))->Q (.ref p) H'
noncomputable def ovF (ls:Ls) (x y:Nat):Int:=Fl (DT x y) (dsL ls)
noncomputable def AU (ls:Ls) (x y:Nat):Int:=ovF ls x y - ovF ls y x
noncomputable def OK:Sp:=fun vs H Q _=>∃(a:Addr) (as:List Addr) (h:Nat) (F:Nat->Nat->Int),vs=[.ref a]/\H a=some (.lst (as.map V.ref))/\Be H as h F/\h<=12/\∀(b:Addr) (bs:List Addr) (H':Hp),H b=none->b ∉ bs->(∀c∈bs,H c=none)->An H H'->H' b=some (.lst (bs.map V.ref))->Be H' bs h (fun x y=>F x y - F y x)->Q (.ref b) H'
structure Rw where
 t:Addr
 x:Nat
 y:Nat
 s:Int
 w:Addr
 ws:List Nat
 cut:Int
noncomputable def Ru (F:Nat->Nat->Int) (x y i:Nat):Bool:=decide (i=x\/F x y < F x i)
structure Fw (h:Nat) (L F:Nat->Nat->Int) (H:Hp) (q:Rw):Prop where
 tup:H q.t=some (.tup [.int (q.x:Int),.int (q.y:Int),.int q.s,.ref q.w,.int q.cut])
 way:H q.w=some (.lst ((Bk q.ws).map V.int))
 hx:q.x < h
 hy:q.y < h
 ne:q.y≠q.x
 str:q.s=F q.x q.y
 isw:Ed h q.x q.y L q.s q.ws
 cutE:q.cut=A1 h (Ru F q.x q.y)
theorem Fw.same {h:Nat} {L F:Nat->Nat->Int} {H H':Hp} {q:Rw} (e:An H H') (k:Fw h L F H q):Fw h L F H' q:=⟨e _ _ k.tup,e _ _ k.way,k.hx,k.hy,k.ne,k.str,k.isw,k.cutE⟩
theorem Fw.sm {h:Nat} {L F:Nat->Nat->Int} {H H':Hp} {q:Rw} (e:Sm H H') (k:Fw h L F H q):Fw h L F H' q:=⟨e.tup k.tup,e.lst k.way,k.hx,k.hy,k.ne,k.str,k.isw,k.cutE⟩
theorem Fw.congr {h:Nat} {L F F':Nat->Nat->Int} {H:Hp} {q:Rw} (k:Fw h L F H q) (e:∀y,y < h->F q.x y=F' q.x y):Fw h L F' H q:=⟨k.tup,k.way,k.hx,k.hy,k.ne,by rw [k.str,e _ k.hy],k.isw,by
 rw [k.cutE];exact AS h fun i hi=>by unfold Ru;rw [e _ k.hy,e i hi]⟩
noncomputable def vrw (rows:List Rw):List V:=rows.map fun q=>.ref q.t
noncomputable def Jq (h x:Nat):List Nat:=(List.range h).filter fun y=>decide (y≠x)
theorem OO (h x:Nat):Cs h x=Bk (Jq h x):=rfl
noncomputable def pairsOf (h n:Nat):List (Nat × Nat):=(List.range n).flatMap fun x=>(Jq h x).map fun y=>(x,y)
noncomputable def Kz:Sp:=fun vs H Q _=>∃(t:Addr) (h x:Nat) (L:Nat->Nat->Int) (be:List Int),vs=[.ref t,.int (x:Int)]/\EW H t h x L be/\x < h/\h<=12 /\
 ∀(r:Addr) (rows:List Rw) (H':Hp),H r=none->An H H'->H' r=some (.lst (vrw rows))->(∀q∈rows,Fw h L (fun _ y=>be.getD y 0) H' q/\q.x=x/\H q.t=none/\H q.w=none)->rows.map (fun q=>(q.x,q.y))=(Jq h x).map (fun y=>(x,y))->Q (.ref r) H'
structure Oh (H:Hp) (p:Addr) (h s:Nat) (ns:List Int) (ls:Ls) (F:Nat->Nat->Int):Prop where
 is:∃(m sh pk:Addr) (ms:List Addr) (rows:List Rw),H p=some (.tup [.ref m,.ref sh,.ref pk])/\H m=some (.lst (ms.map V.ref))/\Be H ms h (ovF ls)/\H sh=some (.lst (vrw rows))/\(∀q∈rows,Fw h (AU ls) F H q)/\rows.map (fun q=>(q.x,q.y))=pairsOf h h/\H pk=some (.lst ((Aw F s ns).map V.int))
 strong:Bg h (AU ls) F
noncomputable def Lp (C P:Addr):Sp:=fun vs H Q _=>∃(a l:Addr) (h s:Nat) (ns:List Int) (ls:Ls),vs=[.ref a,.ref l]/\CD C H a h s ns/\H l=some (.lst (vls ls))/\DN h H ls/\ls.length<=60/\LT P H /\
 ∀(p:Addr) (F:Nat->Nat->Int) (H':Hp),Sm H H'->(BM P h H->An H H')->BM P h H'->H p=none->Oh H' p h s ns ls F->Q (.ref p) H'
theorem BM.put {P l:Addr} {h:Nat} {H:Hp} {xs:List V} {o:HO} (t:BM P h H) (e:H l=some (.lst xs)):BM P h (upd H l o):=⟨GF.put t.1 e,t.2.imp id fun z=>Et.put z e⟩
theorem IB (ws:List Nat):(Bk ws).length=ws.length:=by unfold Bk;rw [length_map]
theorem L5 (a b:List Rw):vrw (a++b)=vrw a++vrw b:=by unfold vrw;rw [map_append]
theorem Mq (a:List Rw):(vrw a).length=a.length:=by unfold vrw;rw [length_map]
theorem QJ {us:Us} {r:Addr × List Int} {x:Nat} (h:x < us.length) (y:Nat):fU (us++[r]) x y=fU us x y:=by
 unfold fU;rw [show (us++[r]).getD x (0,[])=us.getD x (0,[]) from by rw [getD_eq_getElem?_getD (l:=us++[r]),getD_eq_getElem?_getD (l:=us),List.getElem?_append_left h]]
theorem QF {us:Us} {r:Addr × List Int} (y:Nat):fU (us++[r]) us.length y=r.2.getD y 0:=by
 unfold fU;rw [getD_eq_getElem?_getD (l:=us++[r]),List.getElem?_append_right (Nat.le_refl _),Nat.sub_self];rfl
theorem Fi (h n:Nat):pairsOf h (n+1)=pairsOf h n++(Jq h n).map fun y=>(n,y):=by
 unfold pairsOf;rw [range_succ,flatMap_append];simp
theorem FR {h:Nat}:∀{n:Nat},n<=h->(pairsOf h n).length+n=n*h
 | 0,_=>by simp [pairsOf]
 | n+1,hn=>by
   have ih:=FR (h:=h) (n:=n) (by omega)
   have b:(Jq h n).length+1=h:=by
    have:=Ib (h:=h) (x:=n) (by omega);rwa [OO,IB] at this
   rw [Fi,length_append,length_map,Nat.succ_mul];omega
theorem Ks {h:Nat} {L F:Nat->Nat->Int} (g:Bg h L F) {left:List Int} (n:left≠[]) (s:∀z∈left,∃i:Nat,i < h/\z=(i:Int)):(unb F left).getD 0 0∈left/\CO F ((unb F left).getD 0 0) left=false:=by
 have k:=O9 g n s
 cases e:unb F left with
 | nil=>exact absurd e k
 | cons a r =>
   have m:a∈unb F left:=by rw [e];exact mem_cons_self ..
   obtain ⟨m1,m2⟩:=mem_filter.mp m;exact ⟨m1,by simpa using m2⟩
theorem O7 {z:Int} {zs:List Int}:inV (V.int z) (zs.map V.int)=decide (z∈zs):=by
 unfold inV;rw [any_map];by_cases c:z∈zs
 ·rw [decide_eq_true c];exact any_eq_true.mpr ⟨z,c,by simp [eqV]⟩
 ·rw [decide_eq_false c];refine Bool.eq_false_iff.mpr fun e=>c ?_;obtain ⟨y,my,ey⟩:=any_eq_true.mp e;have:y=z:=by simpa [eqV] using ey
  rw [<- this];exact my
theorem QC {z:Int} {zs:List Int} (m:z∈zs):(if false=true then !inV (V.int z) (zs.map V.int) else inV (V.int z) (zs.map V.int))=true:=by rw [if_neg (by decide),O7,decide_eq_true m]
theorem RC {z:Int} {zs:List Int} (m:z ∉ zs):(if false=true then !inV (V.int z) (zs.map V.int) else inV (V.int z) (zs.map V.int))=false:=by rw [if_neg (by decide),O7,decide_eq_false m]
theorem Pd (zs:List Int):(zs.map V.int).all Fg=true:=by rw [all_map];exact all_eq_true.mpr fun _ _=>rfl
noncomputable def Bp (h:Nat) (pk:List Int):List Int:=(List.range h).map fun i:Nat=>if (i:Int)∈pk then 1 else 0
noncomputable def Qg (C:Addr):Sp:=fun vs H Q _=>∃(a p:Addr) (h s:Nat) (ns:List Int) (ls:Ls) (F:Nat->Nat->Int),vs=[.ref a,.ref p]/\CD C H a h s ns/\Oh H p h s ns ls F/\∀(r:Addr) (H':Hp),H r=none->An H H'->H' r=some (.lst ((Bp h (Aw F s ns)).map V.int))->Q (.ref r) H'
noncomputable def Rq (C P:Addr):Sp:=fun vs H Q _=>∃(a l:Addr) (h s:Nat) (ns:List Int) (ls:Ls),vs=[.ref a,.ref l]/\CD C H a h s ns/\H l=some (.lst (vls ls))/\DN h H ls/\ls.length<=60/\LT P H /\
 ∀(r:Addr) (F:Nat->Nat->Int) (H':Hp),Sm H H'->(BM P h H->An H H')->BM P h H'->H' r=some (.lst ((Bp h (Aw F s ns)).map V.int))->Bg h (AU ls) F->Q (.ref r) H'
theorem N7 (h:Nat):(ups h).Nodup:=pairwise_map.mpr ((pairwise_lt_range (n:=h)).imp fun a e=>by omega)
theorem Qo {h i:Nat} (pk:List Int) (hi:i < h):(Bp h pk)[i]?=some (if (i:Int)∈pk then 1 else 0):=by
 unfold Bp;rw [List.getElem?_map,List.getElem?_range hi];rfl
theorem DV (h:Nat) (pk:List Int):(Bp h pk).length=h:=by unfold Bp;rw [length_map,length_range]
theorem Bg.near {h:Nat} {L F L' F':Nat->Nat->Int} {c:Int} (g:Bg h L F) (g':Bg h L' F') (e:∀x y,x < h->y < h->L x y<=L' x y+c) {x y:Nat} (hx:x < h) (hy:y < h) (ne:y≠x):F x y<=F' x y+c:=by
 obtain ⟨bf,r⟩:=g x hx;obtain ⟨bf',r'⟩:=g' x hx;obtain ⟨rk,par⟩:=r.par
 have key:∀n w,rk w<=n->w < h->w≠x->F x w<=F' x w+c:=by
  intro n
  induction n with
  | zero =>
    intro w rn hw wx;obtain ⟨p,_,_,p1,_⟩:=par w hw wx;omega
  | succ n ih =>
    intro w rn hw wx;obtain ⟨p,hp,_,p1,p2,p3⟩:=par w hw wx;rw [BL (F x) hw] at p2 p3;by_cases d:p=x
    ·rw [p2 d];have a:=r'.low w hw wx;rw [BL (F' x) hw] at a;have:=e x w hx hw;omega
    ·have q:=p3 d;rw [BL (F x) hp] at q;rw [q];have a:=ih p (by omega) hp d;have b:=r'.stab p w hp hw d wx (fun e=>by rw [e] at p1;exact Nat.lt_irrefl _ p1);rw [BL (F' x) hp,BL (F' x) hw] at b;have:=e p w hp hw;omega
 exact key (rk y) y (Nat.le_refl _) hy ne
theorem Id {h:Nat} {L F:Nat->Nat->Int} (g:Bg h L F):∀(s:Nat) (left:List Int),left.Nodup->(∀z∈left,∃i:Nat,i < h/\z=(i:Int)) ->
 (∀z∈Aw F s left,z∈left)/\(Aw F s left).Nodup/\(Aw F s left).length=min s left.length/\∀z∈Aw F s left,∀y∈left,y ∉ Aw F s left->Ex F z y=false
 | 0,left,_,_=>by
   rw [CH];exact ⟨(fun z k=>nomatch k),nodup_nil,by simp,fun z k=>nomatch k⟩
 | s+1,left,nd,sub=>by
   by_cases e:left=[]
   ·rw [e,Da];exact ⟨(fun z k=>nomatch k),nodup_nil,by simp,fun z k=>nomatch k⟩
   ·obtain ⟨z1,z2⟩:=Ks g e sub;rw [CL F e];generalize (unb F left).getD 0 0=z at z1 z2 ⊢;obtain ⟨a,b,c,d⟩:=Id g s (left.erase z) (nd.erase z) fun y k=>sub y (mem_of_mem_erase k);have ln:(left.erase z).length=left.length - 1:=length_erase_of_mem z1;have l0:0 < left.length:=length_pos_of_mem z1;refine ⟨fun y k=>?_,?_,?_,fun y k w mw nw=>?_⟩
    ·rcases mem_cons.mp k with k | k
     ·rw [k];exact z1
     ·exact mem_of_mem_erase (a y k)
    ·exact nodup_cons.mpr ⟨fun k=>(List.Nodup.mem_erase_iff nd).mp (a z k) |>.1 rfl,b⟩
    ·rw [length_cons,c,ln];omega
    ·rw [mem_cons,not_or] at nw;rcases mem_cons.mp k with k | k
     ·rw [k];unfold CO at z2;rw [any_eq_false] at z2;exact Bool.eq_false_iff.mpr (z2 w mw)
     ·exact d y k w ((List.Nodup.mem_erase_iff nd).mpr ⟨nw.1,mw⟩) nw.2
noncomputable def HS (F:Nat->Nat->Int) (ns:List Int) (x y:Int):Int:=if ns.idxOf y < ns.idxOf x then max 1 (-((-(F x.toNat y.toNat - F y.toNat x.toNat)).fdiv 4)) else max 1 ((F x.toNat y.toNat - F y.toNat x.toNat).fdiv 4+1)
theorem EM {h:Nat} {F F':Nat->Nat->Int} (e:∀x y,x < h->y < h->(F x y < F y x↔F' x y < F' y x)):∀(s:Nat) (left:List Int),(∀z∈left,∃i:Nat,i < h/\z=(i:Int))->(∀l:List Int,(∀z∈l,z∈left)->(unb F l).getD 0 0∈l\/l=[])->Aw F' s left=Aw F s left
 | 0,left,_,_=>by rw [CH,CH]
 | s+1,left,sub,hd=>by
   by_cases n:left=[]
   ·rw [n,Da,Da]
   ·rw [CL F n,CL F' n]
    have u:unb F' left=unb F left:=filter_congr fun z mz=>by
     unfold CO
     congr 1
     have:∀o∈left,Ex F' z o=Ex F z o:=fun o mo=>by
      obtain ⟨i,hi,rfl⟩:=sub z mz;obtain ⟨j,hj,rfl⟩:=sub o mo;unfold Ex;rw [Int.toNat_natCast,Int.toNat_natCast];exact decide_eq_decide.mpr (e i j hi hj).symm
     rw [Bool.eq_iff_iff,any_eq_true,any_eq_true];exact ⟨fun ⟨o,mo,k⟩=>⟨o,mo,by rw [<- this o mo];exact k⟩,fun ⟨o,mo,k⟩=>⟨o,mo,by rw [this o mo];exact k⟩⟩
    rw [u];rw [EM e s (left.erase ((unb F left).getD 0 0)) (fun z m=>sub z (mem_of_mem_erase m)) fun l k=>hd l fun z m=>mem_of_mem_erase (k z m)]
noncomputable def EU (out:List Int) (x j:Nat):List (Int × Int):=((List.range j).filter fun y=>decide (out.getD y 0=0)).map fun y:Nat=>((x:Int),(y:Int))
noncomputable def CV (out:List Int) (i:Nat):List (Int × Int):=((List.range i).filter fun x=>decide (0 < out.getD x 0)).flatMap fun x:Nat=>EU out x out.length
theorem Fb (out:List Int) (x j:Nat):EU out x (j+1)=EU out x j++if out.getD j 0=0 then [((x:Int),(j:Int))] else []:=by
 unfold EU;rw [range_succ,filter_append,map_append];by_cases c:out.getD j 0=0
 ·rw [if_pos c,filter_cons_of_pos (by simpa using c)];rfl
 ·rw [if_neg c,filter_cons_of_neg (by simpa using c)];rfl
theorem CS (out:List Int) (i:Nat):CV out (i+1)=CV out i++if 0 < out.getD i 0 then EU out i out.length else []:=by
 unfold CV;rw [range_succ,filter_append,flatMap_append];by_cases c:0 < out.getD i 0
 ·rw [if_pos c,filter_cons_of_pos (by simpa using c)];simp
 ·rw [if_neg c,filter_cons_of_neg (by simpa using c)];rfl
noncomputable def BG (out:List Int):List (Int × Int):=CV out out.length
theorem Fv {h:Nat} {pk:List Int} {p:Int × Int}:p∈BG (Bp h pk)↔∃x y:Nat,x < h/\y < h/\p=((x:Int),(y:Int))/\(x:Int)∈pk/\(y:Int) ∉ pk:=by
 have ga:∀{i:Nat},i < h->(Bp h pk).getD i 0=if (i:Int)∈pk then 1 else 0:=fun {i} hi=>by rw [getD_eq_getElem?_getD,Qo pk hi];rfl
 unfold BG CV EU;rw [DV];simp only [mem_flatMap,mem_filter,mem_map,mem_range,decide_eq_true_eq]
 constructor
 ·rintro ⟨x,⟨hx,px⟩,y,⟨hy,py⟩,rfl⟩;rw [ga hx] at px;rw [ga hy] at py;refine ⟨x,y,hx,hy,rfl,?_,?_⟩
  ·by_cases c:(x:Int)∈pk
   ·exact c
   ·rw [if_neg c] at px;omega
  ·intro c;rw [if_pos c] at py;omega
 ·rintro ⟨x,y,hx,hy,rfl,mx,my⟩;exact ⟨x,⟨hx,by rw [ga hx,if_pos mx];decide⟩,y,⟨hy,by rw [ga hy,if_neg my]⟩,rfl⟩
theorem Go (out:List Int) (x j:Nat):(EU out x j).length<=j:=by
 unfold EU;rw [length_map];have:=length_filter_le (fun y=>decide (out.getD y 0=0)) (List.range j);rw [length_range] at this;exact this
theorem Ep (out:List Int):∀i,(CV out i).length<=i*out.length
 | 0=>Nat.zero_le _
 | i+1=>by
   rw [CS,length_append,Nat.succ_mul];have:=Ep out i;have:=Go out i out.length
   split
   ·omega
   ·show _+0<=_;omega
theorem Nj {K:PySem.W.Frag} {a:Addr} {zs:List V} {tt:TT} {te:TE} {σ:St} {H1:Hp} {Q:Addr->Hp->Prop} {n m:Nat} (hn:n=σ.length) (hm:m=σ.length+1) (hz:zs.length<=sizeLine) (Pv:Addr->Nat->List V->Hp->Prop)
 (h0:∀D,H1 D=none->Pv D 0 [] (upd H1 D (.lst []))) (hD:∀D i ys H,Pv D i ys H->H D=some (.lst ys)/\ys.length<=i) (hl:∀D i ys H,H1 D=none->Pv D i ys H->SqL K H a zs)
 (hs:∀D i x ys H T (K1:VK) (K2:Hp->Prop),H1 D=none->zs[i]?=some x->Pv D i ys H->H T=none->(∀y H5,H5 D=some (.lst ys)->Pv D (i+1) (ys++[y]) (upd H5 D (.lst (ys++[y])))->K1 y H5)->(∀H4,Pv D (i+1) ys H4->K2 H4) ->
  tt (σ++[some (.int (i:Int)),some x]) (upd H T (.tup [.int (i:Int),x])) fun b H4=>if b=true then te (σ++[some (.int (i:Int)),some x]) H4 K1 else K2 H4)
 (hd:∀D ys H,H1 D=none->Pv D zs.length ys H->Q D H) :
 ∀D,H1 D=none->∃W:Nat->Nat->List V->Hp->Prop,(∃m,W 0 m [] (upd H1 D (.lst [])))/\∀i k ys H2,W i k ys H2 ->
  H2 D=some (.lst ys)/\(((Ite K a).stop i H2/\Q D H2)\/((Ite K a).go i H2/\ys.length < sizeLine/\∀x H3,(Ite K a).yld i H2 x H3->∀os:St,os.length=2->MM K 2 (C2 (B0 n) (C2 (B0 m) Nf)) x (σ++os) H3 fun σ4 H4=>(∃os':St,σ4=σ++os'/\os'.length=2)/\tt σ4 H4 fun b H5=>if b=true then te σ4 H5 fun y H6=>H6 D=some (.lst ys)/\∃m',m' < k/\W (i+1) m' (ys++[y]) (upd H6 D (.lst (ys++[y])))
   else ∃m',m' < k/\W (i+1) m' ys H5)):=by
 intro D hDn;subst hn hm;refine ⟨fun i m ys H=>m=zs.length - i/\i<=zs.length/\Pv D i ys H,⟨zs.length,rfl,Nat.zero_le _,h0 D hDn⟩,?_⟩;rintro i m ys H2 ⟨rfl,hi,p⟩;obtain ⟨e,l⟩:=hD D i ys H2 p;have q:=hl D i ys H2 hDn p;refine ⟨e,?_⟩;by_cases hlt:i < zs.length
 ·refine .inr ⟨⟨zs,zs[i],q,by simp [hlt]⟩,Nat.lt_of_le_of_lt l (Nat.lt_of_lt_of_le hlt hz),fun x H3 y os ho=>?_⟩;obtain ⟨t,w,rfl,ht,rfl,y⟩:=y;have q5:=hs D i w ys _ t (fun y H6=>H6 D=some (.lst ys)/\∃m',m' < zs.length - i/\m'=zs.length - (i+1)/\i+1<=zs.length/\Pv D (i+1) (ys++[y]) (upd H6 D (.lst (ys++[y])))) (fun H5=>∃m',m' < zs.length - i/\m'=zs.length - (i+1)/\i+1<=zs.length/\Pv D (i+1) ys H5) hDn (y zs q) p ht (fun y H5 h5 p5=>⟨h5,zs.length - (i+1),by omega,rfl,hlt,p5⟩) fun H4 p4=>⟨zs.length - (i+1),by omega,rfl,hlt,p4⟩
  match os,ho with
  | [o1,o2],_ =>
    have e2:((σ++[o1,o2]).set σ.length (some (.int (i:Int)))).set (σ.length+1) (some w)=σ++[some (.int (i:Int)),some w]:=by
     rw [set_append_right _ _ (Nat.le_refl _),Nat.sub_self,set_append_right _ _ (Nat.le_succ _)];rw [show (List.length σ+1) - List.length σ=1 by omega];rfl
    refine ⟨t,[.int (i:Int),w],rfl,SqT.of Ab,rfl,.int (i:Int),[w],rfl,w,[],rfl,rfl,?_⟩;refine ⟨⟨[some (.int (i:Int)),some w],e2,rfl⟩,?_⟩;rw [e2];exact q5
 ·have ei:i=zs.length:=by omega
  subst ei;exact .inl ⟨⟨zs,q,Nat.le_refl _⟩,hd D ys H2 hDn p⟩
noncomputable def IsM (C:Addr) (H:Hp) (g a:Addr):Prop:=∃dx,H g=some (.ins C dx [("way",.ref a)])
theorem IsM.same {C:Addr} {H H':Hp} {g a:Addr} (s:An H H') (m:IsM C H g a):IsM C H' g a:=let ⟨dx,h⟩:=m;⟨dx,s _ _ h⟩
theorem IsM.sm {C:Addr} {H H':Hp} {g a:Addr} (s:Sm H H') (m:IsM C H g a):IsM C H' g a:=let ⟨dx,h⟩:=m;⟨dx,s.keep _ _ h rfl⟩
theorem S0 (x:V):CY "way" x []=([("way",x)]:List (Str × V)):=rfl
noncomputable def Jm (K:PySem.W.Frag):Sp:=fun vs H Q _=>∃(g C dx a:Addr),vs=[.ref g,.ref a]/\H g=some (.ins C dx [])/\Cls K C/\Ce K C "way"/\∀H':Hp,An (off H g) H'->H' g=some (.ins C dx [("way",.ref a)])->Q .non H'
noncomputable def OY (C:Addr):Sp:=fun vs H Q _=>∃(a:Addr) (h s:Nat) (xs:List Int) (x y:Int),vs=[.ref a,.int x,.int y]/\IsP C H a h s xs/\x∈xs/\y∈xs/\Q (.bl (decide (xs.idxOf x < xs.idxOf y))) H
noncomputable def Ev (ns:List Int) (x y u v:Int):Int:=if ns.idxOf y < ns.idxOf x then max 1 (-((-(u - v)).fdiv 4)) else max 1 ((u - v).fdiv 4+1)
noncomputable def QI (M C:Addr):Sp:=fun vs H Q _=>∃(g a:Addr) (h s:Nat) (ns:List Int) (x y u v:Int),vs=[.ref g,.int x,.int y,.int u,.int v]/\IsM M H g a/\IsP C H a h s ns/\x∈ns/\y∈ns/\Q (.int (Ev ns x y u v)) H
noncomputable def M6 (M C:Addr):Sp:=fun vs H Q _=>∃(g a l:Addr) (h s:Nat) (ns:List Int) (ls:Ls),vs=[.ref g,.ref l]/\IsM M H g a/\CD C H a h s ns/\H l=some (.lst (vls ls))/\DN h H ls/\ls.length<=60 /\
 ∀(b:Addr) (bs:List Addr) (H':Hp),An H H'->H' b=some (.lst (bs.map V.ref))->Be H' bs h (AU ls)->Q (.ref b) H'
abbrev Pq:=List (Addr × Int × Int)
noncomputable def vpq (ps:Pq):List V:=ps.map fun q=>.ref q.1
noncomputable def CQ (H:Hp) (ps:Pq):Prop:=∀q∈ps,H q.1=some (.tup [.int q.2.1,.int q.2.2])
theorem CQ.same {H H':Hp} {ps:Pq} (s:An H H') (g:CQ H ps):CQ H' ps:=fun q m=>s _ _ (g q m)
theorem CQ.upd {H:Hp} {ps:Pq} {l:Addr} {xs:List V} {o:HO} (e:H l=some (.lst xs)) (g:CQ H ps):CQ (L2.upd H l o) ps:=fun q m=>by
 rw [Ak (Du (g q m) e (fun z=>by cases z))];exact g q m
theorem Gx (ps:Pq):(vpq ps).length=ps.length:=length_map _
noncomputable def M5:Sp:=fun vs H Q _=>∃(o:Addr) (out:List Int),vs=[.ref o]/\H o=some (.lst (out.map V.int))/\out.length<=12/\∀(l:Addr) (ps:Pq) (H':Hp),H l=none->An H H'->H' l=some (.lst (vpq ps))->CQ H' ps->ps.map (·.2)=BG out->Q (.ref l) H'
theorem EW.on {H H':Hp} {t:Addr} {h x:Nat} {L:Nat->Nat->Int} {be:List Int} (s:∀b u,H b=some u->IV u=true->H' b=some u) (g:EW H t h x L be):EW H' t h x L be:=by
 obtain ⟨b,f,bf,h1,h2,h3,h4⟩:=g.is;exact ⟨b,f,bf,s _ _ h1 rfl,s _ _ h2 rfl,s _ _ h3 rfl,h4⟩
theorem NP {H H':Hp} {D:Addr} (s:∀b u,H b=some u->IV u=true->H' b=some u):∀b u,off H D b=some u->IV u=true->off H' D b=some u:=fun b u e n=>by
 have ne:b≠D:=fun z=>by rw [z,JY] at e;cases e
 exact CP (s _ _ (F5 H D _ _ e) n) ne
theorem ID {h s:Nat} {L F:Nat->Nat->Int} {ns:List Int} (g:Bg h L F) (pm:ns.Perm (ups h)) (s1:1<=s) (sh:s < h):BG (Bp h (Aw F s ns))≠[]:=by
 have nd:ns.Nodup:=(pm.nodup_iff).mpr (N7 h)
 have sub:∀w∈ns,∃i:Nat,i < h/\w=(i:Int):=fun w m=>by
  obtain ⟨i,im,e⟩:=mem_map.mp (pm.mem_iff.mp m);exact ⟨i,mem_range.mp im,e.symm⟩
 obtain ⟨a1,a2,a3,a4⟩:=Id g s ns nd sub;have nl:ns.length=h:=by rw [pm.length_eq];unfold ups;rw [length_map,length_range]
 have pl:(Aw F s ns).length=s:=by rw [a3,nl];omega
 obtain ⟨x,mx⟩:∃x,x∈Aw F s ns:=exists_mem_of_length_pos (by omega);obtain ⟨i,hi,rfl⟩:=sub x (a1 x mx)
 obtain ⟨y,my,ny⟩:∃y∈ns,y ∉ Aw F s ns:=Decidable.byContradiction fun no=>by
  have:=BW (xs:=ns) (ys:=Aw F s ns) nd fun z mz=>Decidable.byContradiction fun nz=>no ⟨z,mz,nz⟩;omega
 obtain ⟨j,hj,rfl⟩:=sub y my;exact ne_nil_of_mem (Fv.mpr ⟨i,j,hi,hj,rfl,mx,ny⟩)
theorem Jl {z d:Int} (z0:0<=z) (h:1<=d) (z1:z < 10 ^ 31):0<=z.fdiv d/\z.fdiv d < 10 ^ 31:=by
 rw [Int.fdiv_eq_ediv_of_nonneg z (by omega)];exact ⟨Int.ediv_nonneg z0 (by omega),Int.lt_of_le_of_lt (Int.ediv_le_self d z0) z1⟩
noncomputable def Pk:Sp:=fun vs H Q _=>∃c b:Int,vs=[.int c,.int b]/\Sz 200 c/\0<=b/\b<=100/\∀z:Int,0<=z->z < 10 ^ 31->Q (.int z) H
abbrev Ds:=List (List Int × Int)
noncomputable def Hr (ls:Ls):Ds:=ls.map fun q=>(q.2.2.1,q.2.2.2)
noncomputable def Cj (H:Hp) (ls:Ls):Prop:=∀q∈ls,H q.1=some (.tup [.ref q.2.1,.int q.2.2.2])/\H q.2.1=some (.tup (q.2.2.1.map V.int))
theorem Cj.same {H H':Hp} {ls:Ls} (s:An H H') (g:Cj H ls):Cj H' ls:=fun q m=>⟨s _ _ (g q m).1,s _ _ (g q m).2⟩
theorem Cj.append {H:Hp} {a b:Ls} (g:Cj H a) (k:Cj H b):Cj H (a++b):=fun q m=>(mem_append.mp m).elim (g q) (k q)
theorem Cj.upd {H:Hp} {ls:Ls} {l:Addr} {xs:List V} {o:HO} (e:H l=some (.lst xs)) (g:Cj H ls):Cj (upd H l o) ls:=fun q m=>by
 refine ⟨?_,?_⟩
 ·rw [Ak (Du (g q m).1 e (fun z=>by cases z))];exact (g q m).1
 ·rw [Ak (Du (g q m).2 e (fun z=>by cases z))];exact (g q m).2
theorem LC (a b:Ls):vls (a++b)=vls a++vls b:=map_append ..
theorem JG (a b:Ls):Hr (a++b)=Hr a++Hr b:=map_append ..
theorem JZ:∀{a b:List Int},HT.lexLt a b=true->HT.lexLt b a=false
 | [],[],h=>by cases h
 | [],_ :: _,_=>rfl
 | _ :: _,[],h=>by cases h
 | x :: a,y :: b,h=>by
   rw [HT.lexLt_cons] at h ⊢;by_cases c:x=y
   ·rw [if_pos c] at h;rw [if_pos c.symm];exact JZ h
   ·rw [if_neg c] at h;rw [if_neg (Ne.symm c)];have:=of_decide_eq_true h;exact decide_eq_false (by omega)
theorem Mt:∀{a b:List Int},HT.lexLt b a=false->a≠b->HT.lexLt a b=true
 | [],[],_,n=>absurd rfl n
 | [],_ :: _,_,_=>rfl
 | _ :: _,[],h,_=>by cases h
 | x :: a,y :: b,h,n=>by
   rw [HT.lexLt_cons] at h ⊢;by_cases c:x=y
   ·rw [if_pos c.symm] at h;rw [if_pos c];exact Mt h fun e=>n (by rw [c,e])
   ·rw [if_neg (Ne.symm c)] at h;rw [if_neg c];have:=of_decide_eq_false h;exact decide_eq_true (by omega)
noncomputable def tot:Ds->List Int->Int
 | [],_=>0
 | q :: r,ts=>(if q.1=ts then q.2 else 0)+tot r ts
theorem ED (ts:List Int):∀a b:Ds,tot (a++b) ts=tot a ts+tot b ts
 | [],b=>by show tot b ts=0+tot b ts;omega
 | q :: a,b=>by
   show (if q.1=ts then q.2 else 0)+tot (a++b) ts=(if q.1=ts then q.2 else 0)+tot a ts+tot b ts;rw [ED ts a b];omega
def Pos (ds:Ds):Prop:=∀q∈ds,1<=q.2
theorem GW {ts:List Int}:∀{ds:Ds},Pos ds->0<=tot ds ts
 | [],_=>Int.le_refl _
 | q :: r,h=>by
   have h1:=h q (mem_cons_self ..);have h2:=GW (ts:=ts) (ds:=r) fun p m=>h p (mem_cons_of_mem _ m);show 0<=(if q.1=ts then q.2 else 0)+tot r ts
   split <;> omega
theorem Gv {ts:List Int}:∀{ds:Ds},ts ∉ ds.map (·.1)->tot ds ts=0
 | [],_=>rfl
 | q :: r,h=>by
   rw [map_cons,mem_cons,not_or] at h;show (if q.1=ts then q.2 else 0)+tot r ts=0;rw [if_neg (fun e=>h.1 e.symm),Gv h.2];rfl
theorem IU {ts:List Int}:∀{ds:Ds},Pos ds->ts∈ds.map (·.1)->0 < tot ds ts
 | [],_,m=>nomatch m
 | q :: r,h,m=>by
   have h1:=h q (mem_cons_self ..);have hr:Pos r:=fun p m=>h p (mem_cons_of_mem _ m);have h2:=GW (ts:=ts) hr;show 0 < (if q.1=ts then q.2 else 0)+tot r ts;by_cases c:q.1=ts
   ·rw [if_pos c];omega
   ·rw [if_neg c];rcases mem_cons.mp m with e | e
    ·exact absurd e.symm c
    ·have:=IU hr e;omega
structure HK (ds out:Ds):Prop where
 srt:out.Pairwise (fun x y=>HT.lexLt x.1 y.1=true)
 mem:∀ts n,(ts,n)∈out↔n=tot ds ts/\0 < n
theorem Mn {a b:List Int} (h:(a.map Sum.inl:List Key)=b.map Sum.inl):a=b:=by
 have e:=congrArg (List.map kV) h;rw [G6,G6] at e
 have:∀{a b:List Int},a.map V.int=b.map V.int->a=b:=by
  intro a
  induction a with
  | nil=>intro b h;cases b with | nil=>rfl | cons _ _=>cases h
  | cons x a ih =>
    intro b h
    cases b with
    | nil=>cases h
    | cons y b =>
      injection h with h1 h2
      injection h1 with h1
      rw [h1,ih h2]
 exact this e
theorem Iz {α β:Type} {f:α->β}:∀{l:List α},(l.map f).Nodup->l.Nodup
 | [],_=>nodup_nil
 | x :: l,h=>by
   rw [map_cons,nodup_cons] at h;rw [nodup_cons];exact ⟨fun m=>h.1 (mem_map.mpr ⟨x,m,rfl⟩),Iz h.2⟩
structure VD (kvs:List (List Key × V)):Prop where
 nd:(kvs.map (·.1)).Nodup
 all:∀q∈kvs,∃(ts:List Int) (n:Int),q=(ts.map Sum.inl,.int n)
theorem Ip {κ:Type} [DecidableEq κ] {kvs:List (κ × V)} {k:κ} {v w:V} (h:Bl kvs k=some w):(BY kvs k v).map (·.1)=kvs.map (·.1):=by
 unfold BY;rw [C5,h,if_pos (show (some w).isSome=true from rfl),map_map];refine map_congr_left fun q _=>?_;show (if q.1=k then (q.1,v) else q).1=q.1
 split <;> rfl
theorem VD.put {kvs:List (List Key × V)} (h:VD kvs) (ts:List Int) (n:Int):VD (BY kvs (ts.map Sum.inl) (.int n)):=by
 refine ⟨?_,fun q m=>?_⟩
 ·cases e:Bl kvs (ts.map Sum.inl:List Key) with
  | none=>exact Mx _ h.nd e
  | some w=>rw [Ip e];exact h.nd
 ·unfold BY at m
  split at m
  ·obtain ⟨p,pm,rfl⟩:=mem_map.mp m
   split
   ·rename_i e
    exact ⟨ts,n,by rw [e]⟩
   ·exact h.all p pm
  ·rcases mem_append.mp m with m | m
   ·exact h.all q m
   ·exact ⟨ts,n,mem_singleton.mp m⟩
theorem VD.val {kvs:List (List Key × V)} (h:VD kvs) {k:List Key} {v:V} (e:Bl kvs k=some v):∃n:Int,v=.int n:=by
 unfold Bl at e
 cases c:kvs.find? fun kv=>decide (kv.1=k) with
 | none=>rw [c] at e;cases e
 | some q =>
   rw [c] at e;obtain ⟨ts,n,rfl⟩:=h.all q (mem_of_find?_eq_some c);exact ⟨n,(Option.some.inj e).symm⟩
theorem VD.keys {kvs:List (List Key × V)} (h:VD kvs):∃ks:List (List Int),kvs.map (·.1)=ks.map (List.map Sum.inl)/\ks.length=kvs.length/\ks.Nodup/\∀ts,ts∈ks↔∃n:Int,Bl kvs (ts.map Sum.inl)=some (.int n):=by
 have key:∀{l:List (List Key × V)},(∀q∈l,q∈kvs)->∃ks:List (List Int),l.map (·.1)=ks.map (List.map Sum.inl)/\ks.length=l.length:=by
  intro l
  induction l with
  | nil=>intro _;exact ⟨[],rfl,rfl⟩
  | cons q r ih =>
    intro sub;obtain ⟨ks,e1,e2⟩:=ih fun p m=>sub p (mem_cons_of_mem _ m);obtain ⟨ts,n,eq⟩:=h.all q (sub q (mem_cons_self ..));exact ⟨ts :: ks,by rw [map_cons,map_cons,e1,eq],by rw [length_cons,length_cons,e2]⟩
 obtain ⟨ks,e1,e2⟩:=key fun q m=>m
 have mm:∀ts,ts∈ks↔(ts.map Sum.inl:List Key)∈kvs.map (·.1):=fun ts=>by
  rw [e1]
  constructor
  ·intro m;exact mem_map.mpr ⟨ts,m,rfl⟩
  ·intro m;obtain ⟨us,um,e⟩:=mem_map.mp m;rw [<- Mn e];exact um
 refine ⟨ks,e1,e2,?_,fun ts=>⟨fun m=>?_,fun ⟨n,e⟩=>(mm ts).mpr (Qa e)⟩⟩
 ·have nd:=h.nd;rw [e1] at nd;exact Iz nd
 ·cases c:Bl kvs (ts.map Sum.inl:List Key) with
  | none=>exact absurd ((mm ts).mp m) (GM c)
  | some v =>
    obtain ⟨n,rfl⟩:=h.val c;exact ⟨n,rfl⟩
structure DictOf (ds:Ds) (kvs:List (List Key × V)):Prop where
 vd:VD kvs
 val:∀ts:List Int,Bl kvs (ts.map Sum.inl)=if ts∈ds.map (·.1) then some (.int (tot ds ts)) else none
noncomputable def O1 (kvs:List (List Key × V)) (ts:List Int):Int:=match Bl kvs (ts.map Sum.inl:List Key) with
 | some (.int n)=>n
 | _=>0
theorem DictOf.put {ds:Ds} {kvs:List (List Key × V)} (h:DictOf ds kvs) (ts:List Int) (n:Int):DictOf (ds++[(ts,n)]) (BY kvs (ts.map Sum.inl) (.int (tot ds ts+n))):=by
 refine ⟨h.vd.put ts _,fun us=>?_⟩;rw [Pe,h.val us,ED,map_append];show (if (us.map Sum.inl:List Key)=ts.map Sum.inl then _ else _)=if us∈ds.map (·.1)++[ts] then some (V.int (tot ds us+((if ts=us then n else 0)+0))) else none;by_cases c:us=ts
 ·subst c;rw [if_pos rfl,if_pos (by simp),if_pos rfl];rw [Int.add_zero]
 ·rw [if_neg (fun e=>c (Mn e)),if_neg (Ne.symm c)];by_cases m:us∈ds.map (·.1)
  ·rw [if_pos m,if_pos (by simp;left;simpa using m)];rw [Int.add_zero,Int.add_zero]
  ·rw [if_neg m,if_neg (by simp;exact ⟨by simpa using m,c⟩)]
theorem DQ {α:Type} [DecidableEq α]:∀{l p:List α},l.Nodup->(∀x∈l,x∈p)->l.length<=p.length
 | [],_,_,_=>Nat.zero_le _
 | x :: l,p,n,s=>by
   rw [nodup_cons] at n;have m:=s x (mem_cons_self ..);have ih:=DQ (p:=p.erase x) n.2 fun y hy=>(mem_erase_of_ne (fun e:y=x=>n.1 (by rw [<- e];exact hy))).mpr (s y (mem_cons_of_mem _ hy));rw [length_erase_of_mem m] at ih;have:=length_pos_of_mem m;rw [length_cons];omega
theorem DictOf.len {ds:Ds} {kvs:List (List Key × V)} (h:DictOf ds kvs) {p:List (List Int)} (s:∀q∈ds,q.1∈p):kvs.length<=p.length:=by
 obtain ⟨ks,_,e2,nd,mm⟩:=h.vd.keys;rw [<- e2];refine DQ nd fun ts m=>?_;obtain ⟨n,e⟩:=(mm ts).mp m;rw [h.val ts] at e;by_cases c:ts∈ds.map (·.1)
 ·obtain ⟨q,qm,rfl⟩:=mem_map.mp c;exact s q qm
 ·rw [if_neg c] at e;cases e
theorem DictOf.sheet {ds out:Ds} {kvs:List (List Key × V)} (h:DictOf ds kvs) (p:Pos ds) (srt:out.Pairwise (fun x y=>HT.lexLt x.1 y.1=true)) (mem:∀ts n,(ts,n)∈out↔Bl kvs (ts.map Sum.inl)=some (.int n)/\0 < n):HK ds out:=by
 refine ⟨srt,fun ts n=>?_⟩;rw [mem,h.val];by_cases c:ts∈ds.map (·.1)
 ·rw [if_pos c]
  constructor
  ·rintro ⟨e,z⟩;injection e with e;injection e with e;exact ⟨e.symm,z⟩
  ·rintro ⟨e,z⟩;exact ⟨by rw [e],z⟩
 ·rw [if_neg c,Gv c]
  constructor
  ·rintro ⟨e,_⟩;cases e
  ·rintro ⟨e,z⟩;omega
theorem Mc {ds:Ds} {kvs:List (List Key × V)} (h:DictOf ds kvs) (ts:List Int):(Bl kvs (ts.map Sum.inl:List Key)).getD (.int 0)=.int (tot ds ts):=by
 rw [h.val ts];by_cases c:ts∈ds.map (·.1)
 ·rw [if_pos c];rfl
 ·rw [if_neg c,Gv c];rfl
theorem Ku {n:Nat} (h:n<=900):n<=sizeLine:=Nat.le_of_lt (Av (by omega))
noncomputable def Cd (hs:List Int):Int:=(hs.map fun h=>(1:Int)*2 ^ h.toNat).sum
theorem Gq:∀{hs:List Int} {a n:Nat},hs.Pairwise (· < ·)->(∀h∈hs,(a:Int)<=h/\h < (n:Int))->a<=n->0<=Cd hs/\Cd hs<=2 ^ n - 2 ^ a
 | [],a,n,_,_,l=>by
   have:(2:Int) ^ a<=2 ^ n:=by
    have:=Nat.pow_le_pow_right (show 0 < 2 by decide) l
    exact_mod_cast this
   exact ⟨Int.le_refl _,by show (0:Int)<=_;omega⟩
 | h :: hs,a,n,p,k,l=>by
   rw [pairwise_cons] at p;obtain ⟨k1,k2⟩:=k h (mem_cons_self ..);obtain ⟨j,rfl⟩:∃j:Nat,h=(j:Int):=⟨h.toNat,by omega⟩;have ih:=Gq (hs:=hs) (a:=j+1) (n:=n) p.2 (fun x m=>⟨by have:=p.1 x m;omega,(k x (mem_cons_of_mem _ m)).2⟩) (by omega);show 0<=1*2 ^ (j:Int).toNat+Cd hs/\1*2 ^ (j:Int).toNat+Cd hs<=_;rw [Int.toNat_natCast,Int.one_mul];have e:(2:Int) ^ (j+1)=2 ^ j*2:=Int.pow_succ ..
   have le:(2:Int) ^ a<=2 ^ j:=by
    have:=Nat.pow_le_pow_right (show 0 < 2 by decide) (show a<=j by omega)
    exact_mod_cast this
   have pos:(0:Int) < 2 ^ j:=Int.pow_pos (by decide);omega
theorem Pi {hs:List Int} {n:Nat} (p:hs.Pairwise (· < ·)) (k:∀h∈hs,0<=h/\h < (n:Int)) (ne:hs≠[]):0 < Cd hs/\Cd hs < 2 ^ n:=by
 have a:=Gq (a:=0) p k (Nat.zero_le _);have e:(2:Int) ^ 0=1:=rfl;refine ⟨?_,by omega⟩
 cases hs with
 | nil=>exact absurd rfl ne
 | cons h hs =>
   obtain ⟨k1,k2⟩:=k h (mem_cons_self ..);rw [pairwise_cons] at p;have b:=Gq (a:=0) p.2 (fun x m=>k x (mem_cons_of_mem _ m)) (Nat.zero_le _);show 0 < 1*2 ^ h.toNat+Cd hs;have:(0:Int) < 2 ^ h.toNat:=Int.pow_pos (by decide);omega
theorem Q7 {t:TT} {σ:St} {H:Hp} {Q:Bool->Hp->Prop} (b:Bool) (h:∀R:Bool->Hp->Prop,(∀H',An H H'->R b H')->t σ H R) (q:∀H',An H H'->Q b H'):t σ H Q:=h Q q
theorem Jr {t:TT} {σ:St} {H:Hp} {Q:Bool->Hp->Prop} (b:Bool) (h:∀R:Bool->Hp->Prop,R b H->t σ H R) (q:Q b H):t σ H Q:=h Q q
noncomputable def Ra:Sp:=fun vs H Q _=>∃(l:Addr) (hs:List Int),vs=[.ref l]/\H l=some (.lst (hs.map V.int))/\hs.length<=100/\(∀h∈hs,0<=h/\h < 64)/\∀H':Hp,An H H'->Q (.int (Cd hs)) H'
theorem KO {κ:Type} [DecidableEq κ] {kvs:List (κ × V)} {k:κ} {v:V} {q:κ × V} (h:q∈BY kvs k v):q=(k,v)\/q∈kvs:=by
 unfold BY at h
 split at h
 ·obtain ⟨p,pm,rfl⟩:=mem_map.mp h;by_cases c:p.1=k
  ·rw [if_pos c,c];exact .inl rfl
  ·rw [if_neg c];exact .inr pm
 ·rcases mem_append.mp h with m | m
  ·exact .inr m
  ·exact .inl (mem_singleton.mp m)
theorem OH {κ:Type} [DecidableEq κ] {kvs:List (κ × V)} {k:κ} {v:V} (h:(kvs.map (·.1)).Nodup):((BY kvs k v).map (·.1)).Nodup:=by
 cases e:Bl kvs k with
 | none=>exact Mx _ h e
 | some w=>rw [Ip e];exact h
theorem Ff {κ:Type} [DecidableEq κ] {kvs:List (κ × V)} {k:κ} {v:V} (h:Bl kvs k=some v):(k,v)∈kvs:=by
 unfold Bl at h
 cases c:kvs.find? fun kv=>decide (kv.1=k) with
 | none=>rw [c] at h;cases h
 | some q =>
   rw [c] at h;have e:q.1=k:=of_decide_eq_true (List.find?_some (p:=fun kv:κ × V=>decide (kv.1=k)) c);have f:q.2=v:=Option.some.inj h;rw [<- e,<- f];exact mem_of_find?_eq_some c
noncomputable def Kp (n i:Nat) (w:Int) (hs:List Int):Prop:=hs≠[]/\hs.Pairwise (· < ·)/\∀h∈hs,0<=h/\h < (n:Int)/\(w=1\/w=2->h < (i:Int))
noncomputable def BO (J:Hp) (l:Addr) (n i:Nat) (w:Int) (kvs:List (Key × V)):Prop:=(kvs.map (·.1)).Nodup/\∀q∈kvs,∃(z:Int) (a:Addr) (hs:List Int),q=(Sum.inl z,.ref a)/\J a=some (.lst (hs.map V.int))/\a≠l/\Kp n i w hs
theorem BO.same {J J':Hp} {l:Addr} {n i:Nat} {w:Int} {kvs:List (Key × V)} (s:An J J') (h:BO J l n i w kvs):BO J' l n i w kvs:=⟨h.1,fun q m=>by
 obtain ⟨z,a,hs,e,h1,h2,h3⟩:=h.2 q m;exact ⟨z,a,hs,e,s _ _ h1,h2,h3⟩⟩
theorem BO.up {J:Hp} {l:Addr} {n i:Nat} {w:Int} {kvs:List (Key × V)} (h:BO J l n i w kvs):BO J l n (i+1) w kvs:=⟨h.1,fun q m=>by
 obtain ⟨z,a,hs,e,h1,h2,h3,h4,h5⟩:=h.2 q m;exact ⟨z,a,hs,e,h1,h2,h3,h4,fun x xm=>⟨(h5 x xm).1,(h5 x xm).2.1,fun k=>by have:=(h5 x xm).2.2 k;omega⟩⟩⟩
theorem BO.off {J:Hp} {l:Addr} {n i:Nat} {w:Int} {kvs:List (Key × V)} {o:HO} (h:BO J l n i w kvs):BO (upd J l o) l n i w kvs:=⟨h.1,fun q m=>by
 obtain ⟨z,a,hs,e,h1,h2,h3⟩:=h.2 q m;exact ⟨z,a,hs,e,by rw [Ak h2];exact h1,h2,h3⟩⟩
theorem BO.put {J:Hp} {l d a:Addr} {n i:Nat} {w z:Int} {kvs ks:List (Key × V)} {hs:List Int} (h:BO J l n i w kvs) (hd:J d=some (.dK ks)) (ha:J a=some (.lst (hs.map V.int))) (al:a≠l) (t:Kp n i w hs):BO (upd J d (.dK (BY kvs (Sum.inl z) (.ref a)))) l n i w (BY kvs (Sum.inl z) (.ref a)):=by
 have keep:∀{b:Addr} {xs:List V},J b=some (.lst xs)->(upd J d (.dK (BY kvs (Sum.inl z) (.ref a)))) b=some (.lst xs):=fun {b xs} e=>by rw [Ak (Du e hd (fun z=>by cases z))];exact e
 refine ⟨OH h.1,fun q m=>?_⟩;rcases KO m with rfl | m
 ·exact ⟨z,a,hs,rfl,keep ha,al,t⟩
 ·obtain ⟨z',a',hs',e,h1,h2,h3⟩:=h.2 q m;exact ⟨z',a',hs',e,keep h1,h2,h3⟩
theorem BO.keys {J:Hp} {l:Addr} {n i:Nat} {w:Int} {kvs:List (Key × V)} (h:BO J l n i w kvs):∃ns:List Int,kvs.map (·.1)=ns.map Sum.inl/\ns.length=kvs.length/\∀z∈ns,∃(a:Addr) (hs:List Int),Bl kvs (Sum.inl z)=some (.ref a)/\J a=some (.lst (hs.map V.int))/\Kp n i w hs:=by
 have key:∀{r:List (Key × V)},(∀q∈r,q∈kvs)->∃ns:List Int,r.map (·.1)=ns.map Sum.inl/\ns.length=r.length:=by
  intro r
  induction r with
  | nil=>intro _;exact ⟨[],rfl,rfl⟩
  | cons q r ih =>
    intro sub;obtain ⟨ns,e1,e2⟩:=ih fun p m=>sub p (mem_cons_of_mem _ m);obtain ⟨z,a,hs,eq,_⟩:=h.2 q (sub q (mem_cons_self ..));exact ⟨z :: ns,by rw [map_cons,map_cons,e1,eq],by rw [length_cons,length_cons,e2]⟩
 obtain ⟨ns,e1,e2⟩:=key fun q m=>m;refine ⟨ns,e1,e2,fun z m=>?_⟩;have zm:(Sum.inl z:Key)∈kvs.map (·.1):=by rw [e1];exact mem_map.mpr ⟨z,m,rfl⟩
 cases c:Bl kvs (Sum.inl z:Key) with
 | none=>exact absurd zm (GM c)
 | some v =>
   obtain ⟨z',a,hs,eq,h1,_,h3⟩:=h.2 _ (Ff c);injection eq with eq1 eq2
   exact ⟨a,hs,by rw [eq2],h1,h3⟩
noncomputable def OkT (n:Nat) (ts:List Int):Prop:=(∀x∈ts,0 < x/\x < 2 ^ n)/\ts.length<=12
theorem EX:∀(n:Nat) {t:Int},0<=t->t < 2 ^ n->t=A1 n (bit t)
 | 0,t,h0,h1=>by
   have:(2:Int) ^ 0=1:=rfl;show t=0;omega
 | n+1,t,h0,h1=>by
   have e:(2:Int) ^ (n+1)=2 ^ n*2:=Int.pow_succ ..;have ih:=EX n (t:=t / 2) (by omega) (by omega);show t=(if bit t 0=true then 1 else 0)+2*A1 n (fun i=>bit t (i+1));rw [show A1 n (fun i=>bit t (i+1))=A1 n (bit (t / 2)) from AS n fun i _=>(DU t i).symm,<- ih,DW];by_cases c:t % 2=1
   ·rw [if_pos (decide_eq_true c)];omega
   ·rw [if_neg (by rw [decide_eq_false c];decide)];omega
theorem Py (j:Nat):bit 0 j=false:=DJ (Int.le_refl _) (Int.pow_pos (by decide))
theorem EZ:∀(n:Nat) (f:Nat->Bool) (k:Nat),k < n->f k=false->A1 n (fun i=>f i || decide (k=i))=A1 n f+2 ^ k
 | 0,_,_,h,_=>by omega
 | n+1,f,k,h,e=>by
   rw [Cu,Cu];by_cases c:k=n
   ·subst c;rw [e,decide_eq_true rfl,if_pos (show (false || true)=true from rfl),if_neg (by decide)];rw [AS k (g:=f) fun i hi=>by rw [decide_eq_false (show ¬ k=i by omega),Bool.or_false]];omega
   ·rw [EZ n f k (by omega) e,decide_eq_false c,Bool.or_false];omega
noncomputable def Oz:Sp:=fun vs H Q _=>∃c h:Int,vs=[.int c,.int h]/\Sz 200 c/\1<=h/\h<=12/\∀(l:Addr) (ns:List Int) (H':Hp),An H H'->H' l=some (.lst (ns.map V.int))->ns.Perm (ups h.toNat)->Q (.ref l) H'
theorem Ju {a b c:List Int} {k:Nat} {y:Int} (h:b[k]?=some y) (p:(a++b).Perm c):(a++[y]++b.eraseIdx k).Perm c:=by
 rw [append_assoc];exact (List.Perm.append_left a (Kr h)).trans p
noncomputable def JQ (ts:List Int):Prop:=ts.Pairwise fun a b=>∀j,¬ (bit a j=true/\bit b j=true)
theorem O2 {h:Nat} {a:Int} (a0:0<=a) (a1:a < 2 ^ h) {j:Nat} (b:bit a j=true):j < h:=by
 rcases (by omega:j < h\/h<=j) with c | c
 ·exact c
 ·have:(2:Int) ^ h<=2 ^ j:=by
   have:=Nat.pow_le_pow_right (show 0 < 2 by decide) c
   exact_mod_cast this
  rw [DJ a0 (by omega)] at b
  cases b
theorem JK:∀(n:Nat) (f g:Nat->Bool),(∀j,¬ (f j=true/\g j=true))->A1 n (fun j=>f j || g j)=A1 n f+A1 n g
 | 0,_,_,_=>rfl
 | n+1,f,g,h=>by
   show (if (f 0 || g 0)=true then (1:Int) else 0)+2*A1 n (fun i=>f (i+1) || g (i+1))=((if f 0=true then 1 else 0)+2*A1 n fun i=>f (i+1))+((if g 0=true then 1 else 0)+2*A1 n fun i=>g (i+1));rw [JK n _ _ fun j=>h (j+1)];have:=h 0
   cases c:f 0 <;> cases d:g 0
   ·show (0:Int)+_=0+_+(0+_);omega
   ·show (1:Int)+_=0+_+(1+_);omega
   ·show (1:Int)+_=1+_+(0+_);omega
   ·exact absurd ⟨c,d⟩ this
theorem NM {h:Nat} {a b:Int} (a0:0<=a) (a1:a < 2 ^ h) (b0:0<=b) (b1:b < 2 ^ h) (n:∀j,¬ (bit a j=true/\bit b j=true)):a+b < 2 ^ h/\∀j,bit (a+b) j=(bit a j || bit b j):=by
 have e:a+b=A1 h (fun j=>bit a j || bit b j):=by
  rw [JK h _ _ n,<- EX h a0 a1,<- EX h b0 b1]
 refine ⟨by rw [e];exact ET ..,fun j=>?_⟩;rw [e,Bh];by_cases c:j < h
 ·rw [decide_eq_true c,Bool.true_and]
 ·rw [decide_eq_false c,Bool.false_and]
  cases x:bit a j with
  | true=>exact absurd (O2 a0 a1 x) c
  | false =>
    cases y:bit b j with
    | true=>exact absurd (O2 b0 b1 y) c
    | false=>rfl
def OkA (n:Nat) (ts:List Int):Prop:=OkT n ts/\JQ ts
noncomputable def Gh (J:Hp) (kvs:List (Key × V)) (ρ:Int->Option Int):Prop:=∀(z:Int) (a:Addr) (hs:List Int),((Sum.inl z:Key),V.ref a)∈kvs->J a=some (.lst (hs.map V.int))->∀x∈hs,ρ x=some z
theorem Lb {a b:List Int} (e:some (HO.lst (a.map V.int))=some (HO.lst (b.map V.int))):a=b:=by
 injection e with e
 injection e with e
 exact (map_inj_right (fun x y h=>by injection h)).mp e
theorem Gh.same {J J':Hp} {l:Addr} {n i:Nat} {w:Int} {kvs:List (Key × V)} {ρ:Int->Option Int} (s:An J J') (td:BO J l n i w kvs) (g:Gh J kvs ρ):Gh J' kvs ρ:=fun z a hs m e x xm=>by
 obtain ⟨z',a',hs',eq,h1,_,_⟩:=td.2 _ m;injection eq with _ eq2
 injection eq2 with eq2
 rw [<- eq2] at h1;have:=Lb ((s _ _ h1).symm.trans e);exact g z a hs' m h1 x (by rw [this];exact xm)
theorem Gh.off {J:Hp} {l:Addr} {n i:Nat} {w:Int} {kvs:List (Key × V)} {ρ:Int->Option Int} {o:HO} (td:BO J l n i w kvs) (g:Gh J kvs ρ):Gh (upd J l o) kvs ρ:=fun z a hs m e x xm=>by
 obtain ⟨z',a',hs',eq,h1,h2,_⟩:=td.2 _ m;injection eq with _ eq2
 injection eq2 with eq2
 rw [<- eq2] at h2;rw [Ak h2] at e;exact g z a hs m e x xm
theorem Gh.put {J:Hp} {l d a:Addr} {n i:Nat} {w z:Int} {kvs ks:List (Key × V)} {hs:List Int} {ρ ρ':Int->Option Int} (td:BO J l n i w kvs) (g:Gh J kvs ρ) (hd:J d=some (.dK ks)) (ha:J a=some (.lst (hs.map V.int))) (up:∀x y,ρ x=some y->ρ' x=some y) (new:∀x∈hs,ρ' x=some z):Gh (upd J d (.dK (BY kvs (Sum.inl z) (.ref a)))) (BY kvs (Sum.inl z) (.ref a)) ρ':=fun z' a' hs' m e x xm=>by
 rcases KO m with m | m
 ·injection m with m1 m2
  injection m1 with m1
  injection m2 with m2
  rw [m2,Ak (Du ha hd (fun z=>by cases z)),ha] at e;rw [m1];exact new x (by rw [Lb e];exact xm)
 ·obtain ⟨z2,a2,hs2,eq,h1,h2,_⟩:=td.2 _ m;injection eq with _ eq2
  injection eq2 with eq2
  rw [<- eq2] at h1;rw [Ak (Du h1 hd (fun z=>by cases z))] at e;exact up x z' (g z' a' hs' m e x xm)
theorem Gp (k j:Nat):bit ((2:Int) ^ k) j=decide (j=k):=by
 have e:=EZ (k+1) (fun _=>false) k (Nat.lt_succ_self _) rfl;rw [Er (f:=fun _=>false) (fun _ _=>rfl),Int.zero_add] at e;rw [<- e,Bh,Bool.false_or];by_cases c:j=k
 ·rw [decide_eq_true c,decide_eq_true c.symm,decide_eq_true (by omega)];rfl
 ·rw [decide_eq_false c,decide_eq_false (Ne.symm c),Bool.and_false]
theorem GS {n:Nat}:∀{hs:List Int},hs.Pairwise (· < ·)->(∀h∈hs,0<=h/\h < (n:Int))->∀j:Nat,bit (Cd hs) j=decide ((j:Int)∈hs)
 | [],_,_,j=>Py j
 | h :: hs,p,k,j=>by
   rw [pairwise_cons] at p;obtain ⟨k1,k2⟩:=k h (mem_cons_self ..);have ih:=GS p.2 fun x m=>k x (mem_cons_of_mem _ m);have b:=Gq (a:=0) p.2 (fun x m=>⟨(k x (mem_cons_of_mem _ m)).1,(k x (mem_cons_of_mem _ m)).2⟩) (Nat.zero_le n)
   have lt:(2:Int) ^ h.toNat < 2 ^ n:=by
    have:=Nat.pow_lt_pow_right (show 1 < 2 by decide) (show h.toNat < n by omega)
    exact_mod_cast this
   have e1:(2:Int) ^ 0=1:=rfl
   have a:=(NM (h:=n) (a:=2 ^ h.toNat) (b:=Cd hs) (Int.le_of_lt (Int.pow_pos (by decide))) lt b.1 (by omega) fun i z=>by
    rw [Gp,ih i] at z;have z1:=of_decide_eq_true z.1;have z2:=p.1 _ (of_decide_eq_true z.2);omega).2 j
   show bit (1*2 ^ h.toNat+Cd hs) j=_;rw [Int.one_mul,a,Gp,ih j];by_cases c:j=h.toNat
   ·rw [decide_eq_true c,Bool.true_or,decide_eq_true];exact mem_cons.mpr (.inl (by omega))
   ·rw [decide_eq_false c,Bool.false_or];refine decide_eq_decide.mpr ⟨fun m=>mem_cons_of_mem _ m,fun m=>?_⟩;rcases mem_cons.mp m with m | m
    ·omega
    ·exact m
theorem K5 {n:Nat} {ρ:Int->Option Int}:∀{ps:List (Int × List Int)},(ps.map (·.1)).Nodup->(∀p∈ps,p.2.Pairwise (· < ·)/\(∀h∈p.2,0<=h/\h < (n:Int))/\∀x∈p.2,ρ x=some p.1)->JQ (ps.map fun p=>Cd p.2):=fun {ps} nd k=>by
 unfold JQ;rw [pairwise_map];have nd':ps.Pairwise fun a b=>a.1≠b.1:=pairwise_map.mp nd;refine nd'.imp_of_mem fun {a b} am bm ne j z=>?_;obtain ⟨a1,a2,a3⟩:=k a am;obtain ⟨b1,b2,b3⟩:=k b bm;rw [GS a1 a2,GS b1 b2] at z;have e1:=a3 _ (of_decide_eq_true z.1);have e2:=b3 _ (of_decide_eq_true z.2);rw [e1] at e2;exact ne (Option.some.inj e2)
theorem JO {l:List Int} {j:Nat} (nd:l.Nodup) (hj:j < l.length):(l.eraseIdx j).Nodup/\l[j] ∉ l.eraseIdx j:=by
 refine ⟨nd.sublist (eraseIdx_sublist ..),fun m=>?_⟩
 obtain ⟨i,hi,e,ne⟩:∃i,∃h:i < l.length,l[i]=l[j]/\i≠j:=by
  obtain ⟨i,ne,hi⟩:=mem_eraseIdx_iff_getElem?.mp m;obtain ⟨h,e⟩:=List.getElem?_eq_some_iff.mp hi;exact ⟨i,h,e,ne⟩
 exact ne ((getElem_inj nd).mp e)
noncomputable def NU:Sp:=fun vs H Q _=>∃(c:Int) (n:Nat),vs=[.int c,.int (n:Int)]/\Sz 200 c/\1<=n/\n<=12/\∀(t:Addr) (ts:List Int) (H':Hp),H t=none->An H H'->H' t=some (.tup (ts.map V.int))->OkA n ts->Q (.ref t) H'
theorem DictOf.nil:DictOf [] []:=⟨⟨nodup_nil,fun _ m=>absurd m List.not_mem_nil⟩,fun _=>rfl⟩
theorem Ql (a:List Int):HT.lexLt a a≠true:=fun e=>by
 have:=JZ e;rw [e] at this
 cases this
theorem Q8 {out:Ds} (h:out.Pairwise (fun x y=>HT.lexLt x.1 y.1=true)):(out.map (·.1)).Nodup:=pairwise_map.mpr (h.imp fun k e=>by rw [e] at k;exact Ql _ k)
noncomputable def rkA (ts:List Int) (i:Nat):Int:=((ts.findIdx? fun t=>bit t i).map fun k=>((k+1:Nat):Int)).getD 0
theorem Jp {ts:List Int} (ap:JQ ts) {k i:Nat} {t:Int} (hk:ts[k]?=some t):rkA ts i=((k+1:Nat):Int)↔bit t i=true:=by
 obtain ⟨kl,ke⟩:=List.getElem?_eq_some_iff.mp hk;unfold rkA
 constructor
 ·intro e
  cases f:ts.findIdx? fun t=>bit t i with
  | none=>rw [f] at e;exact absurd e (by show (0:Int)≠_;omega)
  | some j =>
    rw [f] at e;have e':((j+1:Nat):Int)=((k+1:Nat):Int):=e;obtain ⟨jl,jb,_⟩:=List.findIdx?_eq_some_iff_getElem.mp f;have:j=k:=by omega
    subst this;rw [ke] at jb;exact jb
 ·intro b
  have f:(ts.findIdx? fun t=>bit t i)=some k:=List.findIdx?_eq_some_iff_getElem.mpr ⟨kl,by rw [ke];exact b,fun j jk c=>by
   have:=pairwise_iff_getElem.mp ap j k (by omega) kl jk i;rw [ke] at this;exact this ⟨c,b⟩⟩
  rw [f];rfl
theorem G8 {ts:List Int} (l:ts.length<=12) (i:Nat):0<=rkA ts i/\rkA ts i<=12/\(0 < rkA ts i->∃k,k < ts.length/\rkA ts i=((k+1:Nat):Int)):=by
 unfold rkA
 cases f:ts.findIdx? fun t=>bit t i with
 | none=>exact ⟨Int.le_refl _,by show (0:Int)<=12;decide,fun z=>absurd z (Int.lt_irrefl _)⟩
 | some j =>
   obtain ⟨jl,_⟩:=List.findIdx?_eq_some_iff_getElem.mp f;show 0<=((j+1:Nat):Int)/\((j+1:Nat):Int)<=12/\_;exact ⟨by omega,by omega,fun _=>⟨j,jl,rfl⟩⟩
theorem JW {n:Nat} {ts:List Int} (ok:OkA n ts):ts=Dc ((List.range n).map (rkA ts)):=by
 obtain ⟨⟨pos,l12⟩,ap⟩:=ok;have rl:((List.range n).map (rkA ts)).length=n:=by rw [length_map,length_range]
 have ra:∀{i:Nat},i < n->((List.range n).map (rkA ts))[i]?=some (rkA ts i):=fun hi=>by rw [List.getElem?_map,List.getElem?_range hi];rfl
 unfold Dc
 have key:((Lh ((List.range n).map (rkA ts))).filter fun r=>decide (0 < r))=(List.range ts.length).map fun k:Nat=>((k+1:Nat):Int):=by
  refine HQ ((Fq _).filter _) (pairwise_map.mpr ((pairwise_lt_range (n:=ts.length)).imp fun h=>by omega)) fun z=>?_;rw [mem_filter,Hd,decide_eq_true_eq,mem_map,mem_map]
  constructor
  ·rintro ⟨⟨i,_,rfl⟩,z0⟩;obtain ⟨k,hk,e⟩:=(G8 l12 i).2.2 z0;exact ⟨k,mem_range.mpr hk,e.symm⟩
  ·rintro ⟨k,mk,rfl⟩;have hk:=mem_range.mp mk;obtain ⟨t0,t1⟩:=pos ts[k] (getElem_mem hk)
   obtain ⟨i,hi,bi⟩:∃i,i < n/\bit ts[k] i=true:=Decidable.byContradiction fun no=>by
    have e:=EX n (Int.le_of_lt t0) t1;rw [Er (f:=bit ts[k]) fun i hi=>Bool.eq_false_iff.mpr fun b=>no ⟨i,hi,b⟩] at e;omega
   exact ⟨⟨i,mem_range.mpr hi,(Jp ap (List.getElem?_eq_getElem hk)).mpr bi⟩,by omega⟩
 rw [key];apply ext_getElem
 ·simp
 ·intro k h1 h2;rw [getElem_map,getElem_map,getElem_range];obtain ⟨t0,t1⟩:=pos ts[k] (getElem_mem h1);rw [show EG ((List.range n).map (rkA ts)) ((k+1:Nat):Int)=A1 n (isR ((List.range n).map (rkA ts)) ((k+1:Nat):Int)) from by unfold EG;rw [rl]]
  rw [AS n fun i hi=>(show isR ((List.range n).map (rkA ts)) ((k+1:Nat):Int) i=bit ts[k] i from by
   unfold isR;rw [ra hi];by_cases b:bit ts[k] i=true
   ·rw [b];exact decide_eq_true (by rw [(Jp ap (List.getElem?_eq_getElem h1)).mpr b])
   ·rw [Bool.eq_false_iff.mpr b];exact decide_eq_false fun e=>b ((Jp ap (List.getElem?_eq_getElem h1)).mp (Option.some.inj e)))]
  exact EX n (Int.le_of_lt t0) t1
theorem Oa {n:Nat} {ts:List Int} (ok:OkA n ts):My n ts:=⟨(List.range n).map (rkA ts),by rw [length_map,length_range],fun r m=>by
 obtain ⟨i,_,rfl⟩:=mem_map.mp m;exact ⟨(G8 ok.1.2 i).1,Int.le_trans (G8 ok.1.2 i).2.1 (by decide)⟩,JW ok⟩
theorem BK {n:Nat} {H:Hp} {ls:Ls} (g:Cj H ls) (ok:∀q∈Hr ls,OkA n q.1):DN n H ls:=fun q m=>⟨(g q m).1,(g q m).2,Oa (ok _ (mem_map.mpr ⟨q,m,rfl⟩))⟩
structure Ow (n:Nat) (ds:Ds):Prop where
 srt:ds.Pairwise (fun x y=>HT.lexLt x.1 y.1=true)
 ok:∀q∈ds,OkA n q.1/\1<=q.2
 len:ds.length<=13
 pos:1<=ds.length
 few:∀q∈ds,q.2<=1000000000000
theorem Ij {ds out:Ds} (h:HK ds out):∀q∈out,q.1∈ds.map (·.1):=fun q m=>by
 have:=(h.mem q.1 q.2).mp m;by_cases c:q.1∈ds.map (·.1)
 ·exact c
 ·rw [Gv c] at this;omega
theorem MQ {ds out:Ds} {p:List (List Int)} (h:HK ds out) (sub:∀q∈ds,q.1∈p):out.length<=p.length:=by
 have:=DQ (p:=p) (Q8 h.srt) (fun t m=>by
  obtain ⟨q,qm,rfl⟩:=mem_map.mp m;obtain ⟨d,dm,de⟩:=mem_map.mp (Ij h q qm);rw [<- de];exact sub d dm)
 rwa [length_map] at this
theorem HK.drawnP {n:Nat} {ds out:Ds} {p:List (List Int)} (h:HK ds out) (po:Pos ds) (sub:∀q∈ds,q.1∈p) (ok:∀t∈p,OkA n t) (l13:p.length<=13) (ne:ds≠[]) (b:∀ts,tot ds ts<=1000000000000):Ow n out:=by
 refine ⟨h.srt,fun q m=>?_,Nat.le_trans (MQ h sub) l13,?_,fun q m=>by have a:=(h.mem q.1 q.2).mp m;have c:=b q.1;omega⟩
 ·obtain ⟨d,dm,de⟩:=mem_map.mp (Ij h q m);have a:=(h.mem q.1 q.2).mp m;exact ⟨ok _ (by rw [<- de];exact sub d dm),by omega⟩
 ·obtain ⟨d,r,rfl⟩:=exists_cons_of_ne_nil ne;have t:=IU (ts:=d.1) po (by rw [map_cons];exact mem_cons_self ..);exact length_pos_of_mem ((h.mem d.1 _).mpr ⟨rfl,t⟩)
noncomputable def MI (K:PySem.W.Frag):Sp:=fun vs H Q _=>∃(p:Addr) (ns:List Int) (k:Int) (n m:Nat) (most:Int),vs=[.ref p,.int k,.int (n:Int),.int (m:Int),.int most]/\SqL K H p (ns.map V.int)/\ns.length<=63/\0<=k/\k<=100/\1<=n/\n<=12/\1<=m/\m<=12/\1<=most/\most<=10 ^ 9 /\
 ∀(l:Addr) (ls:Ls) (H':Hp),H l=none->An H H'->H' l=some (.lst (vls ls))->Cj H' ls->Ow n (Hr ls)->Q (.ref l) H'
theorem GU:∀{hs:List Int},hs.Nodup->(∀h∈hs,0<=h)->JQ (hs.map fun h=>(1:Int)*2 ^ h.toNat)
 | [],_,_=>List.Pairwise.nil
 | h :: hs,nd,h0=>by
   rw [nodup_cons] at nd;rw [map_cons];refine pairwise_cons.mpr ⟨fun t m j z=>?_,GU nd.2 fun x m=>h0 x (mem_cons_of_mem _ m)⟩;obtain ⟨g,gm,rfl⟩:=mem_map.mp m;rw [Int.one_mul,Int.one_mul,Gp,Gp] at z;have a:=of_decide_eq_true z.1;have b:=of_decide_eq_true z.2;have c:=h0 h (mem_cons_self ..);have d:=h0 g (mem_cons_of_mem _ gm);exact nd.1 (by rw [show h=g by omega];exact gm)
theorem Qs {n:Nat} {hs:List Int} (n12:n<=12) (pm:hs.Perm (ups n)):OkA n (hs.map fun h=>(1:Int)*2 ^ h.toNat):=by
 have inn:∀h∈hs,0<=h/\h < (n:Int):=fun h m=>by
  obtain ⟨i,im,rfl⟩:=mem_map.mp (pm.mem_iff.mp m);have:=mem_range.mp im;omega
 refine ⟨⟨fun x m=>?_,?_⟩,GU (pm.nodup_iff.mpr (N7 n)) fun h m=>(inn h m).1⟩
 ·obtain ⟨h,hm,rfl⟩:=mem_map.mp m;rw [Int.one_mul];refine ⟨Int.pow_pos (by decide),?_⟩;have:=Nat.pow_lt_pow_right (show 1 < 2 by decide) (show h.toNat < n by have:=inn h hm;omega)
  exact_mod_cast this
 ·rw [length_map,pm.length_eq];unfold ups;rw [length_map,length_range];exact n12
theorem Sd {m:Int} (h0:0<=m) (h2:m < 2):∃v:Int,atI [V.int 12,V.int ((10:Int) ^ (9:Int).toNat)] m=some (.int v)/\1<=v/\v<=10 ^ 9:=by
 rcases (by omega:m=0\/m=1) with rfl | rfl
 ·exact ⟨12,rfl,by decide,by decide⟩
 ·exact ⟨_,rfl,by decide,by decide⟩
theorem Je {h s:Nat} {L F L' F':Nat->Nat->Int} {ns:List Int} (g:Bg h L F) (g':Bg h L' F') (sub:∀w∈ns,∃i:Nat,i < h/\w=(i:Int)) (e:∀x y,x < h->y < h->L x y<=L' x y+0/\L' x y<=L x y+0):Bp h (Aw F' s ns)=Bp h (Aw F s ns):=by
 have n1:∀{x y:Nat},x < h->y < h->y≠x->F x y<=F' x y+0:=fun hx hy ne=>g.near g' (fun x y hx hy=>(e x y hx hy).1) hx hy ne;have n2:∀{x y:Nat},x < h->y < h->y≠x->F' x y<=F x y+0:=fun hx hy ne=>g'.near g (fun x y hx hy=>(e x y hx hy).2) hx hy ne;rw [EM (h:=h) (F:=F) (F':=F') (fun x y hx hy=>?_) s ns sub fun l k=>?_]
 ·by_cases c:y=x
  ·subst c;omega
  ·have:=n1 hx hy c;have:=n2 hx hy c;have:=n1 hy hx (Ne.symm c);have:=n2 hy hx (Ne.symm c);omega
 ·by_cases n:l=[]
  ·exact .inr n
  ·exact .inl (Ks g n fun z m=>sub z (k z m)).1
noncomputable def A6 (ts:List Int) (i:Nat):Nat:=(ts.findIdx? fun t=>bit t i).getD ts.length
theorem Km (ts:List Int) (i:Nat):A6 ts i<=ts.length:=by
 unfold A6
 cases f:ts.findIdx? fun t=>bit t i with
 | none=>exact Nat.le_refl _
 | some k =>
   obtain ⟨kl,_⟩:=List.findIdx?_eq_some_iff_getElem.mp f;exact Nat.le_of_lt kl
theorem Ou {n:Nat} {ts:List Int} (ok:OkA n ts):∃rs:List Int,rs.length=n/\(∀r∈rs,0<=r/\r<=1000)/\ts=Dc rs/\∀i,i < n->rs.getD i 0=rkA ts i :=
 ⟨(List.range n).map (rkA ts),by rw [length_map,length_range],fun r m=>by
   obtain ⟨i,_,rfl⟩:=mem_map.mp m;exact ⟨(G8 ok.1.2 i).1,Int.le_trans (G8 ok.1.2 i).2.1 (by decide)⟩,JW ok,fun i hi=>by rw [getD_eq_getElem?_getD,List.getElem?_map,List.getElem?_range hi];rfl⟩
theorem KS {n:Nat} {ts:List Int} (ok:OkA n ts) {x y:Nat} (hx:x < n) (hy:y < n):DT x y ts=decide (A6 ts x < A6 ts y):=by
 obtain ⟨rs,rl,hR,e,ra⟩:∃rs:List Int,rs.length=n/\(∀r∈rs,0<=r/\r<=1000)/\ts=Dc rs/\∀i,i < n->rs.getD i 0=rkA ts i:=Ou ok;unfold DT;rw [e,FT hR (by omega) (by omega),<- e]
 have pl:∀i,i < n->D0 rs i=if A6 ts i < ts.length then ((A6 ts i+1:Nat):Int) else 1000000000:=fun i hi=>by
  unfold D0;rw [ra i hi];unfold rkA A6
  cases f:ts.findIdx? fun t=>bit t i with
  | none =>
    show (1000000000:Int)=if ts.length < ts.length then _ else 1000000000;rw [if_neg (Nat.lt_irrefl _)]
  | some k =>
    obtain ⟨kl,_⟩:=List.findIdx?_eq_some_iff_getElem.mp f;show (if ((k+1:Nat):Int)=0 then (1000000000:Int) else ((k+1:Nat):Int))=if k < ts.length then ((k+1:Nat):Int) else 1000000000;rw [if_pos kl,if_neg (by omega)]
 have l12:=ok.1.2;have px:A6 ts x<=ts.length:=Km ts x;have py:A6 ts y<=ts.length:=Km ts y
 have key:(D0 rs x < D0 rs y)↔A6 ts x < A6 ts y:=by
  rw [pl x hx,pl y hy];by_cases c1:A6 ts x < ts.length
  ·rw [if_pos c1];by_cases c2:A6 ts y < ts.length
   ·rw [if_pos c2];omega
   ·rw [if_neg c2];omega
  ·rw [if_neg c1];by_cases c2:A6 ts y < ts.length
   ·rw [if_pos c2];omega
   ·rw [if_neg c2];omega
 by_cases c:A6 ts x < A6 ts y
 ·rw [if_pos (key.mpr c),decide_eq_true c];rfl
 ·rw [if_neg (fun z=>c (key.mp z)),decide_eq_false c];rfl
theorem KW {most:Int} {ts:List Int}:∀{ds:Ds},(∀q∈ds,1<=q.2/\q.2<=most)->0<=most->tot ds ts<=(ds.length:Int)*most
 | [],_,m=>by show (0:Int)<=0*most;omega
 | q :: r,h,m=>by
   have h1:=h q (mem_cons_self ..);have h2:=KW (ts:=ts) (fun p k=>h p (mem_cons_of_mem _ k)) m;show (if q.1=ts then q.2 else 0)+tot r ts<=((r.length+1:Nat):Int)*most;rw [show ((r.length+1:Nat):Int)*most=(r.length:Int)*most+most from by rw [Int.natCast_add,Int.add_mul];omega]
   split <;> omega
theorem Be.setv {H:Hp} {as:List Addr} {h:Nat} {F:Nat->Nat->Int} (g:Be H as h F) {x y:Nat} {a:Addr} (ha:as[x]?=some a) (v:Int):Be (upd H a (.lst ((((List.range h).map fun y=>F x y).map V.int).set y (.int v)))) as h (F9 F x y (v - F x y)):=by
 have:=g.put (y:=y) ha (v - F x y);rwa [show F x y+(v - F x y)=v by omega] at this
noncomputable def MV:Sp:=fun vs H Q _=>∃(t:Addr) (ts:List Int) (i:Nat),vs=[.ref t,.int (i:Int)]/\H t=some (.tup (ts.map V.int))/\ts.length<=12/\i < 64/\Q (.int (A6 ts i:Nat)) H
theorem LE {ts:List Int} {i k:Nat} {t:Int} (hk:ts[k]?=some t) (b:bit t i=true) (no:∀j u,j < k->ts[j]?=some u->bit u i=false):A6 ts i=k:=by
 obtain ⟨kl,ke⟩:=List.getElem?_eq_some_iff.mp hk;unfold A6
 rw [show (ts.findIdx? fun t=>bit t i)=some k from List.findIdx?_eq_some_iff_getElem.mpr ⟨kl,by rw [ke];exact b,fun j jk c=>by
  have:=no j ts[j] jk (List.getElem?_eq_getElem (by omega));rw [this] at c
  cases c⟩]
 rfl
theorem MJ {ts:List Int} {i:Nat} (no:∀j u,j < ts.length->ts[j]?=some u->bit u i=false):A6 ts i=ts.length:=by
 unfold A6
 rw [show (ts.findIdx? fun t=>bit t i)=none from List.findIdx?_eq_none_iff.mpr fun x m=>by
  obtain ⟨j,hj⟩:=List.getElem?_of_mem m;exact no j x (List.getElem?_eq_some_iff.mp hj).1 hj]
 rfl
noncomputable def MH:Sp:=fun vs H Q _=>∃(l:Addr) (ls:Ls) (h:Nat),vs=[.ref l,.int (h:Int)]/\H l=some (.lst (vls ls))/\Cj H ls/\(∀q∈Hr ls,OkA h q.1)/\ls.length<=60/\1<=h/\h<=12/\∀(b:Addr) (as:List Addr) (H':Hp),An H H'->H' b=some (.lst (as.map V.ref))->Be H' as h (AU ls)->Q (.ref b) H'
noncomputable def prB (x j u v:Nat):Bool:=decide (u < x) || (decide (u=x) && decide (v < j))
noncomputable def adB (pl:Nat->Nat) (n:Int) (x j u v:Nat):Int:=if (prB x j u v && decide (pl u < pl v))=true then n else 0
noncomputable def lnB (pl:Nat->Nat) (n:Int) (x j u v:Nat):Int:=adB pl n x j u v - adB pl n x j v u
theorem NE (x y u v:Nat):prB x (y+1) u v=(prB x y u v || (decide (u=x) && decide (v=y))):=by
 unfold prB;by_cases a:u < x
 ·rw [decide_eq_true a];rfl
 ·rw [decide_eq_false a,Bool.false_or,Bool.false_or];by_cases b:u=x
  ·rw [decide_eq_true b,Bool.true_and,Bool.true_and,Bool.true_and];by_cases c:v < y
   ·rw [decide_eq_true c,decide_eq_true (by omega)];rfl
   ·by_cases d:v=y
    ·rw [decide_eq_true d,decide_eq_true (by omega),Bool.or_true]
    ·rw [decide_eq_false c,decide_eq_false d,decide_eq_false (by omega)];rfl
  ·rw [decide_eq_false b];rfl
theorem Kl (pl:Nat->Nat) (n:Int) (x y u v:Nat):adB pl n x (y+1) u v=adB pl n x y u v+if u=x/\v=y/\pl x < pl y then n else 0:=by
 unfold adB;rw [NE];by_cases b:u=x/\v=y
 ·obtain ⟨rfl,rfl⟩:=b;have p:prB u v u v=false:=by unfold prB;rw [decide_eq_false (Nat.lt_irrefl u),decide_eq_false (Nat.lt_irrefl v)];simp
  rw [p];by_cases c:pl u < pl v
  ·rw [if_pos (by simp [c]),if_neg (by simp),if_pos ⟨rfl,rfl,c⟩];omega
  ·rw [if_neg (by simp [c]),if_neg (by simp),if_neg (fun z=>c z.2.2)];omega
 ·have e:(decide (u=x) && decide (v=y))=false:=by
   rw [Bool.and_eq_false_iff];by_cases k:u=x
   ·exact .inr (decide_eq_false fun z=>b ⟨k,z⟩)
   ·exact .inl (decide_eq_false k)
  rw [e,Bool.or_false,if_neg (show ¬ (u=x/\v=y/\pl x < pl y) from fun z=>b ⟨z.1,z.2.1⟩)];omega
theorem JJ (pl:Nat->Nat) (n:Int) (x y u v:Nat):lnB pl n x (y+1) u v=lnB pl n x y u v+(if u=x/\v=y/\pl x < pl y then n else 0) - (if v=x/\u=y/\pl x < pl y then n else 0):=by
 unfold lnB;rw [Kl,Kl];omega
theorem LS (x h u v:Nat) (hv:v < h):prB x h u v=prB (x+1) 0 u v:=by
 unfold prB;rw [decide_eq_true hv,Bool.and_true,decide_eq_false (Nat.not_lt_zero v),Bool.and_false,Bool.or_false];by_cases a:u < x
 ·rw [decide_eq_true a,decide_eq_true (show u < x+1 by omega)];rfl
 ·by_cases b:u=x
  ·rw [decide_eq_true b,Bool.or_true,decide_eq_true (show u < x+1 by omega)]
  ·rw [decide_eq_false a,decide_eq_false b,decide_eq_false (show ¬ u < x+1 by omega)];rfl
theorem PR (pl:Nat->Nat) (n:Int) (x h u v:Nat) (hu:u < h) (hv:v < h):lnB pl n x h u v=lnB pl n (x+1) 0 u v:=by
 unfold lnB adB;rw [LS x h u v hv,LS x h v u hu]
theorem N6 (pl:Nat->Nat) (n:Int) (u v:Nat):lnB pl n 0 0 u v=0:=by
 unfold lnB adB prB;simp
theorem P9 (pl:Nat->Nat) (n:Int) (h u v:Nat) (hu:u < h) (hv:v < h):lnB pl n h 0 u v=(if pl u < pl v then n else 0) - (if pl v < pl u then n else 0):=by
 unfold lnB adB prB;rw [decide_eq_true hu,decide_eq_true hv];simp
noncomputable def Lay (k:Nat) (d:PyData):Prop:=d.canLay0=true/\d.depth<=k
mutual
theorem NS:∀d:PyData,d.canLay0=true->PyData.eqv d d=true
 | .none,_=>rfl
 | .bool b,_=>by show (b == b)=true;exact beq_self_eq_true b
 | .int i,_=>by show (i == i)=true;exact beq_self_eq_true i
 | .str x,_=>by show (x == x)=true;exact beq_self_eq_true x
 | .list xs,h=>eqv_mes xs h
 | .tuple xs,h=>eqv_mes xs h
 | .dict _,h=>nomatch h
theorem eqv_mes:∀xs:List PyData,PyData.canLayAll0 xs=true->PyData.eqvAll xs xs=true
 | [],_=>rfl
 | x :: xs,h=>by
   have h':(PyData.canLay0 x && PyData.canLayAll0 xs)=true:=h;rw [Bool.and_eq_true] at h';show (PyData.eqv x x && PyData.eqvAll xs xs)=true;rw [NS x h'.1,eqv_mes xs h'.2];rfl
end
theorem EK {k:Nat}:∀{xs:List PyData},(∀x∈xs,Lay k x)->PyData.canLayAll0 xs=true/\PyData.depthAll xs<=k
 | [],_=>⟨rfl,Nat.zero_le _⟩
 | x :: xs,h=>by
   obtain ⟨a,b⟩:=EK (xs:=xs) fun y m=>h y (mem_cons_of_mem _ m);obtain ⟨c,d⟩:=h x (mem_cons_self ..);refine ⟨?_,?_⟩
   ·show (PyData.canLay0 x && PyData.canLayAll0 xs)=true;rw [a,c];rfl
   ·show max (PyData.depth x) (PyData.depthAll xs)<=k;omega
theorem Hi {k:Nat} {xs:List PyData} (h:∀x∈xs,Lay k x):Lay (k+1) (.list xs):=⟨(EK h).1,Nat.succ_le_succ (EK h).2⟩
theorem LY {k:Nat} {xs:List PyData} (h:∀x∈xs,Lay k x):Lay (k+1) (.tuple xs):=⟨(EK h).1,Nat.succ_le_succ (EK h).2⟩
theorem D9 (k:Nat) (i:Int):Lay k (.int i):=⟨rfl,Nat.zero_le _⟩
theorem Jb {α:Type} {k:Nat} {f:α->PyData} (h:∀x,Lay k (f x)) (xs:List α):∀d∈xs.map f,Lay k d:=fun d m=>by
 obtain ⟨x,_,rfl⟩:=mem_map.mp m;exact h x
theorem lay_ints (k:Nat) (ns:List Int):∀d∈ns.map PyData.int,Lay k d:=Jb (fun i=>D9 k i) ns
theorem OT {k:Nat} {a b:PyData} (ha:Lay k a) (hb:Lay k b):Lay (k+1) (.tuple [a,b]):=LY fun x m=>by
 rcases mem_cons.mp m with rfl | m
 ·exact ha
 ·rw [mem_singleton.mp m];exact hb
theorem Lay.shaped {k:Nat} {d:PyData} (h:Lay k d) (k64:k<=64):SeqAt.shaped d=true:=by
 unfold SeqAt.shaped;rw [h.1,decide_eq_true (Nat.le_trans h.2 k64)];rfl
theorem Lay.eqv {k:Nat} {d:PyData} (h:Lay k d):PyData.eqv d d=true:=NS d h.1
theorem Hf {α:Type} {K:PySem.W.Frag} {H:Hp} {v:α->V} {d:α->PyData}:∀{xs:List α},(∀x∈xs,Rep K H (v x) (d x))->Reps K H (xs.map v) (xs.map d)
 | [],_=>.nil
 | x :: xs,h=>.cons (h x (mem_cons_self ..)) (Hf fun y m=>h y (mem_cons_of_mem _ m))
theorem Oc (m:Int) (h:Int):decide (V.int (Builtin.bitAnd (m / 2 ^ h.toNat) 1)=V.int 0)=!bit m h.toNat:=by
 rw [Rt,Ms]
 cases bit m h.toNat <;> rfl
theorem G0 {ws:List Nat} {k:Nat} (h:k < ws.length):atI ((Bk ws).map V.int) (k:Int)=some (.int ((ws.getD k 0:Nat):Int)):=by
 refine atN ?_;unfold Bk;rw [List.getElem?_map,List.getElem?_eq_getElem h,getD_eq_getElem?_getD,List.getElem?_eq_getElem h];rfl
theorem Dp (ws:List Nat):(Bk ws).length=ws.length:=by unfold Bk;rw [length_map]
theorem CF.edge {h x:Nat} {L:Nat->Nat->Int} {be bf:List Int} (g:CF h x L be bf) {y:Nat} (hy:y < h) (ne:y≠x):∃i j,i < h/\j < h/\Ea x y be i=true/\Ea x y be j=false/\L i j=be.getD y 0:=by
 obtain ⟨rk,par⟩:=g.par
 have key:∀n w,rk w<=n->w < h->w≠x->be.getD w 0=be.getD y 0->∃i j,i < h/\j < h/\Ea x y be i=true/\Ea x y be j=false/\L i j=be.getD y 0:=by
  intro n
  induction n with
  | zero =>
    intro w rn hw wx _;obtain ⟨p,_,_,p1,_⟩:=par w hw wx;omega
  | succ n ih =>
    intro w rn hw wx e;obtain ⟨p,hp,_,p1,p2,p3⟩:=par w hw wx;have wo:Ea x y be w=false:=decide_eq_false (fun z=>z.elim wx fun z=>by omega);by_cases d:p=x
    ·have q:=p2 d;exact ⟨x,w,by omega,hw,decide_eq_true (.inl rfl),wo,by omega⟩
    ·have q:=p3 d;by_cases c:be.getD y 0 < be.getD p 0
     ·have u:=g.cut (y:=y) hp hw (.inr c) ⟨wx,by omega⟩;exact ⟨p,w,hp,hw,decide_eq_true (.inr c),wo,by omega⟩
     ·exact ih p (by omega) hp d (by omega)
 exact key (rk y) y (Nat.le_refl _) hy ne rfl
structure Rm where
 t:Addr
 x:Nat
 y:Nat
 w:Addr
 ws:List Nat
 g:Nat->Bool
 nd:Int
noncomputable def vrm (rows:List Rm):List V:=rows.map fun q=>.ref q.t
structure HJ (h:Nat) (L F:Nat->Nat->Int) (ns:List Int) (H:Hp) (q:Rm):Prop where
 tup:H q.t=some (.tup [.int (q.x:Int),.int (q.y:Int),.ref q.w,.int (A1 h q.g),.int q.nd])
 way:H q.w=some (.lst ((Bk q.ws).map V.int))
 isw:Ed h q.x q.y L (F q.x q.y) q.ws
 hx:q.x < h
 hy:q.y < h
 gx:q.g q.x=false
 gy:q.g q.y=true
 cut:∀i j,i < h->j < h->q.g i=true->q.g j=false->L i j<=F q.y q.x
 edge:∃i j,i < h/\j < h/\q.g i=true/\q.g j=false/\L i j=F q.y q.x
 need:q.nd=HS F ns (q.x:Int) (q.y:Int)
theorem HJ.same {h:Nat} {L F:Nat->Nat->Int} {ns:List Int} {H H':Hp} {q:Rm} (e:An H H') (k:HJ h L F ns H q):HJ h L F ns H' q:=⟨e _ _ k.tup,e _ _ k.way,k.isw,k.hx,k.hy,k.gx,k.gy,k.cut,k.edge,k.need⟩
theorem HJ.upd {h:Nat} {L F:Nat->Nat->Int} {ns:List Int} {H:Hp} {q:Rm} {l:Addr} {xs:List V} {o:HO} (e:H l=some (.lst xs)) (n:q.w≠l) (k:HJ h L F ns H q):HJ h L F ns (L2.upd H l o) q:=⟨by rw [Ak (Du k.tup e (fun z=>by cases z))];exact k.tup,by rw [Ak n];exact k.way,k.isw,k.hx,k.hy,k.gx,k.gy,k.cut,k.edge,k.need⟩
noncomputable def M3 (M C P:Addr):Sp:=fun vs H Q _=>∃(g a l:Addr) (h s:Nat) (ns:List Int) (ls:Ls),vs=[.ref g,.ref l]/\IsM M H g a/\CD C H a h s ns/\s < h/\H l=some (.lst (vls ls))/\DN h H ls/\ls.length<=60/\LT P H /\
 ∀(t p:Addr) (rows:List Rm) (F:Nat->Nat->Int) (z:Int) (H':Hp),Sm H H'->(BM P h H->An H H')->BM P h H'->H' t=some (.tup [.int z,.ref p])->H p=none->H' p=some (.lst (vrm rows))->(∀q∈rows,HJ h (AU ls) F ns H' q/\H q.w=none/\q.w≠p)->rows.map (fun q=>((q.x:Int),(q.y:Int)))=BG (Bp h (Aw F s ns))->Bg h (AU ls) F->z∈rows.map (·.nd)->(∀q∈rows,z<=q.nd)->Q (.ref t) H'
theorem PC {n k:Nat} (h:k < n):OkA n [(2:Int) ^ k]:=⟨⟨fun x m=>by
 rw [mem_singleton.mp m];exact ⟨Int.pow_pos (by decide),Int.pow_lt_pow_of_lt (by decide) h⟩,by show 1<=12;decide⟩,pairwise_singleton _ _⟩
theorem N2 {K:PySem.W.Frag} {a b:Addr} {xs zs:List V} {tt:TT} {te:TE} {σ:St} {H1:Hp} {Q:Addr->Hp->Prop} {n m:Nat} (hn:n=σ.length) (hm:m=σ.length+1) (hxz:zs.length<=xs.length) (hz:zs.length<=sizeLine) (Pv:Addr->Nat->List V->Hp->Prop)
 (h0:∀D,H1 D=none->Pv D 0 [] (upd H1 D (.lst []))) (hD:∀D i ys H,Pv D i ys H->H D=some (.lst ys)/\ys.length<=i) (hl:∀D i ys H,H1 D=none->Pv D i ys H->SqL K H a xs/\SqL K H b zs)
 (hs:∀D i x z T ys H (K1:VK) (K2:Hp->Prop),H1 D=none->xs[i]?=some x->zs[i]?=some z->Pv D i ys H->H T=none->(∀y H5,H5 D=some (.lst ys)->Pv D (i+1) (ys++[y]) (upd H5 D (.lst (ys++[y])))->K1 y H5)->(∀H4,Pv D (i+1) ys H4->K2 H4) ->
  tt (σ++[some x,some z]) (upd H T (.tup [x,z])) fun b H4=>if b=true then te (σ++[some x,some z]) H4 K1 else K2 H4)
 (hd:∀D ys H,H1 D=none->Pv D zs.length ys H->Q D H) :
 ∀D,H1 D=none->∃W:Nat->Nat->List V->Hp->Prop,(∃m,W 0 m [] (upd H1 D (.lst [])))/\∀i k ys H2,W i k ys H2 ->
  H2 D=some (.lst ys)/\(((Itz K a b).stop i H2/\Q D H2)\/((Itz K a b).go i H2/\ys.length < sizeLine/\∀x H3,(Itz K a b).yld i H2 x H3->∀os:St,os.length=2->MM K 2 (C2 (B0 n) (C2 (B0 m) Nf)) x (σ++os) H3 fun σ4 H4=>(∃os':St,σ4=σ++os'/\os'.length=2)/\tt σ4 H4 fun b H5=>if b=true then te σ4 H5 fun y H6=>H6 D=some (.lst ys)/\∃m',m' < k/\W (i+1) m' (ys++[y]) (upd H6 D (.lst (ys++[y])))
   else ∃m',m' < k/\W (i+1) m' ys H5)):=by
 intro D hDn;subst hn hm;refine ⟨fun i m ys H=>m=zs.length - i/\i<=zs.length/\Pv D i ys H,⟨zs.length,rfl,Nat.zero_le _,h0 D hDn⟩,?_⟩;rintro i m ys H2 ⟨rfl,hi,p⟩;obtain ⟨e,l⟩:=hD D i ys H2 p;obtain ⟨q1,q2⟩:=hl D i ys H2 hDn p;refine ⟨e,?_⟩;by_cases hlt':i < zs.length
 ·have hlt:i < xs.length:=by omega
  refine .inr ⟨⟨xs,zs,xs[i],zs[i],q1,q2,by simp [hlt],by simp [hlt']⟩,Nat.lt_of_le_of_lt l (Nat.lt_of_lt_of_le hlt' hz),fun x H3 y os ho=>?_⟩;obtain ⟨T,v,w,rfl,hT,rfl,hy,hw⟩:=y;have q5:=hs D i v w T ys H2 (fun y H6=>H6 D=some (.lst ys)/\∃m',m' < zs.length - i/\m'=zs.length - (i+1)/\i+1<=zs.length/\Pv D (i+1) (ys++[y]) (upd H6 D (.lst (ys++[y])))) (fun H5=>∃m',m' < zs.length - i/\m'=zs.length - (i+1)/\i+1<=zs.length/\Pv D (i+1) ys H5) hDn (hy xs q1) (hw zs q2) p hT (fun y H5 h5 p5=>⟨h5,zs.length - (i+1),by omega,rfl,hlt',p5⟩) fun H4 p4=>⟨zs.length - (i+1),by omega,rfl,hlt',p4⟩
  match os,ho with
  | [o1,o2],_ =>
    have e2:((σ++[o1,o2]).set σ.length (some v)).set (σ.length+1) (some w)=σ++[some v,some w]:=by
     rw [set_append_right _ _ (Nat.le_refl _),Nat.sub_self,set_append_right _ _ (Nat.le_succ _)];rw [show (List.length σ+1) - List.length σ=1 by omega];rfl
    refine ⟨T,[v,w],rfl,SqT.of Ab,rfl,v,[w],rfl,w,[],rfl,rfl,?_⟩;refine ⟨⟨[some v,some w],e2,rfl⟩,?_⟩;rw [e2];exact q5
 ·have ei:i=zs.length:=by omega
  subst ei;exact .inl ⟨⟨xs,zs,q1,q2,.inr (Nat.le_refl _)⟩,hd D ys H2 hDn p⟩
theorem GH {X:Cx} (K:PySem.W.Frag) (hc:X.calm=true) (hK:X.K=K:=by rfl):Ci X (.builtin "max") (fun xs H Q=>∃(a:Addr) (ns:List Int),xs=[.ref a]/\SqL K H a (ns.map V.int)/\0 < ns.length/\∀M,M∈ns->(∀z∈ns,z<=M)->Q (.int M) H):=by
 subst hK;exact FI hc
structure Rp where
 t:Addr
 w:Addr
 x:Int
 y:Int
 ws:List Int
 cut:Int
 n:Int
noncomputable def vrp (rs:List Rp):List V:=rs.map fun r=>.ref r.t
structure RpG (H:Hp) (r:Rp):Prop where
 t:H r.t=some (.tup [.int r.x,.int r.y,.ref r.w,.int r.cut,.int r.n])
 w:H r.w=some (.lst (r.ws.map V.int))
theorem RpG.same {H J:Hp} {r:Rp} (s:An H J) (g:RpG H r):RpG J r:=⟨s _ _ g.t,s _ _ g.w⟩
noncomputable def Fa (h:Nat) (ws:List Int) (x y:Int):Bool:=decide (2<=ws.length/\ws.head?=some x/\ws.getLast?=some y/\(∀z∈ws,0<=z/\z < (h:Int))/\ws.Nodup)
noncomputable def Dl (h:Nat) (c:Int) (x y:Nat):Bool:=decide (0<=c/\c<=2 ^ h - 1) && (bit c x && !bit c y)
noncomputable def LK (h:Nat) (L:Nat->Nat->Int) (c m:Int):Prop:=(∃i j,i < h/\j < h/\bit c i=true/\bit c j=false/\L i j=m)/\∀i j,i < h->j < h->bit c i=true->bit c j=false->L i j<=m
noncomputable def CB (h:Nat) (L:Nat->Nat->Int) (ns:List Int) (low:Int) (r:Rp):Prop:=Fa h r.ws r.x r.y=true/\Dl h r.cut r.y.toNat r.x.toNat=true/\∃f b,Ed h r.x.toNat r.y.toNat L f (r.ws.map Int.toNat)/\LK h L r.cut b/\r.n=Ev ns r.x r.y f b/\low<=r.n
noncomputable def NL (h:Nat) (L:Nat->Nat->Int) (ns:List Int) (low:Int) (r:Rp):Bool:=@decide (CB h L ns low r) (Classical.propDecidable _)
theorem OG {h:Nat} {L:Nat->Nat->Int} {ns:List Int} {low:Int} {r:Rp} (k:CB h L ns low r):NL h L ns low r=true:=@decide_eq_true _ (Classical.propDecidable _) k
theorem GT {h:Nat} {L:Nat->Nat->Int} {ns:List Int} {low:Int} {r:Rp} (k:¬ CB h L ns low r):NL h L ns low r=false:=@decide_eq_false _ (Classical.propDecidable _) k
noncomputable def AN (rs:List Rp):List (Int × Int):=rs.map fun r=>(r.x,r.y)
noncomputable def DL (h:Nat) (L:Nat->Nat->Int) (ns:List Int) (due:List (Int × Int)) (low:Int) (rs:List Rp):Bool:=decide (AN rs=due) && rs.all (NL h L ns low)
theorem Sc {L:Nat->Nat->Int} {ws:List Nat} (t:2<=ws.length):lk L ws≠[]:=fun z=>by
 have:=congrArg List.length z;unfold lk at this;rw [length_map,length_range] at this;have:ws.length - 1=0:=this;omega
theorem KM:∀{l:List Int},l≠[]->∃m,m∈l/\∀z∈l,m<=z
 | [],h=>absurd rfl h
 | [a],_=>⟨a,mem_cons_self ..,fun z k=>by rw [mem_singleton.mp k];exact Int.le_refl _⟩
 | a :: b :: l,_=>by
   obtain ⟨m,k1,k2⟩:=KM (l:=b :: l) (fun z=>by cases z);by_cases c:a<=m
   ·refine ⟨a,mem_cons_self ..,fun z k=>?_⟩;rcases mem_cons.mp k with rfl | k
    ·exact Int.le_refl _
    ·exact Int.le_trans c (k2 z k)
   ·refine ⟨m,mem_cons_of_mem _ k1,fun z k=>?_⟩;rcases mem_cons.mp k with rfl | k
    ·omega
    ·exact k2 z k
theorem Mj {ws:List Int} (h:∀z∈ws,0<=z):Bk (ws.map Int.toNat)=ws:=by
 unfold Bk;rw [map_map];refine Eq.trans (map_congr_left (g:=id) fun z k=>?_) (map_id _);exact Int.toNat_of_nonneg (h z k)
theorem Nk {ws:List Int} (h:∀z∈ws,0<=z) (nd:ws.Nodup):(ws.map Int.toNat).Nodup:=pairwise_map.mpr (nd.imp_of_mem fun {a b} ma mb ne e=>ne (by
 have:=h a ma;have:=h b mb;omega))
theorem LQ {h:Nat} {ws:List Int} {x y:Int} (L:Nat->Nat->Int) (k:Fa h ws x y=true):∃f,Ed h x.toNat y.toNat L f (ws.map Int.toNat)/\(∀z∈ws,0<=z)/\0<=x/\x < h/\0<=y/\y < h:=by
 obtain ⟨k1,k2,k3,k4,k5⟩:=of_decide_eq_true k;have ml:2<=(ws.map Int.toNat).length:=by rw [length_map];exact k1
 obtain ⟨f,f1,f2⟩:=KM (Sc (L:=L) ml);have hx:=k4 x (mem_of_head? k2);have hy:=k4 y (mem_of_getLast? k3);refine ⟨f,⟨fun z m=>?_,Nk (fun z m=>(k4 z m).1) k5,by rw [List.head?_map,k2];rfl,by rw [List.getLast?_map,k3];rfl,ml,f1,f2⟩,fun z m=>(k4 z m).1,hx.1,hx.2,hy.1,hy.2⟩;obtain ⟨u,um,rfl⟩:=mem_map.mp m;have:=k4 u um;omega
noncomputable def MN:Sp:=fun vs H Q _=>∃(w:Addr) (h:Nat) (x y:Int) (ws:List Int),vs=[.ref w,.int x,.int y,.int (h:Int)]/\H w=some (.lst (ws.map V.int))/\ws.length<=60/\∀H':Hp,An H H'->Q (.bl (Fa h ws x y)) H'
noncomputable def Nq:Sp:=fun vs H Q _=>∃(h x y:Nat) (c:Int),vs=[.int c,.int (x:Int),.int (y:Int),.int (h:Int)]/\h<=12/\Q (.bl (Dl h c x y)) H
noncomputable def Iw:Sp:=fun vs H Q _=>∃(a w:Addr) (as:List Addr) (h x y:Nat) (L:Nat->Nat->Int) (v:Int) (ws:List Nat),vs=[.ref a,.ref w]/\H a=some (.lst (as.map V.ref))/\Be H as h L/\H w=some (.lst ((Bk ws).map V.int))/\Ed h x y L v ws/\h<=12/\∀H':Hp,An H H'->Q (.int v) H'
noncomputable def Iy:Sp:=fun vs H Q _=>∃(a:Addr) (as:List Addr) (h x y:Nat) (L:Nat->Nat->Int) (c:Int),vs=[.ref a,.int c]/\H a=some (.lst (as.map V.ref))/\Be H as h L/\Dl h c x y=true/\x < h/\y < h/\h<=12/\∀(m:Int) (H':Hp),An H H'->LK h L c m->Q (.int m) H'
theorem Kw:∀{ws ms:List Int},ms.Nodup->(∀z∈ms,z∈ws)->ms.length=ws.length->ws.Nodup
 | [],_,_,_,_=>nodup_nil
 | a :: w,ms,nd,sub,e=>by
   rw [length_cons] at e
   have no:¬ ∀z∈ms,z∈w:=fun k=>by
    have:=BW nd k;omega
   have an:a ∉ w:=fun k=>no fun z m=>by
    rcases mem_cons.mp (sub z m) with rfl | m
    ·exact k
    ·exact m
   have am:a∈ms:=Decidable.byContradiction fun k=>no fun z m=>by
    rcases mem_cons.mp (sub z m) with rfl | m'
    ·exact absurd m k
    ·exact m'
   refine nodup_cons.mpr ⟨an,Kw (ms:=ms.erase a) (nd.erase a) (fun z m=>?_) (by rw [length_erase_of_mem am];omega)⟩;obtain ⟨ne,m'⟩:=(nd.mem_erase_iff).mp m;exact (mem_cons.mp (sub z m')).resolve_left ne
theorem Pg (xs:List V) (v:V):atI (xs++[v]) (-1)=some v:=by
 have:atI (xs++[v]) (-1)=(xs++[v])[xs.length]?:=by
  unfold atI ixN;have e:(xs++[v]).length=xs.length+1:=by rw [length_append];rfl
  rw [e,if_neg (by decide),if_pos (by omega)];show (xs++[v])[((-1:Int)+((xs.length+1:Nat):Int)).toNat]?=_
  congr 1
  omega
 rw [this,List.getElem?_append_right (Nat.le_refl _),Nat.sub_self];rfl
theorem Gy {h x y:Nat} {L:Nat->Nat->Int} {v:Int} {ws:List Nat} (iw:Ed h x y L v ws):ws.length<=h:=by
 have:=BW (xs:=Bk ws) (ys:=ups h) (List.Pairwise.map _ (fun a b (ne:a≠b) e=>ne (Int.ofNat.inj e)) iw.nd) fun z mz=>by
  obtain ⟨u,mu,rfl⟩:=mem_map.mp mz;exact mem_map.mpr ⟨u,mem_range.mpr (iw.all u mu),rfl⟩
 rw [Dp,Cy] at this;exact this
theorem Qd {h x y:Nat} {L:Nat->Nat->Int} {f f':Int} {ws:List Nat} (a:Ed h x y L f ws) (b:Ed h x y L f' ws):f=f':=Int.le_antisymm (a.least.2 f' b.least.1) (b.least.2 f a.least.1)
theorem Kt {h:Nat} {L:Nat->Nat->Int} {c m m':Int} (a:LK h L c m) (b:LK h L c m'):m=m':=by
 obtain ⟨⟨i,j,a1,a2,a3,a4,a5⟩,a6⟩:=a;obtain ⟨⟨i',j',b1,b2,b3,b4,b5⟩,b6⟩:=b;have:=a6 i' j' b1 b2 b3 b4;have:=b6 i j a1 a2 a3 a4;omega
noncomputable def piD (q:Int × Int):PyData:=.tuple [.int q.1,.int q.2]
theorem Mf:∀a b:List (Int × Int),PyData.eqvAll (a.map piD) (b.map piD)=decide (a=b)
 | [],[]=>rfl
 | [],_ :: _=>rfl
 | _ :: _,[]=>rfl
 | x :: a,y :: b=>by
   show (PyData.eqv (piD x) (piD y) && PyData.eqvAll (a.map piD) (b.map piD))=_;rw [Mf a b]
   have e:PyData.eqv (piD x) (piD y)=decide (x=y):=by
    show ((x.1 == y.1) && ((x.2 == y.2) && true))=_;by_cases c:x=y
    ·rw [c,decide_eq_true rfl,beq_self_eq_true,beq_self_eq_true];rfl
    ·rw [decide_eq_false c];by_cases d:x.1=y.1
     ·have:x.2≠y.2:=fun z=>c (Prod.ext d z);rw [beq_eq_false_iff_ne.mpr this,Bool.false_and,Bool.and_false]
     ·rw [beq_eq_false_iff_ne.mpr d,Bool.false_and]
   rw [e];by_cases c:x=y
   ·rw [decide_eq_true c,Bool.true_and,c];exact decide_eq_decide.mpr ⟨fun z=>by rw [z],fun z=>(List.cons.inj z).2⟩
   ·rw [decide_eq_false c,Bool.false_and,decide_eq_false (fun z=>c (List.cons.inj z).1)]
theorem Ml (ps:List (Int × Int)):Lay 2 (.list (ps.map piD)):=Hi (Jb (f:=piD) (fun q=>OT (D9 0 _) (D9 0 _)) _)
theorem JA {K:PySem.W.Frag} {H:Hp} {ps:List (Addr × Int × Int)} (g:∀q∈ps,H q.1=some (.tup [.int q.2.1,.int q.2.2])):Reps K H (vpq ps) ((ps.map (·.2)).map piD):=by
 rw [map_map];exact Hf fun q m=>.tup (SqT.of (g q m)) (.cons (.int _) (.cons (.int _) .nil))
noncomputable def Pw (M C:Addr):Sp:=fun vs H Q _=>∃(g a b:Addr) (bs:List Addr) (h s:Nat) (ns:List Int) (L:Nat->Nat->Int) (low:Int) (r:Rp),vs=[.ref g,.ref b,.int low,.ref r.t]/\IsM M H g a/\CD C H a h s ns/\H b=some (.lst (bs.map V.ref))/\Be H bs h L/\RpG H r/\r.ws.length<=60/\0<=r.x/\r.x < h/\0<=r.y/\r.y < h/\∀H':Hp,An H H'->Q (.bl (NL h L ns low r)) H'
noncomputable def Nb (M C P:Addr):Sp:=fun vs H Q _=>∃(g a l p:Addr) (h s:Nat) (ns:List Int) (ls:Ls) (low:Int) (rs:List Rp),vs=[.ref g,.ref l,.int low,.ref p]/\IsM M H g a/\CD C H a h s ns/\H l=some (.lst (vls ls))/\DN h H ls/\ls.length<=60/\LT P H/\H p=some (.lst (vrp rs))/\(∀r∈rs,RpG H r/\r.ws.length<=60)/\rs.length<=300 /\
 ∀(F:Nat->Nat->Int) (H':Hp),Sm H H'->(BM P h H->An H H')->BM P h H'->Bg h (AU ls) F->Q (.bl (DL h (AU ls) ns (BG (Bp h (Aw F s ns))) low rs)) H'
noncomputable def MZ:Sp:=fun vs H Q _=>∃c b:Int,vs=[.int c,.int b]/\Sz 200 c/\0<=b/\b<=100/\∀z:Int,0<=z->z < 10 ^ 31->Q (.int z) H
noncomputable def OI:Sp:=fun vs H Q _=>∃(f s:Int) (ns:List Int) (x y:Int),vs=[.int f,.int s,.bl (decide (ns.idxOf y < ns.idxOf x))]/\Q (.int (Ev ns x y f s)) H
theorem Mg (b:Int):(if b > 1 then b else 1)=max 1 b:=by split <;> omega
theorem NH (h:Nat):(ups h).Nodup:=pairwise_map.mpr (nodup_range.imp fun ne e=>ne (Int.ofNat.inj e))
noncomputable def Pm:Sp:=fun vs H Q _=>∃(a lo:Addr) (as:List Addr) (h x y:Nat) (L:Nat->Nat->Int) (ns:List Int) (dr:Int),vs=[.ref a,.int (x:Int),.int (y:Int),.ref lo,.int dr]/\H a=some (.lst (as.map V.ref))/\Be H as h L/\x < h/\y < h/\x≠y/\h<=12/\H lo=some (.lst (ns.map V.int))/\ns.Perm (ups h)/\Sz 200 dr/\0<=dr /\
 ∀(r:Rp) (H':Hp),H r.t=none->H r.w=none->An H H'->RpG H' r->r.x=(x:Int)->r.y=(y:Int)->r.ws.length<=14->CB h L ns r.n r->Q (.ref r.t) H'
theorem NX {h:Nat} {x y:Nat} {ys:List Int} (hx:x < h) (hy:y < h) (ne:x≠y) (nd:ys.Nodup) (all:∀z∈ys,0<=z/\z < (h:Int)/\z≠(x:Int)/\z≠(y:Int)):Fa h ([(x:Int)]++ys++[(y:Int)]) (x:Int) (y:Int)=true:=by
 refine decide_eq_true ⟨?_,rfl,?_,fun z m=>?_,?_⟩
 ·rw [length_append,length_append];show 2<=1+ys.length+1;omega
 ·rw [List.getLast?_append];rfl
 ·rcases mem_append.mp m with m | m
  ·rcases mem_append.mp m with m | m
   ·rw [mem_singleton.mp m];omega
   ·have:=all z m;omega
  ·rw [mem_singleton.mp m];omega
 ·refine nodup_append.mpr ⟨nodup_append.mpr ⟨nodup_cons.mpr ⟨List.not_mem_nil,nodup_nil⟩,nd,fun a ma b mb=>?_⟩,nodup_cons.mpr ⟨List.not_mem_nil,nodup_nil⟩,fun a ma b mb=>?_⟩
  ·rw [mem_singleton.mp ma];exact fun e=>(all b mb).2.2.1 e.symm
  ·rw [mem_singleton.mp mb];rcases mem_append.mp ma with m | m
   ·rw [mem_singleton.mp m];omega
   ·exact (all a m).2.2.2
theorem RpG.upd {H:Hp} {r:Rp} {l:Addr} {xs:List V} {o:HO} (g:RpG H r) (e:H l=some (.lst xs)) (n:r.w≠l):RpG (L2.upd H l o) r:=⟨by rw [Ak (Du g.t e (fun z=>by cases z))];exact g.t,by rw [Ak n];exact g.w⟩
noncomputable def QD (h:Nat) (L:Nat->Nat->Int) (ns:List Int) (H H':Hp) (r:Rp):Prop:=RpG H' r/\H r.w=none/\r.ws.length<=14/\CB h L ns r.n r
noncomputable def N3:Sp:=fun vs H Q _=>∃(a o lo:Addr) (as:List Addr) (h:Nat) (L:Nat->Nat->Int) (out ns:List Int) (c:Int),vs=[.ref a,.ref o,.ref lo,.int c]/\H a=some (.lst (as.map V.ref))/\Be H as h L/\H o=some (.lst (out.map V.int))/\out.length=h/\h<=6/\H lo=some (.lst (ns.map V.int))/\ns.Perm (ups h)/\Sz 200 c/\0<=c /\
 ∀(l:Addr) (rs:List Rp) (H':Hp),H l=none->An H H'->H' l=some (.lst (vrp rs))->(∀r∈rs,QD h L ns H H' r/\r.w≠l)->AN rs=BG out->Q (.ref l) H'
theorem Jy (a b:List Rp):AN (a++b)=AN a++AN b:=by unfold AN;rw [map_append]
theorem El {h:Nat} {ws:List Int} {x y:Int} (k:2<=ws.length->ws.head?=some x->ws.getLast?=some y->(∀z∈ws,0<=z/\z < (h:Int))->ws.Nodup->False):Fa h ws x y=false:=decide_eq_false fun z=>k z.1 z.2.1 z.2.2.1 z.2.2.2.1 z.2.2.2.2
theorem P3 {xs:List V}:CN xs (some 1) (some (-1))=(xs.drop (min 1 xs.length)).take (xs.length - 1 - min 1 xs.length):=by
 unfold CN HT.sIx;show (xs.drop (if (1:Int) < 0 then _ else min (1:Int).toNat xs.length)).take ((if (-1:Int) < 0 then ((-1:Int)+(xs.length:Int)).toNat else _) - (if (1:Int) < 0 then _ else min (1:Int).toNat xs.length))=_;rw [if_neg (show ¬ (1:Int) < 0 by decide),if_pos (show (-1:Int) < 0 by decide),show (1:Int).toNat=1 from rfl,show ((-1:Int)+(xs.length:Int)).toNat=xs.length - 1 by omega]
theorem OU {xs:List V}:CN xs none (some (-1))=xs.take (xs.length - 1):=by
 unfold CN HT.sIx;show (xs.drop 0).take ((if (-1:Int) < 0 then ((-1:Int)+(xs.length:Int)).toNat else _) - 0)=_;rw [if_pos (by decide),show ((-1:Int)+(xs.length:Int)).toNat=xs.length - 1 by omega];rfl
noncomputable def IG:Sp:=fun vs H Q _=>∃(w:Addr) (h:Nat) (x y c:Int) (ws:List Int),vs=[.ref w,.int c,.int (h:Int)]/\H w=some (.lst (ws.map V.int))/\Fa h ws x y=true/\ws.length<=14/\Sz 200 c/\0<=c/\1<=h/\h<=12 /\
 ∀(l:Addr) (us:List Int) (H':Hp),H l=none->An H H'->H' l=some (.lst (us.map V.int))->us.length<=60->Fa h us x y=false->Q (.ref l) H'
theorem NR (c:Int) (i:Nat):bit (c+2 ^ i) i=!bit c i:=by
 unfold bit;have p:(2:Int) ^ i≠0:=Int.ne_of_gt (Int.pow_pos (by decide));rw [Int.add_ediv_of_dvd_right (Int.dvd_refl _),Int.ediv_self p];rcases Int.emod_two_eq (c / 2 ^ i) with e | e
 ·rw [decide_eq_true (show (c / 2 ^ i+1) % 2=1 by omega),decide_eq_false (show ¬ c / 2 ^ i % 2=1 by omega)];rfl
 ·rw [decide_eq_false (show ¬ (c / 2 ^ i+1) % 2=1 by omega),decide_eq_true (show c / 2 ^ i % 2=1 by omega)];rfl
theorem Pc (c:Int) (i:Nat):bit (c - 2 ^ i) i=!bit c i:=by
 have e:=NR (c - 2 ^ i) i;rw [Int.sub_add_cancel] at e;rw [e,Bool.not_not]
theorem JH {h:Nat} {L:Nat->Nat->Int} {ns:List Int} {due:List (Int × Int)} {low:Int} {rs:List Rp} {r:Rp} (m:r∈rs) (k:¬ CB h L ns low r):DL h L ns due low rs=false:=by
 unfold DL;rw [Bool.and_eq_false_iff];exact .inr (by rw [all_eq_false];exact ⟨r,m,by rw [GT k];decide⟩)
theorem DS {h:Nat} {L:Nat->Nat->Int} {ns:List Int} {due:List (Int × Int)} {low:Int} {rs:List Rp} (k:AN rs≠due):DL h L ns due low rs=false:=by
 unfold DL;rw [decide_eq_false k,Bool.false_and]
theorem PJ {h:Nat} {L:Nat->Nat->Int} {ns:List Int} {low:Int} {r:Rp} (k:Dl h r.cut r.y.toNat r.x.toNat=false):¬ CB h L ns low r:=fun z=>by rw [z.2.1] at k;cases k
theorem Pz {h:Nat} {L:Nat->Nat->Int} {ns:List Int} {low:Int} {r:Rp} (k:Fa h r.ws r.x r.y=false):¬ CB h L ns low r:=fun z=>by rw [z.1] at k;cases k
theorem PU {h x y:Nat} {c:Int} (k:Dl h c y x=true):Dl h (c+2 ^ x) y x=false/\Dl h (c - 2 ^ y) y x=false/\Dl h (c+2 ^ h) y x=false/\Dl h (c - 2 ^ h) y x=false/\Dl h (-1 - c) y x=false:=by
 unfold Dl at k ⊢;rw [Bool.and_eq_true,Bool.and_eq_true,decide_eq_true_eq] at k;obtain ⟨⟨c0,c1⟩,by_,bx⟩:=k;have bx:bit c x=false:=by rw [<- Bool.not_not (bit c x),bx];rfl
 refine ⟨?_,?_,?_,?_,?_⟩
 ·rw [NR,bx];simp
 ·rw [Pc,by_];simp
 ·rw [decide_eq_false (by omega),Bool.false_and]
 ·rw [decide_eq_false (by omega),Bool.false_and]
 ·rw [decide_eq_false (by omega),Bool.false_and]
theorem FZ {α:Type} {a b:List α} (h:a.length≠b.length):a≠b:=fun e=>h (by rw [e])
theorem QY {α:Type} {a:List α} (n:a.Nodup) (h:1 < a.length):a.reverse≠a:=fun e=>by
 have e0:a.reverse[0]?=a[0]?:=by rw [e]
 rw [List.getElem?_reverse (by omega)] at e0;have:=(List.getElem?_inj (by omega) n).mp e0;omega
theorem OX {h:Nat} {L:Nat->Nat->Int} {ns:List Int} {n low:Int} {r r':Rp} (k:CB h L ns n r) (ex:r'.x=r.x) (ey:r'.y=r.y) (ew:r'.ws=r.ws) (ec:r'.cut=r.cut) (ne:r'.n≠r.n):¬ CB h L ns low r':=fun z=>by
 obtain ⟨_,_,f,b,w,m,e,_⟩:=k;obtain ⟨_,_,f',b',w',m',e',_⟩:=z;rw [ew] at w';rw [ec] at m';have hf:f'=f:=Int.le_antisymm (w'.least.2 f w.least.1) (w.least.2 f' w'.least.1);rw [ex,ey,hf,Kt m' m,<- e] at e';exact ne e'
theorem Q5 {h:Nat} {L:Nat->Nat->Int} {ns:List Int} {low:Int} {r:Rp} (k:CB h L ns low r):r.x≠r.y:=fun e=>by
 have c:=k.2.1;unfold Dl at c;rw [e,Bool.and_not_self,Bool.and_false] at c
 cases c
theorem Q9 {h:Nat} {L:Nat->Nat->Int} {ns:List Int} {low:Int} {r:Rp} (k:CB h L ns low r):0<=r.x/\r.x < (h:Int)/\0<=r.y/\r.y < (h:Int):=by
 obtain ⟨_,hd,la,al,_⟩:=of_decide_eq_true k.1;have a:=al _ (mem_of_mem_head? hd);have b:=al _ (mem_of_mem_getLast? la);exact ⟨a.1,a.2,b.1,b.2⟩
theorem ON {rs:List Rp} {k:Nat} {r r':Rp} (hr:rs[k]?=some r) (ne:(r'.x,r'.y)≠(r.x,r.y)):AN (rs.take k++[r']++rs.drop (k+1))≠AN rs:=fun e=>by
 have lk:k < rs.length:=(List.getElem?_eq_some_iff.mp hr).1;have tl:(rs.take k).length=k:=by rw [length_take];omega
 have e1:=congrArg (fun l:List (Int × Int)=>l[k]?) e;unfold AN at e1;rw [List.getElem?_map,List.getElem?_map,hr,append_assoc,List.getElem?_append_right (by rw [tl];exact Nat.le_refl _),tl,Nat.sub_self] at e1;exact ne (Option.some.inj e1)
theorem BN (rs:List Rp):(AN rs).length=rs.length:=length_map ..
theorem NQ {rs:List Rp} {k:Nat} (lk:k < rs.length):AN (rs.take k++rs.drop (k+1))≠AN rs:=FZ (by rw [BN,BN,length_append,length_take,length_drop];omega)
theorem ME {rs:List Rp} {k:Nat} {r:Rp} (lk:k < rs.length):AN (rs.take k++[r]++rs.drop k)≠AN rs:=FZ (by rw [BN,BN,length_append,length_append,length_take,length_drop];show min k rs.length+1+_≠_;omega)
theorem Od {rs:List Rp} (n:(AN rs).Nodup) (l:1 < rs.length):AN rs.reverse≠AN rs:=by
 have e:AN rs.reverse=(AN rs).reverse:=map_reverse ..;rw [e];exact QY n (by rw [BN];exact l)
noncomputable def L0:Sp:=fun vs H Q _=>∃(l:Addr) (h:Nat) (L:Nat->Nat->Int) (ns:List Int) (rs:List Rp) (c:Int),vs=[.ref l,.int c,.int (h:Int)]/\H l=some (.lst (vrp rs))/\(∀r∈rs,RpG H r/\r.ws.length<=14/\CB h L ns r.n r)/\1<=rs.length/\rs.length<=40/\(AN rs).Nodup/\Sz 200 c/\0<=c/\1<=h/\h<=12 /\
 ∀(l':Addr) (rs':List Rp) (H':Hp),H l'=none->An H H'->H' l'=some (.lst (vrp rs'))->(∀r∈rs',RpG H' r/\r.ws.length<=60)->rs'.length<=80->(∀low,DL h L ns (AN rs) low rs'=false)->Q (.ref l') H'
theorem LV {out:List Int} {x j:Nat} {p:Int × Int} (m:p∈EU out x j):p.1=(x:Int):=by
 obtain ⟨y,_,rfl⟩:=mem_map.mp m;rfl
theorem Q6 (out:List Int) (x j:Nat):(EU out x j).Nodup:=pairwise_map.mpr ((nodup_range.filter _).imp fun ne e=>ne (Int.ofNat.inj (Prod.mk.inj e).2))
theorem NK (out:List Int) (x j:Nat):(EU out x j).length<=j:=by
 unfold EU;rw [length_map];exact Nat.le_trans (length_filter_le ..) (by rw [length_range];exact Nat.le_refl _)
theorem FE (out:List Int):∀i,(CV out i).Nodup/\((∀p∈CV out i,p.1 < (i:Int))/\(CV out i).length<=i*out.length)
 | 0=>⟨nodup_nil,(fun _ m=>absurd m List.not_mem_nil),Nat.zero_le _⟩
 | i+1=>by
   obtain ⟨a,b,c⟩:=FE out i;rw [CS];by_cases k:0 < out.getD i 0
   ·rw [if_pos k];have rl:=NK out i out.length;refine ⟨nodup_append.mpr ⟨a,Q6 ..,fun p m q mq e=>?_⟩,fun p m=>?_,by rw [length_append,Nat.add_mul,Nat.one_mul];omega⟩
    ·have:=b p m;rw [e,LV mq] at this;omega
    ·rcases mem_append.mp m with m | m
     ·have:=b p m;omega
     ·rw [LV m];omega
   ·rw [if_neg k,append_nil];exact ⟨a,fun p m=>by have:=b p m;omega,by rw [Nat.add_mul];omega⟩
theorem G4 {h:Nat} {L:Nat->Nat->Int} {ns:List Int} {due:List (Int × Int)} {low:Int} {rs:List Rp} (e:AN rs=due) (al:∀r∈rs,CB h L ns r.n r) (le:∀r∈rs,low<=r.n):DL h L ns due low rs=true:=by
 unfold DL;rw [decide_eq_true e,Bool.true_and,all_eq_true];intro r m;obtain ⟨a,b,f,g,c,d,e,_⟩:=al r m;exact OG ⟨a,b,f,g,c,d,e,le r m⟩
theorem Ht {h:Nat} {L:Nat->Nat->Int} {ns:List Int} {due:List (Int × Int)} {low:Int} {rs:List Rp} {r:Rp} (m:r∈rs) (l:r.n < low):DL h L ns due low rs=false:=JH m fun ⟨_,_,_,_,_,_,_,k⟩=>by omega
theorem P7 {h:Nat} {L:Nat->Nat->Int} {ns:List Int} {low:Int} {r:Rp} (k:CB h L ns low r):1<=r.n:=by
 obtain ⟨_,_,f,g,_,_,e,_⟩:=k;rw [e];unfold Ev
 split <;> omega
noncomputable def Dt (h:Nat) (q:Rm):Rp:=⟨q.t,q.w,(q.x:Int),(q.y:Int),Bk q.ws,A1 h q.g,q.nd⟩
theorem Op {h:Nat} {L F:Nat->Nat->Int} {ns:List Int} {H:Hp} {q:Rm} (k:HJ h L F ns H q):CB h L ns (Dt h q).n (Dt h q):=by
 have z:(Bk q.ws).map Int.toNat=q.ws:=by
  unfold Bk;rw [map_map];exact map_id' q.ws
 have b1:∀i,q.g i=true->i < h->bit (A1 h q.g) i=true:=fun i e l=>by rw [Bh,decide_eq_true l,e];rfl
 have b0:∀i,q.g i=false->bit (A1 h q.g) i=false:=fun i e=>by rw [Bh,e,Bool.and_false]
 refine ⟨decide_eq_true ⟨?_,?_,?_,fun u m=>?_,?_⟩,?_,F q.x q.y,F q.y q.x,?_,⟨?_,fun i j hi hj e e'=>?_⟩,?_,Int.le_refl _⟩
 ·show 2<=(Bk q.ws).length;rw [Dp];exact k.isw.two
 ·show (Bk q.ws).head?=_;unfold Bk;rw [List.head?_map,k.isw.first];rfl
 ·show (Bk q.ws).getLast?=_;unfold Bk;rw [List.getLast?_map,k.isw.last];rfl
 ·obtain ⟨v,mv,rfl⟩:=mem_map.mp m;have:=k.isw.all v mv;omega
 ·exact pairwise_map.mpr (k.isw.nd.imp fun ne e=>ne (Int.ofNat.inj e))
 ·show Dl h (A1 h q.g) q.y q.x=true;unfold Dl;rw [b1 _ k.gy k.hy,b0 _ k.gx,decide_eq_true ⟨Dd ..,by have:=ET h q.g;omega⟩];rfl
 ·show Ed h q.x q.y L (F q.x q.y) ((Bk q.ws).map Int.toNat);rw [z];exact k.isw
 ·obtain ⟨i,j,hi,hj,e,e',el⟩:=k.edge;exact ⟨i,j,hi,hj,b1 i e hi,b0 j e',el⟩
 ·change bit (A1 h q.g) i=true at e;change bit (A1 h q.g) j=false at e';rw [Bh,Bool.and_eq_true] at e;rw [Bh,decide_eq_true hj,Bool.true_and] at e';exact k.cut i j hi hj e.2 e'
 ·exact k.need
theorem Of (h:Nat) (rows:List Rm):vrm rows=vrp (rows.map (Dt h)):=by
 unfold vrm vrp;rw [map_map];rfl
theorem LL (h:Nat) (rows:List Rm):AN (rows.map (Dt h))=rows.map fun q=>((q.x:Int),(q.y:Int)):=by
 unfold AN;rw [map_map];rfl
noncomputable def rpD (r:Rp):PyData:=.tuple [.int r.x,.int r.y,.list (r.ws.map .int),.int r.cut,.int r.n]
theorem QH (r:Rp):Lay 2 (rpD r):=LY fun d m=>by
 rcases mem_cons.mp m with rfl | m
 ·exact D9 _ _
 rcases mem_cons.mp m with rfl | m
 ·exact D9 _ _
 rcases mem_cons.mp m with rfl | m
 ·exact Hi (lay_ints _ _)
 rcases mem_cons.mp m with rfl | m
 ·exact D9 _ _
 rw [mem_singleton.mp m];exact D9 _ _
theorem LI {K:PySem.W.Frag} {H:Hp} {rs:List Rp} (g:∀q∈rs,RpG H q):Reps K H (vrp rs) (rs.map rpD):=Hf fun q m=>.tup (SqT.of (g q m).t) (.cons (.int _) (.cons (.int _) (.cons (.lst (SqL.of (g q m).w) (.ints _)) (.cons (.int _) (.cons (.int _) .nil)))))
theorem Gu {h:Nat} {L:Nat->Nat->Int} {ns:List Int} {r r':Rp} (e:rpD r'=rpD r) (k:CB h L ns r.n r):CB h L ns r'.n r'/\r'.n=r.n/\(r'.x,r'.y)=(r.x,r.y)/\r'.ws.length=r.ws.length:=by
 obtain ⟨t,w,x,y,ws,c,n⟩:=r;obtain ⟨t',w',x',y',ws',c',n'⟩:=r';injection e with e
 injection e with e1 e
 injection e with e2 e
 injection e with e3 e
 injection e with e4 e
 injection e with e5 e
 injection e1 with e1
 injection e2 with e2
 injection e4 with e4
 injection e5 with e5
 injection e3 with e6
 have e7:ws'=ws:=map_inj_right (fun a b z=>by injection z) |>.mp e6;clear e6;subst e1 e2 e7 e4 e5;exact ⟨k,rfl,rfl,rfl⟩
def top (i:Nat):Stmt:=PySem.Challenge.pw_pollproof_k85_papers_of_pairs_margins.main.body.getD i (.Pass ⟨0,0,0,0⟩)
abbrev Kv:Stmt:=top 5
abbrev s_holds:Stmt:=top 6
abbrev GE:Stmt:=top 7
abbrev Fz:Stmt:=top 8
abbrev GJ:Stmt:=top 10
abbrev Oq:Stmt:=top 11
abbrev R9:Stmt:=top 12
abbrev Cr:Stmt:=top 14
abbrev Ha:Stmt:=top 18
abbrev Ko:Stmt:=top 21
abbrev Hl:Stmt:=top 23
abbrev Dz:Stmt:=top 25
abbrev DX:Stmt:=top 38
abbrev GN:Stmt:=top 41
abbrev FP:Stmt:=top 42
abbrev EE:Stmt:=top 45
abbrev FJ:Stmt:=top 48
abbrev Cl:Stmt:=top 50
abbrev Bw:Stmt:=top 51
abbrev Hg:Stmt:=top 52
abbrev DE:Stmt:=top 55
abbrev Ew:Stmt:=BR (top 15) 0
abbrev FX:Stmt:=BR (top 35) 1
abbrev C9:Stmt:=BR (top 39) 5
abbrev Gr:Stmt:=top 17
abbrev D8:Stmt:=top 19
abbrev Bv:Stmt:=top 20
abbrev JL:Stmt:=top 22
abbrev Kc:Stmt:=top 24
abbrev B5:Stmt:=top 26
abbrev Ge:Stmt:=top 32
abbrev Gd:Stmt:=top 33
abbrev EF:Stmt:=top 34
abbrev Gf:Stmt:=top 43
abbrev GX:Stmt:=top 44
abbrev EB:Stmt:=top 46
abbrev Dg:Stmt:=top 49
abbrev EV:Stmt:=top 56
abbrev Ch:Stmt:=BR (top 28) 1
abbrev Co:Stmt:=BR (top 39) 3
abbrev CJ:Stmt:=top 37
abbrev C6:Stmt:=top 47
abbrev Fp:Stmt:=top 53
abbrev Cf:Stmt:=BR (top 28) 2
abbrev BX:Stmt:=BR (top 28) 5
abbrev GV:Stmt:=BR (top 35) 0
abbrev FV:Stmt:=top 54
abbrev DG:Stmt:=BR (top 39) 4
abbrev E1:Stmt:=BR (top 35) 4
abbrev Br:Stmt:=BR (top 28) 3
abbrev Bq:Stmt:=BR (top 28) 4
abbrev Mr:Stmt:=top 57
theorem MR:Aq ["hands"] ["hands"] (Ag Kv):=⟨rfl,rfl,rfl,by decide +kernel,rfl,by decide +kernel,by decide +kernel⟩
theorem O6:Aq ["mask","hand"] ["mask","hand"] (Ag s_holds):=⟨rfl,rfl,rfl,by decide +kernel,rfl,by decide +kernel,by decide +kernel⟩
theorem JX:Aq ["mask","hand"] ["mask","hand"] (Ag GE):=⟨rfl,rfl,rfl,by decide +kernel,rfl,by decide +kernel,by decide +kernel⟩
theorem Lw:Aq ["mask"] ["mask"] (Ag Fz):=⟨rfl,rfl,rfl,by decide +kernel,rfl,by decide +kernel,by decide +kernel⟩
theorem J8:Aq ["thing"] ["thing"] (Ag GJ):=⟨rfl,rfl,rfl,by decide +kernel,rfl,by decide +kernel,by decide +kernel⟩
theorem Pj:Aq ["top","bottom"] ["top","bottom"] (Ag Oq):=⟨rfl,rfl,rfl,by decide +kernel,rfl,by decide +kernel,by decide +kernel⟩
theorem RV:Aq ["top","bottom"] ["top","bottom"] (Ag R9):=⟨rfl,rfl,rfl,by decide +kernel,rfl,by decide +kernel,by decide +kernel⟩
theorem B9:Aq ["outcome","pairs","x","seats"] ["outcome"] (Ag Cr):=⟨rfl,rfl,rfl,by decide +kernel,rfl,by decide +kernel,by decide +kernel⟩
theorem Kx:Aq ["leads"] ["leads"] (Ag Ha):=⟨rfl,rfl,rfl,by decide +kernel,rfl,by decide +kernel,by decide +kernel⟩
theorem HV:Aq ["reached","x","y","way"] ["reached","x","y"] (Ag Ko):=⟨rfl,rfl,rfl,by decide +kernel,rfl,by decide +kernel,by decide +kernel⟩
theorem Nr:Aq ["way","x","y","hands"] ["way","x","y","hands"] (Ag Hl):=⟨rfl,rfl,rfl,by decide +kernel,rfl,by decide +kernel,by decide +kernel⟩
theorem HE:Aq ["leads","way"] ["leads","way"] (Ag Dz):=⟨rfl,rfl,rfl,by decide +kernel,rfl,by decide +kernel,by decide +kernel⟩
theorem IF:Aq ["strengths","hand","others"] ["strengths","hand","others"] (Ag DX):=⟨rfl,rfl,rfl,by decide +kernel,rfl,by decide +kernel,by decide +kernel⟩
theorem DM:Aq ["_law_script","_law_k","_law_number"] ["_law_script","_law_k"] (Ag GN):=⟨rfl,rfl,rfl,by decide +kernel,rfl,by decide +kernel,by decide +kernel⟩
theorem Fd:Aq ["_law_cell_here","_law_by","_law_step"] ["_law_cell_here","_law_by"] (Ag FP):=⟨rfl,rfl,rfl,by decide +kernel,rfl,by decide +kernel,by decide +kernel⟩
theorem KY:Aq ["_law_some"] ["_law_some"] (Ag EE):=⟨rfl,rfl,rfl,by decide +kernel,rfl,by decide +kernel,by decide +kernel⟩
theorem ER:Aq ["_law_slip_here","_law_hand","_law_k"] ["_law_slip_here","_law_hand"] (Ag FJ):=⟨rfl,rfl,rfl,by decide +kernel,rfl,by decide +kernel,by decide +kernel⟩
theorem EI:Aq ["_law_links","_law_some"] ["_law_links","_law_some"] (Ag Cl):=⟨rfl,rfl,rfl,by decide +kernel,rfl,by decide +kernel,by decide +kernel⟩
theorem CA:Aq ["_law_links","_law_cut","_law_inner","_law_outer"] ["_law_links","_law_cut"] (Ag Bw):=⟨rfl,rfl,rfl,by decide +kernel,rfl,by decide +kernel,by decide +kernel⟩
theorem JT:Aq ["_law_first","_law_second","_law_ahead"] ["_law_first","_law_second","_law_ahead"] (Ag Hg):=⟨rfl,rfl,rfl,by decide +kernel,rfl,by decide +kernel,by decide +kernel⟩
theorem Do:Aq ["_law_some","_law_cell_here","_law_hands","_law_way"] ["_law_some","_law_cell_here","_law_hands"] (Ag DE):=⟨rfl,rfl,rfl,by decide +kernel,rfl,by decide +kernel,by decide +kernel⟩
theorem GA:Aq ["self","way"] ["self","way"] (Ag Ew):=⟨rfl,rfl,rfl,by decide +kernel,rfl,by decide +kernel,by decide +kernel⟩
theorem IP:Aq ["self","one","other"] ["self","one","other"] (Ag FX):=⟨rfl,rfl,rfl,by decide +kernel,rfl,by decide +kernel,by decide +kernel⟩
theorem Fu:Aq ["self","paper"] ["self","paper"] (Ag C9):=⟨rfl,rfl,rfl,by decide +kernel,rfl,by decide +kernel,by decide +kernel⟩
theorem BP:Aq ["sheet","hands","many","slip","number","behind","tier","others","x","y"] ["sheet","hands"] (Ag Gr):=⟨rfl,rfl,rfl,by decide +kernel,rfl,by decide +kernel,by decide +kernel⟩
theorem FY:Aq ["many","hands"] ["many"] (Ag D8):=⟨rfl,rfl,rfl,by decide +kernel,rfl,by decide +kernel,by decide +kernel⟩
theorem Bd:Aq ["leads","x","best","before","left","through","hand","link"] ["leads","x"] (Ag Bv):=⟨rfl,rfl,rfl,by decide +kernel,rfl,by decide +kernel,by decide +kernel⟩
theorem Dq:Aq ["reached","x","y","cut","hand","strong"] ["reached","x","y"] (Ag JL):=⟨rfl,rfl,rfl,by decide +kernel,rfl,by decide +kernel,by decide +kernel⟩
theorem Mz:Aq ["cut","x","y","hands"] ["cut","x","y","hands"] (Ag Kc):=⟨rfl,rfl,rfl,by decide +kernel,rfl,by decide +kernel,by decide +kernel⟩
theorem Dv:Aq ["leads","cut","outside"] ["leads","cut"] (Ag B5):=⟨rfl,rfl,rfl,by decide +kernel,rfl,by decide +kernel,by decide +kernel⟩
theorem Jg:Aq ["thing"] ["thing"] (Ag Ge):=⟨rfl,rfl,rfl,by decide +kernel,rfl,by decide +kernel,by decide +kernel⟩
theorem IL:Aq ["thing"] ["thing"] (Ag Gd):=⟨rfl,rfl,rfl,by decide +kernel,rfl,by decide +kernel,by decide +kernel⟩
theorem JC:Aq ["thing","hands"] ["thing","hands"] (Ag EF):=⟨rfl,rfl,rfl,by decide +kernel,rfl,by decide +kernel,by decide +kernel⟩
theorem EO:Aq ["_law_cell_here","_law_by","_law_number"] ["_law_cell_here","_law_by"] (Ag Gf):=⟨rfl,rfl,rfl,by decide +kernel,rfl,by decide +kernel,by decide +kernel⟩
theorem BH:Aq ["_law_cell_here","_law_hands","_law_number","_law_left","_law_lots_here","_law_k","_law_lot"] ["_law_cell_here","_law_hands"] (Ag GX):=⟨rfl,rfl,rfl,by decide +kernel,rfl,by decide +kernel,by decide +kernel⟩
theorem AZ:Aq ["_law_cell_here","_law_hands","_law_number","_law_way","_law_many","_law_left","_law_tiers","_law_k","_law_base","_law_lot"] ["_law_cell_here","_law_hands"] (Ag EB):=⟨rfl,rfl,rfl,by decide +kernel,rfl,by decide +kernel,by decide +kernel⟩
theorem B2:Aq ["_law_sheet_here","_law_hands","_law_links","_law_slip_here","_law_number","_law_places","_law_x","_law_y"] ["_law_sheet_here","_law_hands"] (Ag Dg):=⟨rfl,rfl,rfl,by decide +kernel,rfl,by decide +kernel,by decide +kernel⟩
theorem A7:Aq ["_law_paper_here","_law_cell_here","_law_hands","_law_at","_law_x","_law_y","_law_some","_law_cut","_law_many","_law_way","_law_rest","_law_one_here","_law_other"] ["_law_paper_here","_law_cell_here","_law_hands"] (Ag EV):=⟨rfl,rfl,rfl,by decide +kernel,rfl,by decide +kernel,by decide +kernel⟩
theorem DA:Aq ["self","x","y","strong","back"] ["self","x","y","strong","back"] (Ag Ch):=⟨rfl,rfl,rfl,by decide +kernel,rfl,by decide +kernel,by decide +kernel⟩
theorem B8:Aq ["self","strengths","picks","left","first"] ["self","strengths"] (Ag Co):=⟨rfl,rfl,rfl,by decide +kernel,rfl,by decide +kernel,by decide +kernel⟩
theorem Ey:Aq ["reached","x","others"] ["reached","x"] (Ag CJ):=⟨rfl,rfl,rfl,by decide +kernel,rfl,by decide +kernel,by decide +kernel⟩
theorem B1:Aq ["_law_script","_law_at","_law_hands","_law_lines","_law_most","_law_slips","_law_many","_law_k","_law_slip_here","_law_lead"] ["_law_script","_law_at","_law_hands","_law_lines","_law_most"] (Ag C6):=⟨rfl,rfl,rfl,by decide +kernel,rfl,by decide +kernel,by decide +kernel⟩
theorem BC:Aq ["_law_links","_law_x","_law_y","_law_lots_here","_law_drawn","_law_hands","_law_inner","_law_some","_law_cut","_law_hand","_law_ahead"] ["_law_links","_law_x","_law_y","_law_lots_here","_law_drawn"] (Ag Fp):=⟨rfl,rfl,rfl,by decide +kernel,rfl,by decide +kernel,by decide +kernel⟩
theorem Dr:Aq ["self","sheet"] ["self","sheet"] (Ag Cf):=⟨rfl,rfl,rfl,by decide +kernel,rfl,by decide +kernel,by decide +kernel⟩
theorem Bo:Aq ["self","leads","low","row","x","y"] ["self","leads","low","row"] (Ag BX):=⟨rfl,rfl,rfl,by decide +kernel,rfl,by decide +kernel,by decide +kernel⟩
theorem Kq:Aq ["self","hands","seats","lots"] ["self","hands","seats","lots"] (Ag GV):=⟨rfl,rfl,rfl,by decide +kernel,rfl,by decide +kernel,by decide +kernel⟩
theorem CM:Aq ["_law_links","_law_outcome","_law_lots_here","_law_cell_here","_law_paper_here","_law_x","_law_y"] ["_law_links","_law_outcome","_law_lots_here","_law_cell_here"] (Ag FV):=⟨rfl,rfl,rfl,by decide +kernel,rfl,by decide +kernel,by decide +kernel⟩
theorem AW:Aq ["self","sheet","many","leads","shown","strengths","x","reached"] ["self","sheet"] (Ag DG):=⟨rfl,rfl,rfl,by decide +kernel,rfl,by decide +kernel,by decide +kernel⟩
theorem G9:Aq ["self","sheet"] ["self","sheet"] (Ag E1):=⟨rfl,rfl,rfl,by decide +kernel,rfl,by decide +kernel,by decide +kernel⟩
theorem AI:Aq ["self","sheet","leads","reached","paper","x","y","needed"] ["self","sheet"] (Ag Br):=⟨rfl,rfl,rfl,by decide +kernel,rfl,by decide +kernel,by decide +kernel⟩
theorem C3:Aq ["self","sheet","low","paper","leads"] ["self","sheet","low","paper"] (Ag Bq):=⟨rfl,rfl,rfl,by decide +kernel,rfl,by decide +kernel,by decide +kernel⟩
theorem B3:Aq ["_law_script","_law_hands","_law_seats","_law_lots_here","_law_most","_law_sheet_here","_law_way","_law_margin","_law_paper_here","_law_lowest","_law_lent","_law_lower","_law_low","_law_spoilt_here","_law_told","_law_other","_law_low_other","_law_told_other"] ["_law_script"] (Ag Mr):=⟨rfl,rfl,rfl,by decide +kernel,rfl,by decide +kernel,by decide +kernel⟩
set_option genInjectivity false in
set_option genSizeOf false in
structure Ads where
 f_all_of:Addr
 d_all_of:FuncData
 f_holds:Addr
 d_holds:FuncData
 f_with_one:Addr
 d_with_one:FuncData
 f_members:Addr
 d_members:FuncData
 f_is_whole:Addr
 d_is_whole:FuncData
 f_down:Addr
 d_down:FuncData
 f_up:Addr
 d_up:FuncData
 f_pairs_by_seats:Addr
 d_pairs_by_seats:FuncData
 f_hands_of:Addr
 d_hands_of:FuncData
 f_way_by:Addr
 d_way_by:FuncData
 f_is_way:Addr
 d_is_way:FuncData
 f_least_link:Addr
 d_least_link:FuncData
 f_is_beaten:Addr
 d_is_beaten:FuncData
 f_law_cell:Addr
 d_law_cell:FuncData
 f_law_mixed:Addr
 d_law_mixed:FuncData
 f_law_mask:Addr
 d_law_mask:FuncData
 f_law_place:Addr
 d_law_place:FuncData
 f_law_least_link:Addr
 d_law_least_link:FuncData
 f_law_most_out:Addr
 d_law_most_out:FuncData
 f_law_need:Addr
 d_law_need:FuncData
 f_law_other_way:Addr
 d_law_other_way:FuncData
 f_Margin_init:Addr
 d_Margin_init:FuncData
 f_Way_ahead:Addr
 d_Way_ahead:FuncData
 f_Pairs_told_by:Addr
 d_Pairs_told_by:FuncData
 f_overs:Addr
 d_overs:FuncData
 f_leads_of:Addr
 d_leads_of:FuncData
 f_reached_from:Addr
 d_reached_from:FuncData
 f_cut_by:Addr
 d_cut_by:FuncData
 f_is_cut:Addr
 d_is_cut:FuncData
 f_greatest_link:Addr
 d_greatest_link:FuncData
 f_are_hands:Addr
 d_are_hands:FuncData
 f_are_seats:Addr
 d_are_seats:FuncData
 f_are_lots:Addr
 d_are_lots:FuncData
 f_law_twice:Addr
 d_law_twice:FuncData
 f_law_lots:Addr
 d_law_lots:FuncData
 f_law_slip:Addr
 d_law_slip:FuncData
 f_law_leads:Addr
 d_law_leads:FuncData
 f_law_spoilt:Addr
 d_law_spoilt:FuncData
 f_PairsMargin_need_of:Addr
 d_PairsMargin_need_of:FuncData
 f_Pairs_picks_by:Addr
 d_Pairs_picks_by:FuncData
 f_shown_from:Addr
 d_shown_from:FuncData
 f_law_sheet:Addr
 d_law_sheet:FuncData
 f_law_one:Addr
 d_law_one:FuncData
 f_PairsMargin_leads_in:Addr
 d_PairsMargin_leads_in:FuncData
 f_PairsMargin_row_shows:Addr
 d_PairsMargin_row_shows:FuncData
 f_Way_init:Addr
 d_Way_init:FuncData
 f_law_paper:Addr
 d_law_paper:FuncData
 f_Pairs_counted:Addr
 d_Pairs_counted:FuncData
 f_Way_outcome:Addr
 d_Way_outcome:FuncData
 f_PairsMargin_least:Addr
 d_PairsMargin_least:FuncData
 f_PairsMargin_shows:Addr
 d_PairsMargin_shows:FuncData
 f_law:Addr
 d_law:FuncData
 c_Pairs:Addr
 c_PairsMargin:Addr
 c_Margin:Addr
 t_MOST_HANDS:Tok
 t_MOST_SEATS:Tok
 lc:Addr
 lP:Addr
structure Tx (K:PySem.W.Frag) (mg:Str->Option Value) (base:Heap) (a:Ads):Prop where
 m_all_of:mg "all_of"=some (.ref a.f_all_of)
 m_holds:mg "holds"=some (.ref a.f_holds)
 m_with_one:mg "with_one"=some (.ref a.f_with_one)
 m_members:mg "members"=some (.ref a.f_members)
 m_is_whole:mg "is_whole"=some (.ref a.f_is_whole)
 m_down:mg "down"=some (.ref a.f_down)
 m_up:mg "up"=some (.ref a.f_up)
 m_pairs_by_seats:mg "pairs_by_seats"=some (.ref a.f_pairs_by_seats)
 m_hands_of:mg "hands_of"=some (.ref a.f_hands_of)
 m_way_by:mg "way_by"=some (.ref a.f_way_by)
 m_is_way:mg "is_way"=some (.ref a.f_is_way)
 m_least_link:mg "least_link"=some (.ref a.f_least_link)
 m_is_beaten:mg "is_beaten"=some (.ref a.f_is_beaten)
 m_law_cell:mg "_law_cell"=some (.ref a.f_law_cell)
 m_law_mixed:mg "_law_mixed"=some (.ref a.f_law_mixed)
 m_law_mask:mg "_law_mask"=some (.ref a.f_law_mask)
 m_law_place:mg "_law_place"=some (.ref a.f_law_place)
 m_law_least_link:mg "_law_least_link"=some (.ref a.f_law_least_link)
 m_law_most_out:mg "_law_most_out"=some (.ref a.f_law_most_out)
 m_law_need:mg "_law_need"=some (.ref a.f_law_need)
 m_law_other_way:mg "_law_other_way"=some (.ref a.f_law_other_way)
 m_overs:mg "overs"=some (.ref a.f_overs)
 m_leads_of:mg "leads_of"=some (.ref a.f_leads_of)
 m_reached_from:mg "reached_from"=some (.ref a.f_reached_from)
 m_cut_by:mg "cut_by"=some (.ref a.f_cut_by)
 m_is_cut:mg "is_cut"=some (.ref a.f_is_cut)
 m_greatest_link:mg "greatest_link"=some (.ref a.f_greatest_link)
 m_are_hands:mg "are_hands"=some (.ref a.f_are_hands)
 m_are_seats:mg "are_seats"=some (.ref a.f_are_seats)
 m_are_lots:mg "are_lots"=some (.ref a.f_are_lots)
 m_law_twice:mg "_law_twice"=some (.ref a.f_law_twice)
 m_law_lots:mg "_law_lots"=some (.ref a.f_law_lots)
 m_law_slip:mg "_law_slip"=some (.ref a.f_law_slip)
 m_law_leads:mg "_law_leads"=some (.ref a.f_law_leads)
 m_law_spoilt:mg "_law_spoilt"=some (.ref a.f_law_spoilt)
 m_shown_from:mg "shown_from"=some (.ref a.f_shown_from)
 m_law_sheet:mg "_law_sheet"=some (.ref a.f_law_sheet)
 m_law_one:mg "_law_one"=some (.ref a.f_law_one)
 m_law_paper:mg "_law_paper"=some (.ref a.f_law_paper)
 m_law:mg "law"=some (.ref a.f_law)
 z_all:mg "all"=none
 z_any:mg "any"=none
 z_bool:mg "bool"=none
 z_enumerate:mg "enumerate"=none
 z_int:mg "int"=none
 z_isinstance:mg "isinstance"=none
 z_len:mg "len"=none
 z_list:mg "list"=none
 z_max:mg "max"=none
 z_min:mg "min"=none
 z_range:mg "range"=none
 z_reversed:mg "reversed"=none
 z_set:mg "set"=none
 z_sorted:mg "sorted"=none
 z_sum:mg "sum"=none
 z_tuple:mg "tuple"=none
 z_zip:mg "zip"=none
 k_MOST_HANDS:mg "MOST_HANDS"=some (.int 12 a.t_MOST_HANDS)
 k_MOST_SEATS:mg "MOST_SEATS"=some (.int 60 a.t_MOST_SEATS)
 m_Pairs:mg "Pairs"=some (.ref a.c_Pairs)
 cl_Pairs:Cls K a.c_Pairs
 mk_Pairs:Mk K a.c_Pairs a.f_Way_init
 me_Pairs_ahead:Gn K a.c_Pairs "ahead" a.f_Way_ahead
 me_Pairs_picks_by:Gn K a.c_Pairs "picks_by" a.f_Pairs_picks_by
 me_Pairs_counted:Gn K a.c_Pairs "counted" a.f_Pairs_counted
 me_Pairs_told_by:Gn K a.c_Pairs "told_by" a.f_Pairs_told_by
 me_Pairs_outcome:Gn K a.c_Pairs "outcome" a.f_Way_outcome
 na_Pairs_hands:Ce K a.c_Pairs "hands"
 na_Pairs_seats:Ce K a.c_Pairs "seats"
 na_Pairs_lots:Ce K a.c_Pairs "lots"
 m_PairsMargin:mg "PairsMargin"=some (.ref a.c_PairsMargin)
 cl_PairsMargin:Cls K a.c_PairsMargin
 mk_PairsMargin:Mk K a.c_PairsMargin a.f_Margin_init
 me_PairsMargin_leads_in:Gn K a.c_PairsMargin "leads_in" a.f_PairsMargin_leads_in
 me_PairsMargin_least:Gn K a.c_PairsMargin "least" a.f_PairsMargin_least
 me_PairsMargin_need_of:Gn K a.c_PairsMargin "need_of" a.f_PairsMargin_need_of
 me_PairsMargin_shows:Gn K a.c_PairsMargin "shows" a.f_PairsMargin_shows
 me_PairsMargin_row_shows:Gn K a.c_PairsMargin "row_shows" a.f_PairsMargin_row_shows
 na_PairsMargin_way:Ce K a.c_PairsMargin "way"
 m_Margin:mg "Margin"=some (.ref a.c_Margin)
 cl_Margin:Cls K a.c_Margin
 lam:GB base mg a.lc a.lP
 lcode:a.d_reached_from.code=.ref a.lc
 F_all_of:Fun K "all_of" "all_of" Kv a.f_all_of a.d_all_of
 b_all_of:A3 K a.d_all_of ["hands"] []
 F_holds:Fun K "holds" "holds" s_holds a.f_holds a.d_holds
 b_holds:A3 K a.d_holds ["mask","hand"] []
 F_with_one:Fun K "with_one" "with_one" GE a.f_with_one a.d_with_one
 b_with_one:A3 K a.d_with_one ["mask","hand"] []
 F_members:Fun K "members" "members" Fz a.f_members a.d_members
 b_members:A3 K a.d_members ["mask"] []
 F_is_whole:Fun K "is_whole" "is_whole" GJ a.f_is_whole a.d_is_whole
 b_is_whole:A3 K a.d_is_whole ["thing"] []
 F_down:Fun K "down" "down" Oq a.f_down a.d_down
 b_down:A3 K a.d_down ["top","bottom"] []
 F_up:Fun K "up" "up" R9 a.f_up a.d_up
 b_up:A3 K a.d_up ["top","bottom"] []
 F_pairs_by_seats:Fun K "pairs_by_seats" "pairs_by_seats" Cr a.f_pairs_by_seats a.d_pairs_by_seats
 b_pairs_by_seats:A3 K a.d_pairs_by_seats ["outcome"] []
 F_hands_of:Fun K "hands_of" "hands_of" Ha a.f_hands_of a.d_hands_of
 b_hands_of:A3 K a.d_hands_of ["leads"] []
 F_way_by:Fun K "way_by" "way_by" Ko a.f_way_by a.d_way_by
 b_way_by:A3 K a.d_way_by ["reached","x","y"] []
 F_is_way:Fun K "is_way" "is_way" Hl a.f_is_way a.d_is_way
 b_is_way:A3 K a.d_is_way ["way","x","y","hands"] []
 F_least_link:Fun K "least_link" "least_link" Dz a.f_least_link a.d_least_link
 b_least_link:A3 K a.d_least_link ["leads","way"] []
 F_is_beaten:Fun K "is_beaten" "is_beaten" DX a.f_is_beaten a.d_is_beaten
 b_is_beaten:A3 K a.d_is_beaten ["strengths","hand","others"] []
 F_law_cell:Fun K "_law_cell" "_law_cell" GN a.f_law_cell a.d_law_cell
 b_law_cell:A3 K a.d_law_cell ["_law_script","_law_k"] []
 F_law_mixed:Fun K "_law_mixed" "_law_mixed" FP a.f_law_mixed a.d_law_mixed
 b_law_mixed:A3 K a.d_law_mixed ["_law_cell_here","_law_by"] []
 F_law_mask:Fun K "_law_mask" "_law_mask" EE a.f_law_mask a.d_law_mask
 b_law_mask:A3 K a.d_law_mask ["_law_some"] []
 F_law_place:Fun K "_law_place" "_law_place" FJ a.f_law_place a.d_law_place
 b_law_place:A3 K a.d_law_place ["_law_slip_here","_law_hand"] []
 F_law_least_link:Fun K "_law_least_link" "_law_least_link" Cl a.f_law_least_link a.d_law_least_link
 b_law_least_link:A3 K a.d_law_least_link ["_law_links","_law_some"] []
 F_law_most_out:Fun K "_law_most_out" "_law_most_out" Bw a.f_law_most_out a.d_law_most_out
 b_law_most_out:A3 K a.d_law_most_out ["_law_links","_law_cut"] []
 F_law_need:Fun K "_law_need" "_law_need" Hg a.f_law_need a.d_law_need
 b_law_need:A3 K a.d_law_need ["_law_first","_law_second","_law_ahead"] []
 F_law_other_way:Fun K "_law_other_way" "_law_other_way" DE a.f_law_other_way a.d_law_other_way
 b_law_other_way:A3 K a.d_law_other_way ["_law_some","_law_cell_here","_law_hands"] []
 F_Margin_init:Fun K "__init__" "Margin.__init__" Ew a.f_Margin_init a.d_Margin_init
 b_Margin_init:A3 K a.d_Margin_init ["self","way"] []
 F_Way_ahead:Fun K "ahead" "Way.ahead" FX a.f_Way_ahead a.d_Way_ahead
 b_Way_ahead:A3 K a.d_Way_ahead ["self","one","other"] []
 F_Pairs_told_by:Fun K "told_by" "Pairs.told_by" C9 a.f_Pairs_told_by a.d_Pairs_told_by
 b_Pairs_told_by:A3 K a.d_Pairs_told_by ["self","paper"] []
 F_overs:Fun K "overs" "overs" Gr a.f_overs a.d_overs
 b_overs:A3 K a.d_overs ["sheet","hands"] []
 F_leads_of:Fun K "leads_of" "leads_of" D8 a.f_leads_of a.d_leads_of
 b_leads_of:A3 K a.d_leads_of ["many"] []
 F_reached_from:Fun K "reached_from" "reached_from" Bv a.f_reached_from a.d_reached_from
 b_reached_from:A3 K a.d_reached_from ["leads","x"] []
 F_cut_by:Fun K "cut_by" "cut_by" JL a.f_cut_by a.d_cut_by
 b_cut_by:A3 K a.d_cut_by ["reached","x","y"] []
 F_is_cut:Fun K "is_cut" "is_cut" Kc a.f_is_cut a.d_is_cut
 b_is_cut:A3 K a.d_is_cut ["cut","x","y","hands"] []
 F_greatest_link:Fun K "greatest_link" "greatest_link" B5 a.f_greatest_link a.d_greatest_link
 b_greatest_link:A3 K a.d_greatest_link ["leads","cut"] []
 F_are_hands:Fun K "are_hands" "are_hands" Ge a.f_are_hands a.d_are_hands
 b_are_hands:A3 K a.d_are_hands ["thing"] []
 F_are_seats:Fun K "are_seats" "are_seats" Gd a.f_are_seats a.d_are_seats
 b_are_seats:A3 K a.d_are_seats ["thing"] []
 F_are_lots:Fun K "are_lots" "are_lots" EF a.f_are_lots a.d_are_lots
 b_are_lots:A3 K a.d_are_lots ["thing","hands"] []
 F_law_twice:Fun K "_law_twice" "_law_twice" Gf a.f_law_twice a.d_law_twice
 b_law_twice:A3 K a.d_law_twice ["_law_cell_here","_law_by"] []
 F_law_lots:Fun K "_law_lots" "_law_lots" GX a.f_law_lots a.d_law_lots
 b_law_lots:A3 K a.d_law_lots ["_law_cell_here","_law_hands"] []
 F_law_slip:Fun K "_law_slip" "_law_slip" EB a.f_law_slip a.d_law_slip
 b_law_slip:A3 K a.d_law_slip ["_law_cell_here","_law_hands"] []
 F_law_leads:Fun K "_law_leads" "_law_leads" Dg a.f_law_leads a.d_law_leads
 b_law_leads:A3 K a.d_law_leads ["_law_sheet_here","_law_hands"] []
 F_law_spoilt:Fun K "_law_spoilt" "_law_spoilt" EV a.f_law_spoilt a.d_law_spoilt
 b_law_spoilt:A3 K a.d_law_spoilt ["_law_paper_here","_law_cell_here","_law_hands"] []
 F_PairsMargin_need_of:Fun K "need_of" "PairsMargin.need_of" Ch a.f_PairsMargin_need_of a.d_PairsMargin_need_of
 b_PairsMargin_need_of:A3 K a.d_PairsMargin_need_of ["self","x","y","strong","back"] []
 F_Pairs_picks_by:Fun K "picks_by" "Pairs.picks_by" Co a.f_Pairs_picks_by a.d_Pairs_picks_by
 b_Pairs_picks_by:A3 K a.d_Pairs_picks_by ["self","strengths"] []
 F_shown_from:Fun K "shown_from" "shown_from" CJ a.f_shown_from a.d_shown_from
 b_shown_from:A3 K a.d_shown_from ["reached","x"] []
 F_law_sheet:Fun K "_law_sheet" "_law_sheet" C6 a.f_law_sheet a.d_law_sheet
 b_law_sheet:A3 K a.d_law_sheet ["_law_script","_law_at","_law_hands","_law_lines","_law_most"] []
 F_law_one:Fun K "_law_one" "_law_one" Fp a.f_law_one a.d_law_one
 b_law_one:A3 K a.d_law_one ["_law_links","_law_x","_law_y","_law_lots_here","_law_drawn"] []
 F_PairsMargin_leads_in:Fun K "leads_in" "PairsMargin.leads_in" Cf a.f_PairsMargin_leads_in a.d_PairsMargin_leads_in
 b_PairsMargin_leads_in:A3 K a.d_PairsMargin_leads_in ["self","sheet"] []
 F_PairsMargin_row_shows:Fun K "row_shows" "PairsMargin.row_shows" BX a.f_PairsMargin_row_shows a.d_PairsMargin_row_shows
 b_PairsMargin_row_shows:A3 K a.d_PairsMargin_row_shows ["self","leads","low","row"] []
 F_Way_init:Qq K "__init__" "Way.__init__" GV a.f_Way_init a.d_Way_init
 b_Way_init:A3 K a.d_Way_init ["self","hands","seats","lots"] []
 F_law_paper:Fun K "_law_paper" "_law_paper" FV a.f_law_paper a.d_law_paper
 b_law_paper:A3 K a.d_law_paper ["_law_links","_law_outcome","_law_lots_here","_law_cell_here"] []
 F_Pairs_counted:Fun K "counted" "Pairs.counted" DG a.f_Pairs_counted a.d_Pairs_counted
 b_Pairs_counted:A3 K a.d_Pairs_counted ["self","sheet"] []
 F_Way_outcome:Fun K "outcome" "Way.outcome" E1 a.f_Way_outcome a.d_Way_outcome
 b_Way_outcome:A3 K a.d_Way_outcome ["self","sheet"] []
 F_PairsMargin_least:Fun K "least" "PairsMargin.least" Br a.f_PairsMargin_least a.d_PairsMargin_least
 b_PairsMargin_least:A3 K a.d_PairsMargin_least ["self","sheet"] []
 F_PairsMargin_shows:Fun K "shows" "PairsMargin.shows" Bq a.f_PairsMargin_shows a.d_PairsMargin_shows
 b_PairsMargin_shows:A3 K a.d_PairsMargin_shows ["self","sheet","low","paper"] []
 F_law:Fun K "law" "law" Mr a.f_law a.d_law
local macro_rules | `(tactic| trivial)=>`(tactic| refine Sz.neg (by trivial))
local macro_rules | `(tactic| trivial)=>`(tactic| refine Sz.fdiv (by trivial))
local macro_rules | `(tactic| trivial)=>`(tactic| refine Sz.sub (by trivial) (by trivial))
local macro_rules | `(tactic| trivial)=>`(tactic| refine Sz.add (by trivial) (by trivial))
local macro_rules | `(tactic| trivial)=>`(tactic| refine Sz.mul (by trivial) (by trivial))
local macro_rules | `(tactic| trivial)=>`(tactic| exact P8 _ (by first | decide | decide +kernel) (szd 200))
local macro_rules | `(tactic| trivial)=>`(tactic| first | assumption | exact szd 64 | exact szd 200 | exact szd 1000)
local macro_rules | `(tactic| symm)=>`(tactic| (repeat (first | with_reducible refine KP fun _ _=>?_ | refine ⟨_,rfl,?_⟩ | refine ⟨_,_,rfl,rfl,?_⟩ | refine ⟨rfl,?_⟩ | refine ⟨(by show (_:Int)≠0;first | decide | decide +kernel),?_⟩ | refine ⟨⟨(by show (_:Int)≠0;decide),szd 9000⟩,?_⟩ | refine ⟨(by show NB _ _;exact ⟨by decide,by decide,by decide⟩),?_⟩ | refine ⟨(by show Q1 _ _;refine ⟨_,_,(by trivial),(by trivial),?_⟩;decide +kernel),?_⟩ | refine ⟨_,_,_,_,rfl,rfl,SqL.of (by assumption),(by rfl),?_⟩ | refine ⟨_,_,_,_,rfl,rfl,SqT.of (by assumption),(by rfl),?_⟩ | refine ⟨_,_,rfl,.inl (SqL.of (by assumption)),?_⟩ | refine ⟨_,_,rfl,.inr (SqT.of (by assumption)),?_⟩ | refine Me (by assumption) ?_ | refine IN (by assumption) ?_)))
local macro_rules | `(tactic| nofun)=>`(tactic| first | exact .inl rfl | exact .inr rfl | assumption | exact ⟨rfl,by decide +kernel,by decide +kernel,rfl,by decide +kernel,rfl,by decide +kernel,rfl,by decide +kernel⟩)
local macro_rules | `($a *> $b)=>`(@Aa _ _ _ _ _ $a $b (by rfl))
local macro_rules | `($a >> $b)=>`(@Af _ _ _ _ _ $a $b)
local macro_rules | `($a <&> ($b <|> $c))=>`(@Ai _ _ _ _ _ _ _ _ $a $b $c)
local macro_rules | `(tactic| subst_eqs)=>`(tactic| ((first | refine Me (by assumption) ?_ | refine IN (by assumption) ?_);try with_reducible refine KP fun _ _=>?_))
section
variable {P:Program} {w:World} {K:PySem.W.Frag} {mg:Str->Option Value} {base:Heap} {ad:Ads}
theorem Ir (T:Tx K mg base ad):AK P w K mg base CX0 1 ad.f_all_of ad.d_all_of ["hands"] RM:=by
 refine T.F_all_of.ok MR (fun vs H Q E h=>?_) (fun cdv A outer s H vs Q E hr h=>?_)
 ·obtain ⟨h,rfl,_⟩:=h;rfl
 obtain ⟨h,rfl,h0,h1,q⟩:=h;refine ⟨_,(@Ah _ _ _ (@Ap _ _ _ _ (BB<&>((CT<&>(Ae<|>(pv 0)))<|>Ae)))),?_⟩;exact ⟨_,rfl,_,_,rfl,rfl,⟨h0,by omega,by decide⟩,_,_,rfl,rfl,q⟩
theorem G7 (T:Tx K mg base ad):AK P w K mg base CX0 1 ad.f_holds ad.d_holds ["mask","hand"] PY:=by
 refine T.F_holds.ok O6 (fun vs H Q E h=>?_) (fun cdv A outer s H vs Q E hr h=>?_)
 ·obtain ⟨m,h,rfl,_⟩:=h;rfl
 obtain ⟨m,h,rfl,h0,q⟩:=h;refine ⟨_,(@Ah _ _ _ (@Ap _ _ _ _ (@C1 _ _ _ _ _ _ _ _ B4 (E7<&>((Fm<&>((pv 0)<|>(pv 1)))<|>Ae)) Ae (As _)))),?_⟩;refine ⟨_,rfl,_,rfl,_,_,rfl,rfl,h0,_,_,rfl,rfl,rfl,?_⟩;show Q (.bl (decide (V.int (Builtin.bitAnd (m / 2 ^ h.toNat) 1)=V.int 1))) H;rw [Eg];exact q
theorem FK (T:Tx K mg base ad):AK P w K mg base CX0 1 ad.f_with_one ad.d_with_one ["mask","hand"] QV:=by
 refine T.F_with_one.ok JX (fun vs H Q E h=>?_) (fun cdv A outer s H vs Q E hr h=>?_)
 ·obtain ⟨m,h,rfl,_⟩:=h;rfl
 obtain ⟨m,h,rfl,h0,h1,q⟩:=h;refine ⟨_,(@Ah _ _ _ (@Ap _ _ _ _ (RD<&>((pv 0)<|>(CT<&>(Ae<|>(pv 1))))))),?_⟩;exact ⟨_,rfl,_,rfl,_,_,rfl,rfl,⟨h0,by omega,by decide⟩,_,_,rfl,rfl,q⟩
theorem E9 (T:Tx K mg base ad):AK P w K mg base CX0 1 ad.f_members ad.d_members ["mask"] MU:=by
 refine T.F_members.ok Lw (fun vs H Q E h=>?_) (fun cdv A outer s H vs Q E hr h=>?_)
 ·obtain ⟨m,rfl,_⟩:=h;rfl
 obtain ⟨m,rfl,m0,m1,q⟩:=h;refine ⟨_,(@Ah _ _ _ (@Ap _ _ _ _ (Bb (fsc:=Ag Fz) (N:=["mask"]) (Nc:=["mask","hand"]) rfl rfl (by nofun) rfl (AF rfl T.z_range ((QL PySem.F.plainAttrs_int PySem.F.slot_int_bit_length PySem.F.type_int_bit_length PP (pv 0))*>Ad)) (fun _ _ _ _=>(CK (@Ar _ _ _ _ _ _ _ _ B4 (E7<&>((Fm<&>((pv 0)<|>(pv 1)))<|>Ae)) Ae (As _)))) (fun _ _ _ _=>(pv 1))))),?_⟩;have hb:(Builtin.Int.intBits m)<=12:=intBits_le_iff.mpr (by show m.natAbs < 4096;omega);refine ⟨_,rfl,rfl,m,rfl,rfl,_,rfl,by omega,by omega,?_⟩;have en:((Builtin.Int.intBits m:Nat):Int).toNat=Builtin.Int.intBits m:=by omega
 rw [en];refine Bc (A4 (by omega)) (fun D i ys H'=>ys=(hands i (bit m)).map V.int/\H'=upd H D (.lst ys)) (fun D hD=>⟨rfl,rfl⟩) (fun D i ys H' hq_=>by obtain ⟨e1,e2⟩:=hq_;rw [e2,e1];exact ⟨Ab,by rw [length_map];exact BU i (bit m)⟩) ?_ ?_
 ·rintro D i ys H' K1 K2 hD hi ⟨e1,rfl⟩ k1 k2;have ei:(0+(i:Int)).toNat=i:=by omega
  refine ⟨_,rfl,_,rfl,_,_,rfl,rfl,(by show (0:Int)<=0+(i:Int);omega),_,_,rfl,rfl,rfl,_,rfl,?_⟩;dsimp only;rw [show decide (V.int (Builtin.bitAnd (m / 2 ^ (0+(i:Int)).toNat) 1)=V.int 1)=bit m i from by rw [Eg,ei]];have ms:=CW i (bit m)
  cases e:bit m i with
  | true =>
    rw [e,if_pos rfl] at ms;refine P5 ⟨_,rfl,?_⟩;refine k1 _ _ Ab ⟨?_,by rw [AT]⟩;rw [ms,map_append,e1,Int.zero_add];rfl
  | false =>
    rw [e,if_neg (by decide)] at ms;refine Rc ?_;exact k2 _ ⟨by rw [ms];exact e1,rfl⟩
 ·rintro D ys H' hD ⟨rfl,rfl⟩;refine q D _ hD (Ac hD _) ?_;rw [Ab,Ol m0 m1]
theorem DP (T:Tx K mg base ad):AK P w K mg base CX0 1 ad.f_is_whole ad.d_is_whole ["thing"] PF:=by
 refine T.F_is_whole.ok J8 (fun vs H Q E h=>?_) (fun cdv A outer s H vs Q E hr h=>?_)
 ·obtain ⟨c,rfl,_⟩:=h;rfl
 obtain ⟨c,rfl,q⟩:=h;refine ⟨_,(@Ah _ _ _ (@Ap _ _ _ _ (@Dy _ _ _ _ _ _ _ (@Al _ _ _ _ _ _ _ _ _ GK (by rfl) T.z_isinstance PyProof.Rows.boot_isinstance ((pv 0)*>((Jk (v:=.ty "int") rfl T.z_int PyProof.Rows.boot_int rfl)*>Ad)) (by decide) (by decide) (by rfl) (by rfl)) (@Ef _ _ _ _ _ (@NT _ _ _ _ (@Al _ _ _ _ _ _ _ _ _ GK (by rfl) T.z_isinstance PyProof.Rows.boot_isinstance ((pv 0)*>((Jk (v:=.ty "bool") rfl T.z_bool PyProof.Rows.boot_bool rfl)*>Ad)) (by decide) (by decide) (by rfl) (by rfl))))))),?_⟩;refine ⟨_,rfl,_,_,_,_,rfl,Es.int c,Kk,_,rfl,?_⟩;refine P5 ?_;exact ⟨_,rfl,_,_,_,_,rfl,Es.int c,IJ,_,rfl,q⟩
theorem Qh (T:Tx K mg base ad):AK P w K mg base CX0 1 ad.f_down ad.d_down ["top","bottom"] QN:=by
 refine T.F_down.ok Pj (fun vs H Q E h=>?_) (fun cdv A outer s H vs Q E hr h=>?_)
 ·obtain ⟨t,b,rfl,_⟩:=h;rfl
 obtain ⟨t,b,rfl,h0,hz,q⟩:=h;refine ⟨_,(@Ah _ _ _ (@Ap _ _ _ _ (AO<&>((pv 0)<|>(pv 1))))),?_⟩;exact ⟨_,rfl,_,rfl,_,_,rfl,rfl,⟨Int.ne_of_gt h0,hz⟩,q⟩
theorem RY (T:Tx K mg base ad):AK P w K mg base CX0 1 ad.f_up ad.d_up ["top","bottom"] S6:=by
 refine T.F_up.ok RV (fun vs H Q E h=>?_) (fun cdv A outer s H vs Q E hr h=>?_)
 ·obtain ⟨t,b,rfl,_⟩:=h;rfl
 obtain ⟨t,b,rfl,h0,hz,q⟩:=h;refine ⟨_,(@Ah _ _ _ (@Ap _ _ _ _ (@Eu _ _ _ _ _ _ Dx (AO<&>((@Eu _ _ _ _ _ _ Dx (pv 0))<|>(pv 1)))))),?_⟩;exact ⟨_,rfl,_,rfl,_,rfl,_,_,rfl,rfl,⟨Int.ne_of_gt h0,hz⟩,_,rfl,q⟩
theorem Dh (T:Tx K mg base ad):AK P w K mg base CX0 1 ad.f_pairs_by_seats ad.d_pairs_by_seats ["outcome"] M5:=by
 refine T.F_pairs_by_seats.ok B9 (fun vs H Q E h=>?_) (fun cdv A outer s H vs Q E hr h=>?_)
 ·obtain ⟨o,out,rfl,_⟩:=h;rfl
 obtain ⟨o,out,rfl,ho,l12,q⟩:=h;refine ⟨_,((@Am _ _ (1) _ _ _ _ B9.nd rfl (Or.inl rfl) (@AR _ _ _ _ Ad) (by rfl) (by nofun))>>((Bz PassesOwn.never rfl (IK rfl T.z_enumerate ((pv 0)*>Ad)) (Di rfl (A9 (A0 (i:=2) B9.nd rfl (Or.inr rfl)) (A9 (A0 (i:=3) B9.nd rfl (Or.inl rfl)) C0))) (@Ah _ _ _ (@Bi _ _ _ _ _ _ _ _ (@Ar _ _ _ _ _ _ _ _ EY (pv 3) Ae (As _)) (@Ah _ _ _ (@Cz _ _ _ _ (CG PySem.F.plainAttrs_list PySem.F.slot_list_extend PySem.F.type_list_extend HU (pv 1) ((Jz (fsc:=Ag Cr) (N:=["outcome","pairs","x","seats"]) (Nc:=["outcome","pairs","x","seats","y","others"]) rfl rfl ⟨rfl,by decide +kernel,by decide +kernel,by decide +kernel,by decide +kernel,rfl,by decide +kernel,rfl,by decide +kernel⟩ rfl (IK rfl T.z_enumerate ((pv 0)*>Ad)) (fun _ _ _ _=>(CK (@Ar _ _ _ _ _ _ _ _ B4 (pv 5) Ae (As _)))) (fun _ _ _ _=>(@B7 _ _ _ _ _ ((pv 2)*>((pv 4)*>Ad)))))*>Ad)) (by rfl))) Az)))>>(@Ah _ _ _ (@Ap _ _ _ _ (pv 1))))),?_⟩;have ol:(out.map V.int).length=out.length:=length_map _;refine ⟨(by show 0<=sizeLine;decide),fun l hl=>?_⟩;symm;refine ⟨⟨_,SqL.of (Ac hl _ _ _ ho)⟩,KA (xs:=out.map V.int) (fun i σ' J=>∃(v2 v3:Option V) (ps:Pq),σ'=[some (.ref o),some (.ref l),v2,v3]/\An H J/\J l=some (.lst (vpq ps))/\CQ J ps/\ps.map (·.2)=CV out i) ⟨none,none,[],rfl,Ac hl _,Ab,(fun _ m=>absurd m List.not_mem_nil),rfl⟩ (fun i σ' J _ hq_=>by obtain ⟨_,_,_,_,e,_⟩:=hq_;exact SqL.of (e _ _ ho)) ?_ ?_⟩
 ·rintro i x T0 σ' J hx ⟨v2,v3,ps,rfl,sJ,eL,gp,em⟩ hT;obtain ⟨z,hz,rfl⟩:=int_at hx;have hi:i < out.length:=(List.getElem?_eq_some_iff.mp hz).1;have gi:out.getD i 0=z:=by rw [getD_eq_getElem?_getD,hz];rfl
  have pl:ps.length<=144:=by
   have a:=congrArg List.length em;rw [length_map] at a;have b:=Ep out i;have c:=Nat.mul_le_mul (show i<=12 by omega) l12;omega
  have s1:=Ac hT (.tup [.int (i:Int),.int z]);have e1:(upd J T0 (.tup [.int (i:Int),.int z])) T0=some (.tup [.int (i:Int),.int z]):=Ab;generalize upd J T0 (.tup [.int (i:Int),.int z])=J1 at s1 e1 ⊢;refine ⟨T0,_,rfl,SqT.of e1,rfl,_,_,rfl,_,_,rfl,rfl,?_⟩;have sJ1:=sJ.trans s1;have eL1:=s1 _ _ eL;symm;by_cases c:0 < z
  ·refine ifT (decide_eq_true c) ?_;symm;refine ⟨.inl ⟨rfl,_,SqL.of eL1⟩,?_⟩;symm;refine ⟨⟨_,SqL.of (sJ1 _ _ ho)⟩,?_⟩;refine Nj (zs:=out.map V.int) rfl rfl (by rw [ol];exact A4 (by omega)) (fun D j ys G=>∃qs:Pq,ys=vpq qs/\G D=some (.lst ys)/\An J1 G/\CQ G qs/\qs.map (·.2)=EU out i j) (fun D hD=>⟨[],rfl,Ab,Ac hD _,(fun _ m=>absurd m List.not_mem_nil),rfl⟩) (fun D j ys G hq_=>by obtain ⟨qs,f1,f2,_,_,f5⟩:=hq_;exact ⟨f2,by rw [f1,Gx,<- length_map (f:=(·.2)),f5];exact Go out i j⟩) (fun D j ys G hD hq_=>by obtain ⟨_,_,_,f3,_⟩:=hq_;exact SqL.of (f3 _ _ (sJ1 _ _ ho))) ?_ ?_
   ·rintro D j y ys G T1 K1 K2 hD hy ⟨qs,rfl,f2,f3,f4,f5⟩ hT1 kk1 kk2;obtain ⟨z2,hz2,rfl⟩:=int_at hy;have gj:out.getD j 0=z2:=by rw [getD_eq_getElem?_getD,hz2];rfl
    have s4:=Ac hT1 (.tup [.int (j:Int),.int z2]);generalize upd G T1 (.tup [.int (j:Int),.int z2])=G1 at s4 ⊢;symm;by_cases c2:z2=0
    ·refine ifT (D4 c2) ?_;symm;refine ⟨(by show 2<=sizeLine;decide),fun t ht=>?_⟩;have s5:=Ac ht (.tup [V.int (i:Int),V.int (j:Int)]);have e5:(upd G1 t (.tup [V.int (i:Int),V.int (j:Int)])) t=some (.tup [V.int (i:Int),V.int (j:Int)]):=Ab;generalize upd G1 t (.tup [V.int (i:Int),V.int (j:Int)])=G2 at s5 e5 ⊢;have s45:=s4.trans s5;have eD:=s45 _ _ f2;refine kk1 _ _ eD ⟨qs++[(t,(i:Int),(j:Int))],by unfold vpq;rw [map_append];rfl,Ab,Ax (f3.trans s45) hD,?_,by rw [map_append,Fb,gj,if_pos c2,f5];rfl⟩
     have g5:CQ G2 (qs++[(t,(i:Int),(j:Int))]):=fun q m=>by
      rcases mem_append.mp m with m | m
      ·exact s45 _ _ (f4 q m)
      ·rw [mem_singleton.mp m];exact e5
     exact g5.upd eD
    ·refine ifF (D1 c2) ?_;exact kk2 _ ⟨qs,rfl,s4 _ _ f2,f3.trans s4,f4.same s4,by rw [Fb,gj,if_neg c2,append_nil];exact f5⟩
   rintro D ys G hD ⟨qs,rfl,f2,f3,f4,f5⟩;rw [ol] at f5
   have ql:qs.length<=12:=by
    have a:=congrArg List.length f5;rw [length_map] at a;have b:=Go out i out.length;omega
   have eL2:=f3 _ _ eL1;refine ⟨l,D,_,_,rfl,rfl,eL2,f2,Nat.le_of_lt (Av (by rw [Gx,Gx];omega)),?_⟩;have gA:CQ G (ps++qs):=fun q m=>(mem_append.mp m).elim (fun m=>(s1.trans f3) _ _ (gp q m)) (f4 q);exact ⟨_,_,ps++qs,rfl,Ax (sJ1.trans f3) hl,by rw [Ab];unfold vpq;rw [map_append],gA.upd eL2,by rw [map_append,em,f5,CS,gi,if_pos c]⟩
  ·refine ifF (decide_eq_false c) ?_;exact ⟨_,_,ps,rfl,sJ1,eL1,gp.same s1,by rw [CS,gi,if_neg c,append_nil];exact em⟩
 ·rintro σ' J ⟨v2,v3,ps,rfl,sJ,eL,gp,em⟩;refine ⟨_,rfl,?_⟩;rw [ol] at em;exact q l ps J hl sJ eL gp em
theorem DO (T:Tx K mg base ad):AK P w K mg base CX0 1 ad.f_hands_of ad.d_hands_of ["leads"] Nt:=by
 refine T.F_hands_of.ok Kx (fun vs H Q E h=>?_) (fun cdv A outer s H vs Q E hr h=>?_)
 ·obtain ⟨a,t,h,rfl,_⟩:=h;rfl
 obtain ⟨a,t,h,rfl,ha,hl,h12,q⟩:=h;refine ⟨_,(@Ah _ _ _ (@Ap _ _ _ _ (Cb rfl (by rfl) T.z_list (by rfl) T.z_range (@Al _ _ _ _ _ _ _ _ _ Au (by rfl) T.z_len PySem.boot_len ((pv 0)*>Ad) (by decide) (by decide) (by rfl) (by rfl))))),?_⟩;symm;have e:(vtb t).length=h:=by unfold vtb;rw [length_map,hl]
 refine ⟨by omega,fun l hl0=>?_⟩;rw [e,show (List.map (fun i:Nat=>V.int (i:Int)) (List.range h))=(ups h).map V.int from (by unfold ups;rw [map_map];rfl)];exact q l _ hl0 (Ac hl0 _) Ab
theorem HN (T:Tx K mg base ad):AK P w K mg base CX0 1 ad.f_way_by ad.d_way_by ["reached","x","y"] PM:=by
 refine T.F_way_by.ok HV (fun vs H Q E h=>?_) (fun cdv A outer s H vs Q E hr h=>?_)
 ·obtain ⟨t,h,x,y,L,be,rfl,_⟩:=h;rfl
 obtain ⟨t,h,x,y,L,be,rfl,td,hy,yx,h12,q⟩:=h;refine ⟨_,((@Am _ _ (3) _ _ _ _ HV.nd rfl (Or.inl rfl) (@AR _ _ _ _ ((pv 2)*>Ad)) (by rfl) (by nofun))>>((Hq PassesOwn.never (@Ar _ _ _ _ _ _ _ _ GP (@At _ _ _ _ _ _ _ Ay (pv 3) Ae (fun _ _=>rfl)) (pv 1) (As _)) (@Ah _ _ _ (@Cz _ _ _ _ (CG PySem.F.plainAttrs_list PySem.F.slot_list_insert PySem.F.type_list_insert Nu (pv 3) (Ae*>((@At _ _ _ _ _ _ _ Ay (@At _ _ _ _ _ _ _ BA (pv 0) Ae (fun _ _=>rfl)) (@At _ _ _ _ _ _ _ Ay (pv 3) Ae (fun _ _=>rfl)) (fun _ _=>rfl))*>Ad))) (by rfl))))>>(@Ah _ _ _ (@Ap _ _ _ _ (pv 3))))),?_⟩;obtain ⟨b,f,bf,et,eb,ef,re⟩:=td.is;obtain ⟨rk,par⟩:=re.par;symm;refine ⟨(by show 1<=sizeLine;decide),fun l hl=>?_⟩;have s1:=Ac hl (.lst [V.int (y:Int)]);have e1:(upd H l (.lst [V.int (y:Int)])) l=some (.lst ((Bk (y :: [])).map V.int)):=Ab;generalize upd H l (.lst [V.int (y:Int)])=H1 at s1 e1 ⊢;subst_eqs;refine ⟨fun m σ' H'=>∃(w:Nat) (r:List Nat),σ'=[some (.ref t),some (.int (x:Int)),some (.int (y:Int)),some (.ref l)]/\An H H'/\H' l=some (.lst ((Bk (w :: r)).map V.int))/\HH h x y L be rk w r/\rk w=m,⟨_,y,[],rfl,s1,e1,HH.start rk hy yx,rfl⟩,?_⟩;rintro m σ' H' ⟨w,r,rfl,s2,e2,pt,rm⟩;have wh:w < h:=pt.all w (mem_cons_self ..);have at0:atI ((Bk (w :: r)).map V.int) ((0:Nat):Int)=some (.int (w:Int)):=Bt rfl
 have rl:r.length<=12:=by
  have:=BW (xs:=Bk (w :: r)) (ys:=ups h) (List.Pairwise.map _ (fun a b (ne:a≠b) e=>ne (Int.ofNat.inj e)) (pt.rise.imp fun z e=>by rw [e] at z;exact Nat.lt_irrefl _ z)) fun z mz=>by
   obtain ⟨v,mv,rfl⟩:=mem_map.mp mz;exact mem_map.mpr ⟨v,mem_range.mpr (pt.all v mv),rfl⟩
  unfold Bk at this;rw [length_map,Cy,length_cons] at this;omega
 refine ⟨_,rfl,l,_,_,_,rfl,rfl,SqL.of e2,at0,?_⟩;symm;by_cases c:w=x
 ·refine ifF (Lc (by rw [c])) ?_;subst c;symm;exact q l (w :: r) H' hl s2 e2 pt.way
 ·refine ifT (L4 fun e=>c (Int.ofNat.inj e)) ?_;obtain ⟨p,hp,p1,p2,p3,p4⟩:=par w wh c;refine ⟨fun σ' H'=>∃(w':Nat) (r:List Nat),σ'=[some (.ref t),some (.int (x:Int)),some (.int (y:Int)),some (.ref l)]/\An H H'/\H' l=some (.lst ((Bk (w' :: r)).map V.int))/\HH h x y L be rk w' r/\rk w' < m,fun σ' H' ⟨w',r,a1,a2,a3,a4,a5⟩=>⟨rk w',a5,w',r,a1,a2,a3,a4,rfl⟩,?_⟩;have et2:=s2 _ _ et;symm;refine ⟨.inl ⟨rfl,_,SqL.of e2⟩,?_⟩;symm;refine ⟨l,_,_,_,rfl,rfl,SqL.of e2,at0,?_⟩;refine ⟨f,_,_,_,rfl,rfl,SqL.of (s2 _ _ ef),atG (by rw [re.lenf];exact wh),?_⟩;rw [p1];refine ⟨l,_,0,V.int (p:Int),rfl,rfl,e2,Nat.zero_le _,Av (by unfold Bk;rw [length_map,length_map,length_cons];omega),?_⟩;exact ⟨p,w :: r,rfl,Ax s2 hl,by rw [Ab];rfl,pt.step c hp p2 p3 p4,by omega⟩
theorem MB (T:Tx K mg base ad):AK P w K mg base CX0 1 ad.f_is_way ad.d_is_way ["way","x","y","hands"] MN:=by
 refine T.F_is_way.ok Nr (fun vs H Q E h=>?_) (fun cdv A outer s H vs Q E hr h=>?_)
 ·obtain ⟨w,h,x,y,ws,rfl,_⟩:=h;rfl
 obtain ⟨w,h,x,y,ws,rfl,hw,wl,q⟩:=h;refine ⟨_,((@Bi _ _ _ _ _ _ _ _ (PW.pt (@FS _ _ _ _ _ _ _ (@Ar _ _ _ _ _ _ _ _ FQ (@Al _ _ _ _ _ _ _ _ _ Au (by rfl) T.z_len PySem.boot_len ((pv 0)*>Ad) (by decide) (by decide) (by rfl) (by rfl)) Ae (As _)) (@FS _ _ _ _ _ _ _ (@Ar _ _ _ _ _ _ _ _ GP (@At _ _ _ _ _ _ _ Ay (pv 0) Ae (fun _ _=>rfl)) (pv 1) (As _)) (@EC _ _ _ _ (@Ar _ _ _ _ _ _ _ _ GP (@At _ _ _ _ _ _ _ Ay (pv 0) (@Eu _ _ _ _ _ _ Dx Ae) (fun _ _=>rfl)) (pv 2) (As _)))))) (@Ah _ _ _ (@Ap _ _ _ _ Cg)) Az)>>(@Ah _ _ _ (@Ap _ _ _ _ (@Dy _ _ _ _ _ _ _ (@Al _ _ _ _ _ _ _ _ _ (Hb rfl) (by rfl) T.z_all PyProof.Rows.boot_all ((Bb (fsc:=Ag Hl) (N:=["way","x","y","hands"]) (Nc:=["way","x","y","hands","hand"]) rfl rfl (by nofun) rfl (AD (pv 0)) (fun _ _ _ _=>AG) (fun _ _ _ _=>(EJ Hj FQ Ae (pv 4) (pv 3))))*>Ad) (by decide) (by decide) (by rfl) (by rfl)) (@Ef _ _ _ _ _ (@C1 _ _ _ _ _ _ _ _ B4 (Np rfl (by rfl) T.z_len (by rfl) T.z_set (pv 0)) (@Al _ _ _ _ _ _ _ _ _ Au (by rfl) T.z_len PySem.boot_len ((pv 0)*>Ad) (by decide) (by decide) (by rfl) (by rfl)) (As _))))))),?_⟩;have ln:(ws.map V.int).length=ws.length:=length_map ..
 have no:∀{H':Hp},An H H'->¬ (2<=ws.length/\ws.head?=some x/\ws.getLast?=some y/\(∀z∈ws,0<=z/\z < (h:Int))/\ws.Nodup)->Q (.bl false) H':=fun s k=>by
  have:=q _ s;unfold Fa at this;rwa [decide_eq_false k] at this
 symm;by_cases c1:ws.length < 2
 ·refine ifT (decide_eq_true (by rw [ln];omega)) ?_;symm;exact no (An.refl _) fun z=>by omega
 refine ifF (decide_eq_false (by rw [ln];omega)) ?_;obtain ⟨a0,w0,ew⟩:∃a0 w0,ws=a0 :: w0:=exists_cons_of_ne_nil (fun z=>by rw [z] at c1;exact c1 (by decide));have at0:atI (ws.map V.int) 0=some (.int a0):=by rw [ew];exact Bt (j:=0) rfl
 symm;refine ⟨w,_,_,_,rfl,rfl,SqL.of hw,at0,?_⟩;symm;by_cases c2:a0=x
 ·refine ifF (Lc c2) ?_;obtain ⟨w1,a1,ew1⟩:∃w1 a1,ws=w1++[a1]:=⟨ws.dropLast,ws.getLast (fun z=>by rw [z] at c1;exact c1 (by decide)),(dropLast_concat_getLast _).symm⟩
  have atl:atI (ws.map V.int) (-1)=some (.int a1):=by
   rw [ew1,map_append];exact Pg _ _
  symm;refine ⟨w,_,_,_,rfl,rfl,SqL.of hw,atl,?_⟩;symm;by_cases c3:a1=y
  ·refine ifF (Lc c3) ?_;have hd:ws.head?=some x:=by rw [ew,<- c2];rfl
   have la:ws.getLast?=some y:=by rw [ew1,<- c3,List.getLast?_append];rfl
   symm;refine ⟨⟨_,SqL.of hw⟩,?_⟩
   refine A5 (xs:=ws.map V.int) (by rw [ln];exact A4 (by omega)) (fun D j ys J=>ys=((ws.take j).map fun z=>decide (0<=z/\z < (h:Int))).map V.bl/\J=upd H D (.lst ys)) (fun D hD=>⟨rfl,rfl⟩) (fun D j ys J hq=>by
    obtain ⟨f1,f2⟩:=hq
    exact ⟨by rw [f2];exact Ab,by rw [f1,length_map,length_map];exact length_take_le _ _⟩) (fun D j ys J hD hq=>by
    obtain ⟨_,f2⟩:=hq;rw [f2];exact SqL.of (Ac hD _ _ _ hw)) ?_ ?_
   ·rintro D j u ys J K1 K2 hD hx ⟨f1,rfl⟩ k1 k2;obtain ⟨z,hz,rfl⟩:=int_at hx;refine yes (ifT rfl ?_)
    have fin:K1 (.bl (decide (0<=z/\z < (h:Int)))) (upd H D (.lst ys)):=by
     refine k1 _ _ Ab ⟨?_,by rw [AT]⟩;rw [f1,take_succ,hz,map_append,map_append];rfl
    symm;by_cases d0:0<=z
    ·refine ifT (decide_eq_true d0) ?_;rw [show decide (0<=z/\z < (h:Int))=decide (z < (h:Int)) from decide_eq_decide.mpr ⟨fun k=>k.2,fun k=>⟨d0,k⟩⟩] at fin;symm;exact fin
    ·refine ifF (decide_eq_false d0) ?_;rw [decide_eq_false (fun k=>d0 k.1)] at fin;exact fin
   rintro D ys H1 hD ⟨rfl,rfl⟩;rw [ln,take_length];have s1:=Ac hD (.lst ((ws.map fun z=>decide (0<=z/\z < (h:Int))).map V.bl));have e1:(upd H D (.lst ((ws.map fun z=>decide (0<=z/\z < (h:Int))).map V.bl))) D=some (.lst ((ws.map fun z=>decide (0<=z/\z < (h:Int))).map V.bl)):=Ab;generalize upd H D (.lst ((ws.map fun z=>decide (0<=z/\z < (h:Int))).map V.bl))=H1 at s1 e1 ⊢;refine ⟨D,_,rfl,SqL.of e1,?_⟩;by_cases c4:∀z∈ws,0<=z/\z < (h:Int)
   ·rw [show (ws.map fun z=>decide (0<=z/\z < (h:Int))).all id=true from all_eq_true.mpr fun b m=>by
     obtain ⟨z,zm,rfl⟩:=mem_map.mp m;exact decide_eq_true (c4 z zm)]
    symm;refine ⟨w,ws,rfl,SqL.of (s1 _ _ hw),by omega,fun ms m1 m2=>?_⟩;symm;refine ⟨w,_,rfl,.inl (SqL.of (s1 _ _ hw)),?_⟩;symm;show Q (V.bl (decide (V.int (ms.length:Int)=V.int ((ws.map V.int).length:Int)))) H1;by_cases c5:ws.Nodup
    ·have el:ms.length=ws.length:=Nat.le_antisymm (BW m1 fun z mz=>(m2 z).mp mz) (BW c5 fun z mz=>(m2 z).mpr mz);rw [D4 (by rw [ln,el])];have:=q _ s1;unfold Fa at this;rwa [decide_eq_true ⟨by omega,hd,la,c4,c5⟩] at this
    ·rw [D1 (fun e=>c5 (Kw m1 (fun z m=>(m2 z).mp m) (by rw [ln] at e;omega)))];exact no s1 fun z=>c5 z.2.2.2.2
   ·rw [show (ws.map fun z=>decide (0<=z/\z < (h:Int))).all id=false from Bool.eq_false_iff.mpr fun k=>c4 fun z zm=>of_decide_eq_true (all_eq_true.mp k _ (mem_map.mpr ⟨z,zm,rfl⟩))];symm;exact no s1 fun z=>c4 z.2.2.2.1
  ·refine ifT (L4 c3) ?_;symm
   exact no (An.refl _) fun z=>c3 (by
    have:=z.2.2.1;rw [ew1,List.getLast?_append] at this;exact Option.some.inj this)
 ·refine ifT (L4 c2) ?_;symm
  exact no (An.refl _) fun z=>c2 (by
   have:=z.2.1;rw [ew] at this;exact Option.some.inj this)
theorem HC (T:Tx K mg base ad):AK P w K mg base CX0 1 ad.f_least_link ad.d_least_link ["leads","way"] Iw:=by
 refine T.F_least_link.ok HE (fun vs H Q E h=>?_) (fun cdv A outer s H vs Q E hr h=>?_)
 ·obtain ⟨a,w,as,h,x,y,L,v,ws,rfl,_⟩:=h;rfl
 obtain ⟨a,w,as,h,x,y,L,v,ws,rfl,ha,tb,hw,iw,h12,q⟩:=h;refine ⟨_,(@Ah _ _ _ (@Ap _ _ _ _ (@Al _ _ _ _ _ _ _ _ _ (Eh rfl) (by rfl) T.z_min PyProof.Rows.boot_min ((Jz (fsc:=Ag Dz) (N:=["leads","way"]) (Nc:=["leads","way","one","other"]) rfl rfl ⟨rfl,by decide +kernel,by decide +kernel,by decide +kernel,by decide +kernel,rfl,by decide +kernel,rfl,by decide +kernel⟩ rfl (Rk rfl T.z_zip ((pv 1)*>((Ba Bm (pv 1) (Bj Ae) Bs)*>Ad))) (fun _ _ _ _=>AG) (fun _ _ _ _=>(@At _ _ _ _ _ _ _ (AM K) (@At _ _ _ _ _ _ _ (AM K) (pv 0) (pv 2) (fun _ _=>rfl)) (pv 3) (fun _ _=>rfl))))*>Ad) (by decide) (by decide) (by rfl) (by rfl)))),?_⟩;have wl:=Gy iw;have two:=iw.two;have ln:=Dp ws;symm;refine ⟨w,_,rfl,SqL.of hw,fun d hd=>?_⟩;rw [show CN ((Bk ws).map V.int) (some 1) none=((Bk ws).drop 1).map V.int from (Fc (j:=1)).trans (map_drop ..).symm];have s1:=Ac hd ((.lst (((Bk ws).drop 1).map V.int)));have e1:(upd H d ((.lst (((Bk ws).drop 1).map V.int)))) d=some ((.lst (((Bk ws).drop 1).map V.int))):=Ab;generalize upd H d ((.lst (((Bk ws).drop 1).map V.int)))=H1 at s1 e1 ⊢;refine ⟨w,d,rfl,⟨_,SqL.of (s1 _ _ hw)⟩,⟨_,SqL.of e1⟩,?_⟩;refine N2 (xs:=(Bk ws).map V.int) (zs:=((Bk ws).drop 1).map V.int) rfl rfl (by rw [length_map,length_map,length_drop];omega) (by rw [length_map,length_drop];exact A4 (by omega)) (fun D2 i ys J=>ys=((List.range i).map fun k=>L (ws.getD k 0) (ws.getD (k+1) 0)).map V.int/\J D2=some (.lst ys)/\An H1 J) (fun D2 hD2=>⟨rfl,Ab,Ac hD2 _⟩) (fun D2 i ys J hq_=>by obtain ⟨f1,f2,_⟩:=hq_;exact ⟨f2,by rw [f1,length_map,length_map,length_range];exact Nat.le_refl _⟩) (fun D2 i ys J hD2 hq_=>by obtain ⟨_,_,f3⟩:=hq_;exact ⟨SqL.of (f3 _ _ (s1 _ _ hw)),SqL.of (f3 _ _ e1)⟩) ?_ ?_
 ·rintro D2 i u z Tt ys J K1 K2 hD2 hu hz ⟨f1,f2,f3⟩ hT k1 k2
  have il:i+1 < ws.length:=by
   have:=(List.getElem?_eq_some_iff.mp hz).1;rw [length_map,length_drop] at this;omega
  have sT:=Ac hT (.tup [u,z]);have sD:=(s1.trans f3).trans sT
  have wi:∀k,k < ws.length->ws.getD k 0 < h:=fun k hk=>by
   rw [getD_eq_getElem?_getD,List.getElem?_eq_getElem hk];exact iw.all _ (getElem_mem hk)
  have eu:u=.int ((ws.getD i 0:Nat):Int):=by
   have a:=G0 (ws:=ws) (k:=i) (by omega);rw [Bt hu] at a;exact Option.some.inj a
  have ez:z=.int ((ws.getD (i+1) 0:Nat):Int):=by
   have a:=G0 (ws:=ws) (k:=i+1) il;rw [List.getElem?_map,List.getElem?_drop,<- List.getElem?_map,Nat.add_comm] at hz;rw [Bt hz] at a;exact Option.some.inj a
  subst eu ez;obtain ⟨ar,_,_,r3,r4⟩:=(tb.same sD).row (wi i (by omega));refine yes (ifT rfl ?_);refine ⟨_,rfl,_,rfl,a,_,_,_,rfl,rfl,SqL.of (sD _ _ ha),r3,?_⟩;refine ⟨_,rfl,ar,_,_,_,rfl,rfl,SqL.of r4,Bn (L (ws.getD i 0)) (wi (i+1) il),?_⟩;refine k1 _ _ (sT _ _ f2) ⟨?_,Ab,Ax (f3.trans sT) hD2⟩;rw [f1,range_succ,map_append,map_append];rfl
 rintro D2 ys H2 hD2 ⟨f1,f2,f3⟩;have lz:(((Bk ws).drop 1).map V.int).length=ws.length - 1:=by rw [length_map,length_drop,ln]
 rw [lz] at f1;subst f1;refine ⟨D2,lk L ws,rfl,SqL.of f2,?_,fun M Mm Ma=>?_⟩
 ·unfold lk;rw [length_map,length_range];omega
 rw [Int.le_antisymm (Ma v iw.least.1) (iw.least.2 M Mm)];exact q _ (s1.trans f3)
theorem IR (T:Tx K mg base ad):AK P w K mg base CX0 1 ad.f_is_beaten ad.d_is_beaten ["strengths","hand","others"] Ph:=by
 refine T.F_is_beaten.ok IF (fun vs H Q E h=>?_) (fun cdv A outer s H vs Q E hr h=>?_)
 ·obtain ⟨r,l,rs,h,i,F,zs,rfl,_⟩:=h;rfl
 obtain ⟨r,l,rs,h,i,F,zs,rfl,hr0,tb,hi,hl,sub,z60,q⟩:=h;refine ⟨_,(@Ah _ _ _ (@Ap _ _ _ _ (@Al _ _ _ _ _ _ _ _ _ (NI rfl) (by rfl) T.z_any PyProof.Rows.boot_any ((Bb (fsc:=Ag DX) (N:=["strengths","hand","others"]) (Nc:=["strengths","hand","others","other"]) rfl rfl (by nofun) rfl (AD (pv 2)) (fun _ _ _ _=>AG) (fun _ _ _ _=>(@C1 _ _ _ _ _ _ _ _ EY (@At _ _ _ _ _ _ _ (AM K) (@At _ _ _ _ _ _ _ (AM K) (pv 0) (pv 3) (fun _ _=>rfl)) (pv 1) (fun _ _=>rfl)) (@At _ _ _ _ _ _ _ (AM K) (@At _ _ _ _ _ _ _ (AM K) (pv 0) (pv 1) (fun _ _=>rfl)) (pv 3) (fun _ _=>rfl)) (As _))))*>Ad) (by decide) (by decide) (by rfl) (by rfl)))),?_⟩;refine ⟨_,rfl,l,rfl,⟨_,SqL.of hl⟩,?_⟩;refine A5 (xs:=zs.map V.int) (by rw [length_map];exact A4 (by omega)) (fun D k ys J=>ys=((zs.take k).map (Ex F (i:Int))).map V.bl/\J=upd H D (.lst ys)) (fun D hD=>⟨rfl,rfl⟩) (fun D k ys J hq_=>by obtain ⟨f1,f2⟩:=hq_;exact ⟨by rw [f2];exact Ab,by rw [f1,length_map,length_map];exact length_take_le _ _⟩) (fun D k ys J hD hq_=>by obtain ⟨_,f2⟩:=hq_;rw [f2];exact SqL.of (Ac hD _ _ _ hl)) ?_ ?_
 ·rintro D k w ys J K1 K2 hD hw ⟨f1,rfl⟩ k1 k2;obtain ⟨z,hz,rfl⟩:=int_at hw;obtain ⟨j,hj,rfl⟩:=sub z (mem_of_getElem? hz);have sD:=Ac hD (.lst ys);obtain ⟨ai,_,_,a3,a4⟩:=(tb.same sD).row hi;obtain ⟨aj,_,_,b3,b4⟩:=(tb.same sD).row hj;have er:=sD _ _ hr0;refine yes (ifT rfl ?_);refine ⟨_,rfl,_,rfl,r,_,_,_,rfl,rfl,SqL.of er,b3,?_⟩;refine ⟨_,rfl,aj,_,_,_,rfl,rfl,SqL.of b4,Bn (F j) hi,?_⟩;refine ⟨_,rfl,_,rfl,r,_,_,_,rfl,rfl,SqL.of er,a3,?_⟩;refine ⟨_,rfl,ai,_,_,_,rfl,rfl,SqL.of a4,Bn (F i) hj,?_⟩;symm;refine k1 _ _ Ab ⟨?_,by rw [AT]⟩;rw [f1,take_add_one,hz,map_append,map_append];rfl
 rintro D ys H1 hD ⟨rfl,rfl⟩;rw [length_map,take_of_length_le (Nat.le_refl _)];refine ⟨D,_,rfl,SqL.of Ab,?_⟩;rw [show (zs.map (Ex F (i:Int))).any id=CO F (i:Int) zs from (by unfold CO;rw [any_map];rfl)];exact q _ (Ac hD _)
theorem AV (T:Tx K mg base ad):AK P w K mg base CX0 1 ad.f_law_cell ad.d_law_cell ["_law_script","_law_k"] (Rz K):=by
 refine T.F_law_cell.ok DM (fun vs H Q E h=>?_) (fun cdv A outer s H vs Q E hr h=>?_)
 ·obtain ⟨p,ns,k,rfl,_⟩:=h;rfl
 obtain ⟨p,ns,k,rfl,hS,h63,k0,k1,q⟩:=h;refine ⟨_,((@Bi _ _ _ _ _ _ _ _ (@Ar _ _ _ _ _ _ _ _ FQ (pv 1) (@Al _ _ _ _ _ _ _ _ _ Au (by rfl) T.z_len PySem.boot_len ((pv 0)*>Ad) (by decide) (by decide) (by rfl) (by rfl)) (As _)) (@Ah _ _ _ (@Ap _ _ _ _ (AA<&>((@At _ _ _ _ _ _ _ Ay (pv 0) (pv 1) (fun _ _=>rfl))<|>(FF<&>(Ae<|>Ae)))))) Az)>>((@Am _ _ (2) _ _ _ _ DM.nd rfl (Or.inl rfl) (AC<&>((BQ<&>((pv 1)<|>Ae))<|>Ae)) (by rfl) (by nofun))>>((@E6 _ _ _ _ _ _ _ _ (@Ar _ _ _ _ _ _ _ _ EY (@Al _ _ _ _ _ _ _ _ _ Au (by rfl) T.z_len PySem.boot_len ((pv 0)*>Ad) (by decide) (by decide) (by rfl) (by rfl)) Ae (As _)) (@Ah _ _ _ (@Am _ _ (2) _ _ _ _ DM.nd rfl (Or.inl rfl) (AC<&>((BQ<&>((AA<&>((@At _ _ _ _ _ _ _ Ay (pv 0) (AA<&>((BQ<&>((pv 1)<|>Ae))<|>(@Al _ _ _ _ _ _ _ _ _ Au (by rfl) T.z_len PySem.boot_len ((pv 0)*>Ad) (by decide) (by decide) (by rfl) (by rfl)))) (fun _ _=>rfl))<|>(FF<&>(Ae<|>Ae))))<|>Ae))<|>(BQ<&>((BQ<&>((pv 1)<|>(pv 1)))<|>Ae)))) (by rfl) (by nofun))) Az)>>(@Ah _ _ _ (@Ap _ _ _ _ (AA<&>((BQ<&>((AA<&>((pv 2)<|>Ae))<|>Ae))<|>Ae))))))),?_⟩;have hl:(ns.map V.int).length=ns.length:=length_map _;have szk:Sz 64 k:=DK (by omega) (by omega);have p40:(0:Int) < 10 ^ (40:Int).toNat:=by decide +kernel
 refine ⟨_,rfl,_,rfl,p,_,rfl,.inl hS,_,_,rfl,rfl,_,rfl,?_⟩;refine P0 (fun c=>?_) (fun c=>?_)
 ·have c':k < (((ns.map V.int).length:Nat):Int):=of_decide_eq_true c;rw [hl] at c';obtain ⟨v,hv⟩:=LH k0 c';refine ⟨_,rfl,_,rfl,p,_,_,_,rfl,rfl,hS,hv,_,_,rfl,rfl,Ox,_,_,rfl,rfl,(Int.ne_of_gt p40),?_⟩;exact q _ (AH v p40).1 (AH v p40).2
 ·symm;refine ⟨fun σ' H'=>∃z:Int,σ'=[some (.ref p),some (.int k),some (.int z)]/\H=H',?_,?_⟩
  ·refine ⟨_,rfl,p,_,rfl,.inl hS,_,_,rfl,rfl,_,rfl,?_⟩;refine P0 (fun c2=>?_) (fun c2=>?_)
   ·have c2':0 < (((ns.map V.int).length:Nat):Int):=of_decide_eq_true c2;rw [hl] at c2';have m:=AH (k*7) c2';obtain ⟨v,hv⟩:=LH m.1 m.2;refine ⟨_,rfl,?_⟩;symm;refine ⟨p,_,rfl,.inl hS,?_⟩;rw [hl];refine ⟨_,_,rfl,rfl,(by show (_:Int)≠0;omega),?_⟩;refine ⟨p,_,_,_,rfl,rfl,hS,hv,_,_,rfl,rfl,Ox,_,_,rfl,rfl,(Int.ne_of_gt p40),?_⟩;have szv:Sz 200 (v.fmod (10 ^ (40:Int).toNat)):=EA (AH v p40).1 (AH v p40).2;symm;exact rfl
   ·exact ⟨_,rfl,rfl⟩
  rintro σ' H' ⟨z,rfl,rfl⟩;have m1:=AH z (show (0:Int) < 2147483647 by decide);have sz1:Sz 64 (z.fmod 2147483647):=DK (by omega) (by omega);symm;have m:=AH (z.fmod 2147483647*69621) (show (0:Int) < 2147483629 by decide);exact q _ m.1 (Int.lt_trans m.2 (by decide))
theorem BI (T:Tx K mg base ad):AK P w K mg base CX0 1 ad.f_law_mixed ad.d_law_mixed ["_law_cell_here","_law_by"] Pk:=by
 refine T.F_law_mixed.ok Fd (fun vs H Q E h=>?_) (fun cdv A outer s H vs Q E hr h=>?_)
 ·obtain ⟨c,b,rfl,_⟩:=h;rfl
 obtain ⟨c,b,rfl,szc,b0,b1,q⟩:=h;refine ⟨_,((@Am _ _ (2) _ _ _ _ Fd.nd rfl (Or.inl rfl) (AC<&>(Ae<|>(BQ<&>((pv 1)<|>Ae)))) (by rfl) (by nofun))>>(@Ah _ _ _ (@Ap _ _ _ _ (AA<&>((BQ<&>((AC<&>((pv 0)<|>Ae))<|>(pv 2)))<|>(AC<&>((FF<&>(Ae<|>Ae))<|>Ae))))))),?_⟩;have szb:Sz 64 b:=DK (by omega) (by omega);symm;have m:=AH ((c+3)*(618033988749894848204586834365+b*271828182845904523536028747)) (show (0:Int) < 10 ^ (30:Int).toNat+57 by decide);exact q _ m.1 (Int.lt_trans m.2 (by decide))
theorem JN (T:Tx K mg base ad):AK P w K mg base CX0 1 ad.f_law_mask ad.d_law_mask ["_law_some"] Ra:=by
 refine T.F_law_mask.ok KY (fun vs H Q E h=>?_) (fun cdv A outer s H vs Q E hr h=>?_)
 ·obtain ⟨l,hs,rfl,_⟩:=h;rfl
 obtain ⟨l,hs,rfl,hl,l100,h64,q⟩:=h;refine ⟨_,(@Ah _ _ _ (@Ap _ _ _ _ (@Al _ _ _ _ _ _ _ _ _ (N4 rfl) (by rfl) T.z_sum PyProof.Rows.boot_sum ((Bb (fsc:=Ag EE) (N:=["_law_some"]) (Nc:=["_law_some","_law_hand"]) rfl rfl (by nofun) rfl (AD (pv 0)) (fun _ _ _ _=>AG) (fun _ _ _ _=>(CT<&>(Ae<|>(pv 1)))))*>Ad) (by decide) (by decide) (by rfl) (by rfl)))),?_⟩;symm;refine ⟨⟨_,SqL.of hl⟩,?_⟩;refine A5 (xs:=hs.map V.int) (by rw [length_map];exact Ku (by omega)) (fun D i ys H'=>ys=((hs.take i).map fun h=>(1:Int)*2 ^ h.toNat).map V.int/\H'=upd H D (.lst ys)) (fun D hD=>⟨rfl,rfl⟩) (fun D i ys H' hq_=>by obtain ⟨f1,f2⟩:=hq_;exact ⟨by rw [f2];exact Ab,by rw [f1,length_map,length_map];exact length_take_le _ _⟩) (fun D i ys H' hD hq_=>by obtain ⟨_,f2⟩:=hq_;rw [f2];exact SqL.of (Ac hD _ _ _ hl)) ?_ ?_
 ·rintro D i x ys H' K1 K2 hD hx ⟨f1,rfl⟩ k1 k2;obtain ⟨z,hz,rfl⟩:=int_at hx;have et:hs.take (i+1)=hs.take i++[z]:=by rw [take_succ,hz];rfl
  obtain ⟨z0,z64⟩:=h64 z (mem_of_getElem? hz);refine yes (ifT rfl ?_);refine ⟨_,rfl,_,_,rfl,rfl,⟨by omega,by omega,by decide⟩,?_⟩;refine k1 _ _ Ab ⟨?_,by rw [AT]⟩;rw [f1,et,map_append,map_append];rfl
 ·rintro D ys H' hD ⟨rfl,rfl⟩;refine ⟨D,_,rfl,SqL.of Ab,?_⟩;rw [length_map,take_length];exact q _ (Ac hD _)
theorem Jd (T:Tx K mg base ad):AK P w K mg base CX0 1 ad.f_law_place ad.d_law_place ["_law_slip_here","_law_hand"] MV:=by
 refine T.F_law_place.ok ER (fun vs H Q E h=>?_) (fun cdv A outer s H vs Q E hr h=>?_)
 ·obtain ⟨t,ts,i,rfl,_⟩:=h;rfl
 obtain ⟨t,ts,i,rfl,ht,l12,i64,q⟩:=h;refine ⟨_,((Bz PassesOwn.never rfl (AF rfl T.z_range ((@Al _ _ _ _ _ _ _ _ _ Au (by rfl) T.z_len PySem.boot_len ((pv 0)*>Ad) (by decide) (by decide) (by rfl) (by rfl))*>Ad)) (A0 (i:=2) ER.nd rfl (Or.inl rfl)) (@Ah _ _ _ (@Bi _ _ _ _ _ _ _ _ (@Ar _ _ _ _ _ _ _ _ B4 (E7<&>((Fm<&>((@At _ _ _ _ _ _ _ BA (pv 0) (pv 2) (fun _ _=>rfl))<|>(pv 1)))<|>Ae)) Ae (As _)) (@Ah _ _ _ (@Ap _ _ _ _ (pv 2))) Az)))>>(@Ah _ _ _ (@Ap _ _ _ _ (@Al _ _ _ _ _ _ _ _ _ Au (by rfl) T.z_len PySem.boot_len ((pv 0)*>Ad) (by decide) (by decide) (by rfl) (by rfl))))),?_⟩;have tl:(ts.map V.int).length=ts.length:=length_map _;symm;refine ⟨by omega,by omega,BJ (fun k σ' J=>∃v,σ'=[some (.ref t),some (.int (i:Int)),v]/\J=H/\∀j u,j < k->ts[j]?=some u->bit u i=false) ⟨none,rfl,rfl,fun j u z=>absurd z (Nat.not_lt_zero j)⟩ ?_ ?_⟩
 ·rintro k σ' J hk ⟨v,rfl,rfl,no⟩;have hk':k < ts.length:=by omega
  obtain ⟨u,hu⟩:∃u,ts[k]?=some u:=⟨_,List.getElem?_eq_getElem hk'⟩;symm;refine ⟨t,_,_,_,rfl,rfl,SqT.of ht,(by rw [Int.zero_add];exact atN hu),?_⟩;symm;refine ⟨by omega,?_⟩;symm;have hb:=Eg u (i:Int);rw [Int.toNat_natCast] at hb;rw [Int.toNat_natCast]
  cases b:bit u i with
  | true =>
    refine ifT (hb.trans b) ?_;symm;rw [LE hu b no] at q;rw [Int.zero_add];exact q
  | false =>
    refine ifF (hb.trans b) ?_;refine ⟨_,rfl,rfl,fun j w hj hw=>?_⟩;rcases Nat.lt_or_eq_of_le (Nat.le_of_lt_succ hj) with z | z
    ·exact no j w z hw
    ·rw [z,hu] at hw;rw [<- Option.some.inj hw];exact b
 rintro σ' J ⟨v,rfl,rfl,no⟩;rw [Int.toNat_natCast,tl] at no;rw [MJ no] at q;symm;show Q (.int (((ts.map V.int).length:Nat):Int)) J;rw [tl];exact q
theorem EN (T:Tx K mg base ad):AK P w K mg base CX0 1 ad.f_law_least_link ad.d_law_least_link ["_law_links","_law_some"] Iw:=by
 refine T.F_law_least_link.ok EI (fun vs H Q E h=>?_) (fun cdv A outer s H vs Q E hr h=>?_)
 ·obtain ⟨a,w,as,h,x,y,L,v,ws,rfl,_⟩:=h;rfl
 obtain ⟨a,w,as,h,x,y,L,v,ws,rfl,ha,tb,hw,iw,h12,q⟩:=h;refine ⟨_,(@Ah _ _ _ (@Ap _ _ _ _ (@Al _ _ _ _ _ _ _ _ _ (Eh rfl) (by rfl) T.z_min PyProof.Rows.boot_min ((Bb (fsc:=Ag Cl) (N:=["_law_links","_law_some"]) (Nc:=["_law_links","_law_some","_law_k"]) rfl rfl (by nofun) rfl (AF rfl T.z_range ((BB<&>((@Al _ _ _ _ _ _ _ _ _ Au (by rfl) T.z_len PySem.boot_len ((pv 1)*>Ad) (by decide) (by decide) (by rfl) (by rfl))<|>Ae))*>Ad)) (fun _ _ _ _=>AG) (fun _ _ _ _=>(@At _ _ _ _ _ _ _ (AM K) (@At _ _ _ _ _ _ _ (AM K) (pv 0) (@At _ _ _ _ _ _ _ (AM K) (pv 1) (pv 2) (fun _ _=>rfl)) (fun _ _=>rfl)) (@At _ _ _ _ _ _ _ (AM K) (pv 1) (AC<&>((pv 2)<|>Ae)) (fun _ _=>rfl)) (fun _ _=>rfl))))*>Ad) (by decide) (by decide) (by rfl) (by rfl)))),?_⟩;have wl:=Gy iw;have two:=iw.two;have ln:=Dp ws;have ll:((Bk ws).map V.int).length=ws.length:=by rw [length_map,ln]
 have wi:∀k,k < ws.length->ws.getD k 0 < h:=fun k hk=>by
  rw [getD_eq_getElem?_getD,List.getElem?_eq_getElem hk];exact iw.all _ (getElem_mem hk)
 symm;rw [ll];refine ⟨by omega,by omega,?_⟩;rw [show ((ws.length:Int) - 1).toNat=ws.length - 1 by omega]
 refine Bc (A4 (by omega)) (fun D i ys J=>ys=((List.range i).map fun k=>L (ws.getD k 0) (ws.getD (k+1) 0)).map V.int/\J=upd H D (.lst ys)) (fun D hD=>⟨rfl,rfl⟩) (fun D i ys J hq=>by
  obtain ⟨f1,f2⟩:=hq;exact ⟨by rw [f2];exact Ab,by rw [f1,length_map,length_map,length_range];exact Nat.le_refl _⟩) ?_ ?_
 ·rintro D i ys J K1 K2 hD hi ⟨f1,rfl⟩ k1 k2;have ei:(0:Int)+(i:Int)=(i:Int):=Int.zero_add _;have sD:=Ac hD (.lst ys);have hwD:=sD _ _ hw;obtain ⟨ar,_,_,r3,r4⟩:=(tb.same sD).row (wi i (by omega));refine yes (ifT rfl ?_);symm;refine ⟨w,_,_,_,rfl,rfl,SqL.of hwD,(by rw [ei];exact G0 (by omega)),?_⟩;symm;refine ⟨a,_,_,_,rfl,rfl,SqL.of (sD _ _ ha),r3,?_⟩;symm;refine ⟨w,_,_,_,rfl,rfl,SqL.of hwD,(by rw [ei];exact G0 (k:=i+1) (by omega)),?_⟩;symm;refine ⟨ar,_,_,_,rfl,rfl,SqL.of r4,Bn (L (ws.getD i 0)) (wi (i+1) (by omega)),?_⟩;refine k1 _ _ Ab ⟨?_,by rw [AT]⟩;rw [f1,range_succ,map_append,map_append];rfl
 rintro D ys H1 hD ⟨rfl,rfl⟩;refine ⟨D,lk L ws,rfl,SqL.of Ab,?_,fun M Mm Ma=>?_⟩
 ·unfold lk;rw [length_map,length_range];omega
 rw [Int.le_antisymm (Ma v iw.least.1) (iw.least.2 M Mm)];exact q _ (Ac hD _)
theorem Gi (T:Tx K mg base ad):AK P w K mg base CX0 1 ad.f_law_most_out ad.d_law_most_out ["_law_links","_law_cut"] Iy:=by
 refine T.F_law_most_out.ok CA (fun vs H Q E h=>?_) (fun cdv A outer s H vs Q E hr h=>?_)
 ·obtain ⟨a,as,h,x,y,L,c,rfl,_⟩:=h;rfl
 obtain ⟨a,as,h,x,y,L,c,rfl,ha,tb,co,hx,hy,h12,q⟩:=h;refine ⟨_,((Cw (j:=2) (fsc:=Ag Bw) (N:=["_law_links","_law_cut","_law_inner","_law_outer"]) (Nc:=["_law_links","_law_cut","_law_inner","_law_outer","_law_hand"]) rfl rfl (by nofun) rfl CA.nd rfl rfl (AF rfl T.z_range ((@Al _ _ _ _ _ _ _ _ _ Au (by rfl) T.z_len PySem.boot_len ((pv 0)*>Ad) (by decide) (by decide) (by rfl) (by rfl))*>Ad)) (fun _ _ _ _=>(CK (@Ar _ _ _ _ _ _ _ _ B4 (E7<&>((Fm<&>((pv 1)<|>(pv 4)))<|>Ae)) Ae (As _)))) (fun _ _ _ _=>(pv 4)) rfl)>>((@Am _ _ (3) _ _ _ _ CA.nd rfl (Or.inr rfl) (Bb (fsc:=Ag Bw) (N:=["_law_links","_law_cut","_law_inner","_law_outer"]) (Nc:=["_law_links","_law_cut","_law_inner","_law_outer","_law_hand"]) rfl rfl (by nofun) rfl (AF rfl T.z_range ((@Al _ _ _ _ _ _ _ _ _ Au (by rfl) T.z_len PySem.boot_len ((pv 0)*>Ad) (by decide) (by decide) (by rfl) (by rfl))*>Ad)) (fun _ _ _ _=>(CK (@Ar _ _ _ _ _ _ _ _ B4 (E7<&>((Fm<&>((pv 1)<|>(pv 4)))<|>Ae)) Ae (As _)))) (fun _ _ _ _=>(pv 4))) (by rfl) (by nofun))>>(@Ah _ _ _ (@Ap _ _ _ _ (@Al _ _ _ _ _ _ _ _ _ (FI rfl) (by rfl) T.z_max PyProof.Rows.boot_max ((Hc (fsc:=Ag Bw) (N:=["_law_links","_law_cut","_law_inner","_law_outer"]) (Nc:=["_law_links","_law_cut","_law_inner","_law_outer","_law_x"]) rfl rfl (by nofun) rfl (AD (pv 2)) (fun _ _ _ _=>AG) (fun _ _ _ _=>(@Al _ _ _ _ _ _ _ _ _ (GH K rfl) (by rfl) T.z_max PyProof.Rows.boot_max ((by exact (FG (fsc:=Ag Bw) (Nc:=["_law_links","_law_cut","_law_inner","_law_outer","_law_x"]) (Nd:=["_law_links","_law_cut","_law_inner","_law_outer","_law_x","_law_y"]) rfl (by nofun) rfl (He K (pv 3)) (fun _ _ _ _=>AG) (fun _ _ _ _=>(@At _ _ _ _ _ _ _ (AM K) (@At _ _ _ _ _ _ _ (AM K) (pv 0) (pv 4) (fun _ _=>rfl)) (pv 5) (fun _ _=>rfl)))))*>Ad) (by decide) (by decide) (by rfl) (by rfl))))*>Ad) (by decide) (by decide) (by rfl) (by rfl)))))),?_⟩;have al:(as.map V.ref).length=h:=by rw [length_map,tb.1]
 have ul:=Cy h;obtain ⟨cr,cbt⟩:=Bool.and_eq_true_iff.mp co;obtain ⟨cx,cy'⟩:=Bool.and_eq_true_iff.mp cbt;have cy:bit c y=false:=by simpa using cy'
 obtain ⟨m0,m1'⟩:=of_decide_eq_true cr;have m1:c < 2 ^ h:=by omega
 have p3:(2:Int) ^ h<=4096:=by
  have a:(2:Nat) ^ h<=2 ^ 12:=Nat.pow_le_pow_right (by decide) h12;have e:((2 ^ h:Nat):Int)=(2:Int) ^ h:=by simp
  omega
 have bin:∀i:Nat,bit c i=true->i < h:=fun i b=>Decidable.byContradiction fun k=>by
  have:(2:Int) ^ h<=2 ^ i:=by
   have:=Nat.pow_le_pow_right (show 0 < 2 by decide) (show h<=i by omega)
   exact_mod_cast this
  rw [DJ m0 (by omega)] at b
  cases b
 symm;rw [al];refine ⟨by omega,by omega,?_⟩;rw [Int.toNat_natCast]
 refine Bc (A4 (by omega)) (fun D i ys J=>ys=(hands i (bit c)).map V.int/\J=upd H D (.lst ys)) (fun D hD=>⟨rfl,rfl⟩) (fun D i ys J hq=>by
  obtain ⟨f1,f2⟩:=hq;exact ⟨by rw [f2];exact Ab,by rw [f1,length_map];exact BU _ _⟩) ?_ ?_
 ·rintro D i ys J K1 K2 hD hi ⟨f1,rfl⟩ k1 k2;have ei:(0+(i:Int)).toNat=i:=by omega
  have ms:=CW i (bit c);symm;refine ⟨by show (0:Int)<=_;omega,?_⟩;symm;rw [Eg,ei]
  cases e:bit c i with
  | true =>
    rw [e,if_pos rfl] at ms;refine P5 ⟨_,rfl,?_⟩;refine k1 _ _ Ab ⟨?_,by rw [AT]⟩;rw [ms,map_append,f1,Int.zero_add];rfl
  | false =>
    rw [e,if_neg (by decide)] at ms;refine Rc ?_;exact k2 _ ⟨by rw [ms];exact f1,rfl⟩
 rintro mp ys H1 hmp ⟨rfl,rfl⟩;have s1:=Ac hmp (.lst ((hands h (bit c)).map V.int));have e1:(upd H mp (.lst ((hands h (bit c)).map V.int))) mp=some (.lst ((hands h (bit c)).map V.int)):=Ab;generalize upd H mp (.lst ((hands h (bit c)).map V.int))=H1 at s1 e1 ⊢;have ha1:=s1 _ _ ha;symm;rw [al];refine ⟨by omega,by omega,?_⟩;rw [Int.toNat_natCast]
 refine Bc (A4 (by omega)) (fun D i ys J=>ys=(hands i fun k=>!bit c k).map V.int/\J=upd H1 D (.lst ys)) (fun D hD=>⟨rfl,rfl⟩) (fun D i ys J hq=>by
  obtain ⟨f1,f2⟩:=hq;exact ⟨by rw [f2];exact Ab,by rw [f1,length_map];exact BU _ _⟩) ?_ ?_
 ·rintro D i ys J K1 K2 hD hi ⟨f1,rfl⟩ k1 k2;have ei:(0+(i:Int)).toNat=i:=by omega
  have ms:=CW i fun k=>!bit c k;symm;refine ⟨by show (0:Int)<=_;omega,?_⟩;symm;rw [Oc,ei]
  cases e:bit c i with
  | true =>
    rw [e,if_neg (by decide)] at ms;refine Rc ?_;exact k2 _ ⟨by rw [ms];exact f1,rfl⟩
  | false =>
    rw [e,if_pos (by decide)] at ms;refine P5 ⟨_,rfl,?_⟩;refine k1 _ _ Ab ⟨?_,by rw [AT]⟩;rw [ms,map_append,f1,Int.zero_add];rfl
 rintro o ys H2 ho ⟨rfl,rfl⟩;have s2:=s1.trans (Ac ho (.lst ((hands h fun k=>!bit c k).map V.int)));have e23:(upd H1 o (.lst ((hands h fun k=>!bit c k).map V.int))) o=some (.lst ((hands h fun k=>!bit c k).map V.int)):=Ab;have e3:=Ac ho (.lst ((hands h fun k=>!bit c k).map V.int)) _ _ e1;generalize upd H1 o (.lst ((hands h fun k=>!bit c k).map V.int))=H3 at s2 e23 e3 ⊢;have s23:=s2
 have omem:∀z∈hands h (fun k=>!bit c k),∃i:Nat,i < h/\bit c i=false/\z=(i:Int):=fun z m=>by
  obtain ⟨i,hi,b,e⟩:=Bx.mp m;exact ⟨i,hi,by simpa using b,e⟩
 have omem2:∀j:Nat,j < h->bit c j=false->(j:Int)∈hands h (fun k=>!bit c k):=fun j hj b=>Bx.mpr ⟨j,hj,by rw [b];rfl,rfl⟩;have oy:=omem2 y hy cy;have ol:=BU h (fun k=>!bit c k);generalize hands h (fun k=>!bit c k)=zs at e23 omem omem2 oy ol ⊢
 have imem:∀z∈hands h (bit c),∃i:Nat,i < h/\bit c i=true/\z=(i:Int):=fun z m=>by
  obtain ⟨i,hi,b,e⟩:=Bx.mp m;exact ⟨i,hi,b,e⟩
 have imem2:∀i:Nat,bit c i=true->(i:Int)∈hands h (bit c):=fun i b=>Bx.mpr ⟨i,bin i b,b,rfl⟩;have ix:=imem2 x cx;have il:=BU h (bit c);generalize hands h (bit c)=ws at e3 imem imem2 ix il ⊢;symm;refine ⟨⟨_,SqL.of e3⟩,?_⟩;refine A5 (xs:=ws.map V.int) (by rw [length_map];exact A4 (by omega)) (fun D i ys J=>∃vs:List Int,ys=vs.map V.int/\vs.length=i/\(∀z∈vs,∃i j,i < h/\j < h/\bit c i=true/\bit c j=false/\L i j=z)/\(∀u∈ws.take i,∃z∈vs,∀j,j < h->bit c j=false->L u.toNat j<=z)/\J D=some (.lst ys)/\An H3 J) (fun D hD=>⟨[],rfl,rfl,(fun z m=>nomatch m),(fun u m=>nomatch m),Ab,Ac hD _⟩) (fun D i ys J hq_=>by obtain ⟨vs,f1,f2,_,_,f3,_⟩:=hq_;exact ⟨f3,by rw [f1,length_map,f2];exact Nat.le_refl _⟩) (fun D i ys J hD hq_=>by obtain ⟨_,_,_,_,_,_,f2⟩:=hq_;exact SqL.of (f2 _ _ e3)) ?_ ?_
 ·rintro D i u ys J K1 K2 hD hu ⟨vs,rfl,f2,f3,fU,f4,f5⟩ k1 k2;obtain ⟨z,hz,rfl⟩:=int_at hu;obtain ⟨i',hi',gi,rfl⟩:=imem z (mem_of_getElem? hz);refine yes (ifT rfl ?_);have sJ:=s23.trans f5;refine ⟨_,rfl,o,rfl,⟨_,SqL.of (f5 _ _ e23)⟩,?_⟩;refine A5 (xs:=zs.map V.int) (by rw [length_map];exact A4 (by omega)) (fun D2 k ys J2=>ys=((zs.take k).map fun z=>L i' z.toNat).map V.int/\J2=upd J D2 (.lst ys)) (fun D2 hD2=>⟨rfl,rfl⟩) (fun D2 k ys J2 hq_=>by obtain ⟨f1,f2⟩:=hq_;exact ⟨by rw [f2];exact Ab,by rw [f1,length_map,length_map];exact length_take_le _ _⟩) (fun D2 k ys J2 hD2 hq_=>by obtain ⟨_,f2⟩:=hq_;rw [f2];exact SqL.of (Ac hD2 _ _ _ (f5 _ _ e23))) ?_ ?_
  ·rintro D2 k u ys2 J2 L1 L2 hD2 hu2 ⟨g1,rfl⟩ l1 l2;obtain ⟨z2,hz2,rfl⟩:=int_at hu2;obtain ⟨j,hj,gj,rfl⟩:=omem z2 (mem_of_getElem? hz2);refine yes (ifT rfl ?_);have sD:=sJ.trans (Ac hD2 (.lst ys2));obtain ⟨ar,_,_,r3,r4⟩:=(tb.same sD).row hi';refine ⟨_,rfl,_,rfl,a,_,_,_,rfl,rfl,SqL.of (sD _ _ ha),r3,?_⟩;refine ⟨_,rfl,ar,_,_,_,rfl,rfl,SqL.of r4,Bn (L i') hj,?_⟩;refine l1 _ _ Ab ⟨?_,by rw [AT]⟩;rw [g1,take_add_one,hz2,map_append,map_append];rfl
  rintro D2 ys2 J2 hD2 ⟨g1,rfl⟩;rw [length_map,take_of_length_le (Nat.le_refl _)] at g1;subst g1;have sD:=Ac hD2 (.lst ((zs.map fun z=>L i' z.toNat).map V.int));refine ⟨D2,_,rfl,SqL.of Ab,(by rw [length_map];exact length_pos_of_mem oy),fun M Mm Ma=>?_⟩
  have Mv:∃i j,i < h/\j < h/\bit c i=true/\bit c j=false/\L i j=M:=by
   obtain ⟨z,mz,rfl⟩:=mem_map.mp Mm;obtain ⟨j,hj,gj,rfl⟩:=omem z mz;exact ⟨i',j,hi',hj,gi,gj,rfl⟩
  refine k1 _ _ (sD _ _ f4) ⟨vs++[M],by rw [map_append];rfl,by rw [length_append,f2];rfl,fun z m=>?_,fun u mu=>?_,Ab,Ax (f5.trans sD) hD⟩
  rotate_left
  ·rw [take_succ,hz] at mu;rcases mem_append.mp mu with mu | mu
   ·obtain ⟨z,zm,zl⟩:=fU u mu;exact ⟨z,mem_append_left _ zm,zl⟩
   ·rw [mem_singleton.mp mu];exact ⟨M,mem_append_right _ (mem_singleton.mpr rfl),fun j hj gj=>Ma _ (mem_map.mpr ⟨(j:Int),omem2 j hj gj,rfl⟩)⟩
  rcases mem_append.mp m with m | m
  ·exact f3 z m
  ·rw [mem_singleton.mp m];exact Mv
 rintro D ys H4 hD ⟨vs,rfl,f2,f3,fU,f4,f5⟩;rw [length_map] at f2;refine ⟨D,_,rfl,SqL.of f4,(by rw [f2];exact length_pos_of_mem ix),fun M Mm Ma=>?_⟩;refine q M _ (s23.trans f5) ⟨f3 M Mm,fun i j hi hj bi bj=>?_⟩;obtain ⟨z,zm,zl⟩:=fU (i:Int) (by rw [length_map,take_length];exact imem2 i bi);exact Int.le_trans (zl j hj bj) (Ma z zm)
theorem JS (T:Tx K mg base ad):AK P w K mg base CX0 1 ad.f_law_need ad.d_law_need ["_law_first","_law_second","_law_ahead"] OI:=by
 refine T.F_law_need.ok JT (fun vs H Q E h=>?_) (fun cdv A outer s H vs Q E hr h=>?_)
 ·obtain ⟨f,s,ns,x,y,rfl,_⟩:=h;rfl
 obtain ⟨f,s,ns,x,y,rfl,q⟩:=h;refine ⟨_,((@Bi _ _ _ _ _ _ _ _ (@CU _ _ _ (pv 2) (by intro _;rfl)) (@Ah _ _ _ (@Ap _ _ _ _ (@Al _ _ _ _ _ _ _ _ _ (Dn rfl) (by rfl) T.z_max PyProof.Rows.boot_max (Ae*>((@Eu _ _ _ _ _ _ Dx (AO<&>((BB<&>((pv 1)<|>(pv 0)))<|>Ae)))*>Ad)) (by decide) (by decide) (by rfl) (by rfl)))) Az)>>(@Ah _ _ _ (@Ap _ _ _ _ (@Al _ _ _ _ _ _ _ _ _ (Dn rfl) (by rfl) T.z_max PyProof.Rows.boot_max (Ae*>((AC<&>((AO<&>((BB<&>((pv 0)<|>(pv 1)))<|>Ae))<|>Ae))*>Ad)) (by decide) (by decide) (by rfl) (by rfl))))),?_⟩;unfold Ev at q;by_cases c:ns.idxOf y < ns.idxOf x
 ·rw [if_pos c] at q;rw [decide_eq_true c];symm;refine ⟨_,_,rfl,?_⟩;show Q (V.int (if -((s - f).fdiv 4) > 1 then -((s - f).fdiv 4) else 1)) H;rw [Mg,show s - f=-(f - s) by omega];exact q
 ·rw [if_neg c] at q;rw [decide_eq_false c];symm;refine ⟨_,_,rfl,?_⟩;show Q (V.int (if (f - s).fdiv 4+1 > 1 then (f - s).fdiv 4+1 else 1)) H;rw [Mg];exact q
theorem FC (T:Tx K mg base ad):AK P w K mg base CX0 1 ad.f_law_other_way ad.d_law_other_way ["_law_some","_law_cell_here","_law_hands"] IG:=by
 refine T.F_law_other_way.ok Do (fun vs H Q E h=>?_) (fun cdv A outer s H vs Q E hr h=>?_)
 ·obtain ⟨w,h,x,y,c,ws,rfl,_⟩:=h;rfl
 obtain ⟨w,h,x,y,c,ws,rfl,hw,wb,wl,szc,c0,h1,h12,q⟩:=h;refine ⟨_,((@Am _ _ (3) _ _ _ _ Do.nd rfl (Or.inl rfl) (AA<&>((pv 1)<|>Ae)) (by rfl) (by nofun))>>((@Bi _ _ _ _ _ _ _ _ (@Ar _ _ _ _ _ _ _ _ B4 (pv 3) Ae (As _)) (@Ah _ _ _ (@Ap _ _ _ _ (@AR _ _ _ _ Ad))) Az)>>((@Bi _ _ _ _ _ _ _ _ (@Ar _ _ _ _ _ _ _ _ B4 (pv 3) Ae (As _)) (@Ah _ _ _ (@Ap _ _ _ _ (BS<&>((BS<&>((Ba Bm (pv 0) Bs (Bj Ae))<|>(Ba Bm (pv 0) (Bj Ae) (Bj (@Eu _ _ _ _ _ _ Dx Ae)))))<|>(pv 0))))) Az)>>((@Bi _ _ _ _ _ _ _ _ (@Ar _ _ _ _ _ _ _ _ B4 (pv 3) Ae (As _)) (@Ah _ _ _ (@Ap _ _ _ _ (Ba Bm (pv 0) (Bj Ae) Bs))) Az)>>((@Bi _ _ _ _ _ _ _ _ (@Ar _ _ _ _ _ _ _ _ B4 (pv 3) Ae (As _)) (@Ah _ _ _ (@Ap _ _ _ _ (Ba Bm (pv 0) Bs (Bj (@Eu _ _ _ _ _ _ Dx Ae))))) Az)>>((@Bi _ _ _ _ _ _ _ _ (@Ar _ _ _ _ _ _ _ _ B4 (pv 3) Ae (As _)) (@Ah _ _ _ (@Ap _ _ _ _ (BS<&>((Ba Bm (pv 0) Bs (Bj Ae))<|>(pv 0))))) Az)>>((@Bi _ _ _ _ _ _ _ _ (@Ar _ _ _ _ _ _ _ _ B4 (pv 3) Ae (As _)) (@Ah _ _ _ (@Ap _ _ _ _ (BS<&>((BS<&>((Ba Bm (pv 0) Bs (Bj Ae))<|>(@AR _ _ _ _ ((AC<&>((pv 2)<|>(AA<&>((AO<&>((pv 1)<|>Ae))<|>Ae))))*>Ad))))<|>(Ba Bm (pv 0) (Bj Ae) Bs))))) Az)>>(@Ah _ _ _ (@Ap _ _ _ _ (BS<&>((BS<&>((Ba Bm (pv 0) Bs (Bj Ae))<|>(@AR _ _ _ _ ((BB<&>((@Eu _ _ _ _ _ _ Dx Ae)<|>(AA<&>((AO<&>((pv 1)<|>Ae))<|>(pv 2)))))*>Ad))))<|>(Ba Bm (pv 0) (Bj Ae) Bs)))))))))))),?_⟩;obtain ⟨k1,k2,k3,k4,k5⟩:=of_decide_eq_true wb;obtain ⟨a0,tl,ew⟩:∃a0 tl,ws=a0 :: tl:=exists_cons_of_ne_nil (fun z=>by rw [z] at k1;exact absurd k1 (by decide));have ax:a0=x:=by rw [ew] at k2;exact Option.some.inj k2
 have xt:x ∉ tl:=by
  have:=k5;rw [ew,nodup_cons,ax] at this;exact this.1
 have tln:tl.length+1=ws.length:=by rw [ew];rfl
 have t1:CN (ws.map V.int) none (some 1)=[x].map V.int:=by rw [show CN (ws.map V.int) none (some 1)=(ws.map V.int).take 1 from GO (j:=1),ew,ax];rfl
 have d1:CN (ws.map V.int) (some 1) none=tl.map V.int:=by rw [show CN (ws.map V.int) (some 1) none=(ws.map V.int).drop 1 from Fc (j:=1),ew];rfl
 have m7:=AH c (show (0:Int) < 7 by decide);have m3:=AH (c.fdiv 7) (show (0:Int) < 3 by decide);have mh:=AH (c.fdiv 7) (show (0:Int) < (h:Int) by omega);obtain ⟨ini,ei⟩:∃ini,ws=ini++[y]:=List.getLast?_eq_some_iff.mp k3;have iln:ini.length+1=ws.length:=by rw [ei,length_append];rfl
 have yi:y ∉ ini:=by
  have:=k5;rw [ei,nodup_append] at this;exact fun m=>this.2.2 y m y (mem_singleton.mpr rfl) rfl
 have xw:x∈ws:=by rw [ew,ax];exact mem_cons_self ..
 have i1:CN (ws.map V.int) none (some (-1))=ini.map V.int:=by rw [OU,length_map,<- map_take,<- iln,Nat.add_sub_cancel,ei,take_left]
 obtain ⟨mid,m1,ml⟩:∃mid:List Int,CN (ws.map V.int) (some 1) (some (-1))=mid.map V.int/\mid.length<=14:=⟨_,(by rw [P3,<- map_drop,<- map_take]),(by rw [length_take,length_drop];omega)⟩;have nil1:∀{ys:List Int},x∈ys->Fa h ([x]++ys) x y=false:=fun m=>El fun _ _ _ _ nd=>absurd m (nodup_cons.mp nd).1;symm;dsimp only;by_cases e5:c.fmod 7=5
 ·refine ifT (D4 e5) ?_;symm;refine ⟨(by show 0<=sizeLine;decide),fun l hl=>?_⟩;exact q l [] _ hl (Ac hl _) Ab (by decide) (El fun k _ _ _ _=>absurd k (by decide))
 refine ifF (D1 e5) ?_;symm;dsimp only;by_cases e6:c.fmod 7=6
 ·refine ifT (D4 e6) ?_;symm;refine ⟨w,_,rfl,SqL.of hw,fun l1 n1=>?_⟩;rw [t1];have s1:=Ac n1 (.lst ([x].map V.int));have el1:(upd H l1 (.lst ([x].map V.int))) l1=some (.lst ([x].map V.int)):=Ab;generalize upd H l1 (.lst ([x].map V.int))=H1 at s1 el1 ⊢;symm;refine ⟨w,_,rfl,SqL.of (s1 _ _ hw),fun l2 n2=>?_⟩;rw [m1];have s2:=Ac n2 (.lst (mid.map V.int));have el2:(upd H1 l2 (.lst (mid.map V.int))) l2=some (.lst (mid.map V.int)):=Ab;generalize upd H1 l2 (.lst (mid.map V.int))=H2 at s2 el2 ⊢;refine ⟨l1,l2,_,_,rfl,rfl,s2 _ _ el1,el2,(by rw [length_map,length_map];exact Nat.le_of_lt (Av (by show 1+_<=1000;omega))),fun l3 n3=>?_⟩;rw [<- map_append];have s3:=Ac n3 (.lst (([x]++mid).map V.int));have el3:(upd H2 l3 (.lst (([x]++mid).map V.int))) l3=some (.lst (([x]++mid).map V.int)):=Ab;generalize upd H2 l3 (.lst (([x]++mid).map V.int))=H3 at s3 el3 ⊢;symm;refine ⟨l3,w,_,_,rfl,rfl,el3,s3 _ _ (s2 _ _ (s1 _ _ hw)),(by rw [length_map,length_append,length_map];exact Nat.le_of_lt (Av (by show 1+_+_<=1000;omega))),fun l4 n4=>?_⟩;rw [<- map_append];exact q l4 ([x]++mid++ws) _ (none_of ((s1.trans s2).trans s3) n4) (((s1.trans s2).trans s3).trans (Ac n4 _)) Ab (by rw [length_append,length_append];show 1+_+_<=60;omega) (by rw [append_assoc];exact nil1 (mem_append.mpr (.inr xw)))
 refine ifF (D1 e6) ?_;symm;dsimp only;by_cases e0:c.fmod 7=0
 ·refine ifT (D4 e0) ?_;symm;refine ⟨w,_,rfl,SqL.of hw,fun l1 n1=>?_⟩;rw [d1];exact q l1 tl _ n1 (Ac n1 _) Ab (by omega) (El fun _ hd _ _ _=>xt (mem_of_mem_head? hd))
 refine ifF (D1 e0) ?_;symm;dsimp only;by_cases e1:c.fmod 7=1
 ·refine ifT (D4 e1) ?_;symm;refine ⟨w,_,rfl,SqL.of hw,fun l1 n1=>?_⟩;rw [i1];exact q l1 ini _ n1 (Ac n1 _) Ab (by omega) (El fun _ _ la _ _=>yi (mem_of_mem_getLast? la))
 refine ifF (D1 e1) ?_;symm;dsimp only;by_cases e2:c.fmod 7=2
 ·refine ifT (D4 e2) ?_;symm;refine ⟨w,_,rfl,SqL.of hw,fun l1 n1=>?_⟩;rw [t1];have s1:=Ac n1 (.lst ([x].map V.int));have el1:(upd H l1 (.lst ([x].map V.int))) l1=some (.lst ([x].map V.int)):=Ab;generalize upd H l1 (.lst ([x].map V.int))=H1 at s1 el1 ⊢;symm;refine ⟨l1,w,_,_,rfl,rfl,el1,s1 _ _ hw,(by rw [length_map,length_map];exact Nat.le_of_lt (Av (by show 1+_<=1000;omega))),fun l2 n2=>?_⟩;rw [<- map_append];exact q l2 ([x]++ws) _ (none_of s1 n2) (s1.trans (Ac n2 _)) Ab (by show ws.length+1<=60;omega) (nil1 xw)
 refine ifF (D1 e2) ?_;symm;dsimp only;by_cases e3:c.fmod 7=3
 ·refine ifT (D4 e3) ?_;symm;refine ⟨w,_,rfl,SqL.of hw,fun l1 n1=>?_⟩;rw [t1];have s1:=Ac n1 (.lst ([x].map V.int));have el1:(upd H l1 (.lst ([x].map V.int))) l1=some (.lst ([x].map V.int)):=Ab;generalize upd H l1 (.lst ([x].map V.int))=H1 at s1 el1 ⊢;symm;dsimp only;refine ⟨(by show 1<=sizeLine;decide),fun l2 n2=>?_⟩;have s2:=Ac n2 (.lst [V.int ((h:Int)+(c.fdiv 7).fmod 3)]);have el2:(upd H1 l2 (.lst [V.int ((h:Int)+(c.fdiv 7).fmod 3)])) l2=some (.lst [V.int ((h:Int)+(c.fdiv 7).fmod 3)]):=Ab;generalize upd H1 l2 (.lst [V.int ((h:Int)+(c.fdiv 7).fmod 3)])=H2 at s2 el2 ⊢;refine ⟨l1,l2,_,_,rfl,rfl,s2 _ _ el1,el2,(by rw [length_map];exact Nat.le_of_lt (Av (by show 1+1<=1000;decide))),fun l3 n3=>?_⟩;rw [show [x].map V.int++[V.int ((h:Int)+(c.fdiv 7).fmod 3)]=([x]++[(h:Int)+(c.fdiv 7).fmod 3]).map V.int from rfl];have zo:∀ys:List Int,Fa h ([x]++[(h:Int)+(c.fdiv 7).fmod 3]++ys) x y=false:=fun ys=>El fun _ _ _ al _=>absurd (al ((h:Int)+(c.fdiv 7).fmod 3) (mem_append.mpr (.inl (mem_append.mpr (.inr (mem_singleton.mpr rfl)))))) (by omega);generalize (h:Int)+(c.fdiv 7).fmod 3=z at zo ⊢;have s3:=Ac n3 (.lst (([x]++[z]).map V.int));have el3:(upd H2 l3 (.lst (([x]++[z]).map V.int))) l3=some (.lst (([x]++[z]).map V.int)):=Ab;generalize upd H2 l3 (.lst (([x]++[z]).map V.int))=H3 at s3 el3 ⊢;symm;refine ⟨w,_,rfl,SqL.of (s3 _ _ (s2 _ _ (s1 _ _ hw))),fun l4 n4=>?_⟩;rw [d1];have s4:=Ac n4 (.lst (tl.map V.int));have el4:(upd H3 l4 (.lst (tl.map V.int))) l4=some (.lst (tl.map V.int)):=Ab;generalize upd H3 l4 (.lst (tl.map V.int))=H4 at s4 el4 ⊢;refine ⟨l3,l4,_,_,rfl,rfl,s4 _ _ el3,el4,(by rw [length_map,length_map];exact Nat.le_of_lt (Av (by show 2+_<=1000;omega))),fun l5 n5=>?_⟩;rw [<- map_append];exact q l5 ([x]++[z]++tl) _ (none_of ((s1.trans s2).trans (s3.trans s4)) n5) (((s1.trans s2).trans (s3.trans s4)).trans (Ac n5 _)) Ab (by rw [length_append];show 2+_<=60;omega) (zo tl)
 refine ifF (D1 e3) ?_;symm;refine ⟨w,_,rfl,SqL.of hw,fun l1 n1=>?_⟩;rw [t1];have s1:=Ac n1 (.lst ([x].map V.int));have el1:(upd H l1 (.lst ([x].map V.int))) l1=some (.lst ([x].map V.int)):=Ab;generalize upd H l1 (.lst ([x].map V.int))=H1 at s1 el1 ⊢;symm;refine ⟨(by show (h:Int)≠0;omega),?_⟩;symm;dsimp only;refine ⟨(by show 1<=sizeLine;decide),fun l2 n2=>?_⟩;have s2:=Ac n2 (.lst [V.int (-1 - (c.fdiv 7).fmod (h:Int))]);have el2:(upd H1 l2 (.lst [V.int (-1 - (c.fdiv 7).fmod (h:Int))])) l2=some (.lst [V.int (-1 - (c.fdiv 7).fmod (h:Int))]):=Ab;generalize upd H1 l2 (.lst [V.int (-1 - (c.fdiv 7).fmod (h:Int))])=H2 at s2 el2 ⊢;refine ⟨l1,l2,_,_,rfl,rfl,s2 _ _ el1,el2,(by rw [length_map];exact Nat.le_of_lt (Av (by show 1+1<=1000;decide))),fun l3 n3=>?_⟩;rw [show [x].map V.int++[V.int (-1 - (c.fdiv 7).fmod (h:Int))]=([x]++[-1 - (c.fdiv 7).fmod (h:Int)]).map V.int from rfl];have zo:∀ys:List Int,Fa h ([x]++[-1 - (c.fdiv 7).fmod (h:Int)]++ys) x y=false:=fun ys=>El fun _ _ _ al _=>absurd (al (-1 - (c.fdiv 7).fmod (h:Int)) (mem_append.mpr (.inl (mem_append.mpr (.inr (mem_singleton.mpr rfl)))))) (by omega);generalize -1 - (c.fdiv 7).fmod (h:Int)=z at zo ⊢;have s3:=Ac n3 (.lst (([x]++[z]).map V.int));have el3:(upd H2 l3 (.lst (([x]++[z]).map V.int))) l3=some (.lst (([x]++[z]).map V.int)):=Ab;generalize upd H2 l3 (.lst (([x]++[z]).map V.int))=H3 at s3 el3 ⊢;symm;refine ⟨w,_,rfl,SqL.of (s3 _ _ (s2 _ _ (s1 _ _ hw))),fun l4 n4=>?_⟩;rw [d1];have s4:=Ac n4 (.lst (tl.map V.int));have el4:(upd H3 l4 (.lst (tl.map V.int))) l4=some (.lst (tl.map V.int)):=Ab;generalize upd H3 l4 (.lst (tl.map V.int))=H4 at s4 el4 ⊢;refine ⟨l3,l4,_,_,rfl,rfl,s4 _ _ el3,el4,(by rw [length_map,length_map];exact Nat.le_of_lt (Av (by show 2+_<=1000;omega))),fun l5 n5=>?_⟩;rw [<- map_append];exact q l5 ([x]++[z]++tl) _ (none_of ((s1.trans s2).trans (s3.trans s4)) n5) (((s1.trans s2).trans (s3.trans s4)).trans (Ac n5 _)) Ab (by rw [length_append];show 2+_<=60;omega) (zo tl)
theorem Ec (T:Tx K mg base ad):AK P w K mg base CX0 1 ad.f_Margin_init ad.d_Margin_init ["self","way"] (Jm K):=by
 refine T.F_Margin_init.ok GA (fun vs H Q E h=>?_) (fun cdv A outer s H vs Q E hr h=>?_)
 ·obtain ⟨g,C,dx,a,rfl,_⟩:=h;rfl
 obtain ⟨g,C,dx,a,rfl,hg,cl,na,q⟩:=h;refine ⟨_,(@Ah _ _ _ (Jj (pv 0) (pv 1) rfl)),?_⟩;refine ⟨_,rfl,_,rfl,g,C,dx,[],rfl,hg,cl,na,(by simp only [length_nil];decide),?_⟩;rw [S0];exact q _ (Db (F5 H g)) Ab
theorem IX (T:Tx K mg base ad):AK P w K mg base CX0 1 ad.f_Way_ahead ad.d_Way_ahead ["self","one","other"] (OY ad.c_Pairs):=by
 refine T.F_Way_ahead.ok IP (fun vs H Q E h=>?_) (fun cdv A outer s H vs Q E hr h=>?_)
 ·obtain ⟨a,h,s,xs,x,y,rfl,_⟩:=h;rfl
 obtain ⟨a,h,s,xs,x,y,rfl,is,mx,my,q⟩:=h;refine ⟨_,(@Ah _ _ _ (@Ap _ _ _ _ (@C1 _ _ _ _ _ _ _ _ FQ (CG PySem.F.plainAttrs_list PySem.F.slot_list_index PySem.F.type_list_index (Fh (K:=K)) (B6 (pv 0) rfl) ((pv 1)*>Ad)) (CG PySem.F.plainAttrs_list PySem.F.slot_list_index PySem.F.type_list_index (Fh (K:=K)) (B6 (pv 0) rfl) ((pv 2)*>Ad)) (As _)))),?_⟩;obtain ⟨dx,l,k1,k2⟩:=is;refine ⟨_,rfl,a,_,dx,_,_,rfl,k1,T.cl_Pairs,T.na_Pairs_lots,rfl,?_⟩;refine ⟨.inl ⟨rfl,_,SqL.of k2⟩,_,rfl,l,xs,x,rfl,rfl,SqL.of k2,mx,?_⟩;refine ⟨_,rfl,a,_,dx,_,_,rfl,k1,T.cl_Pairs,T.na_Pairs_lots,rfl,?_⟩;refine ⟨.inl ⟨rfl,_,SqL.of k2⟩,_,rfl,l,xs,y,rfl,rfl,SqL.of k2,my,?_⟩;symm;have e:decide (((xs.idxOf x:Nat):Int) < ((xs.idxOf y:Nat):Int))=decide (xs.idxOf x < xs.idxOf y):=by congr 1;apply propext;omega
 show Q (.bl (decide (((xs.idxOf x:Nat):Int) < ((xs.idxOf y:Nat):Int)))) H;rw [e];exact q
theorem FB (T:Tx K mg base ad):AK P w K mg base CX0 1 ad.f_Pairs_told_by ad.d_Pairs_told_by ["self","paper"] (Qg ad.c_Pairs):=by
 refine T.F_Pairs_told_by.ok Fu (fun vs H Q E h=>?_) (fun cdv A outer s H vs Q E hr h=>?_)
 ·obtain ⟨a,p,h,s,ns,ls,F,rfl,_⟩:=h;rfl
 obtain ⟨a,p,h,s,ns,ls,F,rfl,md,pp,q⟩:=h;refine ⟨_,(@Ah _ _ _ (@Ap _ _ _ _ (Bb (fsc:=Ag C9) (N:=["self","paper"]) (Nc:=["self","paper","hand"]) rfl rfl (by nofun) rfl (AF rfl T.z_range ((B6 (pv 0) rfl)*>Ad)) (fun _ _ _ _=>AG) (fun _ _ _ _=>(K6 (@Ar _ _ _ _ _ _ _ _ (Lo K) (pv 2) (@At _ _ _ _ _ _ _ (Ei K) (pv 1) Ae (fun _ _=>rfl)) (by with_unfolding_all rfl)) Ae Ae))))),?_⟩;obtain ⟨dx,la,k1,k2⟩:=id md.is;obtain ⟨m,sh,pk,ms,rows,p1,p2,p3,p4,p5,p6,p7⟩:=pp.is;have h12:=md.h12;symm;refine ⟨a,_,dx,_,_,rfl,k1,T.cl_Pairs,T.na_Pairs_hands,rfl,?_⟩;refine ⟨_,rfl,by omega,by omega,?_⟩;rw [Int.toNat_natCast];refine Bc (A4 (by omega)) (fun D i ys J=>ys=((List.range i).map fun j:Nat=>if (j:Int)∈Aw F s ns then (1:Int) else 0).map V.int/\J=upd H D (.lst ys)) (fun D hD=>⟨rfl,rfl⟩) (fun D i ys J hq_=>by obtain ⟨g1,g2⟩:=hq_;exact ⟨by rw [g2];exact Ab,by rw [g1,length_map,length_map,length_range];exact Nat.le_refl _⟩) ?_ ?_
 ·rintro D i ys J K1 K2 hD hi ⟨g1,rfl⟩ kk1 kk2;have e0:(0:Int)+(i:Int)=(i:Int):=Int.zero_add _;have s1:=Ac hD (.lst ys);rw [e0];refine yes (ifT rfl ?_);have p1':=s1 _ _ p1;have p7':=s1 _ _ p7;symm;refine ⟨Pd _,?_⟩;by_cases c:(i:Int)∈Aw F s ns
  ·rw [QC c];refine ⟨_,rfl,?_⟩;refine ifT rfl ?_;refine kk1 _ _ Ab ⟨?_,by rw [AT]⟩;rw [range_succ,map_append,map_append,g1];simp [c]
  ·rw [RC c];refine ⟨_,rfl,?_⟩;refine ifF rfl ?_;refine kk1 _ _ Ab ⟨?_,by rw [AT]⟩;rw [range_succ,map_append,map_append,g1];simp [c]
 rintro D ys H1 hD ⟨rfl,rfl⟩;exact q D _ hD (Ac hD _) Ab
theorem Kf (T:Tx K mg base ad):AK P w K mg base CX0 2 ad.f_overs ad.d_overs ["sheet","hands"] Na:=by
 refine T.F_overs.ok BP (fun vs H Q E h=>?_) (fun cdv A outer s H vs Q E hr h=>?_)
 ·obtain ⟨l,ls,h,rfl,_⟩:=h;rfl
 obtain ⟨l,ls,h,rfl,hl,g0,l60,h1,h12,q⟩:=h;refine ⟨_,((Cw (j:=2) (fsc:=Ag Gr) (N:=["sheet","hands","many","slip","number","behind","tier","others","x","y"]) (Nc:=["sheet","hands","many","slip","number","behind","tier","others",".s8","y","x"]) rfl rfl (by nofun) rfl BP.nd rfl rfl (AF rfl T.z_range ((pv 1)*>Ad)) (fun _ _ _ _=>AG) (fun _ _ _ _=>(by exact (Ln (fsc:=Ag Gr) (Nc:=["sheet","hands","many","slip","number","behind","tier","others",".s8","y","x"]) (Nd:=["sheet","hands","many","slip","number","behind","tier","others",".s8",".s9","x","y"]) rfl (by nofun) rfl (AF rfl T.z_range ((pv 1)*>Ad)) (fun _ _ _ _=>AG) (fun _ _ _ _=>Ae)))) rfl)>>((Bz PassesOwn.never rfl (AD (pv 0)) (Di rfl (A9 (A0 (i:=3) BP.nd rfl (Or.inl rfl)) (A9 (A0 (i:=4) BP.nd rfl (Or.inl rfl)) C0))) ((@Am _ _ (5) _ _ _ _ BP.nd rfl (Or.inl rfl) (@Aj _ _ _ _ _ _ _ _ _ _ _ _ _ _ _ _ (Ir T) (hr.mono (by decide)) rfl T.m_all_of T.F_all_of.kp T.b_all_of .nil Ao ((pv 1)*>Ad) (by decide) (by rfl) (by rfl)) (by rfl) (by nofun))>>(@Ah _ _ _ (Bz PassesOwn.never rfl (QX (pv 3)) (A0 (i:=6) BP.nd rfl (Or.inl rfl)) ((@Am _ _ (5) _ _ _ _ BP.nd rfl (Or.inl rfl) (E7<&>((pv 5)<|>(@Eu _ _ _ _ _ _ Rj (pv 6)))) (by rfl) (by nofun))>>((@Am _ _ (7) _ _ _ _ BP.nd rfl (Or.inl rfl) (@Aj _ _ _ _ _ _ _ _ _ _ _ _ _ _ _ _ (E9 T) (hr.mono (by decide)) rfl T.m_members T.F_members.kp T.b_members .nil Ao ((pv 5)*>Ad) (by decide) (by rfl) (by rfl)) (by rfl) (by nofun))>>(@Ah _ _ _ (Bz PassesOwn.never rfl (AD (@Aj _ _ _ _ _ _ _ _ _ _ _ _ _ _ _ _ (E9 T) (hr.mono (by decide)) rfl T.m_members T.F_members.kp T.b_members .nil Ao ((pv 6)*>Ad) (by decide) (by rfl) (by rfl))) (A0 (i:=8) BP.nd rfl (Or.inl rfl)) (@Ah _ _ _ (Bz PassesOwn.never rfl (AD (pv 7)) (A0 (i:=9) BP.nd rfl (Or.inl rfl)) (@Ah _ _ _ (Ee (AC<&>((@At _ _ _ _ _ _ _ Ay (@At _ _ _ _ _ _ _ Ay (pv 2) (pv 8) (fun _ _=>rfl)) (pv 9) (fun _ _=>rfl))<|>(pv 4))) (GG (@At _ _ _ _ _ _ _ Ay (pv 2) (pv 8) (fun _ _=>rfl)) (pv 9) DR)))))))))))))>>(@Ah _ _ _ (@Ap _ _ _ _ (pv 2))))),?_⟩;symm;refine ⟨by omega,by omega,?_⟩;rw [Int.toNat_natCast];refine Bc (A4 (by omega)) (fun D i ys J=>∃as:List Addr,ys=as.map V.ref/\as.length=i/\as.Nodup/\J D=some (.lst ys)/\An H J/\D ∉ as/\∀a∈as,H a=none/\J a=some (.lst (((List.range h).map fun _=>(0:Int)).map V.int))) (fun D hD=>⟨[],rfl,rfl,nodup_nil,Ab,Ac hD _,(fun m=>nomatch m),fun _ m=>absurd m List.not_mem_nil⟩) (fun D i ys J hq_=>by obtain ⟨as,f1,f2,_,f3,_⟩:=hq_;exact ⟨f3,by rw [f1,length_map,f2];exact Nat.le_refl _⟩) ?_ ?_
 ·rintro D i ys J K1 K2 hD hi ⟨as,rfl,f2,f3,f4,f5,f6,f7⟩ k1 k2;refine yes (ifT rfl ?_);refine ⟨_,rfl,(h:Int),rfl,by omega,by omega,?_⟩;rw [Int.toNat_natCast];refine Bc (A4 (by omega)) (fun D2 j ys J2=>ys=((List.range j).map fun _=>(0:Int)).map V.int/\J2=upd J D2 (.lst ys)) (fun D2 hD2=>⟨rfl,rfl⟩) (fun D2 j ys J2 hq_=>by obtain ⟨g1,g2⟩:=hq_;exact ⟨by rw [g2];exact Ab,by rw [g1,length_map,length_map,length_range];exact Nat.le_refl _⟩) ?_ ?_
  ·rintro D2 j ys J2 L1 L2 hD2 hj ⟨g1,rfl⟩ l1 l2;refine yes (ifT rfl ?_);refine l1 _ _ Ab ⟨?_,by rw [AT]⟩;rw [g1,range_succ,map_append,map_append];rfl
  rintro D2 ys J2 hD2 ⟨rfl,rfl⟩;have sD:=Ac hD2 (.lst (((List.range h).map fun _=>(0:Int)).map V.int));have eD:(upd J D2 (.lst (((List.range h).map fun _=>(0:Int)).map V.int))) D2=some (.lst (((List.range h).map fun _=>(0:Int)).map V.int)):=Ab;have dd:D2≠D:=fun z=>by rw [z,f4] at hD2;cases hD2
  have na:D2 ∉ as:=fun m=>by rw [(f7 D2 m).2] at hD2;cases hD2
  generalize upd J D2 (.lst (((List.range h).map fun _=>(0:Int)).map V.int))=J5 at sD eD ⊢;refine k1 _ _ (sD _ _ f4) ⟨as++[D2],by rw [map_append];rfl,by rw [length_append,f2];rfl,nodup_append.mpr ⟨f3,by simp,fun a ma b mb e=>na (by rw [<- mem_singleton.mp mb,<- e];exact ma)⟩,Ab,Ax (f5.trans sD) hD,fun m=>?_,fun a m=>?_⟩
  ·rcases mem_append.mp m with m | m
   ·exact f6 m
   ·exact dd (mem_singleton.mp m).symm
  ·rcases mem_append.mp m with m | m
   ·exact ⟨(f7 a m).1,by rw [Ak (fun z=>f6 (by rw [<- z];exact m))];exact sD _ _ (f7 a m).2⟩
   ·rw [mem_singleton.mp m];exact ⟨none_of f5 hD2,by rw [Ak dd];exact eD⟩
 rintro D ys H1 hD ⟨as,rfl,f2,f3,f4,f5,f6,f7⟩;have tb0:Be H1 as h (fun _ _=>0):=⟨f2,f3,fun x a ha=>(f7 a (mem_of_getElem? ha)).2⟩;have nw:∀a∈as,H a=none:=fun a m=>(f7 a m).1;have out:∀{b:Addr} {o:HO},H b=some o->b ∉ as:=fun {b o} e m=>by rw [nw b m] at e;cases e
 clear f7 f3 f2;subst_eqs;refine ⟨_,rfl,l,rfl,⟨_,SqL.of (f5 _ _ hl)⟩,C4 (xs:=vls ls) (fun i σ' H'=>∃v3 v4 v5 v6 v7 v8 v9:Option V,σ'=[some (.ref l),some (.int (h:Int)),some (.ref D),v3,v4,v5,v6,v7,v8,v9]/\CC as H1 H'/\Be H' as h (fun x y=>Fl (DT x y) (dsL (ls.take i)))) ⟨none,none,none,none,none,none,none,rfl,CC.of (fun _ _ e=>e),tb0⟩ (fun i σ' H' _ hq_=>by obtain ⟨_,_,_,_,_,_,_,_,k,_⟩:=hq_;exact SqL.of (k.same f5 nw _ _ hl)) ?_ ?_⟩
 ·rintro i w σ' H' hw ⟨v3,v4,v5,v6,v7,v8,v9,rfl,k1,tb⟩;obtain ⟨f,hf,rfl,fm,et⟩:=LJ hw;obtain ⟨g1,g2,g3⟩:=g0 f fm;have kH:=k1.same f5 nw;refine ⟨f.1,_,rfl,SqT.of (kH _ _ g1),rfl,_,_,rfl,_,_,rfl,rfl,?_⟩;symm;refine ⟨by omega,by omega,?_⟩;rw [Int.toNat_natCast,Ig];symm;obtain ⟨ts,ets⟩:∃ts,ts=f.2.2.1:=⟨_,rfl⟩;obtain ⟨n,en⟩:∃n,n=f.2.2.2:=⟨_,rfl⟩;obtain ⟨F0,eF0⟩:∃F0:Nat->Nat->Int,F0=fun x y=>Fl (DT x y) (dsL (ls.take i)):=⟨_,rfl⟩;rw [<- ets] at g2 g3;rw [<- eF0] at tb;rw [<- en];refine ⟨⟨_,SqT.of (kH _ _ g2)⟩,Pr (xs:=ts.map V.int) (fun j σ' H2=>∃v6 v7 v8 v9:Option V,σ'=[some (.ref l),some (.int (h:Int)),some (.ref D),some (.ref f.2.1),some (.int n),some (.int (A1 h (stT (ts.take j)).1)),v6,v7,v8,v9]/\CC as H1 H2/\Be H2 as h (fun x y=>F0 x y+n*(stT (ts.take j)).2 x y)) ⟨_,_,_,_,rfl,k1,tb.congr fun x y _ _=>(by show F0 x y=F0 x y+n*0;rw [Int.mul_zero,Int.add_zero])⟩ (fun j σ' H2 _ hq_=>by obtain ⟨_,_,_,_,_,k,_⟩:=hq_;exact SqT.of (k.same f5 nw _ _ g2)) ?_ ?_⟩
  ·rintro j u σ' H2 hu ⟨v6,v7,v8,v9,rfl,k2,tb2⟩;obtain ⟨t,ht,rfl⟩:=int_at hu;have ej:ts.take (j+1)=ts.take j++[t]:=by rw [take_add_one,ht];rfl
   have es:=OA (ts.take j) t;rw [<- ej] at es
   have eb:Builtin.bitAnd (A1 h (stT (ts.take j)).1) (Builtin.bitNot t)=A1 h (stT (ts.take (j+1))).1:=by
    rw [K8,es];exact AS h fun i _=>by rw [Qp];rfl
   symm;have mb:=HZ h12 (stT (ts.take (j+1))).1;rw [<- eb] at mb;refine ⟨mb.1,mb.2,fun po Ho hpo so eo=>?_⟩;rw [eb] at eo;symm;obtain ⟨gt,egt⟩:=Lx h12 g3 (mem_of_getElem? ht);have mt:=HZ h12 gt;rw [<- egt] at mt;refine ⟨mt.1,mt.2,fun px Hx hpx sx ex=>?_⟩;have tbx:=tb2.same (so.trans sx);have npo:po ∉ as:=tb2.not hpo;have npx:px ∉ as:=(tb2.same so).not hpx;have kx:=(k2.trans (CC.of so)).trans (CC.of sx);have eo':=sx _ _ eo
   have memx:∀{z:Int},z∈hands 12 (bit t)↔∃i:Nat,i < h/\bit t i=true/\z=(i:Int):=fun {z}=>by
    rw [egt,GC h12];refine ⟨fun ⟨i,a,b,e⟩=>⟨i,a,by rw [Bh,decide_eq_true a,b];rfl,e⟩,fun ⟨i,a,b,e⟩=>⟨i,a,?_,e⟩⟩;rw [Bh,decide_eq_true a] at b;exact b
   have memy:∀{z:Int},z∈hands 12 (bit (A1 h (stT (ts.take (j+1))).1))↔∃i:Nat,i < h/\(stT (ts.take (j+1))).1 i=true/\z=(i:Int):=fun {z}=>GC h12 _;have ndx:=Gc 12 (bit t);have ndy:=Gc 12 (bit (A1 h (stT (ts.take (j+1))).1));generalize exs:hands 12 (bit t)=xs at ex memx ndx;generalize eys:hands 12 (bit (A1 h (stT (ts.take (j+1))).1))=ys at eo' memy ndy;clear eo;refine ⟨px,rfl,⟨_,SqL.of ex⟩,C4 (xs:=xs.map V.int) (fun k σ' H3=>∃(v8 v9:Option V) (G:Nat->Nat->Int),σ'=[some (.ref l),some (.int (h:Int)),some (.ref D),some (.ref f.2.1),some (.int n),some (.int (Builtin.bitAnd (A1 h (stT (ts.take j)).1) (Builtin.bitNot t))),some (.int t),some (.ref po),v8,v9]/\CC as Hx H3/\Be H3 as h G/\∀x' y':Nat,G x' y'=F0 x' y'+n*(stT (ts.take j)).2 x' y'+if (x':Int)∈xs.take k/\(y':Int)∈ys then n else 0) ⟨_,_,_,rfl,CC.of (fun _ _ e=>e),tbx,fun x' y'=>(by rw [if_neg (fun z=>nomatch z.1)];exact (Int.add_zero _).symm)⟩ (fun k σ' H3 _ hq_=>by obtain ⟨_,_,_,_,kk,_⟩:=hq_;exact SqL.of (kk _ _ npx ex)) ?_ ?_⟩
   ·rintro k u σ' H3 hu ⟨v8,v9,G,rfl,k3,tb3,eG⟩;obtain ⟨zx,hzx,rfl⟩:=int_at hu;obtain ⟨x,hx,bx,rfl⟩:=memx.mp (mem_of_getElem? hzx);obtain ⟨ekx,nkx⟩:=Js ndx hzx;symm;refine ⟨⟨_,SqL.of (k3 _ _ npo eo')⟩,C4 (xs:=ys.map V.int) (fun m σ' H4=>∃(v9:Option V) (G':Nat->Nat->Int),σ'=[some (.ref l),some (.int (h:Int)),some (.ref D),some (.ref f.2.1),some (.int n),some (.int (Builtin.bitAnd (A1 h (stT (ts.take j)).1) (Builtin.bitNot t))),some (.int t),some (.ref po),some (.int (x:Int)),v9]/\CC as Hx H4/\Be H4 as h G'/\∀x' y':Nat,G' x' y'=G x' y'+if x'=x/\(y':Int)∈ys.take m then n else 0) ⟨_,_,rfl,k3,tb3,fun x' y'=>(by rw [if_neg (fun z=>nomatch z.2)];exact (Int.add_zero _).symm)⟩ (fun m σ' H4 _ hq_=>by obtain ⟨_,_,_,kk,_⟩:=hq_;exact SqL.of (kk _ _ npo eo')) ?_ ?_⟩
    ·rintro m u σ' H4 hu ⟨v9,G',rfl,k4,tb4,eG'⟩;obtain ⟨zy,hzy,rfl⟩:=int_at hu;obtain ⟨y,hy,_,rfl⟩:=memy.mp (mem_of_getElem? hzy);obtain ⟨eky,nky⟩:=Js ndy hzy;obtain ⟨a,r1,r2,r3,r4⟩:=tb4.row hx;have eD:=k4 _ _ f6 (kx _ _ f6 f4);refine ⟨_,rfl,_,rfl,D,_,_,_,rfl,rfl,SqL.of eD,r3,?_⟩;refine ⟨_,rfl,a,_,_,_,rfl,rfl,SqL.of r4,Bn (G' x) hy,?_⟩;symm;refine ⟨D,_,_,_,rfl,rfl,SqL.of eD,r3,?_⟩;refine ⟨_,rfl,a,_,_,y,rfl,rfl,r4,Fe (by rw [length_map,length_map,length_range];exact hy),?_⟩;refine ⟨_,F9 G' x y n,rfl,k4.put r2,tb4.put r1 n,fun x' y'=>?_⟩;unfold F9;rw [eG',eky];refine Qw n _ ?_ ?_
     ·rw [KI];exact ⟨fun ⟨a,b⟩=>b.elim (fun c=>.inl ⟨a,c⟩) fun c=>.inr ⟨a,c⟩,fun z=>z.elim (fun c=>⟨c.1,.inl c.2⟩) fun c=>⟨c.1,.inr c.2⟩⟩
     ·exact fun z=>nky (by rw [<- z.2.2];exact z.1.2)
    ·rintro σ' H4 ⟨v9,G',rfl,k4,tb4,eG'⟩;rw [length_map,take_of_length_le (Nat.le_refl _)] at eG';refine ⟨_,_,_,rfl,k4,tb4,fun x' y'=>?_⟩;rw [eG',eG,ekx];refine Qw n _ ?_ ?_
     ·rw [KI];exact ⟨fun ⟨a,b⟩=>a.elim (fun c=>.inl ⟨c,b⟩) fun c=>.inr ⟨c,b⟩,fun z=>z.elim (fun c=>⟨.inl c.1,c.2⟩) fun c=>⟨.inr c.1,c.2⟩⟩
     ·exact fun z=>nkx (by rw [<- z.2.1];exact z.1.1)
   ·rintro σ' H3 ⟨v8,v9,G,rfl,k3,tb3,eG⟩;rw [length_map,take_of_length_le (Nat.le_refl _)] at eG;refine ⟨_,_,_,_,by rw [eb],kx.trans k3,tb3.congr fun x y hx hy=>?_⟩;rw [eG,es];show _=F0 x y+n*((stT (ts.take j)).2 x y+if (bit t x && ((stT (ts.take j)).1 y && !bit t y))=true then 1 else 0);rw [Int.mul_add,<- Int.add_assoc];have e2:(stT (ts.take (j+1))).1 y=((stT (ts.take j)).1 y && !bit t y):=by rw [es];rfl
    have e1:((x:Int)∈xs/\(y:Int)∈ys)↔(bit t x && ((stT (ts.take j)).1 y && !bit t y))=true:=by
     rw [<- e2,Bool.and_eq_true,memx,memy];exact ⟨fun ⟨⟨i,_,b,e⟩,⟨k,_,c,e'⟩⟩=>⟨by rw [Int.ofNat.inj e];exact b,by rw [Int.ofNat.inj e'];exact c⟩,fun ⟨a,b⟩=>⟨⟨x,hx,a,rfl⟩,⟨y,hy,b,rfl⟩⟩⟩
    by_cases c:(bit t x && ((stT (ts.take j)).1 y && !bit t y))=true
    ·rw [if_pos c,if_pos (e1.mpr c),Int.mul_one]
    ·rw [if_neg c,if_neg (fun z=>c (e1.mp z)),Int.mul_zero]
  ·rintro σ' H2 ⟨v6,v7,v8,v9,rfl,k2,tb2⟩;rw [length_map,take_of_length_le (Nat.le_refl _)] at tb2;refine ⟨_,_,_,_,_,_,_,rfl,k2,tb2.congr fun x y hx hy=>?_⟩;rw [et,Ft,<- ets,<- en,eF0,MS g3 hx hy]
 ·rintro σ' H' ⟨v3,v4,v5,v6,v7,v8,v9,rfl,k1,tb⟩;rw [Jn,take_of_length_le (Nat.le_refl _)] at tb;subst_eqs;exact ⟨_,rfl,q D as H' hD (k1.same f5 nw) f6 nw (k1 _ _ f6 f4) tb⟩
theorem FN (T:Tx K mg base ad):AK P w K mg base CX0 2 ad.f_leads_of ad.d_leads_of ["many"] OK:=by
 refine T.F_leads_of.ok FY (fun vs H Q E h=>?_) (fun cdv A outer s H vs Q E hr h=>?_)
 ·obtain ⟨a,as,h,F,rfl,_⟩:=h;rfl
 obtain ⟨a,as,h,F,rfl,ha,g,h12,q⟩:=h;refine ⟨_,((@Am _ _ (1) _ _ _ _ FY.nd rfl (Or.inr rfl) (@Aj _ _ _ _ _ _ _ _ _ _ _ _ _ _ _ _ (DO T) (hr.mono (by decide)) rfl T.m_hands_of T.F_hands_of.kp T.b_hands_of .nil Ao ((pv 0)*>Ad) (by decide) (by rfl) (by rfl)) (by rfl) (by nofun))>>(@Ah _ _ _ (@Ap _ _ _ _ (Hc (fsc:=Ag D8) (N:=["many","hands"]) (Nc:=["many","hands","x"]) rfl rfl (by nofun) rfl (AD (pv 1)) (fun _ _ _ _=>AG) (fun _ _ _ _=>(by exact (FG (fsc:=Ag D8) (Nc:=["many","hands","x"]) (Nd:=["many","hands","x","y"]) rfl (by nofun) rfl (He K (pv 1)) (fun _ _ _ _=>AG) (fun _ _ _ _=>(BB<&>((@At _ _ _ _ _ _ _ (AM K) (@At _ _ _ _ _ _ _ (AM K) (pv 0) (pv 2) (fun _ _=>rfl)) (pv 3) (fun _ _=>rfl))<|>(@At _ _ _ _ _ _ _ (AM K) (@At _ _ _ _ _ _ _ (AM K) (pv 0) (pv 3) (fun _ _=>rfl)) (pv 2) (fun _ _=>rfl)))))))))))),?_⟩;symm;refine ⟨a,KF as h F,h,rfl,(by rw [g.vtb];exact ha),g.good.1,h12,fun l H1 hl s1 e1=>?_⟩;symm;have ul:=Cy h;refine ⟨⟨_,SqL.of e1⟩,?_⟩;refine A5 (xs:=(ups h).map V.int) (by rw [length_map,ul];exact A4 (by omega)) (fun D i ys J=>∃bs:List Addr,ys=bs.map V.ref/\bs.length=i/\bs.Nodup/\J D=some (.lst ys)/\An H1 J/\D ∉ bs/\(∀c∈bs,H1 c=none)/\∀k b,bs[k]?=some b->J b=some (.lst (((List.range h).map fun y=>F k y - F y k).map V.int))) (fun D hD=>⟨[],rfl,rfl,nodup_nil,Ab,Ac hD _,(fun m=>nomatch m),(fun _ m=>absurd m List.not_mem_nil),fun k r e=>by cases e⟩) (fun D i ys J hq_=>by obtain ⟨u,f1,f2,_,f3,_⟩:=hq_;exact ⟨f3,by rw [f1,length_map,f2];exact Nat.le_refl _⟩) (fun D i ys J hD hq_=>by obtain ⟨_,_,_,_,_,f4,_⟩:=hq_;exact SqL.of (f4 _ _ e1)) ?_ ?_
 ·rintro D i x ys J K1 K2 hD hx ⟨bs,rfl,f2,f3,f4,f5,f6,f7,f8⟩ k1 k2;obtain ⟨z,hz,rfl⟩:=int_at hx;obtain ⟨rfl,hi⟩:=Jc hz;refine yes (ifT rfl ?_);have gJ:=(g.same s1).same f5;refine ⟨_,rfl,l,rfl,⟨_,SqL.of (f5 _ _ e1)⟩,?_⟩;refine A5 (xs:=(ups h).map V.int) (by rw [length_map,ul];exact A4 (by omega)) (fun D2 j ys J2=>ys=((List.range j).map fun y=>F i y - F y i).map V.int/\J2=upd J D2 (.lst ys)) (fun D2 hD2=>⟨rfl,rfl⟩) (fun D2 j ys J2 hq_=>by obtain ⟨f1,f2⟩:=hq_;exact ⟨by rw [f2];exact Ab,by rw [f1,length_map,length_map,length_range];exact Nat.le_refl _⟩) (fun D2 j ys J2 hD2 hq_=>by obtain ⟨_,f2⟩:=hq_;rw [f2];exact SqL.of (Ac hD2 _ _ _ (f5 _ _ e1))) ?_ ?_
  ·rintro D2 j y ys J2 L1 L2 hD2 hy ⟨e,rfl⟩ l1 l2;obtain ⟨w,hw,rfl⟩:=int_at hy;obtain ⟨rfl,hj⟩:=Jc hw;refine yes (ifT rfl ?_);have sD:=Ac hD2 (.lst ys);have aJ:=sD _ _ ((s1.trans f5) _ _ ha);obtain ⟨ri,_,_,a1,a2⟩:=(gJ.same sD).row hi;obtain ⟨rj,_,_,b1,b2⟩:=(gJ.same sD).row hj;refine ⟨_,rfl,_,rfl,a,_,_,_,rfl,rfl,SqL.of aJ,a1,?_⟩;refine ⟨_,rfl,ri,_,_,_,rfl,rfl,SqL.of a2,Bn (F i) hj,?_⟩;refine ⟨_,rfl,_,rfl,a,_,_,_,rfl,rfl,SqL.of aJ,b1,?_⟩;refine ⟨_,rfl,rj,_,_,_,rfl,rfl,SqL.of b2,Bn (F j) hi,?_⟩;symm;refine l1 _ _ Ab ⟨?_,by rw [AT]⟩;rw [e,range_succ,map_append,map_append];rfl
  rintro D2 ys H5 hD2 ⟨rfl,rfl⟩;rw [length_map,ul];have sD:=Ac hD2 (.lst (((List.range h).map fun y=>F i y - F y i).map V.int));have eD:(upd J D2 (.lst (((List.range h).map fun y=>F i y - F y i).map V.int))) D2=some (.lst (((List.range h).map fun y=>F i y - F y i).map V.int)):=Ab;have dd:D2≠D:=fun z=>by rw [z,f4] at hD2;cases hD2
  have na:D2 ∉ bs:=fun m=>by
   obtain ⟨k,hk⟩:=List.getElem?_of_mem m;rw [f8 k D2 hk] at hD2
   cases hD2
  have nD2:=none_of f5 hD2;generalize upd J D2 (.lst (((List.range h).map fun y=>F i y - F y i).map V.int))=J5 at sD eD ⊢;refine k1 _ _ (sD _ _ f4) ⟨bs++[D2],by rw [map_append];rfl,by rw [length_append,f2];rfl,nodup_append.mpr ⟨f3,by simp,fun a ma b mb e=>na (by rw [<- mem_singleton.mp mb,<- e];exact ma)⟩,Ab,Ax (f5.trans sD) hD,fun m=>?_,fun c m=>?_,fun k b e=>?_⟩
  ·rcases mem_append.mp m with m | m
   ·exact f6 m
   ·exact dd (mem_singleton.mp m).symm
  ·rcases mem_append.mp m with m | m
   ·exact f7 c m
   ·rw [mem_singleton.mp m];exact nD2
  ·by_cases c:k < bs.length
   ·rw [List.getElem?_append_left c] at e;rw [Ak (fun z=>f6 (by rw [<- z];exact mem_of_getElem? e))];exact sD _ _ (f8 k b e)
   ·rw [List.getElem?_append_right (by omega)] at e
    have ek:k=i:=by
     have:=(List.getElem?_eq_some_iff.mp e).1;rw [length_singleton] at this;omega
    rw [ek,f2,Nat.sub_self] at e
    cases Option.some.inj e
    rw [Ak dd,ek];exact eD
 rintro D ys H2 hD ⟨bs,rfl,f2,f3,f4,f5,f6,f7,f8⟩;rw [length_map,ul] at f2;exact q D bs H2 (none_of s1 hD) f6 (fun c m=>none_of s1 (f7 c m)) (s1.trans f5) f4 ⟨f2,f3,f8⟩
theorem DF (T:Tx K mg base ad):AK P w K mg base CX0 2 ad.f_reached_from ad.d_reached_from ["leads","x"] (M8 ad.lP):=by
 refine T.F_reached_from.okC Bd (fun vs H Q E h=>?_) (fun cdv hcd A outer s H vs Q E hr h=>?_)
 ·obtain ⟨a,as,h,x,L,rfl,_⟩:=h;rfl
 obtain ⟨a,as,h,x,L,rfl,ha,tb,hx,h12,lt,q⟩:=h;refine ⟨_,((@Am _ _ (2) _ _ _ _ Bd.nd rfl (Or.inr rfl) (@AJ _ _ _ _ _ _ _ _ _ AB (by rfl) T.z_list PyProof.Rows.boot_list ((@At _ _ _ _ _ _ _ Ay (pv 0) (pv 1) (fun _ _=>rfl))*>Ad) (by decide) (by decide) (by rfl) (by rfl)) (by rfl) (by nofun))>>((Cw (j:=3) (fsc:=Ag Bv) (N:=["leads","x","best","before","left","through","hand","link"]) (Nc:=["leads","x","best","before","left","through",".s6","link","hand"]) rfl rfl (by nofun) rfl Bd.nd rfl rfl (AD (pv 0)) (fun _ _ _ _=>AG) (fun _ _ _ _=>(pv 1)) rfl)>>((Cw (j:=4) (fsc:=Ag Bv) (N:=["leads","x","best","before","left","through","hand","link"]) (Nc:=["leads","x","best","before","left","through",".s6","link","hand"]) rfl rfl (by nofun) rfl Bd.nd rfl rfl (AD (@Aj _ _ _ _ _ _ _ _ _ _ _ _ _ _ _ _ (DO T) (hr.mono (by decide)) rfl T.m_hands_of T.F_hands_of.kp T.b_hands_of .nil Ao ((pv 0)*>Ad) (by decide) (by rfl) (by rfl))) (fun _ _ _ _=>(CK (@Ar _ _ _ _ _ _ _ _ GP (pv 8) (pv 1) (As _)))) (fun _ _ _ _=>(pv 8)) rfl)>>((Hq PassesOwn.never (@Ar _ _ _ _ _ _ _ _ (Jh (K:=K) hr.units) (pv 4) (@AR _ _ _ _ Ad) (As _)) ((@Am _ _ (5) _ _ _ _ Bd.nd rfl (Or.inl rfl) (Nz (fsc:=Ag Bv) (N:=["leads","x","best","before","left","through","hand","link"]) (Nc:=["leads","x","best","before","left","through",".s6","link","hand"]) (x:="hand") rfl T.lam (hcd.symm.trans T.lcode) (hr.mono (by decide)) rfl T.z_max rfl rfl (by nofun) rfl rfl (pv 4) (fun _ _ _ _ _=>(@At _ _ _ _ _ _ _ (AM K) (pv 2) (pv 8) (fun _ _=>rfl)))) (by rfl) (by nofun))>>((@Cz _ _ _ _ (CG PySem.F.plainAttrs_list PySem.F.slot_list_remove PySem.F.type_list_remove Iu (pv 4) ((pv 5)*>Ad)) (by rfl))>>(@Ah _ _ _ (Bz PassesOwn.never rfl (AD (pv 4)) (A0 (i:=6) Bd.nd rfl (Or.inl rfl)) ((@Am _ _ (7) _ _ _ _ Bd.nd rfl (Or.inl rfl) (@Al _ _ _ _ _ _ _ _ _ (F3 rfl) (by rfl) T.z_min PyProof.Rows.boot_min ((@At _ _ _ _ _ _ _ Ay (pv 2) (pv 5) (fun _ _=>rfl))*>((@At _ _ _ _ _ _ _ Ay (@At _ _ _ _ _ _ _ Ay (pv 0) (pv 5) (fun _ _=>rfl)) (pv 6) (fun _ _=>rfl))*>Ad)) (by decide) (by decide) (by rfl) (by rfl)) (by rfl) (by nofun))>>(@Ah _ _ _ (@Bi _ _ _ _ _ _ _ _ (@Ar _ _ _ _ _ _ _ _ EY (pv 7) (@At _ _ _ _ _ _ _ Ay (pv 2) (pv 6) (fun _ _=>rfl)) (As _)) ((Ee (pv 7) (GG (pv 2) (pv 6) DR))>>(@Ah _ _ _ (Ee (pv 5) (GG (pv 3) (pv 6) DR)))) Az))))))))>>(@Ah _ _ _ (@Ap _ _ _ _ (@B7 _ _ _ _ _ ((pv 2)*>((pv 3)*>Ad))))))))),?_⟩;obtain ⟨ax,_,_,x3,x4⟩:=tb.row hx;refine ⟨_,rfl,_,rfl,a,_,_,_,rfl,rfl,SqL.of ha,x3,?_⟩;refine ⟨ax,_,rfl,.inl (SqL.of x4),fun b hb=>?_⟩;obtain ⟨be0,ebe⟩:∃be0,be0=(List.range h).map fun y=>L x y:=⟨_,rfl⟩;rw [<- ebe];have s1:=Ac hb (.lst (be0.map V.int));have e1:(upd H b (.lst (be0.map V.int))) b=some (.lst (be0.map V.int)):=Ab;generalize upd H b (.lst (be0.map V.int))=H1 at s1 e1 ⊢;symm;refine ⟨⟨_,SqL.of (s1 _ _ ha)⟩,?_⟩;refine A5 (xs:=as.map V.ref) (by rw [length_map,tb.1];exact A4 (by omega)) (fun D i ys J=>ys=(List.replicate i (x:Int)).map V.int/\J=upd H1 D (.lst ys)) (fun D hD=>⟨rfl,rfl⟩) (fun D i ys J hq_=>by obtain ⟨f1,f2⟩:=hq_;exact ⟨by rw [f2];exact Ab,by rw [f1,length_map,length_replicate];exact Nat.le_refl _⟩) (fun D i ys J hD hq_=>by obtain ⟨_,f2⟩:=hq_;rw [f2];exact SqL.of (Ac hD _ _ _ (s1 _ _ ha))) ?_ ?_
 ·rintro D i y ys J K1 K2 hD hy ⟨f1,rfl⟩ k1 k2;refine yes (ifT rfl ?_);refine ⟨_,rfl,?_⟩;refine k1 _ _ Ab ⟨?_,by rw [AT]⟩;rw [f1,replicate_succ',map_append];rfl
 rintro f ys H2 hf ⟨rfl,rfl⟩;rw [length_map,tb.1];have fb:f≠b:=fun z=>by rw [z,e1] at hf;cases hf
 have hfH:=none_of s1 hf;have s2:=s1.trans (Ac hf (.lst ((List.replicate h (x:Int)).map V.int)));have e2:(upd H1 f (.lst ((List.replicate h (x:Int)).map V.int))) f=some (.lst ((List.replicate h (x:Int)).map V.int)):=Ab;have b2:=Ac hf (.lst ((List.replicate h (x:Int)).map V.int)) _ _ e1;generalize upd H1 f (.lst ((List.replicate h (x:Int)).map V.int))=H2 at s2 e2 b2 ⊢;symm;have tb2:=tb.same s2;refine ⟨a,KF as h L,h,rfl,(by rw [tb2.vtb];exact s2 _ _ ha),tb2.good.1,h12,fun l0 H3 hl0 s3 e3=>?_⟩;have b3:=s3 _ _ b2;have f3:=s3 _ _ e2;have s3:=s2.trans s3;symm;refine ⟨⟨_,SqL.of e3⟩,?_⟩;refine A5 (xs:=(ups h).map V.int) (by rw [length_map,Cy];exact A4 (by omega)) (fun D i ys J=>ys=(Cs i x).map V.int/\J=upd H3 D (.lst ys)) (fun D hD=>⟨rfl,rfl⟩) (fun D i ys J hq_=>by obtain ⟨g1,g2⟩:=hq_;exact ⟨by rw [g2];exact Ab,by rw [g1,length_map];unfold Cs;rw [length_map];exact Nat.le_trans (length_filter_le _ _) (by rw [length_range];exact Nat.le_refl _)⟩) (fun D i ys J hD hq_=>by obtain ⟨_,g2⟩:=hq_;rw [g2];exact SqL.of (Ac hD _ _ _ e3)) ?_ ?_
 ·rintro D i y ys J K1 K2 hD hy ⟨g1,rfl⟩ k1 k2;obtain ⟨z,hz,rfl⟩:=int_at hy;obtain ⟨rfl,hi⟩:=Jc hz;symm;by_cases c:i=x
  ·refine ifF (Lc (by rw [c])) ?_;exact k2 _ ⟨by rw [g1,Eo,if_pos c,append_nil],rfl⟩
  ·refine ifT (L4 fun e=>c (Int.ofNat.inj e)) ?_;refine ⟨_,rfl,?_⟩;exact k1 _ _ Ab ⟨by rw [g1,Eo,if_neg c,map_append];rfl,by rw [AT]⟩
 rintro l ys H4 hl ⟨rfl,rfl⟩;rw [length_map,Cy];have lb:l≠b:=fun z=>by rw [z,b3] at hl;cases hl
 have lf:l≠f:=fun z=>by rw [z,f3] at hl;cases hl
 have hlH:=none_of s3 hl;have sn:=Ac hl (.lst ((Cs h x).map V.int));have e4:(upd H3 l (.lst ((Cs h x).map V.int))) l=some (.lst ((Cs h x).map V.int)):=Ab;have b4:=sn _ _ b3;have f4:=sn _ _ f3;have s4:=s3.trans sn;generalize upd H3 l (.lst ((Cs h x).map V.int))=H4 at s4 e4 b4 f4 ⊢;have bl:=Ib hx
 refine ⟨fun m σ' H'=>∃(v5 v6 v7:Option V) (be bf left:List Int) (rk:Nat->Nat),σ'=[some (V.ref a),some (.int (x:Int)),some (.ref b),some (.ref f),some (.ref l),v5,v6,v7]/\Sm H H'/\(BM ad.lP h H->An H H')/\LT ad.lP H'/\(left.length+1=h\/L1 ad.lP H')/\H' b=some (.lst (be.map V.int))/\H' f=some (.lst (bf.map V.int))/\H' l=some (.lst (left.map V.int))/\Dij h x L be bf left rk/\left.length=m,
  ⟨_,none,none,none,be0,List.replicate h (x:Int),Cs h x,fun _=>0,rfl,Sm.of s4,(fun _=>s4),lt.same s4,.inl bl,b4,f4,e4,(by rw [ebe];exact Dij.start hx L),rfl⟩,?_⟩
 rintro m σ' H' ⟨v5,v6,v7,be,bf,left,rk,rfl,sm,sq,lt',l1,eb,ef,el,dj,lm⟩;refine ⟨_,rfl,(by show 0<=sizeLine;decide),fun z3 hz3=>?_⟩;have sz:=Ac hz3 (.lst []);have ez:(upd H' z3 (.lst [])) z3=some (.lst (([]:List Int).map V.int)):=Ab;generalize upd H' z3 (.lst [])=H5 at sz ez ⊢;have eb:=sz _ _ eb;have ef:=sz _ _ ef;have el:=sz _ _ el;have sm:=sm.trans (Sm.of sz);have sq:BM ad.lP h H->An H H5:=fun z=>(sq z).trans sz;have lt':=lt'.same sz;have l1:left.length+1=h\/L1 ad.lP H5:=l1.imp id fun z=>z.same sz;refine ⟨.list (left.map .int),.list (([]:List Int).map .int),.lst (SqL.of el) (.ints _),.lst (SqL.of ez) (.ints []),(Cm _).2,(Cm _).2,?_⟩;rw [show PyData.eqv (.list (left.map .int)) (.list (([]:List Int).map .int))=decide (left=[]) from Fk _ _];refine ⟨_,rfl,?_⟩;by_cases cl:left=[]
 ·refine ifF (by rw [decide_eq_true cl];rfl) ?_;subst cl;symm;refine ⟨(by show 2<=sizeLine;decide),fun t ht=>?_⟩;have st:=Ac ht (.tup [V.ref b,V.ref f]);have l1':h=1\/L1 ad.lP H5:=l1.imp (fun z=>by rw [length_nil] at z;omega) id;exact q t b f be bf _ (sm.trans (Sm.of st)) (fun z=>(sq z).trans st) (BM.same ⟨lt',l1'⟩ st) (sm.gone t ht) hb hfH (Ne.symm fb) Ab (st _ _ eb) (st _ _ ef) dj.done
 ·refine ifT (by rw [decide_eq_false cl];rfl) ?_;have pl:0 < left.length:=length_pos_iff.mpr cl;refine ⟨fun σ' H'=>∃(v5 v6 v7:Option V) (be bf left:List Int) (rk:Nat->Nat),σ'=[some (V.ref a),some (.int (x:Int)),some (.ref b),some (.ref f),some (.ref l),v5,v6,v7]/\Sm H H'/\(BM ad.lP h H->An H H')/\LT ad.lP H'/\(left.length+1=h\/L1 ad.lP H')/\H' b=some (.lst (be.map V.int))/\H' f=some (.lst (bf.map V.int))/\H' l=some (.lst (left.map V.int))/\Dij h x L be bf left rk/\left.length=m - 1,fun σ' H' e=>⟨m - 1,by omega,e⟩,?_⟩;symm;refine ⟨l,left.map V.int,fun i=>be.getD (left.getD i 0).toNat 0,rfl,by rw [length_map];exact pl,lt',fun H6 q1 q2 q3 q4=>?_⟩;have s56:=QZ lt' q2 q4;have eb:=s56.lst eb;have ef:=s56.lst ef;have el:=s56.lst el;have sm:=sm.trans s56
  have lsub:∀{i:Nat} {z:Int},left[i]?=some z->∃y:Nat,z=(y:Int)/\y < h/\y≠x/\left.getD i 0=(y:Int):=fun {i z} e=>by
   obtain ⟨y,a1,a2,a3⟩:=dj.sub z (mem_of_getElem? e);exact ⟨y,a3,a1,a2,by rw [getD_eq_getElem?_getD,e];exact a3⟩
  have sq:BM ad.lP h H->An H H6:=fun z=>by
   have l1':L1 ad.lP H5:=by
    rcases (BM.same z (sq z)).2 with c | c
    ·have:=dj.sub _ (mem_of_getElem? (List.getElem?_eq_getElem pl));obtain ⟨y,a1,a2,_⟩:=this;omega
    ·exact c
   rw [<- q3 l1'];exact sq z
  clear q2 q3 q4 s56;refine ⟨SqL.of el,fun i w hw=>?_,fun i w hw bst=>?_⟩
  ·obtain ⟨z,hz,rfl⟩:=int_at hw;obtain ⟨y,rfl,hy,_,ey⟩:=lsub hz;refine ⟨_,rfl,_,rfl,b,_,_,_,rfl,rfl,SqL.of eb,atG (by rw [dj.lenb];exact hy),?_⟩;refine ⟨?_,rfl⟩;show V.int (be.getD y 0)=V.int (be.getD (left.getD i 0).toNat 0);rw [ey];rfl
  obtain ⟨z,hz,rfl⟩:=int_at hw;obtain ⟨t,rfl,hth,htx,et⟩:=lsub hz;have tm:=mem_of_getElem? hz
  have best:∀y:Nat,(y:Int)∈left->be.getD y 0<=be.getD t 0:=fun y my=>by
   obtain ⟨j,hj⟩:=List.getElem?_of_mem my;have jl:=(List.getElem?_eq_some_iff.mp hj).1;have:=(bst j (by rw [length_map];exact jl)).1;dsimp only at this;rw [et,getD_eq_getElem?_getD (l:=left),hj] at this;exact this
  clear bst;symm;refine ⟨.inl ⟨rfl,_,SqL.of el⟩,?_⟩;symm;refine ⟨l,left,(t:Int),rfl,rfl,el,tm,?_⟩;rw [<- Fo];have lme:(left.erase (t:Int)).length=left.length - 1:=length_erase_of_mem tm;obtain ⟨lf2,elf⟩:∃lf2,lf2=left.erase (t:Int):=⟨_,rfl⟩;rw [<- elf]
  have sub2:∀z∈lf2,∃y:Nat,y < h/\z=(y:Int):=fun z m=>by
   rw [elf] at m;obtain ⟨y,a1,_,a3⟩:=dj.sub z (mem_of_mem_erase m);exact ⟨y,a1,a3⟩
  have nd2:lf2.Nodup:=by rw [elf];exact dj.nd.erase _
  have nt2:(t:Int) ∉ lf2:=fun m=>by rw [elf] at m;exact (dj.nd.mem_erase_iff.mp m).1 rfl
  rw [<- elf] at lme;have k1:∀{c:Addr} {xs:List V},H6 c=some (.lst xs)->c≠l->(upd H6 l (.lst (lf2.map V.int))) c=some (.lst xs):=fun e n=>by rw [Ak n];exact e
  have el':(upd H6 l (.lst (lf2.map V.int))) l=some (.lst (lf2.map V.int)):=Ab;have eb':=k1 eb (Ne.symm lb);have ef':=k1 ef (Ne.symm lf);have sm':=sm.put (o:=.lst (lf2.map V.int)) hlH;have sq':BM ad.lP h H->An H (upd H6 l (.lst (lf2.map V.int))):=fun z=>Ax (sq z) hlH;have l1':L1 ad.lP (upd H6 l (.lst (lf2.map V.int))):=Et.put q1 el;generalize upd H6 l (.lst (lf2.map V.int))=H7 at el' eb' ef' sm' sq' l1' ⊢;clear k1;symm;refine ⟨⟨_,SqL.of el'⟩,C4 (xs:=lf2.map V.int) (fun k σ' H'=>∃(v6 v7:Option V) (be' bf':List Int),σ'=[some (V.ref a),some (.int (x:Int)),some (.ref b),some (.ref f),some (.ref l),some (.int (t:Int)),v6,v7]/\Sm H H'/\(BM ad.lP h H->An H H')/\L1 ad.lP H'/\H' b=some (.lst (be'.map V.int))/\H' f=some (.lst (bf'.map V.int))/\H' l=some (.lst (lf2.map V.int))/\Upd h t L be bf (lf2.take k) be' bf') ⟨_,_,be,bf,rfl,sm',sq',l1',eb',ef',el',Upd.nil dj.lenb dj.lenf⟩ (fun k σ' H' _ hq_=>by obtain ⟨_,_,_,_,_,_,_,_,_,_,e,_⟩:=hq_;exact SqL.of e) ?_ ?_⟩
  ·rintro k w σ' H' hw ⟨v6,v7,be',bf',rfl,sm8,sq8,l18,eb8,ef8,el8,ud⟩;obtain ⟨z,hz,rfl⟩:=int_at hw;obtain ⟨y,hy,rfl⟩:=sub2 z (mem_of_getElem? hz);obtain ⟨ek,nk⟩:=Js nd2 hz;have lb8:be'.length=h:=ud.1;have lf8:bf'.length=h:=ud.2.1;have bt:be'.getD t 0=be.getD t 0:=ud.at hth fun m=>nt2 (mem_of_mem_take m);have by':be'.getD y 0=be.getD y 0:=ud.at hy nk
   obtain ⟨at8,_,_,r3,r4⟩:=(tb.sm sm8).row hth;have ha8:=sm8.lst ha;symm;refine ⟨b,_,_,_,rfl,rfl,SqL.of eb8,atG (by omega),?_⟩;refine ⟨_,rfl,_,rfl,a,_,_,_,rfl,rfl,SqL.of ha8,r3,?_⟩;refine ⟨_,rfl,at8,_,_,_,rfl,rfl,SqL.of r4,Bn (L t) hy,?_⟩;refine ⟨_,_,rfl,?_⟩;rw [Ro,bt];symm;refine ⟨b,_,_,_,rfl,rfl,SqL.of eb8,atG (by omega),?_⟩;symm;rw [by'];by_cases c:be.getD y 0 < min (be.getD t 0) (L t y)
   ·refine ifT (decide_eq_true c) ?_;symm;refine ⟨b,_,_,y,rfl,rfl,eb8,Fe (by rw [length_map];omega),?_⟩;rw [set_map];have ef9:(upd H' b (.lst ((be'.set y (min (be.getD t 0) (L t y))).map V.int))) f=some (.lst (bf'.map V.int)):=by rw [Ak fb];exact ef8
    have eb9:(upd H' b (.lst ((be'.set y (min (be.getD t 0) (L t y))).map V.int))) b=some (.lst ((be'.set y (min (be.getD t 0) (L t y))).map V.int)):=Ab;have el9:(upd H' b (.lst ((be'.set y (min (be.getD t 0) (L t y))).map V.int))) l=some (.lst (lf2.map V.int)):=by rw [Ak lb];exact el8
    have sm9:=sm8.put (o:=.lst ((be'.set y (min (be.getD t 0) (L t y))).map V.int)) hb;have sq9:BM ad.lP h H->An H (upd H' b (.lst ((be'.set y (min (be.getD t 0) (L t y))).map V.int))):=fun z=>Ax (sq8 z) hb;have l19:L1 ad.lP (upd H' b (.lst ((be'.set y (min (be.getD t 0) (L t y))).map V.int))):=Et.put l18 eb8;generalize upd H' b (.lst ((be'.set y (min (be.getD t 0) (L t y))).map V.int))=H9 at ef9 eb9 el9 sm9 sq9 l19 ⊢;symm;refine ⟨f,_,_,y,rfl,rfl,ef9,Fe (by rw [length_map];omega),?_⟩;rw [set_map];exact ⟨_,_,be'.set y (min (be.getD t 0) (L t y)),bf'.set y (t:Int),rfl,sm9.put hfH,(fun z=>Ax (sq9 z) hfH),Et.put l19 ef9,by rw [Ak (Ne.symm fb)];exact eb9,Ab,by rw [Ak lf];exact el9,by rw [ek];exact ud.put hy c⟩
   ·refine ifF (decide_eq_false c) ?_;exact ⟨_,_,be',bf',rfl,sm8,sq8,l18,eb8,ef8,el8,by rw [ek];exact ud.skip c⟩
  ·rintro σ' H' ⟨v6,v7,be',bf',rfl,sm8,sq8,l18,eb8,ef8,el8,ud⟩;rw [length_map,take_of_length_le (Nat.le_refl _),elf] at ud;exact ⟨_,_,_,be',bf',lf2,_,rfl,sm8,sq8,.inr l18,.inr l18,eb8,ef8,el8,by rw [elf];exact dj.step hx tm best ud,by omega⟩
theorem HY (T:Tx K mg base ad):AK P w K mg base CX0 2 ad.f_cut_by ad.d_cut_by ["reached","x","y"] PK:=by
 refine T.F_cut_by.ok Dq (fun vs H Q E h=>?_) (fun cdv A outer s H vs Q E hr h=>?_)
 ·obtain ⟨t,h,x,y,L,be,rfl,_⟩:=h;rfl
 obtain ⟨t,h,x,y,L,be,rfl,td,hx,hy,h12,q⟩:=h;refine ⟨_,((@Am _ _ (3) _ _ _ _ Dq.nd rfl (Or.inl rfl) (@Aj _ _ _ _ _ _ _ _ _ _ _ _ _ _ _ _ (FK T) (hr.mono (by decide)) rfl T.m_with_one T.F_with_one.kp T.b_with_one .nil Ao (Ae*>((pv 1)*>Ad)) (by decide) (by rfl) (by rfl)) (by rfl) (by nofun))>>((Bz PassesOwn.never rfl (IK rfl T.z_enumerate ((@At _ _ _ _ _ _ _ BA (pv 0) Ae (fun _ _=>rfl))*>Ad)) (Di rfl (A9 (A0 (i:=4) Dq.nd rfl (Or.inl rfl)) (A9 (A0 (i:=5) Dq.nd rfl (Or.inl rfl)) C0))) (@Ah _ _ _ (@Bi _ _ _ _ _ _ _ _ (@Ar _ _ _ _ _ _ _ _ EY (pv 5) (@At _ _ _ _ _ _ _ Ay (@At _ _ _ _ _ _ _ BA (pv 0) Ae (fun _ _=>rfl)) (pv 2) (fun _ _=>rfl)) (As _)) (@Ah _ _ _ (@Am _ _ (3) _ _ _ _ Dq.nd rfl (Or.inl rfl) (@Aj _ _ _ _ _ _ _ _ _ _ _ _ _ _ _ _ (FK T) (hr.mono (by decide)) rfl T.m_with_one T.F_with_one.kp T.b_with_one .nil Ao ((pv 3)*>((pv 4)*>Ad)) (by decide) (by rfl) (by rfl)) (by rfl) (by nofun))) Az)))>>(@Ah _ _ _ (@Ap _ _ _ _ (pv 3))))),?_⟩;obtain ⟨b,f,bf,et,eb,ef,re⟩:=td.is;have bl:=re.lenb;symm;refine ⟨0,(x:Int),rfl,by omega,by omega,?_⟩
 rw [show Builtin.bitOr 0 (1*2 ^ (x:Int).toNat)=A1 h (fun i=>decide (i=x)) from (by
  rw [Int.toNat_natCast,show (0:Int)=A1 h (fun _=>false) from (Er fun _ _=>rfl).symm,Qx _ hx];exact AS h fun i _=>by rw [Bool.false_or])]
 symm;refine ⟨⟨_,SqL.of eb⟩,KA (xs:=be.map V.int) (fun i σ' H'=>∃v4 v5:Option V,σ'=[some (.ref t),some (.int (x:Int)),some (.int (y:Int)),some (.int (A1 h fun j=>decide (j=x) || (decide (j < i) && decide (be.getD y 0 < be.getD j 0)))),v4,v5]/\An H H') ⟨none,none,?_,fun _ _ e=>e⟩ (fun i σ' H' _ hq_=>by obtain ⟨_,_,_,e⟩:=hq_;exact SqL.of (e _ _ eb)) ?_ ?_⟩
 ·rw [AS h (g:=fun j=>decide (j=x) || (decide (j < 0) && decide (be.getD y 0 < be.getD j 0))) (fun j _=>by rw [decide_eq_false (Nat.not_lt_zero j),Bool.false_and,Bool.or_false])];rfl
 ·rintro i w T0 σ' H' hw ⟨v4,v5,rfl,s1⟩ hT;obtain ⟨z,hz,rfl⟩:=int_at hw;have hi:i < be.length:=(List.getElem?_eq_some_iff.mp hz).1;have ez:be.getD i 0=z:=by rw [getD_eq_getElem?_getD,hz];rfl
  have s2:=Ac hT (.tup [.int (i:Int),.int z]);have eT:(upd H' T0 (.tup [.int (i:Int),.int z])) T0=some (.tup [.int (i:Int),.int z]):=Ab;generalize upd H' T0 (.tup [.int (i:Int),.int z])=H2 at s2 eT ⊢;have s12:=s1.trans s2;refine ⟨T0,_,rfl,SqT.of eT,rfl,_,_,rfl,_,_,rfl,rfl,?_⟩;have et2:=s12 _ _ et;symm;refine ⟨b,_,_,_,rfl,rfl,SqL.of (s12 _ _ eb),atG (by omega),?_⟩;symm;by_cases c:be.getD y 0 < z
  ·refine ifT (decide_eq_true c) ?_;symm;refine ⟨_,(i:Int),rfl,by omega,by omega,?_⟩;rw [Int.toNat_natCast,Qx _ (by omega)];refine ⟨some (.int (i:Int)),some (.int z),?_,s12⟩;have em:A1 h (fun j=>(decide (j=x) || (decide (j < i) && decide (be.getD y 0 < be.getD j 0))) || decide (j=i))=A1 h (fun j=>decide (j=x) || (decide (j < i+1) && decide (be.getD y 0 < be.getD j 0))):=AS h fun j _=>?_
   ·rw [em];rfl
   ·by_cases e:j=i
    ·subst e;rw [decide_eq_true rfl,decide_eq_true (show j < j+1 by omega),ez,decide_eq_true c];simp
    ·rw [decide_eq_false e,Bool.or_false];by_cases d:j < i
     ·rw [decide_eq_true d,decide_eq_true (show j < i+1 by omega)]
     ·rw [decide_eq_false d,decide_eq_false (show ¬ j < i+1 by omega)]
  ·refine ifF (decide_eq_false c) ?_;refine ⟨some (.int (i:Int)),some (.int z),?_,s12⟩;have em:A1 h (fun j=>decide (j=x) || (decide (j < i) && decide (be.getD y 0 < be.getD j 0)))=A1 h (fun j=>decide (j=x) || (decide (j < i+1) && decide (be.getD y 0 < be.getD j 0))):=AS h fun j _=>?_
   ·rw [em];rfl
   ·by_cases e:j=i
    ·subst e;rw [ez,decide_eq_false c,Bool.and_false,Bool.and_false]
    ·by_cases d:j < i
     ·rw [decide_eq_true d,decide_eq_true (show j < i+1 by omega)]
     ·rw [decide_eq_false d,decide_eq_false (show ¬ j < i+1 by omega)]
 ·rintro σ' H' ⟨v4,v5,rfl,s1⟩;rw [length_map,bl];symm;rw [AS h (g:=Ea x y be) (fun j hj=>?_)]
  ·exact q _ s1
  ·unfold Ea;rw [decide_eq_true hj,Bool.true_and,Bool.decide_or]
theorem MX (T:Tx K mg base ad):AK P w K mg base CX0 2 ad.f_is_cut ad.d_is_cut ["cut","x","y","hands"] Nq:=by
 refine T.F_is_cut.ok Mz (fun vs H Q E h=>?_) (fun cdv A outer s H vs Q E hr h=>?_)
 ·obtain ⟨h,x,y,c,rfl,_⟩:=h;rfl
 obtain ⟨h,x,y,c,rfl,h12,q⟩:=h;refine ⟨_,(@Ah _ _ _ (@Ap _ _ _ _ (@Dy _ _ _ _ _ _ _ (EJ Hj Hj Ae (pv 0) (@Aj _ _ _ _ _ _ _ _ _ _ _ _ _ _ _ _ (Ir T) (hr.mono (by decide)) rfl T.m_all_of T.F_all_of.kp T.b_all_of .nil Ao ((pv 3)*>Ad) (by decide) (by rfl) (by rfl))) (@Dy _ _ _ _ _ _ _ (@Aj _ _ _ _ _ _ _ _ _ _ _ _ _ _ _ _ (G7 T) (hr.mono (by decide)) rfl T.m_holds T.F_holds.kp T.b_holds .nil Ao ((pv 0)*>((pv 1)*>Ad)) (by decide) (by rfl) (by rfl)) (@Ef _ _ _ _ _ (@NT _ _ _ _ (@Aj _ _ _ _ _ _ _ _ _ _ _ _ _ _ _ _ (G7 T) (hr.mono (by decide)) rfl T.m_holds T.F_holds.kp T.b_holds .nil Ao ((pv 0)*>((pv 2)*>Ad)) (by decide) (by rfl) (by rfl)))))))),?_⟩;unfold Dl at q;symm;by_cases c0:0<=c
 ·refine ifT (decide_eq_true c0) ?_;refine ⟨_,rfl,(h:Int),rfl,by omega,by omega,?_⟩;rw [Int.toNat_natCast];symm;by_cases c1:c<=2 ^ h - 1
  ·refine ifT (decide_eq_true (by omega)) ?_;rw [decide_eq_true (show 0<=c/\c<=2 ^ h - 1 from ⟨c0,c1⟩),Bool.true_and] at q;refine ⟨_,rfl,_,rfl,_,_,rfl,by omega,?_⟩;rw [Int.toNat_natCast]
   cases b1:bit c x with
   | false =>
     rw [b1,Bool.false_and] at q;refine ⟨_,rfl,ifF rfl ?_⟩;exact q
   | true =>
     rw [b1,Bool.true_and] at q;refine ⟨_,rfl,ifT rfl ?_⟩;symm;refine ⟨_,_,rfl,by omega,?_⟩;rw [Int.toNat_natCast];symm;exact q
  ·refine ifF (decide_eq_false (by omega)) ?_;rw [decide_eq_false (fun z=>c1 z.2),Bool.false_and] at q;symm;exact q
 ·refine ifF (decide_eq_false c0) ?_;rw [decide_eq_false (fun z=>c0 z.1),Bool.false_and] at q;symm;exact q
theorem F7 (T:Tx K mg base ad):AK P w K mg base CX0 2 ad.f_greatest_link ad.d_greatest_link ["leads","cut"] Iy:=by
 refine T.F_greatest_link.ok Dv (fun vs H Q E h=>?_) (fun cdv A outer s H vs Q E hr h=>?_)
 ·obtain ⟨a,as,h,x,y,L,c,rfl,_⟩:=h;rfl
 obtain ⟨a,as,h,x,y,L,c,rfl,ha,tb,co,hx,hy,h12,q⟩:=h;refine ⟨_,((@Am _ _ (2) _ _ _ _ Dv.nd rfl (Or.inr rfl) (Bb (fsc:=Ag B5) (N:=["leads","cut","outside"]) (Nc:=["leads","cut","outside","hand"]) rfl rfl (by nofun) rfl (AD (@Aj _ _ _ _ _ _ _ _ _ _ _ _ _ _ _ _ (DO T) (hr.mono (by decide)) rfl T.m_hands_of T.F_hands_of.kp T.b_hands_of .nil Ao ((pv 0)*>Ad) (by decide) (by rfl) (by rfl))) (fun _ _ _ _=>(CK (@Eb _ _ _ _ (@CU _ _ _ (@Aj _ _ _ _ _ _ _ _ _ _ _ _ _ _ _ _ (G7 T) (hr.mono (by decide)) rfl T.m_holds T.F_holds.kp T.b_holds .nil Ao ((pv 1)*>((pv 3)*>Ad)) (by decide) (by rfl) (by rfl)) (by intro _;rfl))))) (fun _ _ _ _=>(pv 3))) (by rfl) (by nofun))>>(@Ah _ _ _ (@Ap _ _ _ _ (@Al _ _ _ _ _ _ _ _ _ (FI rfl) (by rfl) T.z_max PyProof.Rows.boot_max ((Hc (fsc:=Ag B5) (N:=["leads","cut","outside"]) (Nc:=["leads","cut","outside","hand"]) rfl rfl (by nofun) rfl (AD (@Aj _ _ _ _ _ _ _ _ _ _ _ _ _ _ _ _ (E9 T) (hr.mono (by decide)) rfl T.m_members T.F_members.kp T.b_members .nil Ao ((pv 1)*>Ad) (by decide) (by rfl) (by rfl))) (fun _ _ _ _=>AG) (fun _ _ _ _=>(@Al _ _ _ _ _ _ _ _ _ (GH K rfl) (by rfl) T.z_max PyProof.Rows.boot_max ((by exact (FG (fsc:=Ag B5) (Nc:=["leads","cut","outside","hand"]) (Nd:=["leads","cut","outside","hand","other"]) rfl (by nofun) rfl (He K (pv 2)) (fun _ _ _ _=>AG) (fun _ _ _ _=>(@At _ _ _ _ _ _ _ (AM K) (@At _ _ _ _ _ _ _ (AM K) (pv 0) (pv 3) (fun _ _=>rfl)) (pv 4) (fun _ _=>rfl)))))*>Ad) (by decide) (by decide) (by rfl) (by rfl))))*>Ad) (by decide) (by decide) (by rfl) (by rfl))))),?_⟩;have al:(as.map V.ref).length=h:=by rw [length_map,tb.1]
 have ul:=Cy h;obtain ⟨cr,cbt⟩:=Bool.and_eq_true_iff.mp co;obtain ⟨cx,cy'⟩:=Bool.and_eq_true_iff.mp cbt;have cy:bit c y=false:=by simpa using cy'
 obtain ⟨m0,m1'⟩:=of_decide_eq_true cr;have m1:c < 2 ^ h:=by omega
 have p3:(2:Int) ^ h<=4096:=by
  have a:(2:Nat) ^ h<=2 ^ 12:=Nat.pow_le_pow_right (by decide) h12;have e:((2 ^ h:Nat):Int)=(2:Int) ^ h:=by simp
  omega
 have bin:∀i:Nat,bit c i=true->i < h:=fun i b=>Decidable.byContradiction fun k=>by
  have:(2:Int) ^ h<=2 ^ i:=by
   have:=Nat.pow_le_pow_right (show 0 < 2 by decide) (show h<=i by omega)
   exact_mod_cast this
  rw [DJ m0 (by omega)] at b
  cases b
 symm;refine ⟨a,KF as h L,h,rfl,(by rw [tb.vtb];exact ha),tb.good.1,h12,fun l0 H1 hl0 s1 e1=>?_⟩;refine ⟨l0,rfl,⟨_,SqL.of e1⟩,?_⟩;refine A5 (xs:=(ups h).map V.int) (by rw [length_map,ul];exact A4 (by omega)) (fun D i ys J=>ys=(hands i fun k=>!bit c k).map V.int/\J=upd H1 D (.lst ys)) (fun D hD=>⟨rfl,rfl⟩) (fun D i ys J hq_=>by obtain ⟨f1,f2⟩:=hq_;exact ⟨by rw [f2];exact Ab,by rw [f1,length_map];exact BU _ _⟩) (fun D i ys J hD hq_=>by obtain ⟨_,f2⟩:=hq_;rw [f2];exact SqL.of (Ac hD _ _ _ e1)) ?_ ?_
 ·rintro D i u ys J K1 K2 hD hu ⟨f1,rfl⟩ k1 k2;obtain ⟨z,hz,rfl⟩:=int_at hu;obtain ⟨rfl,hi⟩:=Jc hz;have ms:=CW i fun k=>!bit c k;symm;refine ⟨_,_,rfl,by omega,?_⟩;rw [Int.toNat_natCast]
  cases e:bit c i with
  | true =>
    rw [e,if_neg (by decide)] at ms;refine ⟨_,rfl,?_⟩;refine ifF rfl ?_;exact k2 _ ⟨by rw [ms];exact f1,rfl⟩
  | false =>
    rw [e,if_pos (by decide)] at ms;refine ⟨_,rfl,?_⟩;refine ifT rfl ?_;refine ⟨_,rfl,?_⟩;refine k1 _ _ Ab ⟨?_,by rw [AT]⟩;rw [ms,map_append,f1];rfl
 rintro o ys H2 ho ⟨rfl,rfl⟩;rw [length_map,ul];have s2:=s1.trans (Ac ho (.lst ((hands h fun k=>!bit c k).map V.int)));have e2:(upd H1 o (.lst ((hands h fun k=>!bit c k).map V.int))) o=some (.lst ((hands h fun k=>!bit c k).map V.int)):=Ab;generalize upd H1 o (.lst ((hands h fun k=>!bit c k).map V.int))=H2 at s2 e2 ⊢
 have omem:∀z∈hands h (fun k=>!bit c k),∃i:Nat,i < h/\bit c i=false/\z=(i:Int):=fun z m=>by
  obtain ⟨i,hi,b,e⟩:=Bx.mp m;exact ⟨i,hi,by simpa using b,e⟩
 have oy:(y:Int)∈hands h (fun k=>!bit c k):=Bx.mpr ⟨y,hy,by rw [cy];rfl,rfl⟩;have ol:=BU h (fun k=>!bit c k);have omem2:∀j:Nat,j < h->bit c j=false->(j:Int)∈hands h (fun k=>!bit c k):=fun j hj b=>Bx.mpr ⟨j,hj,by rw [b];rfl,rfl⟩;generalize hands h (fun k=>!bit c k)=zs at e2 omem omem2 oy ol ⊢;symm;refine ⟨m0,by omega,fun mp H3 hmp s3 e3=>?_⟩
 have imem:∀z∈hands 12 (bit (c)),∃i:Nat,i < h/\bit c i=true/\z=(i:Int):=fun z m=>by
  obtain ⟨i,hi,b,e⟩:=Bx.mp m;exact ⟨i,bin i b,b,e⟩
 have ix:(x:Int)∈hands 12 (bit (c)):=Bx.mpr ⟨x,by omega,cx,rfl⟩;have il:=BU 12 (bit (c));have imem2:∀i:Nat,bit c i=true->(i:Int)∈hands 12 (bit (c)):=fun i b=>Bx.mpr ⟨i,by have:=bin i b;omega,b,rfl⟩;generalize hands 12 (bit (c))=ws at e3 imem imem2 ix il ⊢;have s23:=s2.trans s3;have e23:=s3 _ _ e2;refine ⟨mp,rfl,⟨_,SqL.of e3⟩,?_⟩;refine A5 (xs:=ws.map V.int) (by rw [length_map];exact A4 (by omega)) (fun D i ys J=>∃vs:List Int,ys=vs.map V.int/\vs.length=i/\(∀z∈vs,∃i j,i < h/\j < h/\bit c i=true/\bit c j=false/\L i j=z)/\(∀u∈ws.take i,∃z∈vs,∀j,j < h->bit c j=false->L u.toNat j<=z)/\J D=some (.lst ys)/\An H3 J) (fun D hD=>⟨[],rfl,rfl,(fun z m=>nomatch m),(fun u m=>nomatch m),Ab,Ac hD _⟩) (fun D i ys J hq_=>by obtain ⟨vs,f1,f2,_,_,f3,_⟩:=hq_;exact ⟨f3,by rw [f1,length_map,f2];exact Nat.le_refl _⟩) (fun D i ys J hD hq_=>by obtain ⟨_,_,_,_,_,_,f2⟩:=hq_;exact SqL.of (f2 _ _ e3)) ?_ ?_
 ·rintro D i u ys J K1 K2 hD hu ⟨vs,rfl,f2,f3,fU,f4,f5⟩ k1 k2;obtain ⟨z,hz,rfl⟩:=int_at hu;obtain ⟨i',hi',gi,rfl⟩:=imem z (mem_of_getElem? hz);refine yes (ifT rfl ?_);have sJ:=s23.trans f5;refine ⟨_,rfl,o,rfl,⟨_,SqL.of (f5 _ _ e23)⟩,?_⟩;refine A5 (xs:=zs.map V.int) (by rw [length_map];exact A4 (by omega)) (fun D2 k ys J2=>ys=((zs.take k).map fun z=>L i' z.toNat).map V.int/\J2=upd J D2 (.lst ys)) (fun D2 hD2=>⟨rfl,rfl⟩) (fun D2 k ys J2 hq_=>by obtain ⟨f1,f2⟩:=hq_;exact ⟨by rw [f2];exact Ab,by rw [f1,length_map,length_map];exact length_take_le _ _⟩) (fun D2 k ys J2 hD2 hq_=>by obtain ⟨_,f2⟩:=hq_;rw [f2];exact SqL.of (Ac hD2 _ _ _ (f5 _ _ e23))) ?_ ?_
  ·rintro D2 k u ys2 J2 L1 L2 hD2 hu2 ⟨g1,rfl⟩ l1 l2;obtain ⟨z2,hz2,rfl⟩:=int_at hu2;obtain ⟨j,hj,gj,rfl⟩:=omem z2 (mem_of_getElem? hz2);refine yes (ifT rfl ?_);have sD:=sJ.trans (Ac hD2 (.lst ys2));obtain ⟨ar,_,_,r3,r4⟩:=(tb.same sD).row hi';refine ⟨_,rfl,_,rfl,a,_,_,_,rfl,rfl,SqL.of (sD _ _ ha),r3,?_⟩;refine ⟨_,rfl,ar,_,_,_,rfl,rfl,SqL.of r4,Bn (L i') hj,?_⟩;refine l1 _ _ Ab ⟨?_,by rw [AT]⟩;rw [g1,take_add_one,hz2,map_append,map_append];rfl
  rintro D2 ys2 J2 hD2 ⟨g1,rfl⟩;rw [length_map,take_of_length_le (Nat.le_refl _)] at g1;subst g1;have sD:=Ac hD2 (.lst ((zs.map fun z=>L i' z.toNat).map V.int));refine ⟨D2,_,rfl,SqL.of Ab,(by rw [length_map];exact length_pos_of_mem oy),fun M Mm Ma=>?_⟩
  have Mv:∃i j,i < h/\j < h/\bit c i=true/\bit c j=false/\L i j=M:=by
   obtain ⟨z,mz,rfl⟩:=mem_map.mp Mm;obtain ⟨j,hj,gj,rfl⟩:=omem z mz;exact ⟨i',j,hi',hj,gi,gj,rfl⟩
  refine k1 _ _ (sD _ _ f4) ⟨vs++[M],by rw [map_append];rfl,by rw [length_append,f2];rfl,fun z m=>?_,fun u mu=>?_,Ab,Ax (f5.trans sD) hD⟩
  rotate_left
  ·rw [take_succ,hz] at mu;rcases mem_append.mp mu with mu | mu
   ·obtain ⟨z,zm,zl⟩:=fU u mu;exact ⟨z,mem_append_left _ zm,zl⟩
   ·rw [mem_singleton.mp mu];exact ⟨M,mem_append_right _ (mem_singleton.mpr rfl),fun j hj gj=>Ma _ (mem_map.mpr ⟨(j:Int),omem2 j hj gj,rfl⟩)⟩
  rcases mem_append.mp m with m | m
  ·exact f3 z m
  ·rw [mem_singleton.mp m];exact Mv
 rintro D ys H4 hD ⟨vs,rfl,f2,f3,fU,f4,f5⟩;rw [length_map] at f2;refine ⟨D,_,rfl,SqL.of f4,(by rw [f2];exact length_pos_of_mem ix),fun M Mm Ma=>?_⟩;refine q M _ (s23.trans f5) ⟨f3 M Mm,fun i j hi hj bi bj=>?_⟩;obtain ⟨z,zm,zl⟩:=fU (i:Int) (by rw [length_map,take_length];exact imem2 i bi);exact Int.le_trans (zl j hj bj) (Ma z zm)
theorem Jt (T:Tx K mg base ad):AK P w K mg base CX0 2 ad.f_are_hands ad.d_are_hands ["thing"] P4:=by
 refine T.F_are_hands.ok Jg (fun vs H Q E h=>?_) (fun cdv A outer s H vs Q E hr h=>?_)
 ·obtain ⟨n,rfl,_⟩:=h;rfl
 obtain ⟨n,rfl,n0,n1,q⟩:=h;refine ⟨_,(@Ah _ _ _ (@Ap _ _ _ _ (@Dy _ _ _ _ _ _ _ (@Aj _ _ _ _ _ _ _ _ _ _ _ _ _ _ _ _ (DP T) (hr.mono (by decide)) rfl T.m_is_whole T.F_is_whole.kp T.b_is_whole .nil Ao ((pv 0)*>Ad) (by decide) (by rfl) (by rfl)) (@Ef _ _ _ _ _ (EJ Hj Hj Ae (pv 0) (Mu (v:=.int 12) rfl T.k_MOST_HANDS ⟨_,rfl⟩)))))),?_⟩;refine ⟨_,rfl,n,rfl,?_⟩;symm;refine ifT (decide_eq_true n0) ?_;symm;show Q (.bl (decide (n<=12))) H;rw [decide_eq_true n1];exact q
theorem Ja (T:Tx K mg base ad):AK P w K mg base CX0 2 ad.f_are_seats ad.d_are_seats ["thing"] Qi:=by
 refine T.F_are_seats.ok IL (fun vs H Q E h=>?_) (fun cdv A outer s H vs Q E hr h=>?_)
 ·obtain ⟨n,rfl,_⟩:=h;rfl
 obtain ⟨n,rfl,n0,n1,q⟩:=h;refine ⟨_,(@Ah _ _ _ (@Ap _ _ _ _ (@Dy _ _ _ _ _ _ _ (@Aj _ _ _ _ _ _ _ _ _ _ _ _ _ _ _ _ (DP T) (hr.mono (by decide)) rfl T.m_is_whole T.F_is_whole.kp T.b_is_whole .nil Ao ((pv 0)*>Ad) (by decide) (by rfl) (by rfl)) (@Ef _ _ _ _ _ (EJ Hj Hj Ae (pv 0) (Mu (v:=.int 60) rfl T.k_MOST_SEATS ⟨_,rfl⟩)))))),?_⟩;refine ⟨_,rfl,n,rfl,?_⟩;symm;refine ifT (decide_eq_true n0) ?_;symm;show Q (.bl (decide (n<=60))) H;rw [decide_eq_true n1];exact q
theorem JV (T:Tx K mg base ad):AK P w K mg base CX0 2 ad.f_are_lots ad.d_are_lots ["thing","hands"] (Rr K):=by
 refine T.F_are_lots.ok JC (fun vs H Q E h=>?_) (fun cdv A outer s H vs Q E hr h=>?_)
 ·obtain ⟨l,ns,n,rfl,_⟩:=h;rfl
 obtain ⟨l,ns,n,rfl,hl,pm,n12,q⟩:=h;refine ⟨_,((@Bi _ _ _ _ _ _ _ _ (@Eb _ _ _ _ (@CU _ _ _ (@Al _ _ _ _ _ _ _ _ _ GK (by rfl) T.z_isinstance PyProof.Rows.boot_isinstance ((pv 0)*>((Jk (v:=.ty "list") rfl T.z_list PyProof.Rows.boot_list rfl)*>Ad)) (by decide) (by decide) (by rfl) (by rfl)) (by intro _;rfl))) (@Ah _ _ _ (@Ap _ _ _ _ Cg)) Az)>>(@Ah _ _ _ (@Ap _ _ _ _ (@Dy _ _ _ _ _ _ _ (@Al _ _ _ _ _ _ _ _ _ (Hb rfl) (by rfl) T.z_all PyProof.Rows.boot_all ((Bb (fsc:=Ag EF) (N:=["thing","hands"]) (Nc:=["thing","hands","hand"]) rfl rfl (by nofun) rfl (AD (pv 0)) (fun _ _ _ _=>AG) (fun _ _ _ _=>(@Aj _ _ _ _ _ _ _ _ _ _ _ _ _ _ _ _ (DP T) (hr.mono (by decide)) rfl T.m_is_whole T.F_is_whole.kp T.b_is_whole .nil Ao ((pv 2)*>Ad) (by decide) (by rfl) (by rfl))))*>Ad) (by decide) (by decide) (by rfl) (by rfl)) (@Ef _ _ _ _ _ (@C1 _ _ _ _ _ _ _ _ (QE (K:=K) hr.units) (@Al _ _ _ _ _ _ _ _ _ Jx (by rfl) T.z_sorted PyProof.Rows.boot_sorted ((pv 0)*>Ad) (by decide) (by decide) (by rfl) (by rfl)) (Cb rfl (by rfl) T.z_list (by rfl) T.z_range (pv 1)) (As _))))))),?_⟩;have nl:ns.length=n:=by rw [pm.length_eq,Cy]
 refine ⟨_,rfl,_,_,_,_,rfl,Es.lst hl,Hv,?_⟩;symm;refine ⟨⟨_,SqL.of hl⟩,?_⟩;refine A5 (xs:=ns.map V.int) (by rw [length_map];exact A4 (by omega)) (fun D i ys H'=>ys=(List.replicate i true).map V.bl/\H'=upd H D (.lst ys)) (fun D hD=>⟨rfl,rfl⟩) (fun D i ys H' hq_=>by obtain ⟨f1,f2⟩:=hq_;exact ⟨by rw [f2];exact Ab,by rw [f1,length_map,length_replicate];exact Nat.le_refl _⟩) (fun D i ys H' hD hq_=>by obtain ⟨_,f2⟩:=hq_;rw [f2];exact SqL.of (Ac hD _ _ _ hl)) ?_ ?_
 ·rintro D i x ys H' K1 K2 hD hx ⟨f1,rfl⟩ k1 k2;obtain ⟨z,hz,rfl⟩:=int_at hx;refine yes (ifT rfl ?_);refine ⟨_,rfl,z,rfl,?_⟩;refine k1 _ _ Ab ⟨?_,by rw [AT]⟩;rw [f1,replicate_succ',map_append];rfl
 ·rintro D ys H' hD ⟨rfl,rfl⟩;refine ⟨D,_,rfl,SqL.of Ab,?_⟩;rw [show (List.replicate (ns.map V.int).length true).all id=true from all_eq_true.mpr fun b m=>(mem_replicate.mp m).2];have s1:=Ac hD (.lst ((List.replicate (ns.map V.int).length true).map V.bl));generalize upd H D (.lst ((List.replicate (ns.map V.int).length true).map V.bl))=H1 at s1 ⊢;symm;refine ⟨l,ns,rfl,SqL.of (s1 _ _ hl),by omega,fun a ms pa sa ha=>?_⟩;have e:=Ri pa sa pm;subst e;have s2:=Ac ha (.lst ((ups n).map V.int));have e2:(upd H1 a (.lst ((ups n).map V.int))) a=some (.lst ((ups n).map V.int)):=Ab;generalize upd H1 a (.lst ((ups n).map V.int))=H2 at s2 e2 ⊢;symm;refine ⟨by omega,fun b hb=>?_⟩;rw [<- Qy];have s3:=Ac hb (.lst ((ups n).map V.int));refine ⟨.list ((ups n).map .int),.list ((ups n).map .int),.lst (SqL.of (s3 _ _ e2)) (.ints _),.lst (SqL.of Ab) (.ints _),(Cm _).2,(Cm _).2,?_⟩;rw [show PyData.eqv (.list ((ups n).map .int)) (.list ((ups n).map .int))=true from by show PyData.eqvAll _ _=true;rw [Fk];exact decide_eq_true rfl];exact q _ ((s1.trans s2).trans s3)
theorem IH (T:Tx K mg base ad):AK P w K mg base CX0 2 ad.f_law_twice ad.d_law_twice ["_law_cell_here","_law_by"] MZ:=by
 refine T.F_law_twice.ok EO (fun vs H Q E h=>?_) (fun cdv A outer s H vs Q E hr h=>?_)
 ·obtain ⟨c,b,rfl,_⟩:=h;rfl
 obtain ⟨c,b,rfl,szc,b0,b1,q⟩:=h;refine ⟨_,((@Am _ _ (2) _ _ _ _ EO.nd rfl (Or.inl rfl) (@Aj _ _ _ _ _ _ _ _ _ _ _ _ _ _ _ _ (BI T) (hr.mono (by decide)) rfl T.m_law_mixed T.F_law_mixed.kp T.b_law_mixed .nil Ao ((pv 0)*>((pv 1)*>Ad)) (by decide) (by rfl) (by rfl)) (by rfl) (by nofun))>>(@Ah _ _ _ (@Ap _ _ _ _ (AO<&>((AA<&>((BQ<&>((pv 2)<|>(pv 2)))<|>(BB<&>((FF<&>(Ae<|>Ae))<|>Ae))))<|>Ae))))),?_⟩;symm;refine ⟨c,b,rfl,szc,b0,b1,fun z z0 z1=>?_⟩;have szz:Sz 200 z:=DK (by omega) (Int.lt_trans z1 (by decide));have m:=AH (z*z) (show (0:Int) < 10 ^ (30:Int).toNat - 11 by decide);symm;have e:(10:Int) ^ (30:Int).toNat - 11 < 10 ^ 31:=by decide
 generalize (z*z).fmod (10 ^ (30:Int).toNat - 11)=u at m ⊢;show Q (V.int (u.fdiv 7)) H;rw [Int.fdiv_eq_ediv_of_nonneg _ (by decide)];exact q _ (Int.ediv_nonneg m.1 (by decide)) (Int.lt_of_le_of_lt (Int.ediv_le_self _ m.1) (Int.lt_trans m.2 e))
theorem DY (T:Tx K mg base ad):AK P w K mg base CX0 2 ad.f_law_lots ad.d_law_lots ["_law_cell_here","_law_hands"] Oz:=by
 refine T.F_law_lots.ok BH (fun vs H Q E h=>?_) (fun cdv A outer s H vs Q E hr h=>?_)
 ·obtain ⟨c,h,rfl,_⟩:=h;rfl
 obtain ⟨c,h,rfl,szc,h1,h12,q⟩:=h;refine ⟨_,((@Am _ _ (2) _ _ _ _ BH.nd rfl (Or.inl rfl) (@Aj _ _ _ _ _ _ _ _ _ _ _ _ _ _ _ _ (BI T) (hr.mono (by decide)) rfl T.m_law_mixed T.F_law_mixed.kp T.b_law_mixed .nil Ao ((pv 0)*>(Ae*>Ad)) (by decide) (by rfl) (by rfl)) (by rfl) (by nofun))>>((@Am _ _ (3) _ _ _ _ BH.nd rfl (Or.inl rfl) (Cb rfl (by rfl) T.z_list (by rfl) T.z_range (pv 1)) (by rfl) (by nofun))>>((@Am _ _ (4) _ _ _ _ BH.nd rfl (Or.inl rfl) (@AR _ _ _ _ Ad) (by rfl) (by nofun))>>((Bz PassesOwn.never rfl (AF rfl T.z_range ((pv 1)*>Ad)) (A0 (i:=5) BH.nd rfl (Or.inl rfl)) ((@Am _ _ (6) _ _ _ _ BH.nd rfl (Or.inl rfl) (AA<&>((pv 2)<|>(@Al _ _ _ _ _ _ _ _ _ Au (by rfl) T.z_len PySem.boot_len ((pv 3)*>Ad) (by decide) (by decide) (by rfl) (by rfl)))) (by rfl) (by nofun))>>((@Am _ _ (2) _ _ _ _ BH.nd rfl (Or.inl rfl) (AO<&>((pv 2)<|>(@Al _ _ _ _ _ _ _ _ _ Au (by rfl) T.z_len PySem.boot_len ((pv 3)*>Ad) (by decide) (by decide) (by rfl) (by rfl)))) (by rfl) (by nofun))>>(@Ah _ _ _ (@Cz _ _ _ _ (CG PySem.F.plainAttrs_list PySem.F.slot_list_append PySem.F.type_list_append Ct (pv 4) ((CG PySem.F.plainAttrs_list PySem.F.slot_list_pop PySem.F.type_list_pop JE (pv 3) ((pv 6)*>Ad))*>Ad)) (by rfl))))))>>(@Ah _ _ _ (@Ap _ _ _ _ (pv 4))))))),?_⟩;obtain ⟨n,rfl⟩:∃n:Nat,h=(n:Int):=⟨h.toNat,by omega⟩;refine ⟨_,rfl,c,5,rfl,szc,by decide,by decide,fun z z0 z1=>?_⟩;symm;refine ⟨by omega,fun l hl=>?_⟩;rw [show (List.map (fun i:Nat=>V.int (i:Int)) (List.range n))=(ups n).map V.int from (by unfold ups;rw [map_map];rfl)];have s1:=Ac hl (.lst ((ups n).map V.int));have e1:(upd H l (.lst ((ups n).map V.int))) l=some (.lst ((ups n).map V.int)):=Ab;generalize upd H l (.lst ((ups n).map V.int))=H1 at s1 e1 ⊢;refine ⟨(by show 0<=sizeLine;decide),fun lo hlo0=>?_⟩;have ll:l≠lo:=fun z=>by rw [<- z,e1] at hlo0;cases hlo0
 have hlo:H lo=none:=none_of s1 hlo0;have s2:=s1.trans (Ac hlo0 (.lst []));have e2:(upd H1 lo (.lst [])) l=some (.lst ((ups n).map V.int)):=by rw [Ak ll];exact e1
 have e3:(upd H1 lo (.lst [])) lo=some (.lst (([]:List Int).map V.int)):=Ab;generalize upd H1 lo (.lst [])=H2 at s2 e2 e3 ⊢;symm;refine ⟨by omega,by omega,BJ (fun i σ' H'=>∃(v5 v6:Option V) (z:Int) (left got:List Int),σ'=[some (.int c),some (.int (n:Int)),some (.int z),some (.ref l),some (.ref lo),v5,v6]/\0<=z/\z < 10 ^ 31/\An H H'/\H' l=some (.lst (left.map V.int))/\H' lo=some (.lst (got.map V.int))/\left.length+i=n/\got.length=i/\(got++left).Perm (ups n)) ⟨none,none,z,ups n,[],rfl,z0,z1,s2,e2,e3,(by unfold ups;rw [length_map,length_range];rfl),rfl,List.Perm.refl _⟩ ?_ ?_⟩
 ·rintro i σ' H' hi ⟨v5,v6,z,left,got,rfl,z0,z1,s3,f1,f2,f3,f4,f5⟩;have m:=AH z (show (0:Int) < (left.length:Int) by omega);have szz:Sz 200 z:=EA z0 (Int.lt_trans z1 (by decide));symm;have hll:(left.map V.int).length=left.length:=length_map _;refine ⟨(by show ((left.map V.int).length:Int)≠0;omega),?_⟩;dsimp only;rw [hll];generalize z.fmod (left.length:Int)=j' at m ⊢;obtain ⟨j,rfl⟩:∃j:Nat,j'=(j:Int):=⟨j'.toNat,by omega⟩;have hj:j < left.length:=by omega
  symm;refine ⟨⟨by show ((left.map V.int).length:Int)≠0;omega,(show Sz 64 ((left.map V.int).length:Int) from DK (by omega) (by omega)).mono (by decide)⟩,?_⟩;have lc:=Jl (d:=(left.length:Int)) z0 (by omega) z1;dsimp only;rw [hll];symm;refine ⟨.inl ⟨rfl,_,SqL.of f2⟩,?_⟩;symm;refine ⟨.inl ⟨rfl,_,SqL.of f1⟩,?_⟩;symm;refine ⟨l,_,_,j,V.int left[j],rfl,rfl,f1,by omega,by omega,Qv (by rw [length_map];exact hj),(by rw [List.getElem?_map,List.getElem?_eq_getElem hj];rfl),?_⟩;have g2:(upd H' l (.lst ((left.map V.int).eraseIdx j))) lo=some (.lst (got.map V.int)):=by rw [Ak (Ne.symm ll)];exact f2
  have g1:(upd H' l (.lst ((left.map V.int).eraseIdx j))) l=some (.lst ((left.eraseIdx j).map V.int)):=by rw [Ab,map_erase]
  have s4:=Ax (o:=.lst ((left.map V.int).eraseIdx j)) s3 hl;generalize upd H' l (.lst ((left.map V.int).eraseIdx j))=H4 at s4 g1 g2 ⊢;refine ⟨lo,_,_,rfl,rfl,g2,(by rw [length_map,f4];exact Av (by omega)),?_⟩;have g1':(upd H4 lo (.lst (got.map V.int++[V.int left[j]]))) l=some (.lst ((left.eraseIdx j).map V.int)):=by rw [Ak ll];exact g1
  have g2':(upd H4 lo (.lst (got.map V.int++[V.int left[j]]))) lo=some (.lst ((got++[left[j]]).map V.int)):=by rw [Ab,map_append];rfl
  have s5:=Ax (o:=.lst (got.map V.int++[V.int left[j]])) s4 hlo;generalize upd H4 lo (.lst (got.map V.int++[V.int left[j]]))=H5 at s5 g1' g2' ⊢;exact ⟨_,_,_,_,_,rfl,lc.1,lc.2,s5,g1',g2',by rw [length_eraseIdx,if_pos hj];omega,by rw [length_append,f4];rfl,Ju (List.getElem?_eq_getElem hj) f5⟩
 ·rintro σ' H' ⟨v5,v6,z,left,got,rfl,z0,z1,s3,f1,f2,f3,f4,f5⟩;rw [Int.toNat_natCast] at f3;have:left=[]:=length_eq_zero_iff.mp (by omega);rw [this,append_nil] at f5;exact ⟨_,rfl,q lo got H' s3 f2 (by rw [Int.toNat_natCast];exact f5)⟩
theorem KL (T:Tx K mg base ad):AK P w K mg base CX0 2 ad.f_law_slip ad.d_law_slip ["_law_cell_here","_law_hands"] NU:=by
 refine T.F_law_slip.ok AZ (fun vs H Q E h=>?_) (fun cdv A outer s H vs Q E hr h=>?_)
 ·obtain ⟨c,n,rfl,_⟩:=h;rfl
 obtain ⟨c,n,rfl,szc,n1,n12,q⟩:=h;refine ⟨_,((@Am _ _ (2) _ _ _ _ AZ.nd rfl (Or.inl rfl) (@Aj _ _ _ _ _ _ _ _ _ _ _ _ _ _ _ _ (BI T) (hr.mono (by decide)) rfl T.m_law_mixed T.F_law_mixed.kp T.b_law_mixed .nil Ao ((pv 0)*>((pv 1)*>Ad)) (by decide) (by rfl) (by rfl)) (by rfl) (by nofun))>>((@Am _ _ (3) _ _ _ _ AZ.nd rfl (Or.inl rfl) (AA<&>((pv 2)<|>Ae)) (by rfl) (by nofun))>>((@Am _ _ (4) _ _ _ _ AZ.nd rfl (Or.inl rfl) (AA<&>((AO<&>((pv 2)<|>Ae))<|>(AC<&>((pv 1)<|>Ae)))) (by rfl) (by nofun))>>((@Am _ _ (2) _ _ _ _ AZ.nd rfl (Or.inl rfl) (AO<&>((pv 2)<|>Ae)) (by rfl) (by nofun))>>((@Am _ _ (5) _ _ _ _ AZ.nd rfl (Or.inl rfl) (Cb rfl (by rfl) T.z_list (by rfl) T.z_range (pv 1)) (by rfl) (by nofun))>>((@Am _ _ (6) _ _ _ _ AZ.nd rfl (Or.inr rfl) Om (by rfl) (by nofun))>>((Bz PassesOwn.never rfl (AF rfl T.z_range ((pv 1)*>Ad)) (A0 (i:=7) AZ.nd rfl (Or.inl rfl)) ((@Am _ _ (8) _ _ _ _ AZ.nd rfl (Or.inl rfl) (@At _ _ _ _ _ _ _ Ay (@AR _ _ _ _ ((@Al _ _ _ _ _ _ _ _ _ Au (by rfl) T.z_len PySem.boot_len ((pv 5)*>Ad) (by decide) (by decide) (by rfl) (by rfl))*>((AC<&>((pv 1)<|>Ae))*>(Ae*>((@Al _ _ _ _ _ _ _ _ _ Au (by rfl) T.z_len PySem.boot_len ((pv 5)*>Ad) (by decide) (by decide) (by rfl) (by rfl))*>Ad))))) (pv 3) (fun _ _=>rfl)) (by rfl) (by nofun))>>((@Am _ _ (9) _ _ _ _ AZ.nd rfl (Or.inl rfl) (AA<&>((pv 2)<|>(pv 8))) (by rfl) (by nofun))>>((@Am _ _ (2) _ _ _ _ AZ.nd rfl (Or.inl rfl) (AO<&>((pv 2)<|>(pv 8))) (by rfl) (by nofun))>>((@E6 _ _ _ _ _ _ _ _ (PW.pt (@FS _ _ _ _ _ _ _ (@Ar _ _ _ _ _ _ _ _ B4 (pv 3) Ae (As _)) (@EC _ _ _ _ (PW.pt (@E8 _ _ _ _ _ _ _ (@Ar _ _ _ _ _ _ _ _ B4 (pv 3) Ae (As _)) (@D6 _ _ _ _ (@Ar _ _ _ _ _ _ _ _ FQ (pv 7) (pv 4) (As _)))))))) (@Ah _ _ _ (Gs (u1 hr.units) (pv 6) (pv 7) (@AR _ _ _ _ ((CG PySem.F.plainAttrs_list PySem.F.slot_list_pop PySem.F.type_list_pop JE (pv 5) ((pv 9)*>Ad))*>Ad)) rfl)) Az)>>(@Ah _ _ _ (@E6 _ _ _ _ _ _ _ _ (PW.pt (@E8 _ _ _ _ _ _ _ (@Ar _ _ _ _ _ _ _ _ Ih (pv 3) (@B7 _ _ _ _ _ (Ae*>(Ae*>Ad))) (by with_unfolding_all rfl)) (@D6 _ _ _ _ (@Ar _ _ _ _ _ _ _ _ EY (pv 9) Ae (As _))))) (@Ah _ _ _ (Gs (u1 hr.units) (pv 6) (pv 9) (BS<&>((GQ (u1 hr.units) (pv 6) (pv 9) (@AR _ _ _ _ Ad) ⟨rfl,rfl,rfl,rfl⟩)<|>(@AR _ _ _ _ ((pv 7)*>Ad)))) rfl)) Az)))))))>>(@Ah _ _ _ (@Ap _ _ _ _ (@AJ _ _ _ _ _ _ _ _ _ E3 (by rfl) T.z_tuple PyProof.Rows.boot_tuple ((Bb (fsc:=Ag EB) (N:=["_law_cell_here","_law_hands","_law_number","_law_way","_law_many","_law_left","_law_tiers","_law_k","_law_base","_law_lot"]) (Nc:=["_law_cell_here","_law_hands","_law_number","_law_way","_law_many","_law_left","_law_tiers","_law_k","_law_base","_law_lot","_law_rank"]) rfl rfl (by nofun) rfl (AD (@Al _ _ _ _ _ _ _ _ _ (HB rfl) (by rfl) T.z_sorted PyProof.Rows.boot_sorted ((pv 6)*>Ad) (by decide) (by decide) (by rfl) (by rfl))) (fun _ _ _ _=>AG) (fun _ _ _ _=>(@Aj _ _ _ _ _ _ _ _ _ _ _ _ _ _ _ _ (JN T) (hr.mono (by decide)) rfl T.m_law_mask T.F_law_mask.kp T.b_law_mask .nil Ao ((Md (u1 hr.units) (pv 6) (pv 10) (fun _ _=>rfl))*>Ad) (by decide) (by rfl) (by rfl))))*>Ad) (by decide) (by decide) (by rfl) (by rfl))))))))))),?_⟩;symm;refine ⟨c,(n:Int),rfl,szc,by omega,by omega,fun z z0 z1=>?_⟩;have szz:Sz 200 z:=EA z0 (Int.lt_trans z1 (by decide));symm;refine ⟨(by show (_:Int)≠0;omega),?_⟩;symm;refine ⟨by omega,fun l hl=>?_⟩;rw [show (List.map (fun i:Nat=>V.int (i:Int)) (List.range n))=((List.range n).map fun i:Nat=>(i:Int)).map V.int from (by rw [map_map];rfl)];have rl:((List.range n).map fun i:Nat=>(i:Int)).length=n:=by rw [length_map,length_range]
 have rin:∀x∈((List.range n).map fun i:Nat=>(i:Int)),0<=x/\x < (n:Int):=fun x m=>by
  obtain ⟨i,im,rfl⟩:=mem_map.mp m;have:=mem_range.mp im;omega
 have rnd:((List.range n).map fun i:Nat=>(i:Int)).Nodup:=pairwise_map.mpr (nodup_range.imp fun h e=>h (by omega));generalize ((List.range n).map fun i:Nat=>(i:Int))=left at rl rin rnd ⊢;have s1:=Ac hl (.lst (left.map V.int));have e1:(upd H l (.lst (left.map V.int))) l=some (.lst (left.map V.int)):=Ab;generalize upd H l (.lst (left.map V.int))=H1 at s1 e1 ⊢;subst_eqs;intro d hd;have s2:=Ac hd (.dK []);have e2:(upd H1 d (.dK [])) d=some (.dK []):=Ab;generalize upd H1 d (.dK [])=H2 at s2 e2 ⊢;have dl:d≠l:=fun z=>by rw [z,e1] at hd;cases hd
 have hdH:=none_of s1 hd;have mw:=AH z (show (0:Int) < 4 by decide);have lc:=Jl (d:=64) z0 (by decide) z1;dsimp only;generalize (z.fdiv 4).fmod ((n:Int)+1)=m;generalize z.fmod 4=w at mw ⊢;generalize z.fdiv 64=z at lc ⊢;symm;refine ⟨by omega,by omega,BJ (fun i σ' J=>∃(v7 v8 v9:Option V) (z:Int) (left:List Int) (kvs:List (Key × V)) (ρ:Int->Option Int),σ'=[some (.int c),some (.int (n:Int)),some (.int z),some (.int w),some (.int m),some (.ref l),some (.ref d),v7,v8,v9]/\0<=z/\z < 10 ^ 31/\An H J/\J l=some (.lst (left.map V.int))/\J d=some (.dK kvs)/\n<=left.length+i/\left.length<=n/\(∀x∈left,0<=x/\x < (n:Int))/\kvs.length<=i/\BO J l n i w kvs/\Gh J kvs ρ/\left.Nodup/\(w=0\/w=3->∀x∈left,ρ x=none)/\(w=1\/w=2->∀x,(i:Int)<=x->ρ x=none)) ⟨none,none,none,z,left,[],(fun _=>none),rfl,lc.1,lc.2,s1.trans s2,s2 _ _ e1,e2,by omega,by omega,rin,Nat.le_refl _,⟨nodup_nil,fun _ m=>absurd m List.not_mem_nil⟩,(fun _ _ _ m=>nomatch m),rnd,(fun _ _ _=>rfl),fun _ _ _=>rfl⟩ ?_ ?_⟩
 ·rintro i σ' J hi ⟨v7,v8,v9,z,left,kvs,ρ,rfl,z0,z1,sJ,eL,eD,ln,ln2,rin,kl,td,gh,lnd,gh0,gh1⟩;rw [Int.toNat_natCast] at hi;have szz:Sz 200 z:=EA z0 (Int.lt_trans z1 (by decide));have ll:(left.map V.int).length=left.length:=length_map _;symm;refine ⟨(by show 4<=sizeLine;decide),fun b4 hb4=>?_⟩;dsimp only;rw [ll];have sj1:=Ac hb4 (.lst [V.int (left.length:Nat),V.int ((n:Int)+1),V.int 3,V.int (left.length:Nat)]);have ej1:(upd J b4 (.lst [V.int (left.length:Nat),V.int ((n:Int)+1),V.int 3,V.int (left.length:Nat)])) b4=some (.lst [V.int (left.length:Nat),V.int ((n:Int)+1),V.int 3,V.int (left.length:Nat)]):=Ab;generalize upd J b4 (.lst [V.int (left.length:Nat),V.int ((n:Int)+1),V.int 3,V.int (left.length:Nat)])=J1 at sj1 ej1 ⊢
  obtain ⟨b,hb,b1,b13,bw⟩:∃b:Int,atI [V.int (left.length:Nat),V.int ((n:Int)+1),V.int 3,V.int (left.length:Nat)] w=some (.int b)/\1<=b/\b<=13/\(w=0\/w=3->b=(left.length:Nat)):=by
   rcases (by omega:w=0\/w=1\/w=2\/w=3) with rfl | rfl | rfl | rfl
   ·exact ⟨_,rfl,by omega,by omega,fun _=>rfl⟩
   ·exact ⟨_,rfl,by omega,by omega,fun k=>by omega⟩
   ·exact ⟨_,rfl,by omega,by omega,fun k=>by omega⟩
   ·exact ⟨_,rfl,by omega,by omega,fun _=>rfl⟩
  symm;refine ⟨b4,_,_,_,rfl,rfl,SqL.of ej1,hb,?_⟩;symm;refine ⟨(by show (_:Int)≠0;omega),?_⟩;have lt:=AH z (show 0 < b by omega);have lc:=Jl (d:=b) z0 b1 z1;have szb:Sz 64 b:=DK (by omega) (by omega);symm;refine ⟨⟨by show (_:Int)≠0;omega,szb.mono (by decide)⟩,?_⟩;dsimp only;generalize z.fmod b=lo at lt ⊢;generalize z.fdiv b=z at lc ⊢;have sJ1:=sJ.trans sj1;have tJ:=td.same sj1;have gJ:=gh.same sj1 td;have eL1:=sj1 _ _ eL;have eD1:=sj1 _ _ eD;symm;refine ⟨fun σ' J=>∃(left:List Int) (kvs:List (Key × V)) (ρ:Int->Option Int),σ'=[some (.int c),some (.int (n:Int)),some (.int z),some (.int w),some (.int m),some (.ref l),some (.ref d),some (.int (0+(i:Int))),some (.int b),some (.int lo)]/\An H J/\J l=some (.lst (left.map V.int))/\J d=some (.dK kvs)/\n<=left.length+(i+1)/\left.length<=n/\(∀x∈left,0<=x/\x < (n:Int))/\kvs.length<=i+1/\(w=1\/w=2->kvs.length<=i)/\BO J l n i w kvs/\Gh J kvs ρ/\left.Nodup/\(w=0\/w=3->∀x∈left,ρ x=none)/\(w=1\/w=2->∀x,(i:Int)<=x->ρ x=none),?_,?_⟩
  ·refine Jr (decide (w=3\/(w=0/\0+(i:Int) < m))) (fun R r=>?_) ?_
   ·symm;by_cases c3:w=3
    ·refine ifT (D4 c3) ?_;rw [decide_eq_true (Or.inl c3)] at r;exact r
    ·refine ifF (D1 c3) ?_;symm;by_cases c0:w=0
     ·refine ifT (D4 c0) ?_;symm;rw [show decide (w=3\/(w=0/\0+(i:Int) < m))=decide (0+(i:Int) < m) from by congr 1;apply propext;omega] at r;exact r
     ·refine ifF (D1 c0) ?_;rw [decide_eq_false (by omega)] at r;exact r
   by_cases c:w=3\/(w=0/\0+(i:Int) < m)
   ·refine ifT (decide_eq_true c) ?_;have lo':lo < (left.length:Int):=by rw [<- bw (by omega)];exact lt.2
    obtain ⟨j,rfl⟩:∃j:Nat,lo=(j:Int):=⟨lo.toNat,by omega⟩;have hj:j < left.length:=by omega
    have xin:=rin left[j] (getElem_mem hj);symm;refine ⟨.inl ⟨rfl,_,SqL.of eL1⟩,?_⟩;symm;refine ⟨l,_,_,j,V.int left[j],rfl,rfl,eL1,by omega,by omega,Qv (by rw [length_map];exact hj),(by rw [List.getElem?_map,List.getElem?_eq_getElem hj];rfl),?_⟩;have s4:=Ax (o:=.lst ((left.map V.int).eraseIdx j)) sJ1 hl;have g1:(upd J1 l (.lst ((left.map V.int).eraseIdx j))) l=some (.lst ((left.eraseIdx j).map V.int)):=by rw [Ab,map_erase]
    have g2:(upd J1 l (.lst ((left.map V.int).eraseIdx j))) d=some (.dK kvs):=by rw [Ak dl];exact eD1
    have t4:BO (upd J1 l (.lst ((left.map V.int).eraseIdx j))) l n i w kvs:=tJ.off;have gh4:Gh (upd J1 l (.lst ((left.map V.int).eraseIdx j))) kvs ρ:=gJ.off tJ;generalize upd J1 l (.lst ((left.map V.int).eraseIdx j))=J4 at s4 g1 g2 t4 gh4 ⊢;refine ⟨(by show 1<=sizeLine;decide),fun a ha=>?_⟩;have sj5:=Ac ha (.lst [V.int left[j]]);have ej5:(upd J4 a (.lst [V.int left[j]])) a=some (.lst [V.int left[j]]):=Ab;generalize upd J4 a (.lst [V.int left[j]])=J5 at sj5 ej5 ⊢;have al:a≠l:=fun z=>by rw [z,g1] at ha;cases ha
    refine ⟨_,rfl,_,rfl,d,_,rfl,HA.k (k:=Sum.inl (0+(i:Int))) (sj5 _ _ g2) (Av (by omega)),?_⟩
    have tt:Kp n i w [left[j]]:=⟨(fun z=>by cases z),pairwise_singleton _ _,fun x xm=>by
     rw [mem_singleton.mp xm];exact ⟨xin.1,xin.2,fun k=>by omega⟩⟩
    have dK:=(t4.same sj5).put (z:=0+(i:Int)) (sj5 _ _ g2) ej5 al tt;have xno:=gh0 (by omega) left[j] (getElem_mem hj)
    have gK:=Gh.put (z:=0+(i:Int)) (ρ':=fun x=>if x=left[j] then some (0+(i:Int)) else ρ x) (t4.same sj5) (gh4.same sj5 t4) (sj5 _ _ g2) ej5 (fun x y e=>by
     show (if x=left[j] then _ else ρ x)=_;rw [if_neg (fun z=>by rw [z,xno] at e;cases e)];exact e) (fun x xm=>by rw [mem_singleton.mp xm];exact if_pos rfl)
    obtain ⟨nd1,nd2⟩:=JO lnd hj;exact ⟨left.eraseIdx j,_,_,rfl,Ax (s4.trans sj5) hdH,(by rw [Ak (Ne.symm dl)];exact sj5 _ _ g1),Ab,(by rw [length_eraseIdx,if_pos hj];omega),(by rw [length_eraseIdx,if_pos hj];omega),(fun x xm=>rin x (mem_of_mem_eraseIdx xm)),Nat.le_trans (De ..) (Nat.succ_le_succ kl),(fun k=>by omega),dK,gK,nd1,(fun k x xm=>by show (if x=left[j] then _ else ρ x)=_;rw [if_neg (fun z=>nd2 (by rw [<- z];exact xm))];exact gh0 k x (mem_of_mem_eraseIdx xm)),fun k=>by omega⟩
   ·refine ifF (decide_eq_false c) ?_;exact ⟨left,kvs,ρ,rfl,sJ1,eL1,eD1,by omega,ln2,rin,by omega,(fun _=>kl),tJ,gJ,lnd,gh0,gh1⟩
  clear ll hb szb bw eL1 eD1 tJ sJ1 sJ eL eD ln ln2 rin td kl gJ gh lnd gh0 gh1;rintro σ' J2 ⟨left,kvs,ρ,rfl,sJ,eL,eD,ln,ln2,rin,kl,kw,td,gh,lnd,gh0,gh1⟩;symm;refine ⟨fun σ' J=>∃(left:List Int) (kvs:List (Key × V)) (ρ:Int->Option Int),σ'=[some (.int c),some (.int (n:Int)),some (.int z),some (.int w),some (.int m),some (.ref l),some (.ref d),some (.int (0+(i:Int))),some (.int b),some (.int lo)]/\An H J/\J l=some (.lst (left.map V.int))/\J d=some (.dK kvs)/\n<=left.length+(i+1)/\left.length<=n/\(∀x∈left,0<=x/\x < (n:Int))/\kvs.length<=i+1/\BO J l n (i+1) w kvs/\Gh J kvs ρ/\left.Nodup/\(w=0\/w=3->∀x∈left,ρ x=none)/\(w=1\/w=2->∀x,(((i+1:Nat):Int):Int)<=x->ρ x=none),?_,?_⟩
  ·refine Q7 (decide ((w=1\/w=2)/\0 < lo)) (fun R r=>?_) (fun J3 s3=>?_)
   ·symm;refine ⟨(by show 2<=sizeLine;decide),fun t ht=>?_⟩;have st:=Ac ht (.tup [V.int 1,V.int 2]);have et:(upd J2 t (.tup [V.int 1,V.int 2])) t=some (.tup [V.int 1,V.int 2]):=Ab;generalize upd J2 t (.tup [V.int 1,V.int 2])=J3 at st et ⊢;refine ⟨t,_,rfl,.inr (SqT.of et),rfl,rfl,?_⟩;have r':=r J3 st
    have ew:inV (.int w) [V.int 1,V.int 2]=decide (w=1\/w=2):=by
     rcases (by omega:w=0\/w=1\/w=2\/w=3) with rfl | rfl | rfl | rfl <;> rfl
    by_cases c:w=1\/w=2
    ·refine ⟨_,rfl,ifT (by show inV (.int w) [V.int 1,V.int 2]=true;exact ew.trans (decide_eq_true c)) ?_⟩;symm;rw [show decide ((w=1\/w=2)/\0 < lo)=decide (0 < lo) from by congr 1;apply propext;exact ⟨fun z=>z.2,fun z=>⟨c,z⟩⟩] at r';exact r'
    ·refine ⟨_,rfl,ifF (by show inV (.int w) [V.int 1,V.int 2]=false;exact ew.trans (decide_eq_false c)) ?_⟩;rw [decide_eq_false (fun z=>c z.1)] at r';exact r'
   have sJ:=sJ.trans s3;have eL:=s3 _ _ eL;have eD:=s3 _ _ eD;have gh:=gh.same s3 td;have td:=td.same s3;by_cases c:(w=1\/w=2)/\0 < lo
   ·refine ifT (decide_eq_true c) ?_;symm;refine ⟨.inl ⟨_,.inl eD⟩,?_⟩;symm;refine ⟨(by show 0<=sizeLine;decide),fun e0 he0=>?_⟩;have s4:=Ac he0 (.lst []);have ee0:(upd J3 e0 (.lst [])) e0=some (.lst []):=Ab;generalize upd J3 e0 (.lst [])=J4 at s4 ee0 ⊢;have e0l:e0≠l:=fun z=>by rw [z,eL] at he0;cases he0
    refine ⟨_,EL.k (k:=(Sum.inl lo:Key)) (s4 _ _ eD),?_⟩
    have old:∃(a:Addr) (hs:List Int),(Bl kvs (Sum.inl lo:Key)).getD (.ref e0)=.ref a/\J4 a=some (.lst (hs.map V.int))/\a≠l/\hs.Pairwise (· < ·)/\(∀h∈hs,0<=h/\h < (i:Int))/\∀h∈hs,ρ h=some lo:=by
     cases e:Bl kvs (Sum.inl lo:Key) with
     | none=>exact ⟨e0,[],rfl,ee0,e0l,List.Pairwise.nil,(fun _ m=>absurd m List.not_mem_nil),fun _ m=>absurd m List.not_mem_nil⟩
     | some v =>
       obtain ⟨z',a,hs,eq,h1,h2,h3,h4,h5⟩:=td.2 _ (Ff e);injection eq with eq1 eq2
       exact ⟨a,hs,by rw [eq2];rfl,s4 _ _ h1,h2,h4,(fun h hm=>⟨(h5 h hm).1,(h5 h hm).2.2 c.1⟩),gh lo a hs (by have:=Ff e;rw [eq2] at this;exact this) h1⟩
    obtain ⟨a,hs,ea,ha,al,pw,hin,hro⟩:=old;rw [ea];symm;refine ⟨(by show 1<=sizeLine;decide),fun f0 hf0=>?_⟩;have s5:=Ac hf0 (.lst [V.int (0+(i:Int))]);have ef0:(upd J4 f0 (.lst [V.int (0+(i:Int))])) f0=some (.lst [V.int (0+(i:Int))]):=Ab;generalize upd J4 f0 (.lst [V.int (0+(i:Int))])=J5 at s5 ef0 ⊢
    have hl12:hs.length<=12:=by
     have nd:hs.Nodup:=pw.imp fun h e=>by omega
     have:=DQ (p:=(List.range n).map fun i:Nat=>(i:Int)) nd (fun h hm=>mem_map.mpr ⟨h.toNat,mem_range.mpr (by have:=hin h hm;omega),by have:=hin h hm;omega⟩);rw [length_map,length_range] at this;omega
    refine ⟨a,f0,_,_,rfl,rfl,s5 _ _ ha,ef0,(by simp only [length_map,length_cons,length_nil];exact Ku (by omega)),fun g hg=>?_⟩;have s6:=Ac hg (.lst (hs.map V.int++[V.int (0+(i:Int))]));have eg:(upd J5 g (.lst (hs.map V.int++[V.int (0+(i:Int))]))) g=some (.lst ((hs++[(i:Int)]).map V.int)):=by rw [Ab,map_append,Int.zero_add];rfl
    generalize upd J5 g (.lst (hs.map V.int++[V.int (0+(i:Int))]))=J6 at s6 eg ⊢;have s36:=(s4.trans s5).trans s6;have gl:g≠l:=fun z=>by rw [z,(s4.trans s5) _ _ eL] at hg;cases hg
    refine ⟨_,rfl,_,rfl,d,_,rfl,HA.k (k:=Sum.inl lo) (s36 _ _ eD) (Av (by omega)),?_⟩
    have tt:Kp n (i+1) w (hs++[(i:Int)]):=⟨(fun z=>by have:=congrArg List.length z;rw [length_append] at this;exact nomatch this),(by
     rw [pairwise_append]
     exact ⟨pw,pairwise_singleton _ _,fun x xm y ym=>by rw [mem_singleton.mp ym];exact (hin x xm).2⟩),fun x xm=>by
     rcases mem_append.mp xm with xm | xm
     ·have:=hin x xm;exact ⟨this.1,by omega,fun _=>by omega⟩
     ·rw [mem_singleton.mp xm];exact ⟨by omega,by omega,fun _=>by omega⟩⟩
    have dK:=(td.up.same s36).put (z:=lo) (s36 _ _ eD) eg gl tt;have kl':=kw c.1;have ino:=gh1 c.1 (i:Int) (Int.le_refl _)
    have gK:=Gh.put (z:=lo) (ρ':=fun x=>if x=(i:Int) then some lo else ρ x) (td.up.same s36) (gh.same s36 td) (s36 _ _ eD) eg (fun x y e=>by
     show (if x=(i:Int) then _ else ρ x)=_;rw [if_neg (fun z=>by rw [z,ino] at e;cases e)]
     exact e) (fun x xm=>by
     show (if x=(i:Int) then _ else ρ x)=_;rcases mem_append.mp xm with xm | xm
     ·rw [if_neg (by have:=hin x xm;omega)];exact hro x xm
     ·rw [if_pos (mem_singleton.mp xm)])
    exact ⟨left,_,_,rfl,Ax (sJ.trans s36) hdH,(by rw [Ak (Ne.symm dl)];exact s36 _ _ eL),Ab,ln,ln2,rin,Nat.le_trans (De ..) (Nat.succ_le_succ kl'),dK,gK,lnd,(fun k=>by omega),fun k x xi=>by show (if x=(i:Int) then _ else ρ x)=_;rw [if_neg (by omega)];exact gh1 k x (by omega)⟩
   ·refine ifF (decide_eq_false c) ?_;exact ⟨left,kvs,ρ,rfl,sJ,eL,eD,ln,ln2,rin,kl,td.up,gh,lnd,gh0,fun k x xi=>gh1 k x (by omega)⟩
  ·rintro σ' J3 ⟨left,kvs,ρ,rfl,sJ,eL,eD,ln,ln2,rin,kl,td,gh,lnd,gh0,gh1⟩;exact ⟨_,_,_,_,_,_,ρ,rfl,lc.1,lc.2,sJ,eL,eD,ln,ln2,rin,kl,td,gh,lnd,gh0,gh1⟩
 ·rintro σ' J ⟨v7,v8,v9,z,left,kvs,ρ,rfl,z0,z1,sJ,eL,eD,ln,ln2,rin,kl,td,gh,lnd,gh0,gh1⟩;rw [Int.toNat_natCast] at kl td;obtain ⟨ns,k1,k2,k3⟩:=td.keys;symm;refine ⟨d,kvs,ns,rfl,.inl eD,k1,by omega,fun l2 ms p1 p2 hl2=>?_⟩;have s1:=Ac hl2 (.lst (ms.map V.int));have e1:(upd J l2 (.lst (ms.map V.int))) l2=some (.lst (ms.map V.int)):=Ab;generalize upd J l2 (.lst (ms.map V.int))=J1 at s1 e1 ⊢;refine ⟨l2,rfl,⟨_,SqL.of e1⟩,?_⟩;have ml:ms.length=kvs.length:=by rw [p1.length_eq,k2]
  have mnd:ms.Nodup:=p1.nodup_iff.mpr (by have:=td.1;rw [k1] at this;exact List.Pairwise.imp (fun h e=>h (by rw [e])) (pairwise_map.mp this));refine A5 (xs:=ms.map V.int) (by rw [length_map];exact A4 (by omega)) (fun D i ys H'=>∃(ts:List Int) (ps:List (Int × List Int)),ys=ts.map V.int/\ts.length=i/\H' D=some (.lst ys)/\An J1 H'/\(∀x∈ts,0 < x/\x < 2 ^ n)/\(ts=ps.map fun p=>Cd p.2)/\ps.map (·.1)=ms.take i/\∀p∈ps,p.2.Pairwise (· < ·)/\(∀h∈p.2,0<=h/\h < (n:Int))/\∀x∈p.2,ρ x=some p.1) (fun D hD=>⟨[],[],rfl,rfl,Ab,Ac hD _,(fun _ m=>absurd m List.not_mem_nil),rfl,rfl,fun _ m=>absurd m List.not_mem_nil⟩) (fun D i ys H' hq_=>by obtain ⟨ts,_,f1,f2,f3,_⟩:=hq_;exact ⟨f3,by rw [f1,length_map,f2];exact Nat.le_refl _⟩) (fun D i ys H' hD hq_=>by obtain ⟨ts,_,_,_,_,f4,_⟩:=hq_;exact SqL.of (f4 _ _ e1)) ?_ ?_
  ·rintro D i x ys H' K1 K2 hD hx ⟨ts,ps,rfl,f2,f3,f4,f5,f6,f7,f8⟩ kk1 kk2;obtain ⟨r,hr',rfl⟩:=int_at hx;obtain ⟨a,hs,a1,a2,a3,a4,a5⟩:=k3 r (p1.mem_iff.mp (mem_of_getElem? hr'));have sH:=s1.trans f4;have dg:=EL.k (k:=(Sum.inl r:Key)) (sH _ _ eD);rw [a1] at dg
   have hl12:hs.length<=12:=by
    have nd:hs.Nodup:=a4.imp fun h e=>by omega
    have:=DQ (p:=(List.range n).map fun i:Nat=>(i:Int)) nd (fun h hm=>mem_map.mpr ⟨h.toNat,mem_range.mpr (by have:=a5 h hm;omega),by have:=a5 h hm;omega⟩);rw [length_map,length_range] at this;omega
   refine yes (ifT rfl ?_);refine ⟨_,rfl,_,rfl,d,_,rfl,dg,?_⟩;symm;refine ⟨a,hs,rfl,sH _ _ a2,by omega,(fun h hm=>by have:=a5 h hm;omega),fun H5 s5=>?_⟩;have mi:=Pi (n:=n) a4 (fun h hm=>⟨(a5 h hm).1,(a5 h hm).2.1⟩) a3;refine kk1 _ _ (s5 _ _ f3) ⟨ts++[Cd hs],ps++[(r,hs)],by rw [map_append];rfl,by rw [length_append,f2];rfl,Ab,Ax (f4.trans s5) hD,fun y ym=>?_,by rw [f6,map_append];rfl,by rw [map_append,f7,take_add_one,hr'];rfl,fun y ym=>?_⟩
   ·rcases mem_append.mp ym with ym | ym
    ·exact f5 y ym
    ·rw [mem_singleton.mp ym];exact mi
   ·rcases mem_append.mp ym with ym | ym
    ·exact f8 y ym
    ·rw [mem_singleton.mp ym];exact ⟨a4,(fun h hm=>⟨(a5 h hm).1,(a5 h hm).2.1⟩),gh r a hs (Ff a1) a2⟩
  ·rintro D ys H' hD ⟨ts,ps,rfl,f2,f3,f4,f5,f6,f7,f8⟩;rw [length_map] at f2 f7;rw [take_of_length_le (Nat.le_refl _)] at f7;refine ⟨D,_,rfl,.inl ⟨SqL.of f3,fun t ht=>?_⟩⟩;have s9:=((sJ.trans s1).trans f4);exact q t ts _ (none_of s9 ht) (s9.trans (Ac ht _)) Ab ⟨⟨f5,by omega⟩,by rw [f6];exact K5 (by rw [f7];exact mnd) f8⟩
theorem Jv (T:Tx K mg base ad):AK P w K mg base CX0 2 ad.f_law_leads ad.d_law_leads ["_law_sheet_here","_law_hands"] MH:=by
 refine T.F_law_leads.ok B2 (fun vs H Q E h=>?_) (fun cdv A outer s H vs Q E hr h=>?_)
 ·obtain ⟨l,ls,h,rfl,_⟩:=h;rfl
 obtain ⟨l,ls,h,rfl,hl,gs,okl,l60,h1,h12,q⟩:=h;refine ⟨_,((Cw (j:=2) (fsc:=Ag Dg) (N:=["_law_sheet_here","_law_hands","_law_links","_law_slip_here","_law_number","_law_places","_law_x","_law_y"]) (Nc:=["_law_sheet_here","_law_hands","_law_links","_law_slip_here","_law_number","_law_places",".s6","_law_y","_law_x"]) rfl rfl (by nofun) rfl B2.nd rfl rfl (AF rfl T.z_range ((pv 1)*>Ad)) (fun _ _ _ _=>AG) (fun _ _ _ _=>(QA<&>((@AR _ _ _ _ (Ae*>Ad))<|>(pv 1)))) rfl)>>((Bz PassesOwn.never rfl (AD (pv 0)) (Di rfl (A9 (A0 (i:=3) B2.nd rfl (Or.inr rfl)) (A9 (A0 (i:=4) B2.nd rfl (Or.inl rfl)) C0))) ((Cw (j:=5) (fsc:=Ag Dg) (N:=["_law_sheet_here","_law_hands","_law_links","_law_slip_here","_law_number","_law_places","_law_x","_law_y"]) (Nc:=["_law_sheet_here","_law_hands","_law_links","_law_slip_here","_law_number","_law_places","_law_x","_law_y","_law_hand"]) rfl rfl (by nofun) rfl B2.nd rfl rfl (AF rfl T.z_range ((pv 1)*>Ad)) (fun _ _ _ _=>AG) (fun _ _ _ _=>(@Aj _ _ _ _ _ _ _ _ _ _ _ _ _ _ _ _ (Jd T) (hr.mono (by decide)) rfl T.m_law_place T.F_law_place.kp T.b_law_place .nil Ao ((pv 3)*>((pv 8)*>Ad)) (by decide) (by rfl) (by rfl))) rfl)>>(@Ah _ _ _ (Bz PassesOwn.never rfl (AF rfl T.z_range ((pv 1)*>Ad)) (A0 (i:=6) B2.nd rfl (Or.inl rfl)) (@Ah _ _ _ (Bz PassesOwn.never rfl (AF rfl T.z_range ((pv 1)*>Ad)) (A0 (i:=7) B2.nd rfl (Or.inl rfl)) (@Ah _ _ _ (@Bi _ _ _ _ _ _ _ _ (@Ar _ _ _ _ _ _ _ _ FQ (@At _ _ _ _ _ _ _ Ay (pv 5) (pv 6) (fun _ _=>rfl)) (@At _ _ _ _ _ _ _ Ay (pv 5) (pv 7) (fun _ _=>rfl)) (As _)) ((Ee (AC<&>((@At _ _ _ _ _ _ _ Ay (@At _ _ _ _ _ _ _ Ay (pv 2) (pv 6) (fun _ _=>rfl)) (pv 7) (fun _ _=>rfl))<|>(pv 4))) (GG (@At _ _ _ _ _ _ _ Ay (pv 2) (pv 6) (fun _ _=>rfl)) (pv 7) DR))>>(@Ah _ _ _ (Ee (BB<&>((@At _ _ _ _ _ _ _ Ay (@At _ _ _ _ _ _ _ Ay (pv 2) (pv 7) (fun _ _=>rfl)) (pv 6) (fun _ _=>rfl))<|>(pv 4))) (GG (@At _ _ _ _ _ _ _ Ay (pv 2) (pv 7) (fun _ _=>rfl)) (pv 6) DR)))) Az))))))))>>(@Ah _ _ _ (@Ap _ _ _ _ (pv 2))))),?_⟩;symm;refine ⟨by omega,by omega,?_⟩;rw [Int.toNat_natCast];refine Bc (A4 (by omega)) (fun D i ys J=>∃as:List Addr,ys=as.map V.ref/\as.length=i/\as.Nodup/\J D=some (.lst ys)/\An H J/\D ∉ as/\∀a∈as,H a=none/\J a=some (.lst (((List.range h).map fun _=>(0:Int)).map V.int))) (fun D hD=>⟨[],rfl,rfl,nodup_nil,Ab,Ac hD _,(fun m=>nomatch m),fun _ m=>absurd m List.not_mem_nil⟩) (fun D i ys J hq_=>by obtain ⟨as,f1,f2,_,f3,_⟩:=hq_;exact ⟨f3,by rw [f1,length_map,f2];exact Nat.le_refl _⟩) ?_ ?_
 ·rintro D i ys J K1 K2 hD hi ⟨as,rfl,f2,f3,f4,f5,f6,f7⟩ k1 k2;refine yes (ifT rfl ?_);refine ⟨(by show 1<=sizeLine;decide),fun o ho=>?_⟩;have so:=Ac ho (.lst [V.int 0]);have eo:(upd J o (.lst [V.int 0])) o=some (.lst [V.int 0]):=Ab;generalize upd J o (.lst [V.int 0])=J0 at so eo ⊢;refine ⟨_,rfl,o,_,_,rfl,rfl,eo,by omega,by omega,(by show 1*_<=sizeLine;rw [Nat.one_mul];exact Nat.le_of_lt (Av (by omega))),fun D2 hD2=>?_⟩;rw [Int.toNat_natCast,RZ];have f4:=so _ _ f4;have f5:=f5.trans so;have f7:∀a∈as,H a=none/\J0 a=some (.lst (((List.range h).map fun _=>(0:Int)).map V.int)):=fun a m=>⟨(f7 a m).1,so _ _ (f7 a m).2⟩;have sD:=Ac hD2 (.lst (((List.range h).map fun _=>(0:Int)).map V.int));have eD:(upd J0 D2 (.lst (((List.range h).map fun _=>(0:Int)).map V.int))) D2=some (.lst (((List.range h).map fun _=>(0:Int)).map V.int)):=Ab;have dd:D2≠D:=fun z=>by rw [z,f4] at hD2;cases hD2
  have na:D2 ∉ as:=fun m=>by rw [(f7 D2 m).2] at hD2;cases hD2
  generalize upd J0 D2 (.lst (((List.range h).map fun _=>(0:Int)).map V.int))=J5 at sD eD ⊢;refine k1 _ _ (sD _ _ f4) ⟨as++[D2],by rw [map_append];rfl,by rw [length_append,f2];rfl,nodup_append.mpr ⟨f3,by simp,fun a ma b mb e=>na (by rw [<- mem_singleton.mp mb,<- e];exact ma)⟩,Ab,Ax (f5.trans sD) hD,fun m=>?_,fun a m=>?_⟩
  ·rcases mem_append.mp m with m | m
   ·exact f6 m
   ·exact dd (mem_singleton.mp m).symm
  ·rcases mem_append.mp m with m | m
   ·exact ⟨(f7 a m).1,by rw [Ak (fun z=>f6 (by rw [<- z];exact m))];exact sD _ _ (f7 a m).2⟩
   ·rw [mem_singleton.mp m];exact ⟨none_of f5 hD2,by rw [Ak dd];exact eD⟩
 rintro D ys H1 hD ⟨as,rfl,f2,f3,f4,f5,f6,f7⟩;have tb0:Be H1 as h (fun _ _=>0):=⟨f2,f3,fun x a ha=>(f7 a (mem_of_getElem? ha)).2⟩;have nw:∀a∈as,H a=none:=fun a m=>(f7 a m).1;clear f7 f3 f2;subst_eqs;refine ⟨_,rfl,l,rfl,⟨_,SqL.of (f5 _ _ hl)⟩,C4 (xs:=vls ls) (fun i σ' H'=>∃v3 v4 v5 v6 v7:Option V,σ'=[some (.ref l),some (.int (h:Int)),some (.ref D),v3,v4,v5,v6,v7]/\CC as H1 H'/\Be H' as h (AU (ls.take i))) ⟨none,none,none,none,none,rfl,CC.of (fun _ _ e=>e),tb0.congr fun x y _ _=>by show (0:Int)=0 - 0;rfl⟩ (fun i σ' H' _ hq_=>by obtain ⟨_,_,_,_,_,_,k,_⟩:=hq_;exact SqL.of (k.same f5 nw _ _ hl)) ?_ ?_⟩
 ·rintro i w σ' H' hw ⟨v3,v4,v5,v6,v7,rfl,k1,tb⟩;obtain ⟨f,hf,rfl,fm,et⟩:=LJ hw;obtain ⟨g1,g2⟩:=gs f fm;have kH:=k1.same f5 nw;have okf:=okl (f.2.2.1,f.2.2.2) (mem_map.mpr ⟨f,fm,rfl⟩);refine ⟨f.1,_,rfl,SqT.of (kH _ _ g1),rfl,_,_,rfl,_,_,rfl,rfl,?_⟩;obtain ⟨ts,ets⟩:∃ts,ts=f.2.2.1:=⟨_,rfl⟩;obtain ⟨n,en⟩:∃n,n=f.2.2.2:=⟨_,rfl⟩;obtain ⟨F0,eF0⟩:∃F0:Nat->Nat->Int,F0=AU (ls.take i):=⟨_,rfl⟩;dsimp only at okf;rw [<- ets] at g2 okf;rw [<- eF0] at tb;rw [<- en];symm;refine ⟨by omega,by omega,?_⟩;rw [Int.toNat_natCast];refine Bc (A4 (by omega)) (fun E2 j ys J=>ys=((List.range j).map fun u:Nat=>((A6 ts u:Nat):Int)).map V.int/\J=upd H' E2 (.lst ys)) (fun E2 hE=>⟨rfl,rfl⟩) (fun E2 j ys J hq_=>by obtain ⟨e1,e2⟩:=hq_;exact ⟨by rw [e2];exact Ab,by rw [e1,length_map,length_map,length_range];exact Nat.le_refl _⟩) ?_ ?_
  ·rintro E2 j ys J K1 K2 hE hj ⟨e1,rfl⟩ kk1 kk2;refine yes (ifT rfl ?_);refine ⟨_,rfl,_,rfl,f.2.1,ts,j,by rw [Int.zero_add];rfl,Ac hE _ _ _ (kH _ _ g2),okf.1.2,by omega,?_⟩;refine kk1 _ _ Ab ⟨?_,by rw [AT]⟩;rw [e1,range_succ,map_append,map_append];rfl
  rintro E2 ys J0 hE ⟨rfl,rfl⟩;have sE:=Ac hE (.lst (((List.range h).map fun u:Nat=>((A6 ts u:Nat):Int)).map V.int));have eE:(upd H' E2 (.lst (((List.range h).map fun u:Nat=>((A6 ts u:Nat):Int)).map V.int))) E2=some (.lst (((List.range h).map fun u:Nat=>((A6 ts u:Nat):Int)).map V.int)):=Ab;generalize upd H' E2 (.lst (((List.range h).map fun u:Nat=>((A6 ts u:Nat):Int)).map V.int))=J0 at sE eE ⊢;have nE:E2 ∉ as:=tb.not hE;have k0:=k1.trans (CC.of sE);have tb0':=tb.same sE;have eD0:=k0 _ _ f6 f4;symm;refine ⟨by omega,by omega,BJ (fun x σ' H2=>∃v6 v7:Option V,σ'=[some (.ref l),some (.int (h:Int)),some (.ref D),some (.ref f.2.1),some (.int n),some (.ref E2),v6,v7]/\CC as J0 H2/\Be H2 as h (fun u v=>F0 u v+lnB (A6 ts) n x 0 u v)) ⟨_,_,rfl,CC.of (fun _ _ e=>e),tb0'.congr fun u v _ _=>by rw [N6];omega⟩ ?_ ?_⟩
  ·rintro x σ' H2 hx ⟨v6,v7,rfl,k2,tb2⟩;have ex:(0:Int)+(x:Int)=(x:Int):=Int.zero_add _;have hx':x < h:=by omega
   symm;refine ⟨by omega,by omega,BJ (fun y σ' H3=>∃v7:Option V,σ'=[some (.ref l),some (.int (h:Int)),some (.ref D),some (.ref f.2.1),some (.int n),some (.ref E2),some (.int (0+(x:Int))),v7]/\CC as J0 H3/\Be H3 as h (fun u v=>F0 u v+lnB (A6 ts) n x y u v)) ⟨_,rfl,k2,tb2⟩ ?_ ?_⟩
   ·rintro y σ' H3 hy ⟨v7,rfl,k3,tb3⟩;have ey:(0:Int)+(y:Int)=(y:Int):=Int.zero_add _;have hy':y < h:=by omega
    obtain ⟨G,eG⟩:∃G:Nat->Nat->Int,G=fun u v=>F0 u v+lnB (A6 ts) n x y u v:=⟨_,rfl⟩;rw [<- eG] at tb3;obtain ⟨a,r1,r2,r3,r4⟩:=tb3.row hx';have eE3:=k3 _ _ nE eE;have eD:=k3 _ _ f6 eD0;symm;refine ⟨E2,_,_,_,rfl,rfl,SqL.of eE3,(by rw [ex];exact Bn (fun u:Nat=>((A6 ts u:Nat):Int)) hx'),?_⟩;symm;refine ⟨E2,_,_,_,rfl,rfl,SqL.of eE3,(by rw [ey];exact Bn (fun u:Nat=>((A6 ts u:Nat):Int)) hy'),?_⟩;symm;by_cases c:A6 ts x < A6 ts y
    ·refine ifT (decide_eq_true (by show ((A6 ts x:Nat):Int) < ((A6 ts y:Nat):Int);omega)) ?_;refine ⟨_,rfl,_,rfl,D,_,_,_,rfl,rfl,SqL.of eD,(by rw [ex];exact r3),?_⟩;refine ⟨_,rfl,a,_,_,_,rfl,rfl,SqL.of r4,(by rw [ey];exact Bn (G x) hy'),?_⟩;symm;refine ⟨D,_,_,_,rfl,rfl,SqL.of eD,(by rw [ex];exact r3),?_⟩;refine ⟨_,rfl,a,_,_,y,rfl,rfl,r4,(by rw [ey];exact Fe (by rw [length_map,length_map,length_range];exact hy')),?_⟩;have tb4:=tb3.put (y:=y) r1 n;have k4:=k3.put (o:=.lst ((((List.range h).map fun y=>G x y).map V.int).set y (.int (G x y+n)))) r2;have eD4:=k4 _ _ f6 eD0;generalize upd H3 a (.lst ((((List.range h).map fun y=>G x y).map V.int).set y (.int (G x y+n))))=H4 at tb4 k4 eD4 ⊢;obtain ⟨a',p1,p2,p3,p4⟩:=tb4.row hy';refine ⟨_,rfl,_,rfl,D,_,_,_,rfl,rfl,SqL.of eD4,(by rw [ey];exact p3),?_⟩;refine ⟨_,rfl,a',_,_,_,rfl,rfl,SqL.of p4,(by rw [ex];exact Bn (F9 G x y n y) hx'),?_⟩;symm;refine ⟨D,_,_,_,rfl,rfl,SqL.of eD4,(by rw [ey];exact p3),?_⟩;refine ⟨_,rfl,a',_,_,x,rfl,rfl,p4,(by rw [ex];exact Fe (by rw [length_map,length_map,length_range];exact hx')),?_⟩;refine ⟨_,rfl,k4.put p2,(tb4.setv (y:=x) p1 (F9 G x y n y x - n)).congr fun u v _ _=>?_⟩;rw [JJ];unfold F9;rw [eG];dsimp only
     have q1:(if u=x/\v=y/\A6 ts x < A6 ts y then n else 0)=if u=x/\v=y then n else 0:=by
      by_cases d:u=x/\v=y
      ·rw [if_pos d,if_pos ⟨d.1,d.2,c⟩]
      ·rw [if_neg d,if_neg fun z=>d ⟨z.1,z.2.1⟩]
     have q2:(if v=x/\u=y/\A6 ts x < A6 ts y then n else 0)=if u=y/\v=x then n else 0:=by
      by_cases d:u=y/\v=x
      ·rw [if_pos d,if_pos ⟨d.2,d.1,c⟩]
      ·rw [if_neg d,if_neg fun z=>d ⟨z.2.1,z.1⟩]
     rw [q1,q2];by_cases d:u=y/\v=x
     ·rw [if_pos d,if_pos d];omega
     ·rw [if_neg d,if_neg d];omega
    ·refine ifF (decide_eq_false (by show ¬ ((A6 ts x:Nat):Int) < ((A6 ts y:Nat):Int);omega)) ?_;refine ⟨_,rfl,k3,tb3.congr fun u v _ _=>?_⟩;rw [eG,JJ,if_neg (fun z=>c z.2.2),if_neg (fun z=>c z.2.2)];dsimp only;omega
   ·rintro σ' H3 ⟨v7,rfl,k3,tb3⟩;rw [Int.toNat_natCast] at tb3;exact ⟨_,_,rfl,k3,tb3.congr fun u v hu hv=>by rw [PR _ _ _ _ _ _ hu hv]⟩
  ·rintro σ' H2 ⟨v6,v7,rfl,k2,tb2⟩;rw [Int.toNat_natCast] at tb2;refine ⟨_,_,_,_,_,rfl,k0.trans k2,tb2.congr fun u v hu hv=>?_⟩;rw [P9 _ _ _ _ _ hu hv,eF0,et];unfold AU ovF;rw [Ft,Ft,<- ets,<- en,KS okf hu hv,KS okf hv hu];simp only [decide_eq_true_eq];omega
 ·rintro σ' H' ⟨v3,v4,v5,v6,v7,rfl,k1,tb⟩;rw [Jn,take_of_length_le (Nat.le_refl _)] at tb;subst_eqs;exact ⟨_,rfl,q D as H' (k1.same f5 nw) (k1 _ _ f6 f4) tb⟩
theorem HG (T:Tx K mg base ad):AK P w K mg base CX0 2 ad.f_law_spoilt ad.d_law_spoilt ["_law_paper_here","_law_cell_here","_law_hands"] L0:=by
 refine T.F_law_spoilt.ok A7 (fun vs H Q E h=>?_) (fun cdv A outer s H vs Q E hr h=>?_)
 ·obtain ⟨l,h,L,ns,rs,c,rfl,_⟩:=h;rfl
 obtain ⟨l,h,L,ns,rs,c,rfl,hl,gr,n1,n40,nd,szc,c0,h1,h12,q⟩:=h;refine ⟨_,((@Am _ _ (3) _ _ _ _ A7.nd rfl (Or.inl rfl) (AA<&>((pv 1)<|>(@Al _ _ _ _ _ _ _ _ _ Au (by rfl) T.z_len PySem.boot_len ((pv 0)*>Ad) (by decide) (by decide) (by rfl) (by rfl)))) (by rfl) (by nofun))>>((Ee (@At _ _ _ _ _ _ _ Ay (pv 0) (pv 3) (fun _ _=>rfl)) (Di rfl (A9 (A0 (i:=4) A7.nd rfl (Or.inl rfl)) (A9 (A0 (i:=5) A7.nd rfl (Or.inl rfl)) (A9 (A0 (i:=6) A7.nd rfl (Or.inl rfl)) (A9 (A0 (i:=7) A7.nd rfl (Or.inl rfl)) (A9 (A0 (i:=8) A7.nd rfl (Or.inl rfl)) C0)))))))>>((@Am _ _ (9) _ _ _ _ A7.nd rfl (Or.inl rfl) (AA<&>((AO<&>((pv 1)<|>Ae))<|>Ae)) (by rfl) (by nofun))>>((@Am _ _ (10) _ _ _ _ A7.nd rfl (Or.inl rfl) (AO<&>((pv 1)<|>Ae)) (by rfl) (by nofun))>>((@Am _ _ (11) _ _ _ _ A7.nd rfl (Or.inl rfl) (@B7 _ _ _ _ _ ((pv 4)*>((pv 5)*>((pv 6)*>((pv 7)*>((AC<&>((pv 8)<|>(@At _ _ _ _ _ _ _ Ay (@AR _ _ _ _ (Ae*>((@Eu _ _ _ _ _ _ Dx Ae)*>((FF<&>(Ae<|>Ae))*>Ad)))) (AA<&>((pv 10)<|>Ae)) (fun _ _=>rfl))))*>Ad)))))) (by rfl) (by nofun))>>((@E6 _ _ _ _ _ _ _ _ (@Ar _ _ _ _ _ _ _ _ B4 (pv 9) Ae (As _)) (@Ah _ _ _ (@Am _ _ (11) _ _ _ _ A7.nd rfl (Or.inl rfl) (@At _ _ _ _ _ _ _ Ay (@AR _ _ _ _ ((@B7 _ _ _ _ _ ((pv 5)*>((pv 4)*>((pv 6)*>((pv 7)*>((pv 8)*>Ad))))))*>((@B7 _ _ _ _ _ ((pv 4)*>((pv 2)*>((pv 6)*>((pv 7)*>((pv 8)*>Ad))))))*>Ad))) (AA<&>((pv 10)<|>Ae)) (fun _ _=>rfl)) (by rfl) (by nofun))) Az)>>((@E6 _ _ _ _ _ _ _ _ (PW.pt (@FS _ _ _ _ _ _ _ (@Ar _ _ _ _ _ _ _ _ B4 (pv 9) Ae (As _)) (@EC _ _ _ _ (@Ar _ _ _ _ _ _ _ _ B4 (pv 9) Ae (As _))))) (@Ah _ _ _ (@Am _ _ (11) _ _ _ _ A7.nd rfl (Or.inl rfl) (@B7 _ _ _ _ _ ((pv 4)*>((pv 5)*>((@Aj _ _ _ _ _ _ _ _ _ _ _ _ _ _ _ _ (FC T) (hr.mono (by decide)) rfl T.m_law_other_way T.F_law_other_way.kp T.b_law_other_way .nil Ao ((@AJ _ _ _ _ _ _ _ _ _ (Ez K) (by rfl) T.z_list PyProof.Rows.boot_list ((pv 6)*>Ad) (by decide) (by decide) (by rfl) (by rfl))*>((pv 10)*>((pv 2)*>Ad))) (by decide) (by rfl) (by rfl))*>((pv 7)*>((pv 8)*>Ad)))))) (by rfl) (by nofun))) Az)>>((@E6 _ _ _ _ _ _ _ _ (@Ar _ _ _ _ _ _ _ _ B4 (pv 9) Ae (As _)) ((@Am _ _ (12) _ _ _ _ A7.nd rfl (Or.inl rfl) (@At _ _ _ _ _ _ _ Ay (@AR _ _ _ _ ((AC<&>((pv 7)<|>(CT<&>(Ae<|>(pv 4)))))*>((BB<&>((pv 7)<|>(CT<&>(Ae<|>(pv 5)))))*>((AC<&>((pv 7)<|>(CT<&>(Ae<|>(pv 2)))))*>((BB<&>((pv 7)<|>(CT<&>(Ae<|>(pv 2)))))*>((BB<&>((@Eu _ _ _ _ _ _ Dx Ae)<|>(pv 7)))*>Ad)))))) (AA<&>((pv 10)<|>Ae)) (fun _ _=>rfl)) (by rfl) (by nofun))>>(@Ah _ _ _ (@Am _ _ (11) _ _ _ _ A7.nd rfl (Or.inl rfl) (@B7 _ _ _ _ _ ((pv 4)*>((pv 5)*>((pv 6)*>((pv 12)*>((pv 8)*>Ad)))))) (by rfl) (by nofun)))) Az)>>((@Bi _ _ _ _ _ _ _ _ (@Ar _ _ _ _ _ _ _ _ B4 (pv 9) Ae (As _)) (@Ah _ _ _ (@Ap _ _ _ _ (BS<&>((Ba Bm (pv 0) Bs (Bj (pv 3)))<|>(Ba Bm (pv 0) (Bj (AC<&>((pv 3)<|>Ae))) Bs))))) Az)>>((@Bi _ _ _ _ _ _ _ _ (@Ar _ _ _ _ _ _ _ _ B4 (pv 9) Ae (As _)) (@Ah _ _ _ (@Ap _ _ _ _ (BS<&>((BS<&>((Ba Bm (pv 0) Bs (Bj (pv 3)))<|>(@AR _ _ _ _ ((@At _ _ _ _ _ _ _ Ay (pv 0) (pv 3) (fun _ _=>rfl))*>Ad))))<|>(Ba Bm (pv 0) (Bj (pv 3)) Bs))))) Az)>>((@Bi _ _ _ _ _ _ _ _ (PW.pt (@E8 _ _ _ _ _ _ _ (@Ar _ _ _ _ _ _ _ _ B4 (pv 9) Ae (As _)) (@D6 _ _ _ _ (@Ar _ _ _ _ _ _ _ _ EY (@Al _ _ _ _ _ _ _ _ _ Au (by rfl) T.z_len PySem.boot_len ((pv 0)*>Ad) (by decide) (by decide) (by rfl) (by rfl)) Ae (As _))))) (@Ah _ _ _ (@Ap _ _ _ _ (L3 rfl (by rfl) T.z_list (by rfl) T.z_reversed (pv 0)))) Az)>>(@Ah _ _ _ (@Ap _ _ _ _ (BS<&>((BS<&>((Ba Bm (pv 0) Bs (Bj (pv 3)))<|>(@AR _ _ _ _ ((pv 11)*>Ad))))<|>(Ba Bm (pv 0) (Bj (AC<&>((pv 3)<|>Ae))) Bs)))))))))))))))),?_⟩;have vl:(vrp rs).length=rs.length:=length_map ..;symm;refine ⟨(by show ((vrp rs).length:Int)≠0;omega),?_⟩;rw [vl];have mk:=AH c (show (0:Int) < (rs.length:Int) by omega);dsimp only;obtain ⟨k,ek⟩:∃k:Nat,c.fmod (rs.length:Int)=(k:Int):=⟨(c.fmod (rs.length:Int)).toNat,by omega⟩;rw [ek] at mk ⊢;have lk:k < rs.length:=by omega
 obtain ⟨r,hr⟩:∃r,rs[k]?=some r:=⟨_,List.getElem?_eq_getElem lk⟩;obtain ⟨g,wl,rp⟩:=gr r (mem_of_getElem? hr);have hk:(vrp rs)[k]?=some (.ref r.t):=by unfold vrp;rw [List.getElem?_map,hr];rfl
 have gt:=g.t;have gw:=g.w;have ri:=Q9 rp;have wl':r.ws.length<=60:=Nat.le_trans wl (by decide);have r0:0<=c.fdiv 1024:=by rw [Int.fdiv_eq_ediv_of_nonneg _ (by decide)];exact Int.ediv_nonneg c0 (by decide)
 have szr:Sz 200 (c.fdiv 1024):=szc.fdiv;symm;refine ⟨l,_,(k:Int),_,rfl,rfl,SqL.of hl,(Bt hk),?_⟩;symm;refine ⟨r.t,_,rfl,SqT.of gt,rfl,_,_,rfl,_,_,rfl,_,_,rfl,_,_,rfl,_,_,rfl,rfl,?_⟩;symm;refine ⟨(by show 3<=sizeLine;decide),fun l3 h3=>?_⟩;have s1:=Ac h3 (.lst [V.int 1,V.int (-1),V.int (10 ^ (9:Int).toNat)]);have e3:(upd H l3 (.lst [V.int 1,V.int (-1),V.int (10 ^ (9:Int).toNat)])) l3=some (.lst [V.int 1,V.int (-1),V.int (10 ^ (9:Int).toNat)]):=Ab;generalize upd H l3 (.lst [V.int 1,V.int (-1),V.int (10 ^ (9:Int).toNat)])=H1 at s1 e3 ⊢;symm;have m3:=AH (c.fdiv 1024) (show (0:Int) < 3 by decide)
 obtain ⟨v,hv,v0⟩:∃v:Int,atI [V.int 1,V.int (-1),V.int (10 ^ (9:Int).toNat)] ((c.fdiv 1024).fmod 3)=some (.int v)/\v≠0:=by
  generalize (c.fdiv 1024).fmod 3=u at m3;rcases (show u=0\/u=1\/u=2 by omega) with rfl | rfl | rfl
  ·exact ⟨_,rfl,by decide⟩
  ·exact ⟨_,rfl,by decide⟩
  ·exact ⟨_,rfl,by decide⟩
 refine ⟨l3,_,_,_,rfl,rfl,SqL.of e3,hv,?_⟩;symm;refine ⟨(by show 5<=sizeLine;decide),fun t1 n1t=>?_⟩;have s2:=Ac n1t (.tup [.int r.x,.int r.y,.ref r.w,.int r.cut,.int (r.n+v)]);have et1:(upd H1 t1 (.tup [.int r.x,.int r.y,.ref r.w,.int r.cut,.int (r.n+v)])) t1=some (.tup [.int r.x,.int r.y,.ref r.w,.int r.cut,.int (r.n+v)]):=Ab;generalize upd H1 t1 (.tup [.int r.x,.int r.y,.ref r.w,.int r.cut,.int (r.n+v)])=H2 at s2 et1 ⊢;have s12:=s1.trans s2;symm;refine ⟨fun σ' J=>∃(r':Rp) (o:Option V),σ'=[some (.ref l),some (.int c),some (.int (h:Int)),some (.int (k:Int)),some (.int r.x),some (.int r.y),some (.ref r.w),some (.int r.cut),some (.int r.n),some (.int ((c.fdiv 64).fmod 8)),some (.int (c.fdiv 1024)),some (.ref r'.t),o]/\An H J/\RpG J r'/\r'.ws.length<=60/\((r'.x,r'.y)≠(r.x,r.y)\/∀low,¬ CB h L ns low r'),?_,?_⟩
 ·symm;by_cases c1:(c.fdiv 64).fmod 8=1
  ·refine ifT (D4 c1) ?_;symm;refine ⟨(by show 5<=sizeLine;decide),fun t2 n2=>?_⟩;have s3:=Ac n2 (.tup [.int r.y,.int r.x,.ref r.w,.int r.cut,.int r.n]);have et2:(upd H2 t2 (.tup [.int r.y,.int r.x,.ref r.w,.int r.cut,.int r.n])) t2=some (.tup [.int r.y,.int r.x,.ref r.w,.int r.cut,.int r.n]):=Ab;generalize upd H2 t2 (.tup [.int r.y,.int r.x,.ref r.w,.int r.cut,.int r.n])=H3 at s3 et2 ⊢;symm;refine ⟨(by show 5<=sizeLine;decide),fun t3 n3=>?_⟩;have s4:=Ac n3 (.tup [.int r.x,.int (h:Int),.ref r.w,.int r.cut,.int r.n]);have et3:(upd H3 t3 (.tup [.int r.x,.int (h:Int),.ref r.w,.int r.cut,.int r.n])) t3=some (.tup [.int r.x,.int (h:Int),.ref r.w,.int r.cut,.int r.n]):=Ab;generalize upd H3 t3 (.tup [.int r.x,.int (h:Int),.ref r.w,.int r.cut,.int r.n])=H4 at s4 et3 ⊢;symm;refine ⟨(by show 2<=sizeLine;decide),fun l4 n4=>?_⟩;have s5:=Ac n4 (.lst [V.ref t2,V.ref t3]);have el4:(upd H4 l4 (.lst [V.ref t2,V.ref t3])) l4=some (.lst [V.ref t2,V.ref t3]):=Ab;generalize upd H4 l4 (.lst [V.ref t2,V.ref t3])=H5 at s5 el4 ⊢;symm;have m2:=AH (c.fdiv 1024) (show (0:Int) < 2 by decide);have s5':An H H5:=s12.trans (s3.trans (s4.trans s5))
   obtain ⟨r',hv',g',w',b'⟩:∃r':Rp,atI [V.ref t2,V.ref t3] ((c.fdiv 1024).fmod 2)=some (.ref r'.t)/\RpG H5 r'/\r'.ws.length<=60/\(r'.x,r'.y)≠(r.x,r.y):=by
    generalize (c.fdiv 1024).fmod 2=u at m2;rcases (show u=0\/u=1 by omega) with rfl | rfl
    ·exact ⟨⟨t2,r.w,r.y,r.x,r.ws,r.cut,r.n⟩,rfl,⟨s5 _ _ (s4 _ _ et2),s5' _ _ gw⟩,wl',fun e=>Q5 rp (Prod.mk.inj e).2⟩
    ·exact ⟨⟨t3,r.w,r.x,(h:Int),r.ws,r.cut,r.n⟩,rfl,⟨s5 _ _ et3,s5' _ _ gw⟩,wl',fun e=>by have z:(h:Int)=r.y:=(Prod.mk.inj e).2;omega⟩
   refine ⟨l4,_,_,_,rfl,rfl,SqL.of el4,hv',?_⟩;symm;exact ⟨r',none,rfl,s5',g',w',.inl b'⟩
  ·refine ifF (D1 c1) ?_;exact ⟨⟨t1,r.w,r.x,r.y,r.ws,r.cut,r.n+v⟩,none,rfl,s12,⟨et1,s12 _ _ gw⟩,wl',.inr fun low=>OX rp rfl rfl rfl rfl (by show r.n+v≠r.n;omega)⟩
 rintro σ' J ⟨r1,o1,rfl,sa,g1,w1,b1⟩;symm;refine ⟨fun σ' J=>∃(r':Rp) (o:Option V),σ'=[some (.ref l),some (.int c),some (.int (h:Int)),some (.int (k:Int)),some (.int r.x),some (.int r.y),some (.ref r.w),some (.int r.cut),some (.int r.n),some (.int ((c.fdiv 64).fmod 8)),some (.int (c.fdiv 1024)),some (.ref r'.t),o]/\An H J/\RpG J r'/\r'.ws.length<=60/\((r'.x,r'.y)≠(r.x,r.y)\/∀low,¬ CB h L ns low r'),?_,?_⟩
 ·refine Jr (decide ((c.fdiv 64).fmod 8=2\/(c.fdiv 64).fmod 8=3)) (fun Z z=>?_) ?_
  ·symm;by_cases c2:(c.fdiv 64).fmod 8=2
   ·refine ifT (D4 c2) ?_;rw [decide_eq_true (.inl c2)] at z;exact z
   ·refine ifF (D1 c2) ?_;symm
    rw [show decide (V.int ((c.fdiv 64).fmod 8)=V.int 3)=decide ((c.fdiv 64).fmod 8=2\/(c.fdiv 64).fmod 8=3) from by
     by_cases c3:(c.fdiv 64).fmod 8=3
     ·rw [D4 c3,decide_eq_true (.inr c3)]
     ·rw [D1 c3,decide_eq_false (not_or.mpr ⟨c2,c3⟩)]]
    exact z
  by_cases c2:(c.fdiv 64).fmod 8=2\/(c.fdiv 64).fmod 8=3
  ·refine ifT (decide_eq_true c2) ?_;symm;refine ⟨r.w,_,rfl,.inl (SqL.of (sa _ _ gw)),fun l4 n4=>?_⟩;have s4:=Ac n4 (.lst (r.ws.map V.int));have el4:(upd J l4 (.lst (r.ws.map V.int))) l4=some (.lst (r.ws.map V.int)):=Ab;generalize upd J l4 (.lst (r.ws.map V.int))=J1 at s4 el4 ⊢;symm;refine ⟨l4,h,r.x,r.y,c.fdiv 1024,r.ws,rfl,el4,rp.1,wl,szr,r0,h1,h12,fun l5 us J2 n5 s5 el5 ul ub=>?_⟩;symm;refine ⟨(by show 5<=sizeLine;decide),fun t2 n2=>?_⟩;have s6:=Ac n2 (.tup [.int r.x,.int r.y,.ref l5,.int r.cut,.int r.n]);have et2:(upd J2 t2 (.tup [.int r.x,.int r.y,.ref l5,.int r.cut,.int r.n])) t2=some (.tup [.int r.x,.int r.y,.ref l5,.int r.cut,.int r.n]):=Ab;generalize upd J2 t2 (.tup [.int r.x,.int r.y,.ref l5,.int r.cut,.int r.n])=J3 at s6 et2 ⊢;symm;exact ⟨⟨t2,l5,r.x,r.y,us,r.cut,r.n⟩,o1,rfl,sa.trans (s4.trans (s5.trans s6)),⟨et2,s6 _ _ el5⟩,ul,.inr fun low=>Pz ub⟩
  ·refine ifF (decide_eq_false c2) ?_;exact ⟨r1,o1,rfl,sa,g1,w1,b1⟩
 rintro σ' J2 ⟨r2,o2,rfl,sb,g2,w2,b2⟩;symm;refine ⟨fun σ' J=>∃(r':Rp) (o:Option V),σ'=[some (.ref l),some (.int c),some (.int (h:Int)),some (.int (k:Int)),some (.int r.x),some (.int r.y),some (.ref r.w),some (.int r.cut),some (.int r.n),some (.int ((c.fdiv 64).fmod 8)),some (.int (c.fdiv 1024)),some (.ref r'.t),o]/\An H J/\RpG J r'/\r'.ws.length<=60/\((r'.x,r'.y)≠(r.x,r.y)\/∀low,¬ CB h L ns low r'),?_,?_⟩
 ·symm;by_cases c4:(c.fdiv 64).fmod 8=4
  ·refine ifT (D4 c4) ?_;symm;refine ⟨⟨ri.1,by show r.x<=1000000;omega,by decide⟩,?_⟩;symm;refine ⟨⟨ri.2.2.1,by show r.y<=1000000;omega,by decide⟩,?_⟩;symm;refine ⟨Dm (by omega),?_⟩;symm;refine ⟨Dm (by omega),?_⟩;symm;refine ⟨(by show 5<=sizeLine;decide),fun l4 n4=>?_⟩;have s4:=Ac n4 (.lst [V.int (r.cut+1*2 ^ r.x.toNat),V.int (r.cut - 1*2 ^ r.y.toNat),V.int (r.cut+1*2 ^ (h:Int).toNat),V.int (r.cut - 1*2 ^ (h:Int).toNat),V.int (-1 - r.cut)]);have el4:(upd J2 l4 (.lst [V.int (r.cut+1*2 ^ r.x.toNat),V.int (r.cut - 1*2 ^ r.y.toNat),V.int (r.cut+1*2 ^ (h:Int).toNat),V.int (r.cut - 1*2 ^ (h:Int).toNat),V.int (-1 - r.cut)])) l4=some (.lst [V.int (r.cut+1*2 ^ r.x.toNat),V.int (r.cut - 1*2 ^ r.y.toNat),V.int (r.cut+1*2 ^ (h:Int).toNat),V.int (r.cut - 1*2 ^ (h:Int).toNat),V.int (-1 - r.cut)]):=Ab;generalize upd J2 l4 (.lst [V.int (r.cut+1*2 ^ r.x.toNat),V.int (r.cut - 1*2 ^ r.y.toNat),V.int (r.cut+1*2 ^ (h:Int).toNat),V.int (r.cut - 1*2 ^ (h:Int).toNat),V.int (-1 - r.cut)])=J3 at s4 el4 ⊢;symm;have m5:=AH (c.fdiv 1024) (show (0:Int) < 5 by decide)
   obtain ⟨cv,hcv,cb⟩:∃cv:Int,atI [V.int (r.cut+1*2 ^ r.x.toNat),V.int (r.cut - 1*2 ^ r.y.toNat),V.int (r.cut+1*2 ^ (h:Int).toNat),V.int (r.cut - 1*2 ^ (h:Int).toNat),V.int (-1 - r.cut)] ((c.fdiv 1024).fmod 5)=some (.int cv)/\Dl h cv r.y.toNat r.x.toNat=false:=by
    have cb:=PU rp.2.1;generalize (c.fdiv 1024).fmod 5=u at m5;rw [Int.one_mul,Int.one_mul,Int.one_mul];rcases (show u=0\/u=1\/u=2\/u=3\/u=4 by omega) with rfl | rfl | rfl | rfl | rfl
    ·exact ⟨_,rfl,cb.1⟩
    ·exact ⟨_,rfl,cb.2.1⟩
    ·exact ⟨_,rfl,cb.2.2.1⟩
    ·exact ⟨_,rfl,cb.2.2.2.1⟩
    ·exact ⟨_,rfl,cb.2.2.2.2⟩
   refine ⟨l4,_,_,_,rfl,rfl,SqL.of el4,hcv,?_⟩;symm;refine ⟨(by show 5<=sizeLine;decide),fun t2 n2=>?_⟩;have s5:=Ac n2 (.tup [.int r.x,.int r.y,.ref r.w,.int cv,.int r.n]);have et2:(upd J3 t2 (.tup [.int r.x,.int r.y,.ref r.w,.int cv,.int r.n])) t2=some (.tup [.int r.x,.int r.y,.ref r.w,.int cv,.int r.n]):=Ab;generalize upd J3 t2 (.tup [.int r.x,.int r.y,.ref r.w,.int cv,.int r.n])=J4 at s5 et2 ⊢;symm;exact ⟨⟨t2,r.w,r.x,r.y,r.ws,cv,r.n⟩,_,rfl,sb.trans (s4.trans s5),⟨et2,s5 _ _ (s4 _ _ (sb _ _ gw))⟩,wl',.inr fun low=>PJ cb⟩
  ·refine ifF (D1 c4) ?_;exact ⟨r2,o2,rfl,sb,g2,w2,b2⟩
 rintro σ' J3 ⟨r3,o3,rfl,sc,g3,w3,b3⟩;have hl3:=sc _ _ hl;have tk:CN (vrp rs) none (some (k:Int))=vrp (rs.take k):=GO.trans (map_take ..).symm;have dk:CN (vrp rs) (some (k:Int)) none=vrp (rs.drop k):=Fc.trans (map_drop ..).symm;have dk1:CN (vrp rs) (some ((k:Int)+1)) none=vrp (rs.drop (k+1)):=(Fc (j:=k+1)).trans (map_drop ..).symm;have va:∀a b:List Rp,vrp a++vrp b=vrp (a++b):=fun a b=>(map_append ..).symm;have vn:∀a:List Rp,(vrp a).length=a.length:=fun a=>length_map ..;have tkl:(rs.take k).length=k:=by rw [length_take];omega
 have all:∀J,An H J->∀r∈rs,RpG J r/\r.ws.length<=60:=fun J s r m=>⟨(gr r m).1.same s,Nat.le_trans (gr r m).2.1 (by decide)⟩;symm;by_cases c5:(c.fdiv 64).fmod 8=5
 ·refine ifT (D4 c5) ?_;symm;refine ⟨l,_,rfl,SqL.of hl3,fun l5 n5=>?_⟩;rw [tk];have s4:=Ac n5 (.lst (vrp (rs.take k)));have el5:(upd J3 l5 (.lst (vrp (rs.take k)))) l5=some (.lst (vrp (rs.take k))):=Ab;generalize upd J3 l5 (.lst (vrp (rs.take k)))=J4 at s4 el5 ⊢;symm;refine ⟨l,_,rfl,SqL.of (s4 _ _ hl3),fun l6 n6=>?_⟩;dsimp only;rw [dk1];have s5:=Ac n6 (.lst (vrp (rs.drop (k+1))));have el6:(upd J4 l6 (.lst (vrp (rs.drop (k+1))))) l6=some (.lst (vrp (rs.drop (k+1)))):=Ab;generalize upd J4 l6 (.lst (vrp (rs.drop (k+1))))=J5 at s5 el6 ⊢;refine ⟨l5,l6,_,_,rfl,rfl,s5 _ _ el5,el6,(by rw [vn,vn,length_take,length_drop];exact Nat.le_of_lt (Av (by omega))),fun l7 n7=>?_⟩;rw [va];have s7:An H (upd J5 l7 (.lst (vrp (rs.take k++rs.drop (k+1))))):=sc.trans (s4.trans (s5.trans (Ac n7 _)));refine q l7 (rs.take k++rs.drop (k+1)) _ (none_of (sc.trans (s4.trans s5)) n7) s7 Ab (fun r m=>all _ s7 r ?_) (by rw [length_append,length_take,length_drop];omega) (fun low=>DS (NQ lk));rcases mem_append.mp m with m | m
  ·exact mem_of_mem_take m
  ·exact mem_of_mem_drop m
 refine ifF (D1 c5) ?_;symm;by_cases c6:(c.fdiv 64).fmod 8=6
 ·refine ifT (D4 c6) ?_;symm;refine ⟨l,_,rfl,SqL.of hl3,fun l5 n5=>?_⟩;rw [tk];have s4:=Ac n5 (.lst (vrp (rs.take k)));have el5:(upd J3 l5 (.lst (vrp (rs.take k)))) l5=some (.lst (vrp (rs.take k))):=Ab;generalize upd J3 l5 (.lst (vrp (rs.take k)))=J4 at s4 el5 ⊢;symm;refine ⟨l,_,(k:Int),_,rfl,rfl,SqL.of (s4 _ _ hl3),(Bt hk),?_⟩;symm;refine ⟨(by show 1<=sizeLine;decide),fun l6 n6=>?_⟩;have s5:=Ac n6 (.lst [V.ref r.t]);have el6:(upd J4 l6 (.lst [V.ref r.t])) l6=some (.lst [V.ref r.t]):=Ab;generalize upd J4 l6 (.lst [V.ref r.t])=J5 at s5 el6 ⊢;refine ⟨l5,l6,vrp (rs.take k),vrp [r],rfl,rfl,s5 _ _ el5,el6,(by rw [vn,vn,length_take];exact Nat.le_of_lt (Av (by show min k rs.length+1<=1000;omega))),fun l7 n7=>?_⟩;rw [va];have s6:=Ac n7 (.lst (vrp (rs.take k++[r])));have el7:(upd J5 l7 (.lst (vrp (rs.take k++[r])))) l7=some (.lst (vrp (rs.take k++[r]))):=Ab;generalize upd J5 l7 (.lst (vrp (rs.take k++[r])))=J6 at s6 el7 ⊢;symm;refine ⟨l,_,rfl,SqL.of (s6 _ _ (s5 _ _ (s4 _ _ hl3))),fun l8 n8=>?_⟩;rw [dk];have s7:=Ac n8 (.lst (vrp (rs.drop k)));have el8:(upd J6 l8 (.lst (vrp (rs.drop k)))) l8=some (.lst (vrp (rs.drop k))):=Ab;generalize upd J6 l8 (.lst (vrp (rs.drop k)))=J7 at s7 el8 ⊢;refine ⟨l7,l8,_,_,rfl,rfl,s7 _ _ el7,el8,(by rw [vn,vn,length_append,length_take,length_drop];exact Nat.le_of_lt (Av (by show min k rs.length+1+(rs.length - k)<=1000;omega))),fun l9 n9=>?_⟩;rw [va];have s8:An H J7:=sc.trans (s4.trans (s5.trans (s6.trans s7)));have s9:An H (upd J7 l9 (.lst (vrp (rs.take k++[r]++rs.drop k)))):=s8.trans (Ac n9 _);refine q l9 (rs.take k++[r]++rs.drop k) _ (none_of s8 n9) s9 Ab (fun r' m=>all _ s9 r' ?_) (by rw [length_append,length_append,length_take,length_drop];show min k rs.length+1+(rs.length - k)<=80;omega) (fun low=>DS (ME lk));rcases mem_append.mp m with m | m
  ·rcases mem_append.mp m with m | m
   ·exact mem_of_mem_take m
   ·rw [mem_singleton.mp m];exact mem_of_getElem? hr
  ·exact mem_of_mem_drop m
 refine ifF (D1 c6) ?_;subst_eqs;refine Jr (decide ((c.fdiv 64).fmod 8=7/\1 < rs.length)) (fun Z z=>?_) ?_
 ·symm;by_cases c7:(c.fdiv 64).fmod 8=7
  ·refine ifT (D4 c7) ?_;symm;rw [vl,show decide ((1:Int) < (rs.length:Int))=decide ((c.fdiv 64).fmod 8=7/\1 < rs.length) from decide_eq_decide.mpr ⟨fun z=>⟨c7,by omega⟩,fun z=>by omega⟩];exact z
  ·refine ifF (D1 c7) ?_;rw [decide_eq_false (fun z=>c7 z.1)] at z;exact z
 by_cases c7:(c.fdiv 64).fmod 8=7/\1 < rs.length
 ·refine ifT (decide_eq_true c7) ?_;symm;refine ⟨l,_,rfl,SqL.of hl3,fun l5 n5=>?_⟩;rw [show (vrp rs).reverse=vrp rs.reverse from (map_reverse ..).symm];have s5:An H (upd J3 l5 (.lst (vrp rs.reverse))):=sc.trans (Ac n5 _);exact q l5 rs.reverse _ (none_of sc n5) s5 Ab (fun r' m=>all _ s5 r' (mem_reverse.mp m)) (by rw [length_reverse];omega) (fun low=>DS (Od nd c7.2))
 refine ifF (decide_eq_false c7) ?_;symm;refine ⟨l,_,rfl,SqL.of hl3,fun l5 n5=>?_⟩;rw [tk];have s4:=Ac n5 (.lst (vrp (rs.take k)));have el5:(upd J3 l5 (.lst (vrp (rs.take k)))) l5=some (.lst (vrp (rs.take k))):=Ab;generalize upd J3 l5 (.lst (vrp (rs.take k)))=J4 at s4 el5 ⊢;symm;refine ⟨(by show 1<=sizeLine;decide),fun l6 n6=>?_⟩;have s5:=Ac n6 (.lst [V.ref r3.t]);have el6:(upd J4 l6 (.lst [V.ref r3.t])) l6=some (.lst [V.ref r3.t]):=Ab;generalize upd J4 l6 (.lst [V.ref r3.t])=J5 at s5 el6 ⊢;refine ⟨l5,l6,vrp (rs.take k),vrp [r3],rfl,rfl,s5 _ _ el5,el6,(by rw [vn,vn,length_take];exact Nat.le_of_lt (Av (by show min k rs.length+1<=1000;omega))),fun l7 n7=>?_⟩;rw [va];have s6:=Ac n7 (.lst (vrp (rs.take k++[r3])));have el7:(upd J5 l7 (.lst (vrp (rs.take k++[r3])))) l7=some (.lst (vrp (rs.take k++[r3]))):=Ab;generalize upd J5 l7 (.lst (vrp (rs.take k++[r3])))=J6 at s6 el7 ⊢;symm;refine ⟨l,_,rfl,SqL.of (s6 _ _ (s5 _ _ (s4 _ _ hl3))),fun l8 n8=>?_⟩;dsimp only;rw [dk1];have s7:=Ac n8 (.lst (vrp (rs.drop (k+1))));have el8:(upd J6 l8 (.lst (vrp (rs.drop (k+1))))) l8=some (.lst (vrp (rs.drop (k+1)))):=Ab;generalize upd J6 l8 (.lst (vrp (rs.drop (k+1))))=J7 at s7 el8 ⊢;refine ⟨l7,l8,_,_,rfl,rfl,s7 _ _ el7,el8,(by rw [vn,vn,length_append,length_take,length_drop];exact Nat.le_of_lt (Av (by show min k rs.length+1+(rs.length - (k+1))<=1000;omega))),fun l9 n9=>?_⟩;rw [va];have s38:An J3 J7:=s4.trans (s5.trans (s6.trans s7));have s39:An J3 (upd J7 l9 (.lst (vrp (rs.take k++[r3]++rs.drop (k+1))))):=s38.trans (Ac n9 _);have s9:An H (upd J7 l9 (.lst (vrp (rs.take k++[r3]++rs.drop (k+1))))):=sc.trans s39;refine q l9 (rs.take k++[r3]++rs.drop (k+1)) _ (none_of (sc.trans s38) n9) s9 Ab (fun r' m=>?_) (by rw [length_append,length_append,length_take,length_drop];show min k rs.length+1+(rs.length - (k+1))<=80;omega) (fun low=>?_)
 ·rcases mem_append.mp m with m | m
  ·rcases mem_append.mp m with m | m
   ·exact all _ s9 r' (mem_of_mem_take m)
   ·rw [mem_singleton.mp m];exact ⟨g3.same s39,w3⟩
  ·exact all _ s9 r' (mem_of_mem_drop m)
 ·rcases b3 with b | b
  ·exact DS (ON hr b)
  ·exact JH (mem_append.mpr (.inl (mem_append.mpr (.inr (mem_singleton.mpr rfl))))) (b low)
theorem Ca (T:Tx K mg base ad):AK P w K mg base CX0 2 ad.f_PairsMargin_need_of ad.d_PairsMargin_need_of ["self","x","y","strong","back"] (QI ad.c_PairsMargin ad.c_Pairs):=by
 refine T.F_PairsMargin_need_of.ok DA (fun vs H Q E h=>?_) (fun cdv A outer s H vs Q E hr h=>?_)
 ·obtain ⟨g,a,h,s,ns,x,y,u,v,rfl,_⟩:=h;rfl
 obtain ⟨g,a,h,s,ns,x,y,u,v,rfl,⟨dm,hg⟩,is,mx,my,q⟩:=h;refine ⟨_,((@Bi _ _ _ _ _ _ _ _ (@CU _ _ _ (AQ (B6 (pv 0) rfl) T.cl_Pairs T.me_Pairs_ahead (IX T) (hr.mono (by decide)) T.b_Way_ahead .nil Ao ((pv 2)*>((pv 1)*>Ad))) (by intro _;rfl)) (@Ah _ _ _ (@Ap _ _ _ _ (@Al _ _ _ _ _ _ _ _ _ (Dn rfl) (by rfl) T.z_max PyProof.Rows.boot_max (Ae*>((@Aj _ _ _ _ _ _ _ _ _ _ _ _ _ _ _ _ (RY T) (hr.mono (by decide)) rfl T.m_up T.F_up.kp T.b_up .nil Ao ((BB<&>((pv 3)<|>(pv 4)))*>(Ae*>Ad)) (by decide) (by rfl) (by rfl))*>Ad)) (by decide) (by decide) (by rfl) (by rfl)))) Az)>>(@Ah _ _ _ (@Ap _ _ _ _ (@Al _ _ _ _ _ _ _ _ _ (Dn rfl) (by rfl) T.z_max PyProof.Rows.boot_max (Ae*>((AC<&>((@Aj _ _ _ _ _ _ _ _ _ _ _ _ _ _ _ _ (Qh T) (hr.mono (by decide)) rfl T.m_down T.F_down.kp T.b_down .nil Ao ((BB<&>((pv 3)<|>(pv 4)))*>(Ae*>Ad)) (by decide) (by rfl) (by rfl))<|>Ae))*>Ad)) (by decide) (by decide) (by rfl) (by rfl))))),?_⟩;obtain ⟨dx,la,k1,k2⟩:=id is;symm;refine ⟨g,_,dm,_,_,rfl,hg,T.cl_PairsMargin,T.na_PairsMargin_way,rfl,?_⟩;refine ⟨a,dx,_,rfl,k1,rfl,?_⟩;symm;refine ⟨a,h,s,ns,y,x,rfl,is,my,mx,?_⟩;unfold Ev at q;by_cases c:ns.idxOf y < ns.idxOf x
 ·rw [if_pos c] at q;refine ⟨_,rfl,ifT (decide_eq_true c) ?_⟩;symm;refine ⟨_,_,rfl,by decide,szd 9000,?_⟩;refine ⟨_,_,rfl,?_⟩;have e:(if -((-(u - v)).fdiv 4) > 1 then -((-(u - v)).fdiv 4) else 1)=max 1 (-((-(u - v)).fdiv 4)):=by split <;> omega
  rw [e];exact q
 ·rw [if_neg c] at q;refine ⟨_,rfl,ifF (decide_eq_false c) ?_⟩;symm;refine ⟨_,_,rfl,by decide,szd 9000,?_⟩;symm;refine ⟨_,_,rfl,?_⟩;have e:(if (u - v).fdiv 4+1 > 1 then (u - v).fdiv 4+1 else 1)=max 1 ((u - v).fdiv 4+1):=by split <;> omega
  rw [e];exact q
theorem EQ (T:Tx K mg base ad):AK P w K mg base CX0 2 ad.f_Pairs_picks_by ad.d_Pairs_picks_by ["self","strengths"] (Nv ad.c_Pairs):=by
 refine T.F_Pairs_picks_by.ok B8 (fun vs H Q E h=>?_) (fun cdv A outer s H vs Q E hr h=>?_)
 ·obtain ⟨a,r,rs,h,s,ns,L,F,rfl,_⟩:=h;rfl
 obtain ⟨a,r,rs,h,s,ns,L,F,rfl,md,hr0,tb,st,q⟩:=h;refine ⟨_,((@Am _ _ (2) _ _ _ _ B8.nd rfl (Or.inl rfl) (@AR _ _ _ _ Ad) (by rfl) (by nofun))>>((@Am _ _ (3) _ _ _ _ B8.nd rfl (Or.inr rfl) (@AJ _ _ _ _ _ _ _ _ _ AB (by rfl) T.z_list PyProof.Rows.boot_list ((B6 (pv 0) rfl)*>Ad) (by decide) (by decide) (by rfl) (by rfl)) (by rfl) (by nofun))>>((Hq PassesOwn.never (PW.pt (@E8 _ _ _ _ _ _ _ (@Ar _ _ _ _ _ _ _ _ (Jh (K:=K) hr.units) (pv 3) (@AR _ _ _ _ Ad) (As _)) (@D6 _ _ _ _ (@Ar _ _ _ _ _ _ _ _ FQ (@Al _ _ _ _ _ _ _ _ _ Au (by rfl) T.z_len PySem.boot_len ((pv 2)*>Ad) (by decide) (by decide) (by rfl) (by rfl)) (B6 (pv 0) rfl) (As _))))) ((@Am _ _ (4) _ _ _ _ B8.nd rfl (Or.inl rfl) (@At _ _ _ _ _ _ _ Ay (Bb (fsc:=Ag Co) (N:=["self","strengths","picks","left","first"]) (Nc:=["self","strengths","picks","left","first","hand"]) rfl rfl (by nofun) rfl (AD (pv 3)) (fun _ _ _ _=>(CK (@Eb _ _ _ _ (@CU _ _ _ (@Aj _ _ _ _ _ _ _ _ _ _ _ _ _ _ _ _ (IR T) (hr.mono (by decide)) rfl T.m_is_beaten T.F_is_beaten.kp T.b_is_beaten .nil Ao ((pv 1)*>((pv 5)*>((pv 3)*>Ad))) (by decide) (by rfl) (by rfl)) (by intro _;rfl))))) (fun _ _ _ _=>(pv 5))) Ae (fun _ _=>rfl)) (by rfl) (by nofun))>>((@Cz _ _ _ _ (CG PySem.F.plainAttrs_list PySem.F.slot_list_append PySem.F.type_list_append Ct (pv 2) ((pv 4)*>Ad)) (by rfl))>>(@Ah _ _ _ (@Cz _ _ _ _ (CG PySem.F.plainAttrs_list PySem.F.slot_list_remove PySem.F.type_list_remove Iu (pv 3) ((pv 4)*>Ad)) (by rfl))))))>>(@Ah _ _ _ (@Ap _ _ _ _ (pv 2)))))),?_⟩;obtain ⟨dx,la,k1,k2⟩:=id md.is;have h12:=md.h12;have s60:=md.s60;have nl:ns.length=h:=by rw [md.pm.length_eq,Cy]
 refine ⟨(by show 0<=sizeLine;decide),fun p hp=>?_⟩;have s1:=Ac hp (.lst []);have e1:(upd H p (.lst [])) p=some (.lst (([]:List Int).map V.int)):=Ab;generalize upd H p (.lst [])=H1 at s1 e1 ⊢;refine ⟨_,rfl,a,_,dx,_,_,rfl,s1 _ _ k1,T.cl_Pairs,T.na_Pairs_lots,rfl,?_⟩;refine ⟨la,_,rfl,.inl (SqL.of (s1 _ _ k2)),fun l hl=>?_⟩;have lp:l≠p:=fun z=>by rw [z,e1] at hl;cases hl
 have hlH:=none_of s1 hl;have s2:=s1.trans (Ac hl (.lst (ns.map V.int)));have p2:=Ac hl (.lst (ns.map V.int)) _ _ e1;have l2:(upd H1 l (.lst (ns.map V.int))) l=some (.lst (ns.map V.int)):=Ab;generalize upd H1 l (.lst (ns.map V.int))=H2 at s2 p2 l2 ⊢;refine ⟨fun m σ' H'=>∃(v4:Option V) (left got:List Int),σ'=[some (.ref a),some (.ref r),some (.ref p),some (.ref l),v4]/\An H H'/\H' p=some (.lst (got.map V.int))/\H' l=some (.lst (left.map V.int))/\(∀z∈left,∃i:Nat,i < h/\z=(i:Int))/\got.length<=s/\got++Aw F (s - got.length) left=Aw F s ns/\left.length=m/\m<=12,⟨_,none,ns,[],rfl,s2,p2,l2,(fun z mz=>NJ (md.pm.mem_iff.mp mz)),Nat.zero_le _,rfl,rfl,by omega⟩,?_⟩;rintro m σ' H' ⟨v4,left,got,rfl,s3,p3,l3,sub,gs,pk,lm,m12⟩;refine ⟨_,rfl,(by show 0<=sizeLine;decide),fun z3 hz3=>?_⟩;have sz:=Ac hz3 (.lst []);have ez:(upd H' z3 (.lst [])) z3=some (.lst (([]:List Int).map V.int)):=Ab;generalize upd H' z3 (.lst [])=H4 at sz ez ⊢;have p4:=sz _ _ p3;have l4:=sz _ _ l3;have s4:=s3.trans sz;refine ⟨.list (left.map .int),.list (([]:List Int).map .int),.lst (SqL.of l4) (.ints _),.lst (SqL.of ez) (.ints []),(Cm _).2,(Cm _).2,?_⟩;rw [show PyData.eqv (.list (left.map .int)) (.list (([]:List Int).map .int))=decide (left=[]) from Fk _ _];refine ⟨_,rfl,?_⟩
 have fin:Aw F (s - got.length) left=[]->Q (.ref p) H4:=fun e=>by
  rw [e,append_nil] at pk;exact q p H4 hp s4 (by rw [<- pk];exact p4)
 by_cases cl:left=[]
 ·rw [decide_eq_true cl];refine ifF rfl ?_;symm;exact fin (by rw [cl];exact Da F _)
 ·rw [decide_eq_false cl];refine ifT rfl ?_;symm;refine ⟨a,_,dx,_,_,rfl,s4 _ _ k1,T.cl_Pairs,T.na_Pairs_seats,rfl,?_⟩;symm;by_cases cs:got.length < s
  ·refine ifT (decide_eq_true (by rw [length_map];omega)) ?_;have pl:0 < left.length:=length_pos_iff.mpr cl;refine ⟨fun σ' H'=>∃(v4:Option V) (left got:List Int),σ'=[some (.ref a),some (.ref r),some (.ref p),some (.ref l),v4]/\An H H'/\H' p=some (.lst (got.map V.int))/\H' l=some (.lst (left.map V.int))/\(∀z∈left,∃i:Nat,i < h/\z=(i:Int))/\got.length<=s/\got++Aw F (s - got.length) left=Aw F s ns/\left.length=m - 1/\m - 1<=12,fun σ' H' e=>⟨m - 1,by omega,e⟩,?_⟩;symm;refine ⟨⟨_,SqL.of l4⟩,?_⟩;refine A5 (xs:=left.map V.int) (by rw [length_map];exact A4 (by omega)) (fun D i ys J=>ys=((left.take i).filter fun z=>!CO F z left).map V.int/\J D=some (.lst ys)/\An H4 J) (fun D hD=>⟨rfl,Ab,Ac hD _⟩) (fun D i ys J hq_=>by obtain ⟨f1,f2,_⟩:=hq_;exact ⟨f2,by rw [f1,length_map];exact Nat.le_trans (length_filter_le _ _) (length_take_le _ _)⟩) (fun D i ys J hD hq_=>by obtain ⟨_,_,f3⟩:=hq_;exact SqL.of (f3 _ _ l4)) ?_ ?_
   ·rintro D i w ys J K1 K2 hD hw ⟨f1,f2,f3⟩ kk1 kk2;obtain ⟨z,hz,rfl⟩:=int_at hw;obtain ⟨j,hj,rfl⟩:=sub z (mem_of_getElem? hz);have et:left.take (i+1)=left.take i++[(j:Int)]:=by rw [take_add_one,hz];rfl
    have s5:=s4.trans f3;refine ⟨_,rfl,_,rfl,_,rfl,r,l,rs,h,j,F,left,rfl,s5 _ _ hr0,tb.same s5,hj,f3 _ _ l4,sub,by omega,fun H6 s6=>?_⟩;refine ⟨_,rfl,?_⟩
    cases eb:CO F (j:Int) left with
    | true =>
      refine ifF rfl ?_;refine kk2 _ ⟨?_,s6 _ _ f2,f3.trans s6⟩;rw [et,filter_append,f1];simp [eb]
    | false =>
      refine ifT rfl ?_;refine ⟨_,rfl,?_⟩;refine kk1 _ _ (s6 _ _ f2) ⟨?_,Ab,Ax (f3.trans s6) hD⟩;rw [et,filter_append,map_append,f1];simp [eb]
   rintro D ys H5 hD ⟨f1,f2,f3⟩;rw [length_map,take_of_length_le (Nat.le_refl _)] at f1;subst f1;have ue:unb F left≠[]:=O9 st cl sub
   obtain ⟨u,ur,eu⟩:∃u ur,unb F left=u :: ur:=by
    cases e:unb F left with
    | nil=>exact absurd e ue
    | cons u ur=>exact ⟨u,ur,rfl⟩
   have um:u∈left:=by
    have:u∈unb F left:=by rw [eu];exact mem_cons_self ..
    exact (mem_filter.mp this).1
   have f2':H5 D=some (.lst ((u :: ur).map V.int)):=by rw [<- eu];exact f2
   have sg:=CL F (s:=s - got.length - 1) cl;rw [show s - got.length - 1+1=s - got.length by omega,eu] at sg;have p5:=f3 _ _ p4;have l5:=f3 _ _ l4;have s5:=s4.trans f3;symm;refine ⟨D,_,_,_,rfl,rfl,SqL.of f2',(show atI _ ((0:Nat):Int)=_ from atN rfl),?_⟩;symm;refine ⟨.inl ⟨rfl,_,SqL.of p5⟩,?_⟩;symm;refine ⟨p,_,_,rfl,rfl,p5,(by rw [length_map];exact Av (by omega)),?_⟩;have l6:(upd H5 p (.lst (got.map V.int++[V.int u]))) l=some (.lst (left.map V.int)):=by rw [Ak lp];exact l5
   have p6:(upd H5 p (.lst (got.map V.int++[V.int u]))) p=some (.lst ((got++[u]).map V.int)):=by rw [Ab,map_append];rfl
   have s6:=Ax (o:=.lst (got.map V.int++[V.int u])) s5 hp;generalize upd H5 p (.lst (got.map V.int++[V.int u]))=H6 at l6 p6 s6 ⊢;symm;refine ⟨.inl ⟨rfl,_,SqL.of l6⟩,?_⟩;symm;refine ⟨l,left,u,rfl,rfl,l6,um,?_⟩;rw [<- Fo];refine ⟨_,left.erase u,got++[u],rfl,Ax s6 hlH,by rw [Ak (Ne.symm lp)];exact p6,Ab,fun z mz=>sub z (mem_of_mem_erase mz),by rw [length_append];show got.length+1<=s;omega,?_,by rw [length_erase_of_mem um];omega,by omega⟩;rw [length_append,show s - (got.length+[u].length)=s - got.length - 1 from (by show s - (got.length+1)=_;omega),append_assoc];show got++(u :: Aw F (s - got.length - 1) (left.erase u))=_;rw [<- pk,sg];rfl
  ·refine ifF (decide_eq_false (by rw [length_map];omega)) ?_;symm;exact fin (by rw [show s - got.length=0 by omega];exact CH F _)
theorem Hz (T:Tx K mg base ad):AK P w K mg base CX0 3 ad.f_shown_from ad.d_shown_from ["reached","x"] Kz:=by
 refine T.F_shown_from.ok Ey (fun vs H Q E h=>?_) (fun cdv A outer s H vs Q E hr h=>?_)
 ·obtain ⟨t,h,x,L,be,rfl,_⟩:=h;rfl
 obtain ⟨t,h,x,L,be,rfl,td,hx,h12,q⟩:=h;refine ⟨_,((Cw (j:=2) (fsc:=Ag CJ) (N:=["reached","x","others"]) (Nc:=["reached","x","others","y"]) rfl rfl (by nofun) rfl Ey.nd rfl rfl (AF rfl T.z_range ((@Al _ _ _ _ _ _ _ _ _ Au (by rfl) T.z_len PySem.boot_len ((@At _ _ _ _ _ _ _ BA (pv 0) Ae (fun _ _=>rfl))*>Ad) (by decide) (by decide) (by rfl) (by rfl))*>Ad)) (fun _ _ _ _=>(CK (@Ar _ _ _ _ _ _ _ _ GP (pv 3) (pv 1) (As _)))) (fun _ _ _ _=>(pv 3)) rfl)>>(@Ah _ _ _ (@Ap _ _ _ _ (Bb (fsc:=Ag CJ) (N:=["reached","x","others"]) (Nc:=["reached","x","others","y"]) rfl rfl (by nofun) rfl (AD (pv 2)) (fun _ _ _ _=>AG) (fun _ _ _ _=>(@B7 _ _ _ _ _ ((pv 1)*>((pv 3)*>((@At _ _ _ _ _ _ _ (AM K) (@At _ _ _ _ _ _ _ (Ei K) (pv 0) Ae (fun _ _=>rfl)) (pv 3) (fun _ _=>rfl))*>((@Aj _ _ _ _ _ _ _ _ _ _ _ _ _ _ _ _ (HN T) (hr.mono (by decide)) rfl T.m_way_by T.F_way_by.kp T.b_way_by .nil Ao ((pv 0)*>((pv 1)*>((pv 3)*>Ad))) (by decide) (by rfl) (by rfl))*>((@Aj _ _ _ _ _ _ _ _ _ _ _ _ _ _ _ _ (HY T) (hr.mono (by decide)) rfl T.m_cut_by T.F_cut_by.kp T.b_cut_by .nil Ao ((pv 0)*>((pv 1)*>((pv 3)*>Ad))) (by decide) (by rfl) (by rfl))*>Ad))))))))))),?_⟩;obtain ⟨b,f,bf,et,eb,ef,re⟩:=id td.is;have bl:=re.lenb;symm;refine ⟨by omega,by rw [length_map];omega,?_⟩;rw [length_map,bl,Int.toNat_natCast];refine Bc (A4 (by omega)) (fun D i ys J=>ys=(Cs i x).map V.int/\J=upd H D (.lst ys)) (fun D hD=>⟨rfl,rfl⟩) (fun D i ys J hq_=>by obtain ⟨g1,g2⟩:=hq_;exact ⟨by rw [g2];exact Ab,by rw [g1,length_map];unfold Cs;rw [length_map];exact Nat.le_trans (length_filter_le _ _) (by rw [length_range];exact Nat.le_refl _)⟩) ?_ ?_
 ·rintro D i ys J K1 K2 hD hi ⟨g1,rfl⟩ k1 k2;have e0:(0:Int)+(i:Int)=(i:Int):=Int.zero_add _;rw [e0];symm;by_cases c:i=x
  ·refine ifF (Lc (by rw [c])) ?_;exact k2 _ ⟨by rw [g1,Eo,if_pos c,append_nil],rfl⟩
  ·refine ifT (L4 fun e=>c (Int.ofNat.inj e)) ?_;refine ⟨_,rfl,?_⟩;exact k1 _ _ Ab ⟨by rw [g1,Eo,if_neg c,map_append];rfl,by rw [AT]⟩
 rintro l ys H1 hl ⟨rfl,rfl⟩;have s1:=Ac hl (.lst ((Cs h x).map V.int));have e1:(upd H l (.lst ((Cs h x).map V.int))) l=some (.lst ((Cs h x).map V.int)):=Ab;generalize upd H l (.lst ((Cs h x).map V.int))=H1 at s1 e1 ⊢;rw [OO] at e1;have nl:(Jq h x).length<=h:=Nat.le_trans (length_filter_le _ _) (by rw [length_range];exact Nat.le_refl _);symm;refine ⟨⟨_,SqL.of e1⟩,?_⟩;refine A5 (xs:=(Bk (Jq h x)).map V.int) (by rw [length_map];unfold Bk;rw [length_map];exact A4 (by omega)) (fun D i ys J=>∃rows:List Rw,ys=vrw rows/\rows.length=i/\J D=some (.lst ys)/\An H1 J/\(∀q∈rows,Fw h L (fun _ y=>be.getD y 0) J q/\q.x=x/\H1 q.t=none/\H1 q.w=none/\q.t≠D/\q.w≠D)/\rows.map (fun q=>(q.x,q.y))=((Jq h x).take i).map fun y=>(x,y)) (fun D hD=>⟨[],rfl,rfl,Ab,Ac hD _,(fun _ m=>absurd m List.not_mem_nil),rfl⟩) (fun D i ys J hq_=>by obtain ⟨rows,g1,g2,g3,_⟩:=hq_;exact ⟨g3,by rw [g1];unfold vrw;rw [length_map,g2];exact Nat.le_refl _⟩) (fun D i ys J hD hq_=>by obtain ⟨_,_,_,_,g4,_⟩:=hq_;exact SqL.of (g4 _ _ e1)) ?_ ?_
 ·rintro D i w ys J K1 K2 hD hw ⟨rows,rfl,g2,g3,g4,g5,g6⟩ k1 k2;obtain ⟨z,hz,rfl⟩:=int_at hw;unfold Bk at hz;rw [List.getElem?_map] at hz;obtain ⟨y,hy0,rfl⟩:=Option.map_eq_some_iff.mp hz
  obtain ⟨hy,yx⟩:y < h/\y≠x:=by
   have:=mem_filter.mp (mem_of_getElem? hy0);exact ⟨mem_range.mp this.1,of_decide_eq_true this.2⟩
  have sJ:=s1.trans g4;have et':=sJ _ _ et;refine yes (ifT rfl ?_);refine ⟨_,rfl,_,rfl,_,rfl,t,_,_,_,rfl,rfl,SqT.of et',rfl,?_⟩;refine ⟨_,rfl,b,_,_,_,rfl,rfl,SqL.of (sJ _ _ eb),atG (by omega),?_⟩;refine ⟨_,rfl,_,rfl,_,rfl,t,h,x,y,L,be,rfl,td.same sJ,hy,yx,h12,fun wr ws H2 hwr s2 e2 iw=>?_⟩;refine ⟨_,rfl,_,rfl,_,rfl,t,h,x,y,L,be,rfl,(td.same sJ).same s2,hx,hy,h12,fun H3 s3=>?_⟩;refine ⟨(by show 5<=sizeLine;decide),fun t5 ht5=>?_⟩;have s4:=Ac ht5 (.tup [V.int (x:Int),V.int (y:Int),V.int (be.getD y 0),V.ref wr,V.int (A1 h (Ea x y be))]);have e5:(upd H3 t5 (.tup [V.int (x:Int),V.int (y:Int),V.int (be.getD y 0),V.ref wr,V.int (A1 h (Ea x y be))])) t5=some (.tup [V.int (x:Int),V.int (y:Int),V.int (be.getD y 0),V.ref wr,V.int (A1 h (Ea x y be))]):=Ab;have s24:=(s2.trans s3).trans s4;have w5:=(s3.trans s4) _ _ e2;have D5:=s24 _ _ g3;have wD:wr≠D:=fun z=>by rw [z,g3] at hwr;cases hwr
  have tD:t5≠D:=fun z=>by rw [z,(s2.trans s3) _ _ g3] at ht5;cases ht5
  have nt:=none_of (g4.trans (s2.trans s3)) ht5;generalize upd H3 t5 (.tup [V.int (x:Int),V.int (y:Int),V.int (be.getD y 0),V.ref wr,V.int (A1 h (Ea x y be))])=H5 at s24 e5 w5 D5 ⊢;refine k1 _ _ D5 ⟨rows++[⟨t5,x,y,be.getD y 0,wr,ws,A1 h (Ea x y be)⟩],by unfold vrw;rw [map_append];rfl,by rw [length_append,g2];rfl,Ab,Ax (g4.trans s24) hD,fun q0 m=>?_,by rw [map_append,g6,take_add_one,hy0,map_append];rfl⟩;rcases mem_append.mp m with m | m
  ·obtain ⟨r0,r1,r2,r3,r4,r5⟩:=g5 q0 m;exact ⟨⟨by rw [Ak r4];exact s24 _ _ r0.tup,by rw [Ak r5];exact s24 _ _ r0.way,r0.hx,r0.hy,r0.ne,r0.str,r0.isw,r0.cutE⟩,r1,r2,r3,r4,r5⟩
  ·rw [mem_singleton.mp m];exact ⟨⟨by rw [Ak tD];exact e5,by rw [Ak wD];exact w5,hx,hy,yx,rfl,iw,rfl⟩,rfl,nt,none_of g4 hwr,tD,wD⟩
 rintro D ys H2 hD ⟨rows,rfl,g2,g3,g4,g5,g6⟩;rw [length_map,IB,take_of_length_le (Nat.le_refl _)] at g6;exact q D rows H2 (none_of s1 hD) (s1.trans g4) g3 (fun q0 m=>⟨(g5 q0 m).1,(g5 q0 m).2.1,none_of s1 (g5 q0 m).2.2.1,none_of s1 (g5 q0 m).2.2.2.1⟩) g6
theorem IQ (T:Tx K mg base ad):AK P w K mg base CX0 3 ad.f_law_sheet ad.d_law_sheet ["_law_script","_law_at","_law_hands","_law_lines","_law_most"] (MI K):=by
 refine T.F_law_sheet.ok B1 (fun vs H Q E h=>?_) (fun cdv A outer s H vs Q E hr h=>?_)
 ·obtain ⟨p,ns,k,n,m,most,rfl,_⟩:=h;rfl
 obtain ⟨p,ns,k,n,m,most,rfl,hS,h63,k0,k9,n1,n12,m1,m12,mo1,mo9,q⟩:=h;refine ⟨_,((Cw (j:=5) (fsc:=Ag C6) (N:=["_law_script","_law_at","_law_hands","_law_lines","_law_most","_law_slips","_law_many","_law_k","_law_slip_here","_law_lead"]) (Nc:=["_law_script","_law_at","_law_hands","_law_lines","_law_most","_law_slips","_law_many",".s7","_law_slip_here","_law_lead","_law_k"]) rfl rfl (by nofun) rfl B1.nd rfl rfl (AF rfl T.z_range ((pv 3)*>Ad)) (fun _ _ _ _=>AG) (fun _ _ _ _=>(@Aj _ _ _ _ _ _ _ _ _ _ _ _ _ _ _ _ (KL T) (hr.mono (by decide)) rfl T.m_law_slip T.F_law_slip.kp T.b_law_slip .nil Ao ((@Aj _ _ _ _ _ _ _ _ _ _ _ _ _ _ _ _ (AV T) (hr.mono (by decide)) rfl T.m_law_cell T.F_law_cell.kp T.b_law_cell .nil Ao ((pv 0)*>((AC<&>((pv 1)<|>(pv 10)))*>Ad)) (by decide) (by rfl) (by rfl))*>((pv 2)*>Ad)) (by decide) (by rfl) (by rfl))) rfl)>>((@Am _ _ (6) _ _ _ _ B1.nd rfl (Or.inr rfl) OV (by rfl) (by nofun))>>((Bz PassesOwn.never rfl (AF rfl T.z_range ((@Al _ _ _ _ _ _ _ _ _ (Dn rfl) (by rfl) T.z_max PyProof.Rows.boot_max ((pv 3)*>((@Al _ _ _ _ _ _ _ _ _ (F3 rfl) (by rfl) T.z_min PyProof.Rows.boot_min (Ae*>((BB<&>((@Al _ _ _ _ _ _ _ _ _ Au (by rfl) T.z_len PySem.boot_len ((pv 0)*>Ad) (by decide) (by decide) (by rfl) (by rfl))<|>(pv 1)))*>Ad)) (by decide) (by decide) (by rfl) (by rfl))*>Ad)) (by decide) (by decide) (by rfl) (by rfl))*>Ad)) (A0 (i:=7) B1.nd rfl (Or.inl rfl)) ((@Am _ _ (8) _ _ _ _ B1.nd rfl (Or.inl rfl) (@At _ _ _ _ _ _ _ Ay (pv 5) (AA<&>((pv 7)<|>(pv 3))) (fun _ _=>rfl)) (by rfl) (by nofun))>>(@Ah _ _ _ (Gs (u1 hr.units) (pv 6) (pv 8) (AC<&>((AC<&>((GQ (u1 hr.units) (pv 6) (pv 8) Ae ⟨rfl,rfl,rfl,rfl⟩)<|>Ae))<|>(AA<&>((AA<&>((AC<&>((BQ<&>((@Aj _ _ _ _ _ _ _ _ _ _ _ _ _ _ _ _ (AV T) (hr.mono (by decide)) rfl T.m_law_cell T.F_law_cell.kp T.b_law_cell .nil Ao ((pv 0)*>((AC<&>((pv 1)<|>(pv 7)))*>Ad)) (by decide) (by rfl) (by rfl))<|>Ae))<|>Ae))<|>Ae))<|>(pv 4))))) rfl))))>>((@Am _ _ (9) _ _ _ _ B1.nd rfl (Or.inl rfl) (@Aj _ _ _ _ _ _ _ _ _ _ _ _ _ _ _ _ (BI T) (hr.mono (by decide)) rfl T.m_law_mixed T.F_law_mixed.kp T.b_law_mixed .nil Ao ((@Aj _ _ _ _ _ _ _ _ _ _ _ _ _ _ _ _ (AV T) (hr.mono (by decide)) rfl T.m_law_cell T.F_law_cell.kp T.b_law_cell .nil Ao ((pv 0)*>((pv 1)*>Ad)) (by decide) (by rfl) (by rfl))*>(Ae*>Ad)) (by decide) (by rfl) (by rfl)) (by rfl) (by nofun))>>((@E6 _ _ _ _ _ _ _ _ (@Ar _ _ _ _ _ _ _ _ EY (AA<&>((pv 9)<|>Ae)) Ae (As _)) ((@Am _ _ (8) _ _ _ _ B1.nd rfl (Or.inl rfl) (@AJ _ _ _ _ _ _ _ _ _ E3 (by rfl) T.z_tuple PyProof.Rows.boot_tuple ((Bb (fsc:=Ag C6) (N:=["_law_script","_law_at","_law_hands","_law_lines","_law_most","_law_slips","_law_many","_law_k","_law_slip_here","_law_lead"]) (Nc:=["_law_script","_law_at","_law_hands","_law_lines","_law_most","_law_slips","_law_many","_law_k","_law_slip_here","_law_lead","_law_hand"]) rfl rfl (by nofun) rfl (AD (@Aj _ _ _ _ _ _ _ _ _ _ _ _ _ _ _ _ (DY T) (hr.mono (by decide)) rfl T.m_law_lots T.F_law_lots.kp T.b_law_lots .nil Ao ((AO<&>((pv 9)<|>Ae))*>((pv 2)*>Ad)) (by decide) (by rfl) (by rfl))) (fun _ _ _ _=>AG) (fun _ _ _ _=>(CT<&>(Ae<|>(pv 10)))))*>Ad) (by decide) (by decide) (by rfl) (by rfl)) (by rfl) (by nofun))>>(@Ah _ _ _ (Gs (u1 hr.units) (pv 6) (pv 8) (AC<&>((AC<&>((GQ (u1 hr.units) (pv 6) (pv 8) Ae ⟨rfl,rfl,rfl,rfl⟩)<|>Ae))<|>(AA<&>((AO<&>((pv 9)<|>Ae))<|>(BQ<&>(Ae<|>(pv 4))))))) rfl))) Az)>>(@Ah _ _ _ (@Ap _ _ _ _ (Bb (fsc:=Ag C6) (N:=["_law_script","_law_at","_law_hands","_law_lines","_law_most","_law_slips","_law_many","_law_k","_law_slip_here","_law_lead"]) (Nc:=["_law_script","_law_at","_law_hands","_law_lines","_law_most","_law_slips","_law_many","_law_k",".s8","_law_lead","_law_slip_here"]) rfl rfl (by nofun) rfl (AD (@Al _ _ _ _ _ _ _ _ _ (Hw rfl hr.units) (by rfl) T.z_sorted PyProof.Rows.boot_sorted ((pv 6)*>Ad) (by decide) (by decide) (by rfl) (by rfl))) (fun _ _ _ _=>AG) (fun _ _ _ _=>(@B7 _ _ _ _ _ ((pv 10)*>((Md (u1 hr.units) (pv 6) (pv 10) (fun _ _=>rfl))*>Ad)))))))))))),?_⟩;have hl':(ns.map V.int).length=ns.length:=length_map _;symm;refine ⟨by omega,by omega,?_⟩;rw [Int.toNat_natCast];refine Bc (A4 (by omega)) (fun D i ys H'=>∃zs:List (Addr × List Int),ys=(zs.map fun z=>V.ref z.1)/\zs.length=i/\H' D=some (.lst ys)/\An H H'/\∀z∈zs,H' z.1=some (.tup (z.2.map V.int))/\OkA n z.2) (fun D hD=>⟨[],rfl,rfl,Ab,Ac hD _,fun _ m=>absurd m List.not_mem_nil⟩) (fun D i ys H' hq_=>by obtain ⟨zs,f1,f2,f3,_⟩:=hq_;exact ⟨f3,by rw [f1,length_map,f2];exact Nat.le_refl _⟩) ?_ ?_
 ·rintro D i ys H' K1 K2 hD hi ⟨zs,rfl,f2,f3,f4,f5⟩ k1 k2;refine yes (ifT rfl ?_);symm;refine ⟨p,ns,k+(0+(i:Int)),rfl,f4.seq hS,h63,by omega,by omega,fun z z0 z1=>?_⟩;symm;refine ⟨z,n,rfl,EA z0 z1,n1,n12,fun t ts H5 ht s5 et ok=>?_⟩;have tD:t≠D:=fun z=>by rw [z,f3] at ht;cases ht
  refine k1 _ _ (s5 _ _ f3) ⟨zs++[(t,ts)],by rw [map_append];rfl,by rw [length_append,f2];rfl,Ab,Ax (f4.trans s5) hD,fun z m=>?_⟩;rcases mem_append.mp m with m | m
  ·have:=f5 z m;exact ⟨by rw [Ak (Du (s5 _ _ this.1) (s5 _ _ f3) (fun z=>by cases z))];exact s5 _ _ this.1,this.2⟩
  ·rw [mem_singleton.mp m];exact ⟨by rw [Ak tD];exact et,ok⟩
 rintro sl ys H1 hsl ⟨zs,rfl,zl,esl,s1,zok⟩;symm;intro d hd;have s2:=Ac hd (.dT []);have e2:(upd H1 d (.dT [])) d=some (.dT []):=Ab;generalize upd H1 d (.dT [])=H2 at s2 e2 ⊢;have hdH:=none_of s1 hd;have s12:=s1.trans s2;symm;refine ⟨p,_,rfl,.inl (s12.seq hS),?_⟩;symm;refine ⟨_,_,rfl,?_⟩;refine ⟨_,_,rfl,?_⟩
 have hM:(m:Int)<=(if (if ((ns.map V.int).length:Int) - k < 60 then ((ns.map V.int).length:Int) - k else 60) > (m:Int) then (if ((ns.map V.int).length:Int) - k < 60 then ((ns.map V.int).length:Int) - k else 60) else (m:Int))/\(if (if ((ns.map V.int).length:Int) - k < 60 then ((ns.map V.int).length:Int) - k else 60) > (m:Int) then (if ((ns.map V.int).length:Int) - k < 60 then ((ns.map V.int).length:Int) - k else 60) else (m:Int))<=60:=by
  split <;> split at*<;> omega
 generalize (if (if ((ns.map V.int).length:Int) - k < 60 then ((ns.map V.int).length:Int) - k else 60) > (m:Int) then (if ((ns.map V.int).length:Int) - k < 60 then ((ns.map V.int).length:Int) - k else 60) else (m:Int))=M at hM ⊢;refine ⟨M,rfl,by omega,by omega,BJ (fun i σ' J=>∃(v7 v8:Option V) (ds:Ds) (kvs:List (List Key × V)),σ'=[some (.ref p),some (.int k),some (.int (n:Int)),some (.int (m:Int)),some (.int most),some (.ref sl),some (.ref d),v7,v8,none]/\An H J/\An H1 J/\J d=some (.dT kvs)/\DictOf ds kvs/\(∀q∈ds,q.1∈zs.map (·.2))/\ds.length=i/\∀q∈ds,1<=q.2/\q.2<=most) ⟨none,none,[],[],rfl,s12,s2,e2,DictOf.nil,(fun _ m=>absurd m List.not_mem_nil),rfl,(fun _ m=>absurd m List.not_mem_nil)⟩ ?_ ?_⟩
 ·rintro i σ' J hi ⟨v7,v8,ds,kvs,rfl,sJ,sJ1,eD,dk,sub,dl,po⟩;have my:=AH (0+(i:Int)) (show (0:Int) < (m:Int) by omega);obtain ⟨j,hj⟩:∃j:Nat,(0+(i:Int)).fmod (m:Int)=(j:Int):=⟨((0+(i:Int)).fmod (m:Int)).toNat,by omega⟩;obtain ⟨z,ez⟩:∃z,zs[j]?=some z:=⟨_,List.getElem?_eq_getElem (by omega)⟩;have zm:=mem_of_getElem? ez;symm;refine ⟨(by show (_:Int)≠0;omega),?_⟩;refine ⟨sl,_,_,_,rfl,rfl,SqL.of (sJ1 _ _ esl),(by rw [hj];exact Bt (by rw [List.getElem?_map,ez];rfl)),?_⟩;have kt:J z.1=some (.tup ((z.2.map Sum.inl:List Key).map kV)):=by rw [G6];exact sJ1 _ _ (zok z zm).1
  have lim:=dk.len sub;rw [length_map] at lim;symm;refine ⟨.inr ⟨_,.inl eD⟩,?_⟩;refine ⟨_,rfl,_,EL.t eD kt,?_⟩;rw [Mc dk];symm;refine ⟨p,ns,k+(0+(i:Int)),rfl,sJ.seq hS,h63,by omega,by omega,fun c c0 c1=>?_⟩;have szc:=EA c0 c1;symm;refine ⟨(by show most≠0;omega),?_⟩;have fm:=AH ((c*48271+5).fmod 1000000007) (show (0:Int) < most by omega);dsimp only;generalize ((c*48271+5).fmod 1000000007).fmod most=y0 at fm ⊢;obtain ⟨y,ey⟩:∃y,y=1+y0:=⟨_,rfl⟩;have y1:1<=y:=by omega
  have y2:y<=most:=by omega
  refine ⟨_,_,rfl,rfl,?_⟩;dsimp only;rw [Int.add_assoc,<- ey];refine ⟨_,rfl,_,rfl,d,_,rfl,HA.t eD kt (Av (by omega)),?_⟩;refine ⟨_,_,ds++[(z.2,y)],_,rfl,Ax sJ hdH,Ax sJ1 hd,Ab,dk.put z.2 y,fun q m=>?_,by rw [length_append,dl];rfl,fun q m=>?_⟩
  ·rcases mem_append.mp m with m | m
   ·exact sub q m
   ·rw [mem_singleton.mp m];exact mem_map.mpr ⟨z,zm,rfl⟩
  ·rcases mem_append.mp m with m | m
   ·exact po q m
   ·rw [mem_singleton.mp m];exact ⟨y1,y2⟩
 rintro σ' J ⟨v7,v8,ds,kvs,rfl,sJ,sJ1,eD,dk,sub,dl,po⟩;have pos:Pos ds:=fun q m=>(po q m).1
 have bnd:∀ts,tot ds ts<=60*most:=fun ts=>by
  have a:=KW (ts:=ts) po (by omega);have b:(ds.length:Int)*most<=60*most:=Int.mul_le_mul_of_nonneg_right (by omega) (by omega);omega
 have ne:ds≠[]:=fun z=>by rw [z] at dl;have:M.toNat=0:=dl.symm;omega
 have okp:∀t∈zs.map (·.2),OkA n t:=fun t tm=>by
  obtain ⟨z,zm,rfl⟩:=mem_map.mp tm;exact (zok z zm).2
 have pl:(zs.map (·.2)).length<=12:=by rw [length_map];omega
 symm;refine ⟨p,ns,k,rfl,sJ.seq hS,h63,by omega,by omega,fun c c0 c1=>?_⟩;symm;refine ⟨c,3,rfl,EA c0 c1,by decide,by decide,fun y y0 y1=>?_⟩;have szy:Sz 200 y:=EA y0 (Int.lt_trans y1 (by decide));symm;refine ⟨fun σ' J=>∃(v8:Option V) (ds:Ds) (kvs:List (List Key × V)) (pp:List (List Int)),σ'=[some (.ref p),some (.int k),some (.int (n:Int)),some (.int (m:Int)),some (.int most),some (.ref sl),some (.ref d),v7,v8,some (.int y)]/\An H J/\J d=some (.dT kvs)/\DictOf ds kvs/\(∀q∈ds,q.1∈pp)/\(∀t∈pp,OkA n t)/\pp.length<=13/\ds≠[]/\Pos ds/\∀ts,tot ds ts<=70*most,?_,?_⟩
 ·symm;refine P0 (fun _=>?_) (fun _=>?_)
  ·have mb:=AH (y.fdiv 36) (show (0:Int) < 6*most by omega);have szo:Sz 64 most:=DK (by omega) (by omega);symm;refine ⟨y.fdiv 3,(n:Int),rfl,by trivial,by omega,by omega,fun lo os J2 s3 eo pm=>?_⟩;rw [Int.toNat_natCast] at pm;have ol:os.length=n:=by rw [pm.length_eq];unfold ups;rw [length_map,length_range]
   have oin:∀h∈os,0<=h/\h < 12:=fun h m=>by
    obtain ⟨i,im,rfl⟩:=mem_map.mp (pm.mem_iff.mp m);have:=mem_range.mp im;omega
   refine ⟨lo,rfl,⟨_,SqL.of eo⟩,?_⟩;refine A5 (xs:=os.map V.int) (by rw [length_map];exact A4 (by omega)) (fun D i ys H'=>ys=((os.take i).map fun h=>(1:Int)*2 ^ h.toNat).map V.int/\H'=upd J2 D (.lst ys)) (fun D hD=>⟨rfl,rfl⟩) (fun D i ys H' hq_=>by obtain ⟨f1,f2⟩:=hq_;exact ⟨by rw [f2];exact Ab,by rw [f1,length_map,length_map];exact length_take_le _ _⟩) (fun D i ys H' hD hq_=>by obtain ⟨_,f2⟩:=hq_;rw [f2];exact SqL.of (Ac hD _ _ _ eo)) ?_ ?_
   ·rintro D i x ys H' K1 K2 hD hx ⟨f1,rfl⟩ k1 k2;obtain ⟨z,hz,rfl⟩:=int_at hx;have et:os.take (i+1)=os.take i++[z]:=by rw [take_succ,hz];rfl
    obtain ⟨z0,z64⟩:=oin z (mem_of_getElem? hz);refine yes (ifT rfl ?_);refine ⟨_,rfl,_,_,rfl,rfl,⟨by omega,by omega,by decide⟩,?_⟩;refine k1 _ _ Ab ⟨?_,by rw [AT]⟩;rw [f1,et,map_append,map_append];rfl
   rintro D ys G hD ⟨rfl,rfl⟩;rw [length_map,take_length];have okl:=Qs n12 pm;generalize (os.map fun h=>(1:Int)*2 ^ h.toNat)=lt at okl ⊢;have s4:=s3.trans (Ac hD (.lst (lt.map V.int)));have e4:(upd J2 D (.lst (lt.map V.int))) D=some (.lst (lt.map V.int)):=Ab;generalize upd J2 D (.lst (lt.map V.int))=J4 at s4 e4 ⊢;refine ⟨D,_,rfl,.inl ⟨SqL.of e4,fun t ht=>?_⟩⟩;have s5:=Ac ht (.tup (lt.map V.int));have et:(upd J4 t (.tup (lt.map V.int))) t=some (.tup (lt.map V.int)):=Ab;generalize upd J4 t (.tup (lt.map V.int))=J5 at s5 et ⊢;have s45:=s4.trans s5;have eD2:=s45 _ _ eD;have kt:J5 t=some (.tup ((lt.map Sum.inl:List Key).map kV)):=by rw [G6];exact et
   have lim:=dk.len sub;symm;refine ⟨.inr ⟨_,.inl eD2⟩,?_⟩;refine ⟨_,rfl,_,EL.t eD2 kt,?_⟩;rw [Mc dk];symm;refine ⟨(by show (_:Int)≠0;omega),?_⟩;dsimp only;refine ⟨_,_,rfl,rfl,?_⟩;dsimp only;rw [Int.add_assoc];refine ⟨_,rfl,_,rfl,d,_,rfl,HA.t eD2 kt (Av (by omega)),?_⟩;refine ⟨_,ds++[(lt,1+(y.fdiv 36).fmod (6*most))],_,zs.map (·.2)++[lt],rfl,Ax (sJ.trans s45) hdH,Ab,dk.put _ _,fun q m=>?_,fun t m=>?_,by rw [length_append];exact Nat.succ_le_succ pl,fun z=>ne (append_eq_nil_iff.mp z).1,fun q m=>?_,fun ts=>?_⟩
   ·rcases mem_append.mp m with m | m
    ·exact mem_append_left _ (sub q m)
    ·rw [mem_singleton.mp m];exact mem_append_right _ (mem_singleton.mpr rfl)
   ·rcases mem_append.mp m with m | m
    ·exact okp t m
    ·rw [mem_singleton.mp m];exact okl
   ·rcases mem_append.mp m with m | m
    ·exact pos q m
    ·rw [mem_singleton.mp m];show 1<=1+(y.fdiv 36).fmod (6*most);omega
   ·rw [ED];have b:=bnd ts;show _+((if lt=ts then 1+(y.fdiv 36).fmod (6*most) else 0)+0)<=_
    split <;> omega
  ·exact ⟨_,ds,kvs,zs.map (·.2),rfl,sJ,eD,dk,sub,okp,by omega,ne,pos,fun ts=>by have:=bnd ts;omega⟩
 clear sJ sJ1 eD dk sub dl po pos bnd ne okp pl;rintro σ' J ⟨v8,ds,kvs,pp,rfl,sJ,eD,dk,sub,okp,pl,ne,pos,bnd⟩;have fin:∀(D:Addr) (ms:Ls) (H2:Hp),J D=none->An J H2->H2 D=some (.lst (vls ms))->Cj H2 ms->HK ds (Hr ms)->ms.length < 64->Q (.ref D) H2:=fun D ms H2 hD s e g sh _=>q D ms H2 (none_of sJ hD) (sJ.trans s) e g (sh.drawnP pos sub okp pl ne fun ts=>by have:=bnd ts;omega);have k64:=dk.len sub;obtain ⟨ks,k1,k2,knd,kmem⟩:=dk.vd.keys;symm;refine ⟨d,kvs,ks,rfl,.inl eD,k1,by omega,fun l2 rs r1 r2 r3 hl2=>?_⟩;have sl:=Ac hl2 (.lst (rs.map fun q=>V.ref q.1));have el:(upd J l2 (.lst (rs.map fun q=>V.ref q.1))) l2=some (.lst (rs.map fun q=>V.ref q.1)):=Ab;generalize upd J l2 (.lst (rs.map fun q=>V.ref q.1))=G1 at sl el ⊢
 have rl:rs.length=ks.length:=by
  have:=r2.length_eq;rw [length_map] at this;exact this
 have ov:∀r∈rs,Bl kvs (r.2.map Sum.inl:List Key)=some (.int (O1 kvs r.2)):=fun r m=>by
  obtain ⟨n,e⟩:=(kmem r.2).mp (r2.mem_iff.mp (mem_map.mpr ⟨r,m,rfl⟩));unfold O1;rw [e]
 refine ⟨l2,rfl,⟨_,SqL.of el⟩,?_⟩;refine A5 (xs:=rs.map fun q=>V.ref q.1) (by rw [length_map];exact A4 (by omega)) (fun D i ys H2=>∃ms:Ls,ys=vls ms/\ms.length=i/\H2 D=some (.lst ys)/\An G1 H2/\Cj H2 ms/\Hr ms=(rs.take i).map fun r=>(r.2,O1 kvs r.2)) (fun D hD=>⟨[],rfl,rfl,Ab,Ac hD _,(fun _ m=>absurd m List.not_mem_nil),rfl⟩) (fun D i ys H2 hq_=>by obtain ⟨ms,f1,f2,f3,_⟩:=hq_;exact ⟨f3,by rw [f1,Jn,f2];exact Nat.le_refl _⟩) (fun D i ys H2 hD hq_=>by obtain ⟨ms,_,_,_,f4,_⟩:=hq_;exact SqL.of (f4 _ _ el)) ?_ ?_
 ·rintro D i x ys H2 K1 K2 hD hx ⟨ms,rfl,f2,f3,f4,f5,f6⟩ kk1 kk2;rw [List.getElem?_map] at hx;obtain ⟨r,er,rfl⟩:=Option.map_eq_some_iff.mp hx;have rm:=mem_of_getElem? er;have et:rs.take (i+1)=rs.take i++[r]:=by rw [take_succ,er];rfl
  have sH:=sl.trans f4;have ek:=sH _ _ (r1 r rm);have dg:=EL.t (k:=(r.2.map Sum.inl:List Key)) (sH _ _ eD) (by rw [G6];exact ek);rw [ov r rm] at dg;refine yes (ifT rfl ?_);refine ⟨_,rfl,_,rfl,_,rfl,d,_,rfl,dg,(by show 2<=sizeLine;decide),fun t ht=>?_⟩;have s6:=Ac ht (.tup [V.ref r.1,V.int (O1 kvs r.2)]);refine kk1 _ _ (s6 _ _ f3) ⟨ms++[(t,r.1,r.2,O1 kvs r.2)],by rw [LC];rfl,by rw [length_append,f2];rfl,Ab,Ax (f4.trans s6) hD,?_,?_⟩
  ·refine Cj.upd (s6 _ _ f3) ((f5.same s6).append fun q m=>?_);rw [mem_singleton.mp m];exact ⟨Ab,s6 _ _ ek⟩
  ·rw [JG,f6,et,map_append];rfl
 ·rintro D ys H2 hD ⟨ms,rfl,f2,f3,f4,f5,f6⟩;rw [length_map] at f2 f6;rw [take_length] at f6;have rnd:(rs.map (·.2)).Nodup:=r2.nodup_iff.mpr knd
  have pv:∀(ts:List Int) (n:Int),Bl kvs (ts.map Sum.inl)=some (.int n)->0 < n:=fun ts n e=>by
   rw [dk.val] at e;by_cases c:ts∈ds.map (·.1)
   ·rw [if_pos c] at e;injection e with e
    injection e with e
    rw [<- e];exact IU pos c
   ·rw [if_neg c] at e
    cases e
  refine fin D ms H2 (none_of sl hD) (sl.trans f4) f3 f5 (dk.sheet pos ?_ (fun ts n=>?_)) (by omega)
  ·rw [f6,pairwise_map];have nd2:rs.Pairwise (fun x y=>x.2≠y.2):=pairwise_map.mp rnd;exact (r3.and nd2).imp fun ⟨h1,h2⟩=>Mt h1 h2
  ·rw [f6]
   constructor
   ·intro m;obtain ⟨r,rm,e⟩:=mem_map.mp m;injection e with e1 e2
    subst e1;subst e2;exact ⟨ov r rm,pv _ _ (ov r rm)⟩
   ·rintro ⟨e,n0⟩;have tk:ts∈ks:=(kmem ts).mpr ⟨n,e⟩;obtain ⟨r,rm,rfl⟩:=mem_map.mp (r2.mem_iff.mpr tk);have o:=ov r rm;rw [e] at o;injection o with o
    injection o with o
    exact mem_map.mpr ⟨r,rm,by rw [<- o]⟩
theorem Lf (T:Tx K mg base ad):AK P w K mg base CX0 3 ad.f_law_one ad.d_law_one ["_law_links","_law_x","_law_y","_law_lots_here","_law_drawn"] Pm:=by
 refine T.F_law_one.ok BC (fun vs H Q E h=>?_) (fun cdv A outer s H vs Q E hr h=>?_)
 ·obtain ⟨a,lo,as,h,x,y,L,ns,dr,rfl,_⟩:=h;rfl
 obtain ⟨a,lo,as,h,x,y,L,ns,dr,rfl,ha,tb,hx,hy,ne,h12,hlo,pm,szd,d0,q⟩:=h;refine ⟨_,((@Am _ _ (5) _ _ _ _ BC.nd rfl (Or.inl rfl) (@Al _ _ _ _ _ _ _ _ _ Au (by rfl) T.z_len PySem.boot_len ((pv 0)*>Ad) (by decide) (by decide) (by rfl) (by rfl)) (by rfl) (by nofun))>>((Cw (j:=6) (fsc:=Ag Fp) (N:=["_law_links","_law_x","_law_y","_law_lots_here","_law_drawn","_law_hands","_law_inner","_law_some","_law_cut","_law_hand","_law_ahead"]) (Nc:=["_law_links","_law_x","_law_y","_law_lots_here","_law_drawn","_law_hands","_law_inner","_law_some","_law_cut",".s9","_law_ahead","_law_hand"]) rfl rfl (by nofun) rfl BC.nd rfl rfl (AD (@Aj _ _ _ _ _ _ _ _ _ _ _ _ _ _ _ _ (DY T) (hr.mono (by decide)) rfl T.m_law_lots T.F_law_lots.kp T.b_law_lots .nil Ao ((pv 4)*>((pv 5)*>Ad)) (by decide) (by rfl) (by rfl))) (fun _ _ _ _=>(CK (PW.pt (@E8 _ _ _ _ _ _ _ (@Ar _ _ _ _ _ _ _ _ GP (pv 11) (pv 1) (As _)) (@D6 _ _ _ _ (@Ar _ _ _ _ _ _ _ _ GP (pv 11) (pv 2) (As _))))))) (fun _ _ _ _=>(pv 11)) rfl)>>((@Am _ _ (7) _ _ _ _ BC.nd rfl (Or.inl rfl) (BS<&>((BS<&>((@AR _ _ _ _ ((pv 1)*>Ad))<|>(Ba Bm (pv 6) Bs (Bj (AA<&>((AO<&>((pv 4)<|>Ae))<|>(AC<&>((@Al _ _ _ _ _ _ _ _ _ Au (by rfl) T.z_len PySem.boot_len ((pv 6)*>Ad) (by decide) (by decide) (by rfl) (by rfl))<|>Ae))))))))<|>(@AR _ _ _ _ ((pv 2)*>Ad)))) (by rfl) (by nofun))>>((@Am _ _ (8) _ _ _ _ BC.nd rfl (Or.inl rfl) (CT<&>(Ae<|>(pv 2))) (by rfl) (by nofun))>>((Bz PassesOwn.never rfl (AD (pv 6)) (A0 (i:=9) BC.nd rfl (Or.inl rfl)) (@Ah _ _ _ (@Bi _ _ _ _ _ _ _ _ (@Ar _ _ _ _ _ _ _ _ B4 (E7<&>((Fm<&>((pv 4)<|>(AC<&>((pv 9)<|>Ae))))<|>Ae)) Ae (As _)) (@Ah _ _ _ (@Am _ _ (8) _ _ _ _ BC.nd rfl (Or.inl rfl) (AC<&>((pv 8)<|>(CT<&>(Ae<|>(pv 9))))) (by rfl) (by nofun))) Az)))>>((@Am _ _ (10) _ _ _ _ BC.nd rfl (Or.inl rfl) (@C1 _ _ _ _ _ _ _ _ FQ (CG PySem.F.plainAttrs_list PySem.F.slot_list_index PySem.F.type_list_index (Fh (K:=K)) (pv 3) ((pv 2)*>Ad)) (CG PySem.F.plainAttrs_list PySem.F.slot_list_index PySem.F.type_list_index (Fh (K:=K)) (pv 3) ((pv 1)*>Ad)) (As _)) (by rfl) (by nofun))>>(@Ah _ _ _ (@Ap _ _ _ _ (@B7 _ _ _ _ _ ((pv 1)*>((pv 2)*>((pv 7)*>((pv 8)*>((@Aj _ _ _ _ _ _ _ _ _ _ _ _ _ _ _ _ (JS T) (hr.mono (by decide)) rfl T.m_law_need T.F_law_need.kp T.b_law_need .nil Ao ((@Aj _ _ _ _ _ _ _ _ _ _ _ _ _ _ _ _ (EN T) (hr.mono (by decide)) rfl T.m_law_least_link T.F_law_least_link.kp T.b_law_least_link .nil Ao ((pv 0)*>((pv 7)*>Ad)) (by decide) (by rfl) (by rfl))*>((@Aj _ _ _ _ _ _ _ _ _ _ _ _ _ _ _ _ (Gi T) (hr.mono (by decide)) rfl T.m_law_most_out T.F_law_most_out.kp T.b_law_most_out .nil Ao ((pv 0)*>((pv 8)*>Ad)) (by decide) (by rfl) (by rfl))*>((pv 10)*>Ad))) (by decide) (by rfl) (by rfl))*>Ad)))))))))))))),?_⟩;have al:(as.map V.ref).length=h:=by rw [length_map,tb.1]
 symm;rw [al];symm;refine ⟨dr,(h:Int),rfl,szd,by omega,by omega,fun lx xs H1 s1 e1 px=>?_⟩;rw [Int.toNat_natCast] at px
 have xb:∀z∈xs,0<=z/\z < (h:Int):=fun z m=>by
  obtain ⟨i,hi,rfl⟩:=NJ (px.mem_iff.mp m);omega
 have xl:xs.length=h:=by rw [px.length_eq,Cy]
 have xn:xs.Nodup:=px.nodup_iff.mpr (NH h);refine ⟨lx,rfl,⟨_,SqL.of e1⟩,?_⟩
 refine A5 (xs:=xs.map V.int) (by rw [length_map];exact A4 (by omega)) (fun D i ys J=>ys=((xs.take i).filter fun z=>decide (z≠(x:Int)/\z≠(y:Int))).map V.int/\J=upd H1 D (.lst ys)) (fun D hD=>⟨rfl,rfl⟩) (fun D i ys J hq=>by
  obtain ⟨f1,f2⟩:=hq
  exact ⟨by rw [f2];exact Ab,by rw [f1,length_map];exact Nat.le_trans (length_filter_le ..) (length_take_le _ _)⟩) (fun D i ys J hD hq=>by
  obtain ⟨_,f2⟩:=hq;rw [f2];exact SqL.of (Ac hD _ _ _ e1)) ?_ ?_
 ·rintro D i u ys J K1 K2 hD hu ⟨f1,rfl⟩ k1 k2;obtain ⟨z,hz,rfl⟩:=int_at hu
  have et:(xs.take (i+1)).filter (fun z=>decide (z≠(x:Int)/\z≠(y:Int)))=(xs.take i).filter (fun z=>decide (z≠(x:Int)/\z≠(y:Int)))++if z≠(x:Int)/\z≠(y:Int) then [z] else []:=by
   rw [take_succ,hz,filter_append]
   congr 1
   by_cases c:z≠(x:Int)/\z≠(y:Int)
   ·rw [if_pos c];exact filter_cons_of_pos (p:=fun z:Int=>decide (z≠(x:Int)/\z≠(y:Int))) (a:=z) (l:=[]) (decide_eq_true c)
   ·rw [if_neg c];exact filter_cons_of_neg (p:=fun z:Int=>decide (z≠(x:Int)/\z≠(y:Int))) (a:=z) (l:=[]) (fun k=>c (of_decide_eq_true k))
  have nok:¬ (z≠(x:Int)/\z≠(y:Int))->K2 (upd H1 D (.lst ys)):=fun c=>k2 _ ⟨by rw [et,if_neg c,append_nil];exact f1,rfl⟩;symm;by_cases c1:z=(x:Int)
  ·refine ifF (Lc c1) ?_;exact nok fun k=>k.1 c1
  ·refine ifT (L4 c1) ?_;symm;by_cases c2:z=(y:Int)
   ·refine ifF (Lc c2) ?_;exact nok fun k=>k.2 c2
   ·refine ifT (L4 c2) ?_;symm;refine k1 _ _ Ab ⟨?_,by rw [AT]⟩;rw [et,if_pos ⟨c1,c2⟩,map_append,f1];rfl
 rintro D ys H2 hD ⟨rfl,rfl⟩;rw [length_map,take_length]
 have yall:∀z∈xs.filter (fun z=>decide (z≠(x:Int)/\z≠(y:Int))),0<=z/\z < (h:Int)/\z≠(x:Int)/\z≠(y:Int):=fun z m=>by
  obtain ⟨m1,m2⟩:=mem_filter.mp m;exact ⟨(xb z m1).1,(xb z m1).2,of_decide_eq_true m2⟩
 have ynd:(xs.filter (fun z=>decide (z≠(x:Int)/\z≠(y:Int)))).Nodup:=xn.filter _;have yl:(xs.filter (fun z=>decide (z≠(x:Int)/\z≠(y:Int)))).length<=h:=by rw [<- xl];exact length_filter_le ..
 generalize xs.filter (fun z=>decide (z≠(x:Int)/\z≠(y:Int)))=ys at yall ynd yl ⊢;have s2:=s1.trans (Ac hD (.lst (ys.map V.int)));have e2:(upd H1 D (.lst (ys.map V.int))) D=some (.lst (ys.map V.int)):=Ab;generalize upd H1 D (.lst (ys.map V.int))=H2 at s2 e2 ⊢;symm;refine ⟨(by show 1<=sizeLine;decide),fun t1 ht1=>?_⟩;have s3:=Ac ht1 (.lst [V.int (x:Int)]);have et1:(upd H2 t1 (.lst [V.int (x:Int)])) t1=some (.lst [V.int (x:Int)]):=Ab;generalize upd H2 t1 (.lst [V.int (x:Int)])=H3 at s3 et1 ⊢;have e23:=s3 _ _ e2;have lln:(ys.map V.int).length=ys.length:=length_map ..;symm;refine ⟨(by show (_:Int)≠0;omega),?_⟩;rw [lln];have mk:=AH (dr.fdiv 7) (show (0:Int) < (ys.length:Int)+1 by omega);dsimp only;generalize (dr.fdiv 7).fmod ((ys.length:Int)+1)=k' at mk ⊢;obtain ⟨k,rfl⟩:∃k:Nat,k'=(k:Int):=⟨k'.toNat,by omega⟩;symm;refine ⟨D,_,rfl,SqL.of e23,fun l2 hl2=>?_⟩;rw [show CN (ys.map V.int) none (some (k:Int))=(ys.take k).map V.int from GO.trans (map_take ..).symm];have zall:∀z∈ys.take k,0<=z/\z < (h:Int)/\z≠(x:Int)/\z≠(y:Int):=fun z m=>yall z (mem_of_mem_take m);have znd:(ys.take k).Nodup:=ynd.sublist (take_sublist _ _);have zl:(ys.take k).length<=h:=Nat.le_trans (by rw [length_take];exact Nat.min_le_right _ _) yl;generalize ys.take k=zs at zall znd zl ⊢;have s4:=Ac hl2 (.lst (zs.map V.int));have el2:(upd H3 l2 (.lst (zs.map V.int))) l2=some (.lst (zs.map V.int)):=Ab;generalize upd H3 l2 (.lst (zs.map V.int))=H4 at s4 el2 ⊢;refine ⟨t1,l2,_,_,rfl,rfl,s4 _ _ et1,el2,(by rw [length_map];exact Nat.le_of_lt (Av (by show 1+_<=1000;omega))),fun l3 h3=>?_⟩;rw [show [V.int (x:Int)]++zs.map V.int=([(x:Int)]++zs).map V.int from by rw [map_append];rfl];have s5:=Ac h3 (.lst (([(x:Int)]++zs).map V.int));have el3:(upd H4 l3 (.lst (([(x:Int)]++zs).map V.int))) l3=some (.lst (([(x:Int)]++zs).map V.int)):=Ab;generalize upd H4 l3 (.lst (([(x:Int)]++zs).map V.int))=H5 at s5 el3 ⊢;symm;refine ⟨(by show 1<=sizeLine;decide),fun l4 h4=>?_⟩;have s6:=Ac h4 (.lst [V.int (y:Int)]);have el4:(upd H5 l4 (.lst [V.int (y:Int)])) l4=some (.lst [V.int (y:Int)]):=Ab;generalize upd H5 l4 (.lst [V.int (y:Int)])=H6 at s6 el4 ⊢;refine ⟨l3,l4,_,_,rfl,rfl,s6 _ _ el3,el4,(by rw [length_map,length_append];exact Nat.le_of_lt (Av (by show 1+_+1<=1000;omega))),fun w hw=>?_⟩;rw [show ([(x:Int)]++zs).map V.int++[V.int (y:Int)]=([(x:Int)]++zs++[(y:Int)]).map V.int from by rw [map_append (l₂:=[(y:Int)])];rfl];have wb:=NX hx hy ne znd zall
 have wln:([(x:Int)]++zs++[(y:Int)]).length<=14:=by
  rw [length_append,length_append];show 1+zs.length+1<=14;omega
 have hwH:H w=none:=none_of (((s2.trans s3).trans s4).trans (s5.trans s6)) hw;generalize [(x:Int)]++zs++[(y:Int)]=ws at wb wln ⊢;have s7:=Ac hw (.lst (ws.map V.int));have ew:(upd H6 w (.lst (ws.map V.int))) w=some (.lst (ws.map V.int)):=Ab;generalize upd H6 w (.lst (ws.map V.int))=H7 at s7 ew ⊢;have s07:=(((s2.trans s3).trans s4).trans (s5.trans s6)).trans s7;have e27:=((((s3.trans s4).trans s5).trans s6).trans s7) _ _ e2
 have c0:(1:Int)*2 ^ (y:Int).toNat=A1 h (fun j=>decide (y=j)):=by
  have e:=EZ h (fun _=>false) y hy rfl;rw [Er (fun _ _=>rfl),Int.zero_add] at e;rw [Int.one_mul,Int.toNat_natCast,<- e];exact AS h fun i _=>by rw [Bool.false_or]
 symm;refine ⟨Dm (by omega),?_⟩;symm
 refine ⟨⟨_,SqL.of e27⟩,C4 (xs:=ys.map V.int) (fun i σ' J=>∃(v9:Option V) (g:Nat->Bool),σ'=[some (.ref a),some (.int (x:Int)),some (.int (y:Int)),some (.ref lo),some (.int dr),some (.int (h:Int)),some (.ref D),some (.ref w),some (.int (A1 h g)),v9,none]/\H7=J/\g y=true/\∀j,g j=true->j=y\/(j:Int)∈ys.take i) ⟨none,(fun j=>decide (y=j)),(by rw [<- c0];rfl),rfl,decide_eq_true rfl,fun j k=>.inl (of_decide_eq_true k).symm⟩ (fun i σ' J _ hq=>by
  obtain ⟨_,_,_,rfl,_⟩:=hq;exact SqL.of e27) ?_ ?_⟩
 ·rintro i u σ' J hu ⟨v9,g,rfl,rfl,gy,gs⟩;obtain ⟨z,hz,rfl⟩:=int_at hu;have zm:=mem_of_getElem? hz;obtain ⟨z0,zh,zx,zy⟩:=yall z zm;obtain ⟨n,rfl⟩:∃n:Nat,z=(n:Int):=⟨z.toNat,by omega⟩
  have more:∀j:Nat,(j:Int)∈ys.take i->(j:Int)∈ys.take (i+1):=fun j k=>by
   rw [take_succ];exact mem_append_left _ k
  have gn:g n=false:=by
   cases e:g n with
   | false=>rfl
   | true =>
     rcases gs n e with k | k
     ·exact absurd (by rw [k]) zy
     ·have nd':=ynd.sublist (take_sublist (i+1) ys);rw [take_succ,hz] at nd';exact absurd rfl ((nodup_append.mp nd').2.2 _ k _ (mem_singleton.mpr rfl))
  symm;refine ⟨by show (0:Int)<=_;omega,?_⟩;symm;refine P0 (fun _=>?_) (fun _=>?_)
  ·symm;refine ⟨Dm (by omega),?_⟩;symm;refine ⟨some (.int (n:Int)),fun j=>g j || decide (n=j),?_,rfl,(by show (g y || decide (n=y))=true;rw [gy];rfl),fun j k=>?_⟩
   ·rw [EZ h g n (by omega) gn];show [_,_,_,_,_,_,_,_,some (V.int (A1 h g+1*2 ^ (n:Int).toNat)),_,_]=_;rw [Int.one_mul,Int.toNat_natCast]
   ·rcases Bool.or_eq_true_iff.mp k with k | k
    ·exact (gs j k).imp id (more j)
    ·refine .inr ?_;rw [<- of_decide_eq_true k,take_succ,hz];exact mem_append_right _ (mem_singleton.mpr rfl)
  ·exact ⟨_,g,rfl,rfl,gy,fun j k=>(gs j k).imp id (more j)⟩
 rintro σ' J ⟨v9,g,rfl,rfl,gy,gs⟩
 have gx:g x=false:=by
  cases e:g x with
  | false=>rfl
  | true =>
    rcases gs x e with k | k
    ·exact absurd k ne
    ·exact absurd rfl (yall _ (mem_of_mem_take k)).2.2.1
 have cb:Dl h (A1 h g) y x=true:=by
  have m0:=Dd h g;have m1:=ET h g;unfold Dl;rw [decide_eq_true (show 0<=A1 h g/\A1 h g<=2 ^ h - 1 by omega),Bh,Bh,gy,gx,decide_eq_true hy];rw [Bool.and_false];rfl
 have lo7:=s07 _ _ hlo;have nin:∀{i:Nat},i < h->(i:Int)∈ns:=fun hi=>pm.mem_iff.mpr (mem_map.mpr ⟨_,mem_range.mpr hi,rfl⟩);obtain ⟨f,iw,wn,_⟩:=LQ L wb;rw [Int.toNat_natCast,Int.toNat_natCast] at iw;symm;refine ⟨.inl ⟨rfl,_,SqL.of lo7⟩,?_⟩;symm;refine ⟨lo,ns,(y:Int),rfl,rfl,SqL.of lo7,nin hy,?_⟩;symm;refine ⟨.inl ⟨rfl,_,SqL.of lo7⟩,?_⟩;symm;refine ⟨lo,ns,(x:Int),rfl,rfl,SqL.of lo7,nin hx,?_⟩;symm;refine ⟨a,w,as,h,x,y,L,f,ws.map Int.toNat,rfl,s07 _ _ ha,tb.same s07,(by rw [Mj wn];exact ew),iw,h12,fun H8 s8=>?_⟩;symm;refine ⟨a,as,h,y,x,L,A1 h g,rfl,(s07.trans s8) _ _ ha,tb.same (s07.trans s8),cb,hy,hx,h12,fun m H9 s9 mo=>?_⟩;symm;refine ⟨f,m,ns,(x:Int),(y:Int),?_,?_⟩
 ·show [V.int f,V.int m,V.bl (decide (((ns.idxOf (y:Int):Nat):Int) < ((ns.idxOf (x:Int):Nat):Int)))]=_;rw [show decide (((ns.idxOf (y:Int):Nat):Int) < ((ns.idxOf (x:Int):Nat):Int))=decide (ns.idxOf (y:Int) < ns.idxOf (x:Int)) from decide_eq_decide.mpr ⟨fun k=>by omega,fun k=>by omega⟩]
 refine ⟨(by show 5<=sizeLine;decide),fun t ht=>?_⟩;have s79:=(s8.trans s9);have sN:=Ac ht (.tup [V.int (x:Int),V.int (y:Int),V.ref w,V.int (A1 h g),V.int (Ev ns (x:Int) (y:Int) f m)]);refine q ⟨t,w,(x:Int),(y:Int),ws,A1 h g,Ev ns (x:Int) (y:Int) f m⟩ _ (none_of (s07.trans s79) ht) hwH ((s07.trans s79).trans sN) ⟨Ab,sN _ _ (s79 _ _ ew)⟩ rfl rfl wln ⟨wb,(by rw [Int.toNat_natCast,Int.toNat_natCast];exact cb),f,m,(by rw [Int.toNat_natCast,Int.toNat_natCast];exact iw),mo,rfl,Int.le_refl _⟩
theorem BV (T:Tx K mg base ad):AK P w K mg base CX0 3 ad.f_PairsMargin_leads_in ad.d_PairsMargin_leads_in ["self","sheet"] (M6 ad.c_PairsMargin ad.c_Pairs):=by
 refine T.F_PairsMargin_leads_in.ok Dr (fun vs H Q E h=>?_) (fun cdv A outer s H vs Q E hr h=>?_)
 ·obtain ⟨g,a,l,h,s,ns,ls,rfl,_⟩:=h;rfl
 obtain ⟨g,a,l,h,s,ns,ls,rfl,⟨dm,hg⟩,md,hl,gl,l60,q⟩:=h;refine ⟨_,(@Ah _ _ _ (@Ap _ _ _ _ (@Aj _ _ _ _ _ _ _ _ _ _ _ _ _ _ _ _ (FN T) (hr.mono (by decide)) rfl T.m_leads_of T.F_leads_of.kp T.b_leads_of .nil Ao ((@Aj _ _ _ _ _ _ _ _ _ _ _ _ _ _ _ _ (Kf T) (hr.mono (by decide)) rfl T.m_overs T.F_overs.kp T.b_overs .nil Ao ((pv 1)*>((B6 (B6 (pv 0) rfl) rfl)*>Ad)) (by decide) (by rfl) (by rfl))*>Ad) (by decide) (by rfl) (by rfl)))),?_⟩;obtain ⟨dx,la,k1,k2⟩:=id md.is;have h1:=md.h1;have h12:=md.h12;symm;refine ⟨g,_,dm,_,_,rfl,hg,T.cl_PairsMargin,T.na_PairsMargin_way,rfl,?_⟩;refine ⟨a,_,dx,_,_,rfl,k1,T.cl_Pairs,T.na_Pairs_hands,rfl,?_⟩;refine ⟨l,ls,h,rfl,hl,gl,l60,h1,h12,fun b as H1 hb s1 nb wb eb tb=>?_⟩;refine ⟨b,as,h,_,rfl,eb,tb,h12,fun c cs H2 hc nc wc s2 ec tc=>?_⟩;exact q c cs H2 (s1.trans s2) ec tc
theorem Dk (T:Tx K mg base ad):AK P w K mg base CX0 3 ad.f_PairsMargin_row_shows ad.d_PairsMargin_row_shows ["self","leads","low","row"] (Pw ad.c_PairsMargin ad.c_Pairs):=by
 refine T.F_PairsMargin_row_shows.ok Bo (fun vs H Q E h=>?_) (fun cdv A outer s H vs Q E hr h=>?_)
 ·obtain ⟨g,a,b,bs,h,s,ns,L,low,r,rfl,_⟩:=h;rfl
 obtain ⟨g,a,b,bs,h,s,ns,L,low,r,rfl,im,md,hb,tb,gr,wl,x0,xh,y0,yh,q⟩:=h;refine ⟨_,((@Am _ _ (4) _ _ _ _ Bo.nd rfl (Or.inl rfl) (@At _ _ _ _ _ _ _ BA (pv 3) Ae (fun _ _=>rfl)) (by rfl) (by nofun))>>((@Am _ _ (5) _ _ _ _ Bo.nd rfl (Or.inl rfl) (@At _ _ _ _ _ _ _ BA (pv 3) Ae (fun _ _=>rfl)) (by rfl) (by nofun))>>((@Bi _ _ _ _ _ _ _ _ (PW.pt (@FS _ _ _ _ _ _ _ (@Eb _ _ _ _ (@CU _ _ _ (@Aj _ _ _ _ _ _ _ _ _ _ _ _ _ _ _ _ (MB T) (hr.mono (by decide)) rfl T.m_is_way T.F_is_way.kp T.b_is_way .nil Ao ((@At _ _ _ _ _ _ _ BA (pv 3) Ae (fun _ _=>rfl))*>((pv 4)*>((pv 5)*>((B6 (B6 (pv 0) rfl) rfl)*>Ad)))) (by decide) (by rfl) (by rfl)) (by intro _;rfl))) (@EC _ _ _ _ (@Eb _ _ _ _ (@CU _ _ _ (@Aj _ _ _ _ _ _ _ _ _ _ _ _ _ _ _ _ (MX T) (hr.mono (by decide)) rfl T.m_is_cut T.F_is_cut.kp T.b_is_cut .nil Ao ((@At _ _ _ _ _ _ _ BA (pv 3) Ae (fun _ _=>rfl))*>((pv 5)*>((pv 4)*>((B6 (B6 (pv 0) rfl) rfl)*>Ad)))) (by decide) (by rfl) (by rfl)) (by intro _;rfl)))))) (@Ah _ _ _ (@Ap _ _ _ _ Cg)) Az)>>(@Ah _ _ _ (@Ap _ _ _ _ (@Dy _ _ _ _ _ _ _ (@C1 _ _ _ _ _ _ _ _ B4 (@At _ _ _ _ _ _ _ BA (pv 3) Ae (fun _ _=>rfl)) (AQ (pv 0) T.cl_PairsMargin T.me_PairsMargin_need_of (Ca T) (hr.mono (by decide)) T.b_PairsMargin_need_of .nil Ao ((pv 4)*>((pv 5)*>((@Aj _ _ _ _ _ _ _ _ _ _ _ _ _ _ _ _ (HC T) (hr.mono (by decide)) rfl T.m_least_link T.F_least_link.kp T.b_least_link .nil Ao ((pv 1)*>((@At _ _ _ _ _ _ _ BA (pv 3) Ae (fun _ _=>rfl))*>Ad)) (by decide) (by rfl) (by rfl))*>((@Aj _ _ _ _ _ _ _ _ _ _ _ _ _ _ _ _ (F7 T) (hr.mono (by decide)) rfl T.m_greatest_link T.F_greatest_link.kp T.b_greatest_link .nil Ao ((pv 1)*>((@At _ _ _ _ _ _ _ BA (pv 3) Ae (fun _ _=>rfl))*>Ad)) (by decide) (by rfl) (by rfl))*>Ad))))) (As _)) (@Ef _ _ _ _ _ (@C1 _ _ _ _ _ _ _ _ RO (@At _ _ _ _ _ _ _ BA (pv 3) Ae (fun _ _=>rfl)) (pv 2) (As _))))))))),?_⟩;obtain ⟨dm,hg⟩:=id im;obtain ⟨dx,la,k1,k2⟩:=id md.is;have h12:=md.h12;have gt:=gr.t;obtain ⟨x,ex⟩:∃x:Nat,r.x=(x:Int):=⟨r.x.toNat,by omega⟩;obtain ⟨y,ey⟩:∃y:Nat,r.y=(y:Int):=⟨r.y.toNat,by omega⟩;have nin:∀{i:Nat},i < h->(i:Int)∈ns:=fun hi=>md.pm.mem_iff.mpr (mem_map.mpr ⟨_,mem_range.mpr hi,rfl⟩);symm;refine ⟨g,_,dm,_,_,rfl,hg,T.cl_PairsMargin,T.na_PairsMargin_way,rfl,?_⟩;refine ⟨a,_,dx,_,_,rfl,k1,T.cl_Pairs,T.na_Pairs_hands,rfl,?_⟩;symm;refine ⟨r.w,h,r.x,r.y,r.ws,rfl,gr.w,wl,fun H1 s1=>?_⟩;by_cases c1:Fa h r.ws r.x r.y=true
 ·rw [c1];have hg1:=s1 _ _ hg;have k11:=s1 _ _ k1;have gt1:=s1 _ _ gt;symm;refine ⟨g,_,dm,_,_,rfl,hg1,T.cl_PairsMargin,T.na_PairsMargin_way,rfl,?_⟩;refine ⟨a,_,dx,_,_,rfl,k11,T.cl_Pairs,T.na_Pairs_hands,rfl,?_⟩;symm;refine ⟨h,y,x,r.cut,(by rw [ex,ey];rfl),h12,?_⟩;by_cases c2:Dl h r.cut y x=true
  ·rw [c2];obtain ⟨f,iw,wn,_⟩:=LQ L c1;symm;refine ⟨g,dm,_,rfl,hg1,rfl,?_⟩;symm;refine ⟨b,r.w,bs,h,r.x.toNat,r.y.toNat,L,f,r.ws.map Int.toNat,rfl,s1 _ _ hb,tb.same s1,(by rw [Mj wn];exact s1 _ _ gr.w),iw,h12,fun H2 s2=>?_⟩;have gt2:=s2 _ _ gt1;symm;refine ⟨b,bs,h,y,x,L,r.cut,rfl,(s1.trans s2) _ _ hb,tb.same (s1.trans s2),c2,by omega,by omega,h12,fun m H3 s3 mo=>?_⟩;have s13:=(s1.trans s2).trans s3;have gt3:=s3 _ _ gt2;symm;refine ⟨g,a,h,s,ns,r.x,r.y,f,m,rfl,im.same s13,(md.same s13).is,(by rw [ex];exact nin (by omega)),(by rw [ey];exact nin (by omega)),?_⟩;have qf:=q _ s13;have c2':Dl h r.cut r.y.toNat r.x.toNat=true:=by rw [ex,ey];exact c2
   symm;by_cases c3:r.n=Ev ns r.x r.y f m
   ·refine ifT (D4 c3) ?_;symm;by_cases c4:low<=r.n
    ·rw [OG ⟨c1,c2',f,m,iw,mo,c3,c4⟩] at qf;show Q (V.bl (decide (r.n>=low))) H3;rw [decide_eq_true c4];exact qf
    ·rw [GT (fun z=>c4 (let ⟨_,_,_,_,_,_,_,k⟩:=z;k))] at qf;show Q (V.bl (decide (r.n>=low))) H3;rw [decide_eq_false c4];exact qf
   ·refine ifF (D1 c3) ?_
    rw [GT (fun z=>c3 (by
     obtain ⟨_,_,f',m',i',o',e',_⟩:=z;rw [Qd iw i',Kt mo o'];exact e'))] at qf
    exact qf
  ·rw [Bool.eq_false_iff.mpr c2];have:=q _ s1;rw [GT (fun z=>c2 (by have:=z.2.1;rw [ex,ey] at this;exact this))] at this;symm;exact this
 ·rw [Bool.eq_false_iff.mpr c1];have:=q _ s1;rw [GT (fun z=>c1 z.1)] at this;symm;exact this
theorem K0 (T:Tx K mg base ad):AK P w K mg base CX0 3 ad.f_Way_init ad.d_Way_init ["self","hands","seats","lots"] (Lr K):=by
 refine T.F_Way_init.ok Kq (fun vs H Q E h=>?_) (fun cdv A outer s H vs Q E hr h=>?_)
 ·obtain ⟨a,C,dx,h,s,lv,ns,rfl,_⟩:=h;rfl
 obtain ⟨a,C,dx,h,s,lv,ns,rfl,ha,cl,n1,n2,n3,h1,h12,s1,s60,lo,q⟩:=h;refine ⟨_,((@Bi _ _ _ _ _ _ _ _ (PW.pt (@FS _ _ _ _ _ _ _ (@Eb _ _ _ _ (@CU _ _ _ (@Aj _ _ _ _ _ _ _ _ _ _ _ _ _ _ _ _ (Jt T) (hr.mono (by decide)) rfl T.m_are_hands T.F_are_hands.kp T.b_are_hands .nil Ao ((pv 1)*>Ad) (by decide) (by rfl) (by rfl)) (by intro _;rfl))) (@EC _ _ _ _ (@Eb _ _ _ _ (@CU _ _ _ (@Aj _ _ _ _ _ _ _ _ _ _ _ _ _ _ _ _ (Ja T) (hr.mono (by decide)) rfl T.m_are_seats T.F_are_seats.kp T.b_are_seats .nil Ao ((pv 2)*>Ad) (by decide) (by rfl) (by rfl)) (by intro _;rfl)))))) (@Ah _ _ _ Kd) Az)>>((@Bi _ _ _ _ _ _ _ _ (PW.pt (@E8 _ _ _ _ _ _ _ (@Ar _ _ _ _ _ _ _ _ PD (pv 3) OR (As _)) (@D6 _ _ _ _ (@Eb _ _ _ _ (@CU _ _ _ (@Aj _ _ _ _ _ _ _ _ _ _ _ _ _ _ _ _ (JV T) (hr.mono (by decide)) rfl T.m_are_lots T.F_are_lots.kp T.b_are_lots .nil Ao ((pv 3)*>((pv 1)*>Ad)) (by decide) (by rfl) (by rfl)) (by intro _;rfl)))))) (@Ah _ _ _ Kd) Az)>>((Jj (pv 0) (pv 1) rfl)>>((Jj (pv 0) (pv 2) rfl)>>(@Ah _ _ _ (Jj (pv 0) (K6 (@Ar _ _ _ _ _ _ _ _ Rs (pv 3) OR (As _)) (Cb rfl (by rfl) T.z_list (by rfl) T.z_range (pv 1)) (@AJ _ _ _ _ _ _ _ _ _ AB (by rfl) T.z_list PyProof.Rows.boot_list ((pv 3)*>Ad) (by decide) (by decide) (by rfl) (by rfl))) rfl)))))),?_⟩;refine ⟨_,rfl,(h:Int),rfl,by omega,by omega,?_⟩;symm;refine ⟨by omega,by omega,?_⟩;symm;rcases lo with ⟨rfl,rfl⟩ | ⟨l,rfl,hl,pm⟩
 ·symm;obtain ⟨H1,eH⟩:∃H1,H1=H:=⟨_,rfl⟩;rw [<- eH];have e1:An H H1:=by rw [eH];exact fun _ _ e=>e
  have g1:=(F5 H a).trans e1;refine ⟨a,C,dx,[],rfl,e1 _ _ ha,cl,n1,(by simp only [length_cons,length_nil];decide),?_⟩;rw [RW];have g2:=Db (o:=.ins C dx [("hands",.int (h:Int))]) g1;have a2:(upd H1 a (.ins C dx [("hands",.int (h:Int))])) a=_:=Ab;generalize upd H1 a (.ins C dx [("hands",.int (h:Int))])=H2 at g2 a2 ⊢;symm;refine ⟨a,C,dx,_,rfl,a2,cl,n2,(by simp only [length_cons,length_nil];decide),?_⟩;rw [RX];have g3:=Db (o:=.ins C dx [("hands",.int (h:Int)),("seats",.int (s:Int))]) g2;have a3:(upd H2 a (.ins C dx [("hands",.int (h:Int)),("seats",.int (s:Int))])) a=_:=Ab;generalize upd H2 a (.ins C dx [("hands",.int (h:Int)),("seats",.int (s:Int))])=H3 at g3 a3 ⊢;symm;refine ⟨by omega,fun b hb=>?_⟩;rw [<- Qy];have ba:b≠a:=fun z=>by rw [z,a3] at hb;cases hb
  have hbH:H b=none:=by
   cases e:H b with
   | none=>rfl
   | some o =>
     have:=g3 _ _ (CP e ba);rw [hb] at this
     cases this
  have g4:=g3.trans (Ac hb (.lst ((ups h).map V.int)));have a4:=Ac hb (.lst ((ups h).map V.int)) _ _ a3;have b4:(upd H3 b (.lst ((ups h).map V.int))) b=some (.lst ((ups h).map V.int)):=Ab;generalize upd H3 b (.lst ((ups h).map V.int))=H4 at g4 a4 b4 ⊢;symm;refine ⟨a,C,dx,_,rfl,a4,cl,n3,(by simp only [length_cons,length_nil];decide),?_⟩;rw [RJ];exact q b _ ba hbH (Db g4) Ab (by rw [Ak ba];exact b4)
 ·symm;refine ⟨l,ns,h,rfl,hl,pm,by omega,fun H1 e1=>?_⟩;symm;have g1:=(F5 H a).trans e1;refine ⟨a,C,dx,[],rfl,e1 _ _ ha,cl,n1,(by simp only [length_cons,length_nil];decide),?_⟩;rw [RW];have g2:=Db (o:=.ins C dx [("hands",.int (h:Int))]) g1;have a2:(upd H1 a (.ins C dx [("hands",.int (h:Int))])) a=_:=Ab;generalize upd H1 a (.ins C dx [("hands",.int (h:Int))])=H2 at g2 a2 ⊢;symm;refine ⟨a,C,dx,_,rfl,a2,cl,n2,(by simp only [length_cons,length_nil];decide),?_⟩;rw [RX];have g3:=Db (o:=.ins C dx [("hands",.int (h:Int)),("seats",.int (s:Int))]) g2;have a3:(upd H2 a (.ins C dx [("hands",.int (h:Int)),("seats",.int (s:Int))])) a=_:=Ab;generalize upd H2 a (.ins C dx [("hands",.int (h:Int)),("seats",.int (s:Int))])=H3 at g3 a3 ⊢;have la:l≠a:=fun z=>by rw [z,ha] at hl;cases hl
  have l3:=g3 _ _ (CP hl la);symm;intro b hb;have ba:b≠a:=fun z=>by rw [z,a3] at hb;cases hb
  have hbH:H b=none:=by
   cases e:H b with
   | none=>rfl
   | some o =>
     have:=g3 _ _ (CP e ba);rw [hb] at this
     cases this
  have g4:=g3.trans (Ac hb (.lst (ns.map V.int)));have a4:=Ac hb (.lst (ns.map V.int)) _ _ a3;have b4:(upd H3 b (.lst (ns.map V.int))) b=some (.lst (ns.map V.int)):=Ab;generalize upd H3 b (.lst (ns.map V.int))=H4 at g4 a4 b4 ⊢;symm;refine ⟨a,C,dx,_,rfl,a4,cl,n3,(by simp only [length_cons,length_nil];decide),?_⟩;rw [RJ];exact q b _ ba hbH (Db g4) Ab (by rw [Ak ba];exact b4)
theorem Jo (T:Tx K mg base ad):AK P w K mg base CX0 4 ad.f_law_paper ad.d_law_paper ["_law_links","_law_outcome","_law_lots_here","_law_cell_here"] N3:=by
 refine T.F_law_paper.ok CM (fun vs H Q E h=>?_) (fun cdv A outer s H vs Q E hr h=>?_)
 ·obtain ⟨a,o,lo,as,h,L,out,ns,c,rfl,_⟩:=h;rfl
 obtain ⟨a,o,lo,as,h,L,out,ns,c,rfl,ha,tb,ho,ol,h6,hlo,pm,szc,c0,q⟩:=h;refine ⟨_,((@Am _ _ (4) _ _ _ _ CM.nd rfl (Or.inl rfl) (@AR _ _ _ _ Ad) (by rfl) (by nofun))>>((Bz PassesOwn.never rfl (AF rfl T.z_range ((@Al _ _ _ _ _ _ _ _ _ Au (by rfl) T.z_len PySem.boot_len ((pv 1)*>Ad) (by decide) (by decide) (by rfl) (by rfl))*>Ad)) (A0 (i:=5) CM.nd rfl (Or.inl rfl)) (@Ah _ _ _ (Bz PassesOwn.never rfl (AF rfl T.z_range ((@Al _ _ _ _ _ _ _ _ _ Au (by rfl) T.z_len PySem.boot_len ((pv 1)*>Ad) (by decide) (by decide) (by rfl) (by rfl))*>Ad)) (A0 (i:=6) CM.nd rfl (Or.inl rfl)) (@Ah _ _ _ (@Bi _ _ _ _ _ _ _ _ (PW.pt (@E8 _ _ _ _ _ _ _ (@Ar _ _ _ _ _ _ _ _ EY (@At _ _ _ _ _ _ _ Ay (pv 1) (pv 5) (fun _ _=>rfl)) Ae (As _)) (@D6 _ _ _ _ (@Ar _ _ _ _ _ _ _ _ B4 (@At _ _ _ _ _ _ _ Ay (pv 1) (pv 6) (fun _ _=>rfl)) Ae (As _))))) (@Ah _ _ _ (@Cz _ _ _ _ (CG PySem.F.plainAttrs_list PySem.F.slot_list_append PySem.F.type_list_append Ct (pv 4) ((@Aj _ _ _ _ _ _ _ _ _ _ _ _ _ _ _ _ (Lf T) (hr.mono (by decide)) rfl T.m_law_one T.F_law_one.kp T.b_law_one .nil Ao ((pv 0)*>((pv 5)*>((pv 6)*>((pv 2)*>((@Aj _ _ _ _ _ _ _ _ _ _ _ _ _ _ _ _ (IH T) (hr.mono (by decide)) rfl T.m_law_twice T.F_law_twice.kp T.b_law_twice .nil Ao ((pv 3)*>((AC<&>((AC<&>(Ae<|>(BQ<&>(Ae<|>(pv 5)))))<|>(pv 6)))*>Ad)) (by decide) (by rfl) (by rfl))*>Ad))))) (by decide) (by rfl) (by rfl))*>Ad)) (by rfl))) Az)))))>>(@Ah _ _ _ (@Ap _ _ _ _ (pv 4))))),?_⟩;have oln:(out.map V.int).length=h:=by rw [length_map,ol]
 symm;refine ⟨(by show 0<=sizeLine;decide),fun l hl=>?_⟩;have s1:=Ac hl (.lst []);have e1:(upd H l (.lst [])) l=some (.lst (vrp [])):=Ab;generalize upd H l (.lst [])=H1 at s1 e1 ⊢;have ho1:=s1 _ _ ho;symm;rw [oln];refine ⟨by omega,by omega,BJ (fun i σ' J=>∃(v5 v6:Option V) (rs:List Rp),σ'=[some (.ref a),some (.ref o),some (.ref lo),some (.int c),some (.ref l),v5,v6]/\An H J/\J l=some (.lst (vrp rs))/\(∀r∈rs,QD h L ns H J r/\r.w≠l)/\AN rs=CV out i) ⟨none,none,[],rfl,s1,e1,(fun _ m=>absurd m List.not_mem_nil),rfl⟩ ?_ ?_⟩
 ·rintro i σ' J hi ⟨v5,v6,rs,rfl,sJ,eL,gr,em⟩;have hi':i < h:=by omega
  have ei:(0:Int)+(i:Int)=(i:Int):=Int.zero_add _;have hoJ:=sJ _ _ ho;obtain ⟨zi,hzi⟩:∃z,out[i]?=some z:=⟨_,List.getElem?_eq_getElem (by omega)⟩;have gi:out.getD i 0=zi:=by rw [getD_eq_getElem?_getD,hzi];rfl
  symm;rw [oln];refine ⟨by omega,by omega,BJ (fun j σ' G=>∃(v6:Option V) (qs:List Rp),σ'=[some (.ref a),some (.ref o),some (.ref lo),some (.int c),some (.ref l),some (.int (0+(i:Int))),v6]/\An H G/\G l=some (.lst (vrp (rs++qs)))/\(∀r∈rs++qs,QD h L ns H G r/\r.w≠l)/\AN qs=if 0 < zi then EU out i j else []) ⟨_,[],rfl,sJ,by rw [append_nil];exact eL,by rw [append_nil];exact gr,by split <;> rfl⟩ ?_ ?_⟩
  ·rintro j σ' G hj ⟨v6',qs,rfl,sG,eLG,grG,emG⟩;have hj':j < h:=by omega
   have ej:(0:Int)+(j:Int)=(j:Int):=Int.zero_add _;have hoG:=sG _ _ ho;obtain ⟨zj,hzj⟩:∃z,out[j]?=some z:=⟨_,List.getElem?_eq_getElem (by omega)⟩;have gj:out.getD j 0=zj:=by rw [getD_eq_getElem?_getD,hzj];rfl
   symm;refine ⟨o,_,_,_,rfl,rfl,SqL.of hoG,(by rw [ei];exact Bt (by rw [List.getElem?_map,hzi];rfl)),?_⟩;symm;by_cases c1:0 < zi
   ·refine ifT (decide_eq_true c1) ?_;rw [if_pos c1] at emG;symm;refine ⟨o,_,_,_,rfl,rfl,SqL.of hoG,(by rw [ej];exact Bt (by rw [List.getElem?_map,hzj];rfl)),?_⟩;symm;by_cases c2:zj=0
    ·refine ifT (D4 c2) ?_
     have ne:i≠j:=fun z=>by
      rw [z,gj] at gi;omega
     have ln:(rs++qs).length<=60:=by
      have a1:=congrArg List.length em;have a2:=congrArg List.length emG;unfold AN at a1 a2;rw [length_map] at a1 a2;have a3:=Ep out i;have a4:=Go out i j;have a5:=Nat.mul_le_mul (show i<=6 by omega) (show out.length<=6 by omega);rw [length_append];omega
     have szi:Sz 64 (0+(i:Int)):=DK (by omega) (by omega);symm;refine ⟨.inl ⟨rfl,_,SqL.of eLG⟩,?_⟩;symm;refine ⟨c,_,rfl,szc,by omega,by omega,fun z z0 z1=>?_⟩;symm;refine ⟨a,lo,as,h,i,j,L,ns,z,(by rw [ei,ej];rfl),sG _ _ ha,tb.same sG,hi',hj',ne,by omega,sG _ _ hlo,pm,DK (by omega) (Int.lt_trans z1 (by decide)),z0,fun r G1 ht hw g1 gr1 rx ry rl rp=>?_⟩;have eL1:=g1 _ _ eLG;have rw':r.w≠l:=fun z=>by rw [z,eLG] at hw;cases hw
     refine ⟨l,_,_,rfl,rfl,eL1,(by unfold vrp;rw [length_map];exact Av (by omega)),?_⟩;refine ⟨_,qs++[r],rfl,Ax (sG.trans g1) hl,by rw [Ab,<- append_assoc];unfold vrp;rw [map_append (l₂:=[r])];rfl,fun u m=>?_,?_⟩
     ·rw [<- append_assoc] at m;rcases mem_append.mp m with m | m
      ·obtain ⟨⟨b1,b2⟩,b3⟩:=grG u m;exact ⟨⟨(b1.same g1).upd eL1 b3,b2⟩,b3⟩
      ·rw [mem_singleton.mp m];exact ⟨⟨gr1.upd eL1 rw',none_of sG hw,rl,rp⟩,rw'⟩
     ·rw [if_pos c1,Jy,emG,Fb,gj,if_pos c2]
      congr 1
      show [(r.x,r.y)]=_;rw [rx,ry]
    ·refine ifF (D1 c2) ?_;exact ⟨_,qs,rfl,sG,eLG,grG,by rw [if_pos c1,Fb,gj,if_neg c2,append_nil];exact emG⟩
   ·refine ifF (decide_eq_false c1) ?_;rw [if_neg c1] at emG;exact ⟨_,qs,rfl,sG,eLG,grG,by rw [if_neg c1];exact emG⟩
  ·rintro σ' G ⟨v6',qs,rfl,sG,eLG,grG,emG⟩;refine ⟨_,_,rs++qs,rfl,sG,eLG,grG,?_⟩;rw [Jy,em,emG,CS,gi,ol,Int.toNat_natCast]
 rintro σ' J ⟨v5,v6,rs,rfl,sJ,eL,gr,em⟩;rw [Int.toNat_natCast,<- ol] at em;symm;exact q l rs J hl sJ eL gr em
theorem FA (T:Tx K mg base ad):AK P w K mg base CX0 4 ad.f_Pairs_counted ad.d_Pairs_counted ["self","sheet"] (Lp ad.c_Pairs ad.lP):=by
 refine T.F_Pairs_counted.ok AW (fun vs H Q E h=>?_) (fun cdv A outer s H vs Q E hr h=>?_)
 ·obtain ⟨a,l,h,s,ns,ls,rfl,_⟩:=h;rfl
 obtain ⟨a,l,h,s,ns,ls,rfl,md,hl,gl,l60,lt,q⟩:=h;refine ⟨_,((@Am _ _ (2) _ _ _ _ AW.nd rfl (Or.inl rfl) (@Aj _ _ _ _ _ _ _ _ _ _ _ _ _ _ _ _ (Kf T) (hr.mono (by decide)) rfl T.m_overs T.F_overs.kp T.b_overs .nil Ao ((pv 1)*>((B6 (pv 0) rfl)*>Ad)) (by decide) (by rfl) (by rfl)) (by rfl) (by nofun))>>((@Am _ _ (3) _ _ _ _ AW.nd rfl (Or.inl rfl) (@Aj _ _ _ _ _ _ _ _ _ _ _ _ _ _ _ _ (FN T) (hr.mono (by decide)) rfl T.m_leads_of T.F_leads_of.kp T.b_leads_of .nil Ao ((pv 2)*>Ad) (by decide) (by rfl) (by rfl)) (by rfl) (by nofun))>>((@Am _ _ (4) _ _ _ _ AW.nd rfl (Or.inl rfl) (@AR _ _ _ _ Ad) (by rfl) (by nofun))>>((@Am _ _ (5) _ _ _ _ AW.nd rfl (Or.inl rfl) (@AR _ _ _ _ Ad) (by rfl) (by nofun))>>((Bz PassesOwn.never rfl (AF rfl T.z_range ((B6 (pv 0) rfl)*>Ad)) (A0 (i:=6) AW.nd rfl (Or.inl rfl)) ((@Am _ _ (7) _ _ _ _ AW.nd rfl (Or.inl rfl) (@Aj _ _ _ _ _ _ _ _ _ _ _ _ _ _ _ _ (DF T) (hr.mono (by decide)) rfl T.m_reached_from T.F_reached_from.kp T.b_reached_from .nil Ao ((pv 3)*>((pv 6)*>Ad)) (by decide) (by rfl) (by rfl)) (by rfl) (by nofun))>>((@Cz _ _ _ _ (CG PySem.F.plainAttrs_list PySem.F.slot_list_extend PySem.F.type_list_extend HU (pv 4) ((@Aj _ _ _ _ _ _ _ _ _ _ _ _ _ _ _ _ (Hz T) (hr.mono (by decide)) rfl T.m_shown_from T.F_shown_from.kp T.b_shown_from .nil Ao ((pv 7)*>((pv 6)*>Ad)) (by decide) (by rfl) (by rfl))*>Ad)) (by rfl))>>(@Ah _ _ _ (@Cz _ _ _ _ (CG PySem.F.plainAttrs_list PySem.F.slot_list_append PySem.F.type_list_append Ct (pv 5) ((@At _ _ _ _ _ _ _ BA (pv 7) Ae (fun _ _=>rfl))*>Ad)) (by rfl))))))>>(@Ah _ _ _ (@Ap _ _ _ _ (@B7 _ _ _ _ _ ((pv 2)*>((pv 4)*>((AQ (pv 0) T.cl_Pairs T.me_Pairs_picks_by (EQ T) (hr.mono (by decide)) T.b_Pairs_picks_by .nil Ao ((pv 5)*>Ad))*>Ad))))))))))),?_⟩;obtain ⟨dx,la,k1,k2⟩:=id md.is;have h1:=md.h1;have h12:=md.h12;symm;refine ⟨a,_,dx,_,_,rfl,k1,T.cl_Pairs,T.na_Pairs_hands,rfl,?_⟩;symm;refine ⟨l,ls,h,rfl,hl,gl,l60,h1,h12,fun b as H1 hb s1 nb wb eb tb=>?_⟩;symm;refine ⟨b,as,h,_,rfl,eb,tb,h12,fun c cs H2 hc nc wc s2 ec tc=>?_⟩;have eb:=s2 _ _ eb;have tb:Be H2 as h (ovF ls):=tb.same s2;have tc:Be H2 cs h (AU ls):=tc;have s2:=s1.trans s2;have lt2:=lt.same s2;subst_eqs;refine ⟨(by show 0<=sizeLine;decide),fun sh hsh=>?_⟩;have s3:=Ac hsh (.lst []);have e3:(upd H2 sh (.lst [])) sh=some (.lst (vrw [])):=Ab;generalize upd H2 sh (.lst [])=H3 at e3 s3 ⊢;subst_eqs;refine ⟨(by show 0<=sizeLine;decide),fun sg hsg=>?_⟩;have s4:=Ac hsg (.lst []);have e4:(upd H3 sg (.lst [])) sg=some (.lst (([]:Us).map fun r=>V.ref r.1)):=Ab;have ss:sg≠sh:=fun z=>by rw [z,e3] at hsg;cases hsg
 have e34:=s4 _ _ e3;have hsg2:=none_of s3 hsg;have s4:=s3.trans s4;generalize upd H3 sg (.lst [])=H4 at e4 e34 s4 ⊢;subst_eqs;refine ⟨_,rfl,a,_,dx,_,_,rfl,(s2.trans s4) _ _ k1,T.cl_Pairs,T.na_Pairs_hands,rfl,?_⟩;refine ⟨(h:Int),rfl,by omega,by omega,BJ (fun i σ' H'=>∃(v6 v7:Option V) (rows:List Rw) (us:Us),σ'=[some (V.ref a),some (.ref l),some (.ref b),some (.ref c),some (.ref sh),some (.ref sg),v6,v7]/\Sm H2 H'/\(BM ad.lP h H2->An H2 H')/\LT ad.lP H'/\(0 < i->BM ad.lP h H')/\H' sh=some (.lst (vrw rows))/\H' sg=some (.lst (us.map fun r=>V.ref r.1))/\us.length=i/\(us.map (·.1)).Nodup/\rows.map (fun q=>(q.x,q.y))=pairsOf h i/\(∀q∈rows,Fw h (AU ls) (fU us) H' q/\q.x < i/\q.w≠sh/\q.w≠sg)/\(∀k r,us[k]?=some r->r.1≠sh/\r.1≠sg/\H' r.1=some (.lst (r.2.map V.int))/\∃bf,CF h k (AU ls) r.2 bf)) ⟨none,none,[],[],rfl,Sm.of s4,(fun _=>s4),lt2.same s4,(fun z=>absurd z (Nat.lt_irrefl 0)),e34,e4,rfl,nodup_nil,rfl,(fun _ m=>absurd m List.not_mem_nil),fun k r e=>by cases e⟩ ?_ ?_⟩
 ·rintro i σ' H5 hi ⟨v6,v7,rows,us,rfl,sm,sq,lt5,lq5,esh,esg,ul,und,rp,rok,uok⟩;have ei:(0:Int)+(i:Int)=(i:Int):=Int.zero_add _;have hi':i < h:=by omega
  have rl:rows.length<=144:=by
   have a1:=congrArg List.length rp;rw [length_map] at a1;have a2:=FR (h:=h) (n:=i) (by omega);have a3:i*h<=12*12:=Nat.mul_le_mul (by omega) h12;omega
  symm;refine ⟨c,cs,h,i,AU ls,(by rw [ei];rfl),sm.lst ec,tc.sm sm,hi',h12,lt5,fun t bb f be bf H6 sm6 sq6 lq6 ht hbb hff bfn et ebb eff re=>?_⟩;have bsh:bb≠sh:=fun z=>by rw [z,esh] at hbb;cases hbb
  have bsg:bb≠sg:=fun z=>by rw [z,esg] at hbb;cases hbb
  have nbu:bb ∉ us.map (·.1):=fun m=>by
   obtain ⟨r,mr,e⟩:=mem_map.mp m;obtain ⟨k,hk⟩:=List.getElem?_of_mem mr;have:=(uok k r hk).2.2.1;rw [e,hbb] at this
   cases this
  have esh:=sm6.lst esh;have esg:=sm6.lst esg;symm;refine ⟨.inl ⟨rfl,_,SqL.of esh⟩,?_⟩;symm;refine ⟨t,h,i,AU ls,be,(by rw [ei];rfl),⟨bb,f,bf,et,ebb,eff,re⟩,hi',h12,fun r2 rows2 H7 hr2 s7 e7 ok7 mp7=>?_⟩;have esh7:=s7 _ _ esh;have esg7:=s7 _ _ esg
  have r2l:rows2.length<=12:=by
   have a1:=congrArg List.length mp7;rw [length_map,length_map] at a1;have:(Jq h i).length<=h:=Nat.le_trans (length_filter_le _ _) (by rw [length_range];exact Nat.le_refl _);omega
  refine ⟨sh,r2,_,_,rfl,rfl,esh7,e7,(by rw [Mq,Mq];exact Nat.le_of_lt (Av (by omega))),?_⟩;rw [<- L5];have t8:∀{z:Addr} {xs:List V},H7 z=some (.tup xs)->(upd H7 sh (.lst (vrw (rows++rows2)))) z=some (.tup xs):=fun e=>by rw [Ak (fun y=>by rw [y,esh7] at e;cases e)];exact e
  have l8:∀{z:Addr} {xs:List V},z≠sh->H7 z=some (.lst xs)->(upd H7 sh (.lst (vrw (rows++rows2)))) z=some (.lst xs):=fun n e=>by rw [Ak n];exact e
  have esh8:(upd H7 sh (.lst (vrw (rows++rows2)))) sh=some (.lst (vrw (rows++rows2))):=Ab;have sm8:=((sm.trans sm6).trans (Sm.of s7)).put (o:=.lst (vrw (rows++rows2))) hsh;have sq8:BM ad.lP h H2->An H2 (upd H7 sh (.lst (vrw (rows++rows2)))):=fun z=>Ax (((sq z).trans (sq6 (z.same (sq z)))).trans s7) hsh;have lq8:BM ad.lP h (upd H7 sh (.lst (vrw (rows++rows2)))):=(lq6.same s7).put esh7;generalize upd H7 sh (.lst (vrw (rows++rows2)))=H8 at t8 l8 esh8 sm8 sq8 lq8 ⊢;have esg8:=l8 ss esg7;have et8:=t8 (s7 _ _ et);symm;refine ⟨.inl ⟨rfl,_,SqL.of esg8⟩,?_⟩;symm;refine ⟨sg,_,_,rfl,rfl,esg8,(by rw [length_map];exact Av (by omega)),?_⟩;have t9:∀{z:Addr} {xs:List V},H8 z=some (.tup xs)->(upd H8 sg (.lst (us.map (fun r=>V.ref r.1)++[V.ref bb]))) z=some (.tup xs):=fun e=>by rw [Ak (fun y=>by rw [y,esg8] at e;cases e)];exact e
  have l9:∀{z:Addr} {xs:List V},z≠sg->H8 z=some (.lst xs)->(upd H8 sg (.lst (us.map (fun r=>V.ref r.1)++[V.ref bb]))) z=some (.lst xs):=fun n e=>by rw [Ak n];exact e
  refine ⟨_,_,rows++rows2,us++[(bb,be)],rfl,sm8.put hsg2,(fun z=>Ax (sq8 z) hsg2),(lq8.put esg8).1,(fun _=>lq8.put esg8),l9 (Ne.symm ss) esh8,by rw [Ab,map_append];rfl,by rw [length_append,ul];rfl,?_,by rw [map_append,rp,mp7,Fi],fun q0 m=>?_,fun k r e=>?_⟩
  ·rw [map_append];exact nodup_append.mpr ⟨und,by simp,fun x mx y my e=>nbu (by rw [<- show y=bb from mem_singleton.mp my,<- e];exact mx)⟩
  ·rcases mem_append.mp m with m | m
   ·obtain ⟨r0,r1,r3,r4⟩:=rok q0 m;have r0:=(r0.sm sm6).same s7;have r0:=r0.congr (F':=fU (us++[(bb,be)])) fun y _=>(QJ (by omega) y).symm;exact ⟨⟨t9 (t8 r0.tup),l9 r4 (l8 r3 r0.way),r0.hx,r0.hy,r0.ne,r0.str,r0.isw,r0.cutE⟩,by omega,r3,r4⟩
   ·obtain ⟨r0,r1,r3,r4⟩:=ok7 q0 m;have r5:q0.w≠sh:=fun z=>by rw [z,esh] at r4;cases r4
    have r6:q0.w≠sg:=fun z=>by rw [z,esg] at r4;cases r4
    have r0:=r0.congr (F':=fU (us++[(bb,be)])) fun y _=>by rw [r1,<- ul];exact (QF (us:=us) (r:=(bb,be)) y).symm
    exact ⟨⟨t9 (t8 r0.tup),l9 r6 (l8 r5 r0.way),r0.hx,r0.hy,r0.ne,r0.str,r0.isw,r0.cutE⟩,by omega,r5,r6⟩
  ·by_cases cc:k < us.length
   ·rw [List.getElem?_append_left cc] at e;obtain ⟨u1,u2,u3,u4⟩:=uok k r e;exact ⟨u1,u2,l9 u2 (l8 u1 (s7 _ _ (sm6.lst u3))),u4⟩
   ·rw [List.getElem?_append_right (by omega)] at e
    have ek:k=i:=by
     have:=(List.getElem?_eq_some_iff.mp e).1;rw [length_singleton] at this;omega
    rw [ek,ul,Nat.sub_self] at e
    cases Option.some.inj e
    exact ⟨bsh,bsg,l9 bsg (l8 bsh (s7 _ _ ebb)),bf,by rw [ek];exact re⟩
 ·rintro σ' H5 ⟨v6,v7,rows,us,rfl,sm,sq,lt5,lq5,esh,esg,ul,und,rp,rok,uok⟩;rw [Int.toNat_natCast] at ul rp lq5
  have tu:Be H5 (us.map (·.1)) h (fU us):=⟨by rw [length_map,ul],und,fun x z hz=>by
   rw [List.getElem?_map] at hz;obtain ⟨r,hr0,rfl⟩:=Option.map_eq_some_iff.mp hz;obtain ⟨_,_,u3,bf,re⟩:=uok x r hr0;rw [OB hr0 re.lenb];exact u3⟩
  have st:Bg h (AU ls) (fU us):=fun x hx=>by
   obtain ⟨r,hr0⟩:∃r,us[x]?=some r:=⟨_,List.getElem?_eq_getElem (by omega)⟩;obtain ⟨_,_,_,bf,re⟩:=uok x r hr0;exact ⟨bf,by rw [OB hr0 re.lenb];exact re⟩
  have smH:=(Sm.of s2).trans sm;have md5:=md.sm smH;obtain ⟨dx5,la5,k15,k25⟩:=id md5.is;symm;refine ⟨a,dx5,_,rfl,k15,rfl,?_⟩;symm;refine ⟨a,sg,us.map (·.1),h,s,ns,AU ls,fU us,rfl,md5,(by rw [esg,map_map];rfl),tu,st,fun pk H6 hpk s6 epk=>?_⟩;refine ⟨(by show 3<=sizeLine;decide),fun p hp=>?_⟩;have s7:=Ac hp (.tup [V.ref b,V.ref sh,V.ref pk]);have s67:=s6.trans s7;exact q p (fU us) _ (smH.trans (Sm.of s67)) (fun z=>((s2.trans (sq (z.same s2))).trans s67)) ((lq5 h1).same s67) (smH.gone p (none_of s6 hp)) ⟨⟨b,sh,pk,as,rows,Ab,s67 _ _ (sm.lst eb),(tb.sm sm).same s67,s67 _ _ esh,fun q0 m=>(rok q0 m).1.same s67,rp,s7 _ _ epk⟩,st⟩
theorem CZ (T:Tx K mg base ad):AK P w K mg base CX0 5 ad.f_Way_outcome ad.d_Way_outcome ["self","sheet"] (Rq ad.c_Pairs ad.lP):=by
 refine T.F_Way_outcome.ok G9 (fun vs H Q E h=>?_) (fun cdv A outer s H vs Q E hr h=>?_)
 ·obtain ⟨a,l,h,s,ns,ls,rfl,_⟩:=h;rfl
 obtain ⟨a,l,h,s,ns,ls,rfl,md,hl,gl,l60,lt,q⟩:=h;refine ⟨_,(@Ah _ _ _ (@Ap _ _ _ _ (AQ (pv 0) T.cl_Pairs T.me_Pairs_told_by (FB T) (hr.mono (by decide)) T.b_Pairs_told_by .nil Ao ((AQ (pv 0) T.cl_Pairs T.me_Pairs_counted (FA T) (hr.mono (by decide)) T.b_Pairs_counted .nil Ao ((pv 1)*>Ad))*>Ad)))),?_⟩;obtain ⟨dx,la,k1,k2⟩:=id md.is;refine ⟨_,rfl,a,dx,_,rfl,k1,rfl,?_⟩;refine ⟨_,rfl,a,dx,_,rfl,k1,rfl,_,rfl,a,l,h,s,ns,ls,rfl,md,hl,gl,l60,lt,fun p F H1 sm sq lq hp pap=>?_⟩;exact ⟨a,p,h,s,ns,ls,F,rfl,md.sm sm,pap,fun r H2 hr s2 e2=>q r F H2 (sm.trans (Sm.of s2)) (fun z=>(sq z).trans s2) (lq.same s2) e2 pap.strong⟩
theorem C8 (T:Tx K mg base ad):AK P w K mg base CX0 6 ad.f_PairsMargin_least ad.d_PairsMargin_least ["self","sheet"] (M3 ad.c_PairsMargin ad.c_Pairs ad.lP):=by
 refine T.F_PairsMargin_least.ok AI (fun vs H Q E h=>?_) (fun cdv A outer s H vs Q E hr h=>?_)
 ·obtain ⟨g,a,l,h,s,ns,ls,rfl,_⟩:=h;rfl
 obtain ⟨g,a,l,h,s,ns,ls,rfl,im,md,sh,hl,gl,l60,lt,q⟩:=h;refine ⟨_,((@Am _ _ (2) _ _ _ _ AI.nd rfl (Or.inr rfl) (AQ (pv 0) T.cl_PairsMargin T.me_PairsMargin_leads_in (BV T) (hr.mono (by decide)) T.b_PairsMargin_leads_in .nil Ao ((pv 1)*>Ad)) (by rfl) (by nofun))>>((Cw (j:=3) (fsc:=Ag Br) (N:=["self","sheet","leads","reached","paper","x","y","needed"]) (Nc:=["self","sheet","leads","reached","paper","x","y","needed","hand"]) rfl rfl (by nofun) rfl AI.nd rfl rfl (AF rfl T.z_range ((B6 (B6 (pv 0) rfl) rfl)*>Ad)) (fun _ _ _ _=>AG) (fun _ _ _ _=>(@Aj _ _ _ _ _ _ _ _ _ _ _ _ _ _ _ _ (DF T) (hr.mono (by decide)) rfl T.m_reached_from T.F_reached_from.kp T.b_reached_from .nil Ao ((pv 2)*>((pv 8)*>Ad)) (by decide) (by rfl) (by rfl))) rfl)>>((@Am _ _ (4) _ _ _ _ AI.nd rfl (Or.inl rfl) (@AR _ _ _ _ Ad) (by rfl) (by nofun))>>((Bz PassesOwn.never rfl (AD (@Aj _ _ _ _ _ _ _ _ _ _ _ _ _ _ _ _ (Dh T) (hr.mono (by decide)) rfl T.m_pairs_by_seats T.F_pairs_by_seats.kp T.b_pairs_by_seats .nil Ao ((AQ (B6 (pv 0) rfl) T.cl_Pairs T.me_Pairs_outcome (CZ T) (hr.mono (by decide)) T.b_Way_outcome .nil Ao ((pv 1)*>Ad))*>Ad) (by decide) (by rfl) (by rfl))) (Di rfl (A9 (A0 (i:=5) AI.nd rfl (Or.inl rfl)) (A9 (A0 (i:=6) AI.nd rfl (Or.inl rfl)) C0))) ((@Am _ _ (7) _ _ _ _ AI.nd rfl (Or.inl rfl) (AQ (pv 0) T.cl_PairsMargin T.me_PairsMargin_need_of (Ca T) (hr.mono (by decide)) T.b_PairsMargin_need_of .nil Ao ((pv 5)*>((pv 6)*>((@At _ _ _ _ _ _ _ Ay (@At _ _ _ _ _ _ _ BA (@At _ _ _ _ _ _ _ Ay (pv 3) (pv 5) (fun _ _=>rfl)) Ae (fun _ _=>rfl)) (pv 6) (fun _ _=>rfl))*>((@At _ _ _ _ _ _ _ Ay (@At _ _ _ _ _ _ _ BA (@At _ _ _ _ _ _ _ Ay (pv 3) (pv 6) (fun _ _=>rfl)) Ae (fun _ _=>rfl)) (pv 5) (fun _ _=>rfl))*>Ad))))) (by rfl) (by nofun))>>(@Ah _ _ _ (@Cz _ _ _ _ (CG PySem.F.plainAttrs_list PySem.F.slot_list_append PySem.F.type_list_append Ct (pv 4) ((@B7 _ _ _ _ _ ((pv 5)*>((pv 6)*>((@Aj _ _ _ _ _ _ _ _ _ _ _ _ _ _ _ _ (HN T) (hr.mono (by decide)) rfl T.m_way_by T.F_way_by.kp T.b_way_by .nil Ao ((@At _ _ _ _ _ _ _ Ay (pv 3) (pv 5) (fun _ _=>rfl))*>((pv 5)*>((pv 6)*>Ad))) (by decide) (by rfl) (by rfl))*>((@Aj _ _ _ _ _ _ _ _ _ _ _ _ _ _ _ _ (HY T) (hr.mono (by decide)) rfl T.m_cut_by T.F_cut_by.kp T.b_cut_by .nil Ao ((@At _ _ _ _ _ _ _ Ay (pv 3) (pv 6) (fun _ _=>rfl))*>((pv 6)*>((pv 5)*>Ad))) (by decide) (by rfl) (by rfl))*>((pv 7)*>Ad))))))*>Ad)) (by rfl)))))>>(@Ah _ _ _ (@Ap _ _ _ _ (@B7 _ _ _ _ _ ((@Al _ _ _ _ _ _ _ _ _ (Eh rfl) (by rfl) T.z_min PyProof.Rows.boot_min ((Bb (fsc:=Ag Br) (N:=["self","sheet","leads","reached","paper","x","y","needed"]) (Nc:=["self","sheet","leads","reached","paper","x","y","needed","row"]) rfl rfl (by nofun) rfl (AD (pv 4)) (fun _ _ _ _=>AG) (fun _ _ _ _=>(@At _ _ _ _ _ _ _ (Ei K) (pv 8) Ae (fun _ _=>rfl))))*>Ad) (by decide) (by decide) (by rfl) (by rfl))*>((pv 4)*>Ad))))))))),?_⟩;obtain ⟨dm,hg⟩:=id im;obtain ⟨dx,la,k1,k2⟩:=id md.is;have h1:=md.h1;have h12:=md.h12;symm;refine ⟨g,dm,_,rfl,hg,rfl,?_⟩;symm;refine ⟨g,a,l,h,s,ns,ls,rfl,im,md,hl,gl,l60,fun b bs H1 s1 eb tb=>?_⟩;symm;refine ⟨g,_,dm,_,_,rfl,s1 _ _ hg,T.cl_PairsMargin,T.na_PairsMargin_way,rfl,?_⟩;refine ⟨a,_,dx,_,_,rfl,s1 _ _ k1,T.cl_Pairs,T.na_Pairs_hands,rfl,?_⟩;refine ⟨_,rfl,by omega,by omega,?_⟩;rw [Int.toNat_natCast];refine Bc (A4 (by omega)) (fun D i ys J=>∃rq:List (Addr × List Int),ys=(rq.map fun q=>V.ref q.1)/\rq.length=i/\J D=some (.lst ys)/\Sm H1 J/\(BM ad.lP h H1->An H1 J)/\LT ad.lP J/\(0 < i->BM ad.lP h J)/\∀x r,rq[x]?=some r->EW (off J D) r.1 h x (AU ls) r.2) (fun D hD=>⟨[],rfl,rfl,Ab,Sm.of (Ac hD _),(fun _=>Ac hD _),(lt.same s1).same (Ac hD _),(fun z=>absurd z (Nat.lt_irrefl 0)),fun x r e=>by cases e⟩) (fun D i ys J hq_=>by obtain ⟨rq,f1,f2,f3,_⟩:=hq_;exact ⟨f3,by rw [f1,length_map,f2];exact Nat.le_refl _⟩) ?_ ?_
 ·rintro D i ys J K1 K2 hD hi ⟨rq,rfl,f2,f3,f4,f5,f6,f7,f8⟩ kk1 kk2;have ei:(0:Int)+(i:Int)=(i:Int):=Int.zero_add _;refine yes (ifT rfl ?_);symm;refine ⟨b,bs,h,i,AU ls,(by rw [ei];rfl),f4.lst eb,tb.sm f4,hi,h12,f6,fun t bb f be bf H6 sm6 sq6 lq6 ht hbb hff bfn et ebb eff re=>?_⟩;have tD:t≠D:=fun z=>by rw [z,f3] at ht;cases ht
  have bD:bb≠D:=fun z=>by rw [z,f3] at hbb;cases hbb
  have fD:f≠D:=fun z=>by rw [z,f3] at hff;cases hff
  have f36:=sm6.lst f3;refine kk1 _ _ f36 ⟨rq++[(t,be)],by rw [map_append];rfl,by rw [length_append,f2];rfl,Ab,(f4.trans sm6).put hD,(fun z=>Ax ((f5 z).trans (sq6 (z.same (f5 z)))) hD),(lq6.put f36).1,(fun _=>lq6.put f36),fun x r e=>?_⟩;rw [G3];by_cases cc:x < rq.length
  ·rw [List.getElem?_append_left cc] at e;exact (f8 x r e).on (NP sm6.keep)
  ·rw [List.getElem?_append_right (by omega)] at e
   have ex:x=i:=by
    have:=(List.getElem?_eq_some_iff.mp e).1;rw [length_singleton] at this;omega
   subst ex;rw [show x - rq.length=0 by omega] at e
   cases e
   exact ⟨bb,f,bf,CP et tD,CP ebb bD,CP eff fD,re⟩
 rintro D ys H2 hD ⟨rq,rfl,f2,f3,f4,f5,f6,f7,f8⟩;have lq2:=f7 (by omega);have told:∀x r,rq[x]?=some r->EW H2 r.1 h x (AU ls) r.2:=fun x r e=>(f8 x r e).same (F5 _ _);clear f8;subst_eqs;refine ⟨(by show 0<=sizeLine;decide),fun pp hpp=>?_⟩;have s3:=Ac hpp (.lst []);have e3:(upd H2 pp (.lst [])) pp=some (.lst (vrm [])):=Ab;generalize upd H2 pp (.lst [])=H3 at s3 e3 ⊢;have sm3:Sm H H3:=((Sm.of s1).trans f4).trans (Sm.of s3);have sq3:BM ad.lP h H->An H H3:=fun z=>(s1.trans (f5 (z.same s1))).trans s3;have im3:=im.sm sm3;obtain ⟨dm3,hg3⟩:=id im3;have md3:=md.sm sm3;obtain ⟨dx3,la3,k13,k23⟩:=id md3.is;have gl3:DN h H3 ls:=fun q m=>⟨sm3.tup (gl q m).1,sm3.tup (gl q m).2.1,(gl q m).2.2⟩;symm;refine ⟨g,_,dm3,_,_,rfl,hg3,T.cl_PairsMargin,T.na_PairsMargin_way,rfl,?_⟩;refine ⟨a,dx3,_,rfl,k13,rfl,?_⟩;symm;refine ⟨a,l,h,s,ns,ls,rfl,md3,sm3.lst hl,gl3,l60,(lq2.same s3).1,fun r F H4 sm4 sq4 lq4 er st=>?_⟩;have s34:=sq4 (lq2.same s3);refine ⟨r,Bp h (Aw F s ns),rfl,er,by rw [DV];omega,fun pl ps H5 hpl s5 ep gp em=>?_⟩;have s35:=s34.trans s5;have s25:=s3.trans s35;have e5:=s35 _ _ e3;have f35:=s25 _ _ f3;have im5:=im3.same s35;have md5:=md3.same s35;have told5:∀x r,rq[x]?=some r->EW H5 r.1 h x (AU ls) r.2:=fun x r e=>(told x r e).same s25
 have pln:ps.length<=144:=by
  have a1:=congrArg List.length em;rw [length_map] at a1;have a2:=Ep (Bp h (Aw F s ns)) (Bp h (Aw F s ns)).length;rw [DV] at a2;have a3:=Nat.mul_le_mul h12 h12;unfold BG at a1;rw [DV] at a1;omega
 have nin:∀{i:Nat},i < h->(i:Int)∈ns:=fun hi=>md.pm.mem_iff.mpr (mem_map.mpr ⟨_,mem_range.mpr hi,rfl⟩);refine ⟨pl,rfl,⟨_,SqL.of ep⟩,C4 (xs:=vpq ps) (fun i σ' J=>∃(v5 v6 v7:Option V) (rows:List Rm),σ'=[some (.ref g),some (.ref l),some (.ref b),some (.ref D),some (.ref pp),v5,v6,v7]/\An (off H5 pp) J/\An H2 J/\J pp=some (.lst (vrm rows))/\(∀q∈rows,HJ h (AU ls) F ns J q/\H2 q.w=none/\q.w≠pp)/\rows.map (fun q=>((q.x:Int),(q.y:Int)))=(ps.take i).map (·.2)) ⟨none,none,none,[],rfl,F5 _ _,s25,e5,(fun _ m=>absurd m List.not_mem_nil),rfl⟩ (fun i σ' J _ hq_=>by obtain ⟨_,_,_,_,_,e,_⟩:=hq_;exact SqL.of (e _ _ (CP ep fun z=>by rw [z,s34 _ _ e3] at hpl;cases hpl))) ?_ ?_⟩
 ·rintro i x σ' J hx ⟨v5,v6,v7,rows,rfl,sJ,sJ2,eP,gr,em2⟩
  obtain ⟨q0,hq0,ex⟩:∃q0,ps[i]?=some q0/\x=.ref q0.1:=by
   unfold vpq at hx;rw [List.getElem?_map] at hx
   cases e:ps[i]? with
   | none=>rw [e] at hx;cases hx
   | some q0=>rw [e] at hx;exact ⟨q0,rfl,(Option.some.inj hx).symm⟩
  subst ex;have mq:=mem_of_getElem? hq0;obtain ⟨u,v,hu,hv,euv,mu,mv⟩:=Fv.mp (show q0.2∈BG (Bp h (Aw F s ns)) by rw [<- em];exact mem_map.mpr ⟨q0,mq,rfl⟩);have uv:v≠u:=fun z=>mv (by rw [z];exact mu);have eq0:=gp q0 mq;have q0p:q0.1≠pp:=Du eq0 e5 (fun z=>by cases z);have eqJ:=sJ _ _ (CP eq0 q0p);rw [show q0.2.1=(u:Int) from by rw [euv],show q0.2.2=(v:Int) from by rw [euv]] at eqJ;have offJ:∀{z:Addr} {o:HO},H5 z=some o->z≠pp->J z=some o:=fun e n=>sJ _ _ (CP e n);obtain ⟨ru,hru⟩:∃r,rq[u]?=some r:=⟨_,List.getElem?_eq_getElem (by omega)⟩;obtain ⟨rv,hrv⟩:∃r,rq[v]?=some r:=⟨_,List.getElem?_eq_getElem (by omega)⟩;have tu:EW J ru.1 h u (AU ls) ru.2:=(told u ru hru).same sJ2;have tv:EW J rv.1 h v (AU ls) rv.2:=(told v rv hrv).same sJ2;obtain ⟨bu,fu,bfu,u1,u2,u3,u4⟩:=id tu.is;obtain ⟨bv,fv,bfv,w1,w2,w3,w4⟩:=id tv.is;have cu:ru.2.getD v 0=F u v:=(st.at u4 hu hv).symm;have cv:rv.2.getD u 0=F v u:=(st.at w4 hv hu).symm;have lu:v < ru.2.length:=by rw [u4.lenb];exact hv
  have lv:u < rv.2.length:=by rw [w4.lenb];exact hu
  have au:ru.2[v]?=some (F u v):=by rw [<- cu,getD_eq_getElem?_getD,List.getElem?_eq_getElem lu];rfl
  have av:rv.2[u]?=some (F v u):=by rw [<- cv,getD_eq_getElem?_getD,List.getElem?_eq_getElem lv];rfl
  have eDJ:=sJ2 _ _ f3;obtain ⟨dmJ,hgJ⟩:IsM ad.c_PairsMargin J g a:=(im.same s1).sm f4 |>.same sJ2;have mdJ:CD ad.c_Pairs J a h s ns:=((md.same s1).sm f4).same sJ2;refine ⟨q0.1,_,rfl,SqT.of eqJ,rfl,_,_,rfl,_,_,rfl,rfl,?_⟩;symm;refine ⟨g,dmJ,_,rfl,hgJ,rfl,?_⟩;symm;refine ⟨D,_,_,_,rfl,rfl,SqL.of eDJ,Bt (by rw [List.getElem?_map,hru];rfl),?_⟩;symm;refine ⟨bu,_,_,_,rfl,rfl,SqL.of u2,atN au,?_⟩;symm;refine ⟨D,_,_,_,rfl,rfl,SqL.of eDJ,Bt (by rw [List.getElem?_map,hrv];rfl),?_⟩;symm;refine ⟨bv,_,_,_,rfl,rfl,SqL.of w2,atN av,?_⟩;refine ⟨g,a,h,s,ns,(u:Int),(v:Int),F u v,F v u,rfl,⟨dmJ,hgJ⟩,mdJ.is,nin hu,nin hv,?_⟩;rw [show Ev ns (u:Int) (v:Int) (F u v) (F v u)=HS F ns (u:Int) (v:Int) from rfl];symm;refine ⟨.inl ⟨rfl,_,SqL.of eP⟩,?_⟩;symm;refine ⟨D,_,_,_,rfl,rfl,SqL.of eDJ,Bt (by rw [List.getElem?_map,hru];rfl),?_⟩;symm;refine ⟨ru.1,h,u,v,AU ls,ru.2,rfl,tu,hv,uv,h12,fun r2 ws G1 hr2 g1 er2 isw=>?_⟩;symm;refine ⟨D,_,_,_,rfl,rfl,SqL.of (g1 _ _ eDJ),Bt (by rw [List.getElem?_map,hrv];rfl),?_⟩;symm;refine ⟨rv.1,h,v,u,AU ls,rv.2,rfl,tv.same g1,hv,hu,h12,fun G2 g2=>?_⟩;symm;refine ⟨(by show 5<=sizeLine;decide),fun t ht=>?_⟩;have g12:=g1.trans g2;have g3:=Ac ht (.tup [V.int (u:Int),V.int (v:Int),V.ref r2,V.int (A1 h (Ea v u rv.2)),V.int (HS F ns (u:Int) (v:Int))]);have et:(upd G2 t (.tup [V.int (u:Int),V.int (v:Int),V.ref r2,V.int (A1 h (Ea v u rv.2)),V.int (HS F ns (u:Int) (v:Int))])) t=some (.tup [V.int (u:Int),V.int (v:Int),V.ref r2,V.int (A1 h (Ea v u rv.2)),V.int (HS F ns (u:Int) (v:Int))]):=Ab;have g13:=g12.trans g3;have eP3:=g13 _ _ eP
  have rl:rows.length<=144:=by
   have a1:=congrArg List.length em2;rw [length_map,length_map] at a1;have:=length_take_le i ps;rw [length_take] at a1;omega
  refine ⟨pp,_,_,rfl,rfl,eP3,(by rw [show (vrm rows).length=rows.length from length_map _];exact Av (by omega)),?_⟩;refine ⟨_,_,_,rows++[⟨t,u,v,r2,ws,Ea v u rv.2,HS F ns (u:Int) (v:Int)⟩],rfl,Db (sJ.trans g13),Ax (sJ2.trans g13) hpp,by rw [Ab];unfold vrm;rw [map_append];rfl,?_,?_⟩
  ·intro q m;rcases mem_append.mp m with m | m
   ·obtain ⟨a1,a2,a3⟩:=gr q m;exact ⟨(a1.same g13).upd eP3 a3,a2,a3⟩
   ·rw [mem_singleton.mp m];have rp:r2≠pp:=fun z=>by rw [z,eP] at hr2;cases hr2
    refine ⟨HJ.upd eP3 rp ⟨et,(g2.trans g3) _ _ er2,by rw [<- cu];exact isw,hu,hv,decide_eq_false fun z=>z.elim (fun z=>uv z.symm) (fun z=>Int.lt_irrefl _ z),decide_eq_true (.inl rfl),fun i j hi hj gi gj=>?_,?_,rfl⟩,none_of sJ2 hr2,rp⟩
    ·have gj:=of_decide_eq_false gj;show AU ls i j<=F v u;rw [<- cv];exact w4.cut hi hj (of_decide_eq_true gi) ⟨fun z=>gj (.inl z),Int.not_lt.mp fun z=>gj (.inr z)⟩
    ·obtain ⟨i,j,a1,a2,a3,a4,a5⟩:=w4.edge hu (Ne.symm uv);exact ⟨i,j,a1,a2,a3,a4,a5.trans cv⟩
  ·rw [map_append,em2,take_succ,hq0,map_append];show _++[((u:Int),(v:Int))]=_++[q0.2];rw [euv]
 rintro σ' J ⟨v5,v6,v7,rows,rfl,sJ,sJ2,eP,gr,em2⟩;rw [Gx,take_length] at em2
 have rl:rows.length=ps.length:=by
  have:=congrArg List.length em2;rwa [length_map,length_map] at this
 have vl:(vrm rows).length=rows.length:=length_map _;symm;refine ⟨⟨_,SqL.of eP⟩,?_⟩;refine A5 (xs:=vrm rows) (by rw [vl];exact Nat.le_of_lt (Av (by omega))) (fun D2 i ys G=>ys=((rows.take i).map (·.nd)).map V.int/\G=upd J D2 (.lst ys)) (fun D2 hD2=>⟨rfl,rfl⟩) (fun D2 i ys G hq_=>by obtain ⟨g1,g2⟩:=hq_;exact ⟨by rw [g2];exact Ab,by rw [g1,length_map,length_map];exact length_take_le _ _⟩) (fun D2 i ys G hD2 hq_=>by obtain ⟨_,g2⟩:=hq_;rw [g2];exact SqL.of (Ac hD2 _ _ _ eP)) ?_ ?_
 ·rintro D2 i x ys G K1 K2 hD2 hx ⟨g1,rfl⟩ kk1 kk2
  obtain ⟨q0,hq0,ex⟩:∃q0,rows[i]?=some q0/\x=.ref q0.t:=by
   unfold vrm at hx;rw [List.getElem?_map] at hx
   cases e:rows[i]? with
   | none=>rw [e] at hx;cases hx
   | some q0=>rw [e] at hx;exact ⟨q0,rfl,(Option.some.inj hx).symm⟩
  subst ex;have qt:=(gr q0 (mem_of_getElem? hq0)).1.tup;refine yes (ifT rfl ?_);refine ⟨_,rfl,q0.t,_,_,_,rfl,rfl,SqT.of (Ac hD2 _ _ _ qt),rfl,?_⟩;refine kk1 _ _ Ab ⟨?_,by rw [AT]⟩;rw [g1,take_succ,hq0,map_append,map_append];rfl
 rintro D2 ys G hD2 ⟨rfl,rfl⟩;rw [vl,take_length];have np:=ID st md.pm md.s1 sh;rw [<- em] at np;have pos:0 < ps.length:=length_pos_iff.mpr fun z=>np (by rw [z];rfl);refine ⟨D2,rows.map (·.nd),rfl,SqL.of Ab,by rw [length_map];omega,fun M mM lM=>?_⟩;have s6:=Ac hD2 (.lst ((rows.map (·.nd)).map V.int));generalize upd J D2 (.lst ((rows.map (·.nd)).map V.int))=J2 at s6 ⊢;symm;refine ⟨(by show 2<=sizeLine;decide),fun t ht=>?_⟩;have s7:=s6.trans (Ac ht (.tup [V.int M,V.ref pp]));rw [em] at em2;have nH:∀{z:Addr},H2 z=none->H z=none:=fun {z} e=>none_of s1 (f4.gone z e);refine q t pp rows F M _ ((((Sm.of s1).trans f4).trans (Sm.of sJ2)).trans (Sm.of s7)) (fun z=>((s1.trans (f5 (z.same s1))).trans sJ2).trans s7) ((lq2.same sJ2).same s7) Ab (nH hpp) (s7 _ _ eP) (fun q m=>⟨(gr q m).1.same s7,nH (gr q m).2.1,(gr q m).2.2⟩) em2 st mM fun q m=>lM _ (mem_map.mpr ⟨q,m,rfl⟩)
theorem A2 (T:Tx K mg base ad):AK P w K mg base CX0 6 ad.f_PairsMargin_shows ad.d_PairsMargin_shows ["self","sheet","low","paper"] (Nb ad.c_PairsMargin ad.c_Pairs ad.lP):=by
 refine T.F_PairsMargin_shows.ok C3 (fun vs H Q E h=>?_) (fun cdv A outer s H vs Q E hr h=>?_)
 ·obtain ⟨g,a,l,p,h,s,ns,ls,low,rs,rfl,_⟩:=h;rfl
 obtain ⟨g,a,l,p,h,s,ns,ls,low,rs,rfl,im,md,hl,gl,l60,lt,hp,gr,r3,q⟩:=h;refine ⟨_,((@Bi _ _ _ _ _ _ _ _ (@Ar _ _ _ _ _ _ _ _ (Jh (K:=K) hr.units) (Bb (fsc:=Ag Bq) (N:=["self","sheet","low","paper","leads"]) (Nc:=["self","sheet","low","paper","leads","row"]) rfl rfl (by nofun) rfl (AD (pv 3)) (fun _ _ _ _=>AG) (fun _ _ _ _=>(@B7 _ _ _ _ _ ((@At _ _ _ _ _ _ _ (Ei K) (pv 5) Ae (fun _ _=>rfl))*>((@At _ _ _ _ _ _ _ (Ei K) (pv 5) Ae (fun _ _=>rfl))*>Ad))))) (@Aj _ _ _ _ _ _ _ _ _ _ _ _ _ _ _ _ (Dh T) (hr.mono (by decide)) rfl T.m_pairs_by_seats T.F_pairs_by_seats.kp T.b_pairs_by_seats .nil Ao ((AQ (B6 (pv 0) rfl) T.cl_Pairs T.me_Pairs_outcome (CZ T) (hr.mono (by decide)) T.b_Way_outcome .nil Ao ((pv 1)*>Ad))*>Ad) (by decide) (by rfl) (by rfl)) (As _)) (@Ah _ _ _ (@Ap _ _ _ _ Cg)) Az)>>((@Am _ _ (4) _ _ _ _ C3.nd rfl (Or.inr rfl) (AQ (pv 0) T.cl_PairsMargin T.me_PairsMargin_leads_in (BV T) (hr.mono (by decide)) T.b_PairsMargin_leads_in .nil Ao ((pv 1)*>Ad)) (by rfl) (by nofun))>>(@Ah _ _ _ (@Ap _ _ _ _ (@Al _ _ _ _ _ _ _ _ _ (Hb rfl) (by rfl) T.z_all PyProof.Rows.boot_all ((Bb (fsc:=Ag Bq) (N:=["self","sheet","low","paper","leads"]) (Nc:=["self","sheet","low","paper","leads","row"]) rfl rfl (by nofun) rfl (AD (pv 3)) (fun _ _ _ _=>AG) (fun _ _ _ _=>(AQ (pv 0) T.cl_PairsMargin T.me_PairsMargin_row_shows (Dk T) (hr.mono (by decide)) T.b_PairsMargin_row_shows .nil Ao ((pv 4)*>((pv 2)*>((pv 5)*>Ad))))))*>Ad) (by decide) (by decide) (by rfl) (by rfl)))))),?_⟩;obtain ⟨dm,hg⟩:=id im;obtain ⟨dx,la,k1,k2⟩:=id md.is;have h1:=md.h1;have h12:=md.h12;have rl:(vrp rs).length=rs.length:=length_map ..;symm;refine ⟨⟨_,SqL.of hp⟩,?_⟩
 refine A5 (xs:=vrp rs) (by rw [rl];exact Nat.le_of_lt (Av (by omega))) (fun D i ys J=>∃ps:List (Addr × Int × Int),ys=vpq ps/\J D=some (.lst ys)/\An H J/\(∀q∈ps,J q.1=some (.tup [.int q.2.1,.int q.2.2]))/\ps.map (·.2)=AN (rs.take i)) (fun D hD=>⟨[],rfl,Ab,Ac hD _,(fun _ m=>absurd m List.not_mem_nil),rfl⟩) (fun D i ys J hq=>by
  obtain ⟨ps,f1,f2,_,_,f5⟩:=hq;refine ⟨f2,?_⟩;have e:=congrArg List.length f5;unfold AN at e;rw [length_map,length_map,length_take] at e;rw [f1];unfold vpq;rw [length_map]
  omega) (fun D i ys J hD hq=>by
  obtain ⟨_,_,_,f3,_⟩:=hq;exact SqL.of (f3 _ _ hp)) ?_ ?_
 ·rintro D i u ys J K1 K2 hD hu ⟨ps,rfl,f2,f3,f4,f5⟩ kk1 kk2
  obtain ⟨r,hr0,rfl⟩:∃r,rs[i]?=some r/\u=.ref r.t:=by
   unfold vrp at hu;rw [List.getElem?_map] at hu;obtain ⟨r,h1,h2⟩:=Option.map_eq_some_iff.mp hu;exact ⟨r,h1,h2.symm⟩
  have gt:=f3 _ _ (gr r (mem_of_getElem? hr0)).1.t;refine yes (ifT rfl ?_);symm;refine ⟨(by show 2<=sizeLine;decide),fun t ht=>?_⟩;have j1:=Ac ht (.tup [V.int r.x,V.int r.y]);have et:(upd J t (.tup [V.int r.x,V.int r.y])) t=some (.tup [V.int r.x,V.int r.y]):=Ab;generalize upd J t (.tup [V.int r.x,V.int r.y])=J1 at j1 et ⊢;have eD:=j1 _ _ f2;have tu:∀{c:Addr} {us:List V},J1 c=some (.tup us)->(upd J1 D (.lst (vpq ps++[V.ref t]))) c=some (.tup us):=fun ec=>by rw [Ak (Du ec eD (fun z=>by cases z))];exact ec
  refine kk1 _ _ eD ⟨ps++[(t,r.x,r.y)],by unfold vpq;rw [map_append];rfl,Ab,Ax (f3.trans j1) hD,fun z m=>?_,?_⟩
  ·rcases mem_append.mp m with m | m
   ·exact tu (j1 _ _ (f4 z m))
   ·rw [mem_singleton.mp m];exact tu et
  ·rw [map_append,f5,take_succ,hr0];unfold AN;rw [map_append];rfl
 rintro D ys H1 hD ⟨ps,rfl,f2,s1,f4,f5⟩;rw [rl,take_length] at f5;have im1:=im.same s1;have md1:=md.same s1;obtain ⟨dm1,hg1⟩:=id im1;obtain ⟨dx1,la1,k11,k21⟩:=id md1.is;have gl1:DN h H1 ls:=fun q m=>⟨s1 _ _ (gl q m).1,s1 _ _ (gl q m).2.1,(gl q m).2.2⟩;symm;refine ⟨g,_,dm1,_,_,rfl,hg1,T.cl_PairsMargin,T.na_PairsMargin_way,rfl,?_⟩;refine ⟨a,dx1,_,rfl,k11,rfl,?_⟩;symm;refine ⟨a,l,h,s,ns,ls,rfl,md1,s1 _ _ hl,gl1,l60,lt.same s1,fun ro F H2 sm2 sq2 lq2 er st=>?_⟩;refine ⟨ro,Bp h (Aw F s ns),rfl,er,by rw [DV];omega,fun pl qs H3 hpl s3 ep gp em=>?_⟩;have sm3:Sm H H3:=((Sm.of s1).trans sm2).trans (Sm.of s3);have sq3:BM ad.lP h H->An H H3:=fun z=>(s1.trans (sq2 (z.same s1))).trans s3;have lq3:=lq2.same s3;have sm13:Sm H1 H3:=sm2.trans (Sm.of s3);have r1:Rep K H3 (.ref D) (.list ((ps.map (·.2)).map piD)):=.lst (SqL.of (sm13.lst f2)) (JA fun q m=>sm13.tup (f4 q m));have r2:Rep K H3 (.ref pl) (.list ((qs.map (·.2)).map piD)):=.lst (SqL.of ep) (JA gp);rw [f5] at r1;rw [em] at r2;have qf:=q F;refine ⟨_,_,r1,r2,(Ml _).shaped (by decide),(Ml _).shaped (by decide),?_⟩;rw [show PyData.eqv (.list ((AN rs).map piD)) (.list ((BG (Bp h (Aw F s ns))).map piD))=decide (AN rs=BG (Bp h (Aw F s ns))) from Mf _ _];by_cases c:AN rs=BG (Bp h (Aw F s ns))
 ·rw [decide_eq_true c];unfold DL at qf;rw [decide_eq_true c] at qf;have im3:=im.sm sm3;have md3:=md.sm sm3;obtain ⟨dm3,hg3⟩:=id im3;have gl3:DN h H3 ls:=fun q m=>⟨sm3.tup (gl q m).1,sm3.tup (gl q m).2.1,(gl q m).2.2⟩;symm;refine ⟨g,dm3,_,rfl,hg3,rfl,?_⟩;symm;refine ⟨g,a,l,h,s,ns,ls,rfl,im3,md3,sm3.lst hl,gl3,l60,fun b bs H4 s4 eb tb=>?_⟩;have hp4:=s4 _ _ (sm3.lst hp);symm;refine ⟨⟨_,SqL.of hp4⟩,?_⟩
  refine A5 (xs:=vrp rs) (by rw [rl];exact Nat.le_of_lt (Av (by omega))) (fun D2 i ys J=>ys=((rs.take i).map (NL h (AU ls) ns low)).map V.bl/\J D2=some (.lst ys)/\An H4 J) (fun D2 hD2=>⟨rfl,Ab,Ac hD2 _⟩) (fun D2 i ys J hq=>by
   obtain ⟨f1,f2,_⟩:=hq
   exact ⟨f2,by rw [f1,length_map,length_map];exact length_take_le _ _⟩) (fun D2 i ys J hD2 hq=>by
   obtain ⟨_,_,f3⟩:=hq;exact SqL.of (f3 _ _ hp4)) ?_ ?_
  ·rintro D2 i u ys J K1 K2 hD2 hu ⟨g1,g2,g3⟩ kk1 kk2
   obtain ⟨r,hr0,rfl⟩:∃r,rs[i]?=some r/\u=.ref r.t:=by
    unfold vrp at hu;rw [List.getElem?_map] at hu;obtain ⟨r,h1,h2⟩:=Option.map_eq_some_iff.mp hu;exact ⟨r,h1,h2.symm⟩
   have rm:=mem_of_getElem? hr0;obtain ⟨x,y,hx,hy,exy,_⟩:=Fv.mp (show (r.x,r.y)∈BG (Bp h (Aw F s ns)) by rw [<- c];exact mem_map.mpr ⟨r,rm,rfl⟩);have ex:r.x=(x:Int):=congrArg Prod.fst exy;have ey:r.y=(y:Int):=congrArg Prod.snd exy;have s4J:=g3;have gJ:RpG J r:=⟨s4J _ _ (s4 _ _ (sm3.tup (gr r rm).1.t)),s4J _ _ (s4 _ _ (sm3.lst (gr r rm).1.w))⟩;obtain ⟨dmJ,hgJ⟩:=id ((im3.same s4).same s4J);refine yes (ifT rfl ?_);symm;refine ⟨g,dmJ,_,rfl,hgJ,rfl,?_⟩;symm;refine ⟨g,a,b,bs,h,s,ns,AU ls,low,r,rfl,(im3.same s4).same s4J,(md3.same s4).same s4J,s4J _ _ eb,tb.same s4J,gJ,(gr r rm).2,by omega,by omega,by omega,by omega,fun J1 j1=>?_⟩;refine kk1 _ _ (j1 _ _ g2) ⟨?_,Ab,Ax (g3.trans j1) hD2⟩;rw [g1,take_succ,hr0,map_append,map_append];rfl
  rintro D2 ys H5 hD2 ⟨rfl,g2,g3⟩;rw [rl,take_length] at g2;refine ⟨D2,_,rfl,SqL.of g2,?_⟩;have:=qf H5 (sm3.trans (Sm.of (s4.trans g3))) (fun z=>(sq3 z).trans (s4.trans g3)) (lq3.same (s4.trans g3)) st;rw [Bool.true_and] at this;rw [all_map];exact this
 ·rw [decide_eq_false c];symm;have:=qf H3 sm3 sq3 lq3 st;unfold DL at this;rw [decide_eq_false c,Bool.false_and] at this;exact this
theorem Re (T:Tx K mg base ad):AK P w K mg base CX0 7 ad.f_law ad.d_law ["_law_script"] (LG K ad.lP):=by
 refine T.F_law.ok B3 (fun vs H Q E h=>?_) (fun cdv A outer s H vs Q E hr h=>?_)
 ·obtain ⟨p,ns,rfl,_⟩:=h;rfl
 obtain ⟨p,ns,rfl,hS,h63,hP,q⟩:=h;refine ⟨_,((@Am _ _ (1) _ _ _ _ B3.nd rfl (Or.inl rfl) (AC<&>(Ae<|>(AA<&>((@Aj _ _ _ _ _ _ _ _ _ _ _ _ _ _ _ _ (AV T) (hr.mono (by decide)) rfl T.m_law_cell T.F_law_cell.kp T.b_law_cell .nil Ao ((pv 0)*>(Ae*>Ad)) (by decide) (by rfl) (by rfl))<|>Ae)))) (by rfl) (by nofun))>>((@Am _ _ (2) _ _ _ _ B3.nd rfl (Or.inl rfl) (AC<&>(Ae<|>(AA<&>((AO<&>((@Aj _ _ _ _ _ _ _ _ _ _ _ _ _ _ _ _ (AV T) (hr.mono (by decide)) rfl T.m_law_cell T.F_law_cell.kp T.b_law_cell .nil Ao ((pv 0)*>(Ae*>Ad)) (by decide) (by rfl) (by rfl))<|>Ae))<|>(BB<&>((pv 1)<|>Ae)))))) (by rfl) (by nofun))>>((@Am _ _ (3) _ _ _ _ B3.nd rfl (Or.inl rfl) (@Aj _ _ _ _ _ _ _ _ _ _ _ _ _ _ _ _ (DY T) (hr.mono (by decide)) rfl T.m_law_lots T.F_law_lots.kp T.b_law_lots .nil Ao ((@Aj _ _ _ _ _ _ _ _ _ _ _ _ _ _ _ _ (AV T) (hr.mono (by decide)) rfl T.m_law_cell T.F_law_cell.kp T.b_law_cell .nil Ao ((pv 0)*>(Ae*>Ad)) (by decide) (by rfl) (by rfl))*>((pv 1)*>Ad)) (by decide) (by rfl) (by rfl)) (by rfl) (by nofun))>>((@Am _ _ (4) _ _ _ _ B3.nd rfl (Or.inl rfl) (@At _ _ _ _ _ _ _ Ay (@AR _ _ _ _ (Ae*>((FF<&>(Ae<|>Ae))*>Ad))) (AA<&>((AO<&>((@Aj _ _ _ _ _ _ _ _ _ _ _ _ _ _ _ _ (AV T) (hr.mono (by decide)) rfl T.m_law_cell T.F_law_cell.kp T.b_law_cell .nil Ao ((pv 0)*>(Ae*>Ad)) (by decide) (by rfl) (by rfl))<|>Ae))<|>Ae)) (fun _ _=>rfl)) (by rfl) (by nofun))>>((@Am _ _ (5) _ _ _ _ B3.nd rfl (Or.inl rfl) (@Aj _ _ _ _ _ _ _ _ _ _ _ _ _ _ _ _ (IQ T) (hr.mono (by decide)) rfl T.m_law_sheet T.F_law_sheet.kp T.b_law_sheet .nil Ao ((pv 0)*>(Ae*>((pv 1)*>((AC<&>(Ae<|>(AA<&>((AO<&>((@Aj _ _ _ _ _ _ _ _ _ _ _ _ _ _ _ _ (AV T) (hr.mono (by decide)) rfl T.m_law_cell T.F_law_cell.kp T.b_law_cell .nil Ao ((pv 0)*>(Ae*>Ad)) (by decide) (by rfl) (by rfl))<|>Ae))<|>Ae))))*>((pv 4)*>Ad))))) (by decide) (by rfl) (by rfl)) (by rfl) (by nofun))>>((@Am _ _ (6) _ _ _ _ B3.nd rfl (Or.inl rfl) (Ji T.mk_Pairs (K0 T) (hr.mono (by decide)) rfl T.m_Pairs T.b_Way_init .nil Ao ((pv 1)*>((pv 2)*>((@AJ _ _ _ _ _ _ _ _ _ AB (by rfl) T.z_list PyProof.Rows.boot_list ((pv 3)*>Ad) (by decide) (by decide) (by rfl) (by rfl))*>Ad)))) (by rfl) (by nofun))>>((@Am _ _ (7) _ _ _ _ B3.nd rfl (Or.inl rfl) (Ji T.mk_PairsMargin (Ec T) (hr.mono (by decide)) rfl T.m_PairsMargin T.b_Margin_init .nil Ao ((pv 6)*>Ad)) (by rfl) (by nofun))>>((@Am _ _ (8) _ _ _ _ B3.nd rfl (Or.inl rfl) (@Aj _ _ _ _ _ _ _ _ _ _ _ _ _ _ _ _ (Jo T) (hr.mono (by decide)) rfl T.m_law_paper T.F_law_paper.kp T.b_law_paper .nil Ao ((@Aj _ _ _ _ _ _ _ _ _ _ _ _ _ _ _ _ (Jv T) (hr.mono (by decide)) rfl T.m_law_leads T.F_law_leads.kp T.b_law_leads .nil Ao ((pv 5)*>((pv 1)*>Ad)) (by decide) (by rfl) (by rfl))*>((AQ (pv 6) T.cl_Pairs T.me_Pairs_outcome (CZ T) (hr.mono (by decide)) T.b_Way_outcome .nil Ao ((@AJ _ _ _ _ _ _ _ _ _ AB (by rfl) T.z_list PyProof.Rows.boot_list ((pv 5)*>Ad) (by decide) (by decide) (by rfl) (by rfl))*>Ad))*>((pv 3)*>((@Aj _ _ _ _ _ _ _ _ _ _ _ _ _ _ _ _ (AV T) (hr.mono (by decide)) rfl T.m_law_cell T.F_law_cell.kp T.b_law_cell .nil Ao ((pv 0)*>(Ae*>Ad)) (by decide) (by rfl) (by rfl))*>Ad)))) (by decide) (by rfl) (by rfl)) (by rfl) (by nofun))>>((@Am _ _ (9) _ _ _ _ B3.nd rfl (Or.inl rfl) (@Al _ _ _ _ _ _ _ _ _ (Eh rfl) (by rfl) T.z_min PyProof.Rows.boot_min ((Bb (fsc:=Ag Mr) (N:=["_law_script","_law_hands","_law_seats","_law_lots_here","_law_most","_law_sheet_here","_law_way","_law_margin","_law_paper_here","_law_lowest","_law_lent","_law_lower","_law_low","_law_spoilt_here","_law_told","_law_other","_law_low_other","_law_told_other"]) (Nc:=["_law_script","_law_hands","_law_seats","_law_lots_here","_law_most","_law_sheet_here","_law_way","_law_margin","_law_paper_here","_law_lowest","_law_lent","_law_lower","_law_low","_law_spoilt_here","_law_told","_law_other","_law_low_other","_law_told_other","_law_one_here"]) rfl rfl (by nofun) rfl (AD (pv 8)) (fun _ _ _ _=>AG) (fun _ _ _ _=>(@At _ _ _ _ _ _ _ (Ei K) (pv 18) Ae (fun _ _=>rfl))))*>Ad) (by decide) (by decide) (by rfl) (by rfl)) (by rfl) (by nofun))>>((OC (j:=10) (fsc:=Ag Mr) (N:=["_law_script","_law_hands","_law_seats","_law_lots_here","_law_most","_law_sheet_here","_law_way","_law_margin","_law_paper_here","_law_lowest","_law_lent","_law_lower","_law_low","_law_spoilt_here","_law_told","_law_other","_law_low_other","_law_told_other"]) (Nc:=["_law_script","_law_hands","_law_seats","_law_lots_here","_law_most","_law_sheet_here","_law_way","_law_margin","_law_paper_here","_law_lowest","_law_lent","_law_lower","_law_low","_law_spoilt_here","_law_told","_law_other","_law_low_other","_law_told_other","_law_x","_law_y","_law_some","_law_cut","_law_many"]) rfl rfl ⟨rfl,by decide +kernel,by decide +kernel,by decide +kernel,by decide +kernel,rfl,by decide +kernel,rfl,by decide +kernel⟩ rfl B3.nd rfl rfl (AD (pv 8)) (fun _ _ _ _=>AG) (fun _ _ _ _=>(@B7 _ _ _ _ _ ((pv 18)*>((pv 19)*>((@AJ _ _ _ _ _ _ _ _ _ (Ez K) (by rfl) T.z_list PyProof.Rows.boot_list ((pv 20)*>Ad) (by decide) (by decide) (by rfl) (by rfl))*>((pv 21)*>((pv 22)*>Ad))))))) rfl)>>((@Am _ _ (11) _ _ _ _ B3.nd rfl (Or.inl rfl) (AA<&>((@Aj _ _ _ _ _ _ _ _ _ _ _ _ _ _ _ _ (BI T) (hr.mono (by decide)) rfl T.m_law_mixed T.F_law_mixed.kp T.b_law_mixed .nil Ao ((@Aj _ _ _ _ _ _ _ _ _ _ _ _ _ _ _ _ (AV T) (hr.mono (by decide)) rfl T.m_law_cell T.F_law_cell.kp T.b_law_cell .nil Ao ((pv 0)*>(Ae*>Ad)) (by decide) (by rfl) (by rfl))*>(Ae*>Ad)) (by decide) (by rfl) (by rfl))<|>(AC<&>((pv 9)<|>Ae)))) (by rfl) (by nofun))>>((Bz PassesOwn.never rfl (AD (@AR _ _ _ _ ((pv 9)*>((pv 11)*>((BB<&>((pv 9)<|>(pv 11)))*>Ad))))) (A0 (i:=12) B3.nd rfl (Or.inl rfl)) (@Ah _ _ _ (@Bi _ _ _ _ _ _ _ _ (@Ar _ _ _ _ _ _ _ _ Ek (AQ (pv 7) T.cl_PairsMargin T.me_PairsMargin_shows (A2 T) (hr.mono (by decide)) T.b_PairsMargin_shows .nil Ao ((@AJ _ _ _ _ _ _ _ _ _ AB (by rfl) T.z_list PyProof.Rows.boot_list ((pv 5)*>Ad) (by decide) (by decide) (by rfl) (by rfl))*>((pv 12)*>((pv 10)*>Ad)))) Cg (As _)) (@Ah _ _ _ (@Ap _ _ _ _ Cg)) Az)))>>((@Bi _ _ _ _ _ _ _ _ (PW.pt (@FS _ _ _ _ _ _ _ (@Ar _ _ _ _ _ _ _ _ Ek (AQ (pv 7) T.cl_PairsMargin T.me_PairsMargin_shows (A2 T) (hr.mono (by decide)) T.b_PairsMargin_shows .nil Ao ((@AJ _ _ _ _ _ _ _ _ _ AB (by rfl) T.z_list PyProof.Rows.boot_list ((pv 5)*>Ad) (by decide) (by decide) (by rfl) (by rfl))*>((AC<&>((AC<&>((pv 9)<|>Ae))<|>(pv 11)))*>((pv 10)*>Ad)))) Cg (As _)) (@EC _ _ _ _ (@Ar _ _ _ _ _ _ _ _ (Jh (K:=K) hr.units) (pv 10) (pv 8) (As _))))) (@Ah _ _ _ (@Ap _ _ _ _ Cg)) Az)>>((@Am _ _ (13) _ _ _ _ B3.nd rfl (Or.inl rfl) (@Aj _ _ _ _ _ _ _ _ _ _ _ _ _ _ _ _ (HG T) (hr.mono (by decide)) rfl T.m_law_spoilt T.F_law_spoilt.kp T.b_law_spoilt .nil Ao ((pv 8)*>((@Aj _ _ _ _ _ _ _ _ _ _ _ _ _ _ _ _ (BI T) (hr.mono (by decide)) rfl T.m_law_mixed T.F_law_mixed.kp T.b_law_mixed .nil Ao ((@Aj _ _ _ _ _ _ _ _ _ _ _ _ _ _ _ _ (AV T) (hr.mono (by decide)) rfl T.m_law_cell T.F_law_cell.kp T.b_law_cell .nil Ao ((pv 0)*>(Ae*>Ad)) (by decide) (by rfl) (by rfl))*>(Ae*>Ad)) (by decide) (by rfl) (by rfl))*>((pv 1)*>Ad))) (by decide) (by rfl) (by rfl)) (by rfl) (by nofun))>>((@Bi _ _ _ _ _ _ _ _ (@Ar _ _ _ _ _ _ _ _ Ek (AQ (pv 7) T.cl_PairsMargin T.me_PairsMargin_shows (A2 T) (hr.mono (by decide)) T.b_PairsMargin_shows .nil Ao ((@AJ _ _ _ _ _ _ _ _ _ AB (by rfl) T.z_list PyProof.Rows.boot_list ((pv 5)*>Ad) (by decide) (by decide) (by rfl) (by rfl))*>((@Al _ _ _ _ _ _ _ _ _ (F3 rfl) (by rfl) T.z_min PyProof.Rows.boot_min ((pv 11)*>(Ae*>Ad)) (by decide) (by decide) (by rfl) (by rfl))*>((pv 13)*>Ad)))) Cg (As _)) (@Ah _ _ _ (@Ap _ _ _ _ Cg)) Az)>>((@Bi _ _ _ _ _ _ _ _ (@Ar _ _ _ _ _ _ _ _ Ek (AQ (pv 7) T.cl_PairsMargin T.me_PairsMargin_shows (A2 T) (hr.mono (by decide)) T.b_PairsMargin_shows .nil Ao ((@AJ _ _ _ _ _ _ _ _ _ AB (by rfl) T.z_list PyProof.Rows.boot_list ((pv 5)*>Ad) (by decide) (by decide) (by rfl) (by rfl))*>((BB<&>(Ae<|>(pv 11)))*>((@AR _ _ _ _ Ad)*>Ad)))) Cg (As _)) (@Ah _ _ _ (@Ap _ _ _ _ Cg)) Az)>>((Ee (AQ (pv 7) T.cl_PairsMargin T.me_PairsMargin_least (C8 T) (hr.mono (by decide)) T.b_PairsMargin_least .nil Ao ((@AJ _ _ _ _ _ _ _ _ _ AB (by rfl) T.z_list PyProof.Rows.boot_list ((pv 5)*>Ad) (by decide) (by decide) (by rfl) (by rfl))*>Ad)) (Di rfl (A9 (A0 (i:=12) B3.nd rfl (Or.inl rfl)) (A9 (A0 (i:=14) B3.nd rfl (Or.inl rfl)) C0))))>>((@Bi _ _ _ _ _ _ _ _ (@Ar _ _ _ _ _ _ _ _ Ek (AQ (pv 7) T.cl_PairsMargin T.me_PairsMargin_shows (A2 T) (hr.mono (by decide)) T.b_PairsMargin_shows .nil Ao ((@AJ _ _ _ _ _ _ _ _ _ AB (by rfl) T.z_list PyProof.Rows.boot_list ((pv 5)*>Ad) (by decide) (by decide) (by rfl) (by rfl))*>((pv 12)*>((pv 14)*>Ad)))) Cg (As _)) (@Ah _ _ _ (@Ap _ _ _ _ Cg)) Az)>>((@Am _ _ (15) _ _ _ _ B3.nd rfl (Or.inl rfl) (@AR _ _ _ _ ((@B7 _ _ _ _ _ ((@B7 _ _ _ _ _ ((CT<&>(Ae<|>(AA<&>((@Aj _ _ _ _ _ _ _ _ _ _ _ _ _ _ _ _ (AV T) (hr.mono (by decide)) rfl T.m_law_cell T.F_law_cell.kp T.b_law_cell .nil Ao ((pv 0)*>(Ae*>Ad)) (by decide) (by rfl) (by rfl))<|>(pv 1)))))*>Ad))*>(Ae*>Ad)))*>Ad)) (by rfl) (by nofun))>>((Ee (AQ (Ji T.mk_PairsMargin (Ec T) (hr.mono (by decide)) rfl T.m_PairsMargin T.b_Margin_init .nil Ao ((pv 6)*>Ad)) T.cl_PairsMargin T.me_PairsMargin_least (C8 T) (hr.mono (by decide)) T.b_PairsMargin_least .nil Ao ((@AJ _ _ _ _ _ _ _ _ _ AB (by rfl) T.z_list PyProof.Rows.boot_list ((pv 15)*>Ad) (by decide) (by decide) (by rfl) (by rfl))*>Ad)) (Di rfl (A9 (A0 (i:=16) B3.nd rfl (Or.inl rfl)) (A9 (A0 (i:=17) B3.nd rfl (Or.inl rfl)) C0))))>>((@Bi _ _ _ _ _ _ _ _ (PW.pt (@FS _ _ _ _ _ _ _ (@Ar _ _ _ _ _ _ _ _ Ek (AQ (pv 7) T.cl_PairsMargin T.me_PairsMargin_shows (A2 T) (hr.mono (by decide)) T.b_PairsMargin_shows .nil Ao ((pv 15)*>((pv 16)*>((pv 17)*>Ad)))) Cg (As _)) (@EC _ _ _ _ (@CU _ _ _ (AQ (pv 7) T.cl_PairsMargin T.me_PairsMargin_shows (A2 T) (hr.mono (by decide)) T.b_PairsMargin_shows .nil Ao ((pv 15)*>((AC<&>((pv 16)<|>Ae))*>((pv 17)*>Ad)))) (by intro _;rfl))))) (@Ah _ _ _ (@Ap _ _ _ _ Cg)) Az)>>(@Ah _ _ _ (@Ap _ _ _ _ (@Dy _ _ _ _ _ _ _ (@C1 _ _ _ _ _ _ _ _ NA (AQ (pv 7) T.cl_PairsMargin T.me_PairsMargin_shows (A2 T) (hr.mono (by decide)) T.b_PairsMargin_shows .nil Ao ((@AJ _ _ _ _ _ _ _ _ _ AB (by rfl) T.z_list PyProof.Rows.boot_list ((pv 5)*>Ad) (by decide) (by decide) (by rfl) (by rfl))*>((AC<&>((pv 12)<|>Ae))*>((pv 14)*>Ad)))) Cg (As _)) (@Ef _ _ _ _ _ (@C1 _ _ _ _ _ _ _ _ NA (AQ (pv 7) T.cl_PairsMargin T.me_PairsMargin_shows (A2 T) (hr.mono (by decide)) T.b_PairsMargin_shows .nil Ao ((@AJ _ _ _ _ _ _ _ _ _ AB (by rfl) T.z_list PyProof.Rows.boot_list ((pv 5)*>Ad) (by decide) (by decide) (by rfl) (by rfl))*>((pv 9)*>((pv 10)*>Ad)))) Cg (As _))))))))))))))))))))))))))),?_⟩;symm;refine ⟨p,ns,0,rfl,hS,h63,by decide,by decide,fun c c0 c1=>?_⟩;symm;have m4:=AH c (show (0:Int) < 4 by decide);dsimp only;generalize c.fmod 4=n' at m4 ⊢;obtain ⟨n,en⟩:∃n:Nat,2+n'=(n:Int):=⟨(2+n').toNat,by omega⟩;rw [en];have n2:2<=n:=by omega
 have n5:n<=5:=by omega
 clear en m4;symm;refine ⟨p,ns,0,rfl,hS,h63,by decide,by decide,fun c2 d0 d1=>?_⟩;have szc2:=EA d0 d1;symm;refine ⟨(by show (_:Int)≠0;omega),?_⟩;have ms:=AH (c2.fdiv 4) (show (0:Int) < (n:Int) - 1 by omega);dsimp only;generalize (c2.fdiv 4).fmod ((n:Int) - 1)=s' at ms ⊢;obtain ⟨s,es⟩:∃s:Nat,1+s'=(s:Int):=⟨(1+s').toNat,by omega⟩;symm;dsimp only;rw [es];have s1':1<=s:=by omega
 have sn:s < n:=by omega
 clear es ms;symm;refine ⟨p,ns,1,rfl,hS,h63,by decide,by decide,fun c5 k0 k1=>?_⟩;symm;refine ⟨c5,(n:Int),rfl,EA k0 k1,by omega,by omega,fun lo os H1 s1 eo pm=>?_⟩;rw [Int.toNat_natCast] at pm;symm;refine ⟨(by show 2<=sizeLine;decide),fun a2 ha2=>?_⟩;have s2:=Ac ha2 (.lst [V.int 12,V.int ((10:Int) ^ (9:Int).toNat)]);have e2:(upd H1 a2 (.lst [V.int 12,V.int ((10:Int) ^ (9:Int).toNat)])) a2=some (.lst [V.int 12,V.int ((10:Int) ^ (9:Int).toNat)]):=Ab;generalize upd H1 a2 (.lst [V.int 12,V.int ((10:Int) ^ (9:Int).toNat)])=H2 at s2 e2 ⊢;have s12:=s1.trans s2;symm;refine ⟨p,ns,0,rfl,s12.seq hS,h63,by decide,by decide,fun c3 f0 f1=>?_⟩;have szc3:=EA f0 f1;symm;have m2:=AH (c3.fdiv 16) (show (0:Int) < 2 by decide);obtain ⟨most,hm,o1,o9⟩:=Sd m2.1 m2.2;refine ⟨a2,_,_,_,rfl,rfl,SqL.of e2,hm,?_⟩;symm;refine ⟨p,ns,0,rfl,s12.seq hS,h63,by decide,by decide,fun c4 g0 g1=>?_⟩;have szc4:=EA g0 g1;symm;have m4:=AH (c4.fdiv 32) (show (0:Int) < 5 by decide);dsimp only;generalize (c4.fdiv 32).fmod 5=m' at m4 ⊢;obtain ⟨m,rfl⟩:∃m:Nat,m'=(m:Int) - 1:=⟨(m'+1).toNat,by omega⟩;refine ⟨p,ns,5,n,m,most,by rw [show (1:Int)+((m:Int) - 1)=(m:Int) by omega];rfl,s12.seq hS,h63,by decide,by decide,by omega,by omega,by omega,by omega,o1,o9,fun l ls H3 hl s3 el gs dr=>?_⟩;have s13:=s12.trans s3;have lsl:ls.length<=13:=by have:=dr.len;unfold Hr at this;rwa [length_map] at this
 have osub:∀w∈os,∃i:Nat,i < n/\w=(i:Int):=fun w m=>by
  obtain ⟨i,im,e⟩:=mem_map.mp (pm.mem_iff.mp m);exact ⟨i,mem_range.mp im,e.symm⟩
 have eo3:=(s2.trans s3) _ _ eo;symm;intro lc hlc;have s4:=Ac hlc (.lst (os.map V.int));have e4:(upd H3 lc (.lst (os.map V.int))) lc=some (.lst (os.map V.int)):=Ab;generalize upd H3 lc (.lst (os.map V.int))=H4 at s4 e4 ⊢;intro a dx ha hdx ne;have k1:An H4 (upd (upd H4 dx (.own a)) a (.ins ad.c_Pairs dx [])):=(Ac hdx _).trans (Ac (by rw [Ak (Ne.symm ne)];exact ha) _);refine ⟨a,ad.c_Pairs,dx,n,s,.ref lc,os,rfl,Ab,T.cl_Pairs,T.na_Pairs_hands,T.na_Pairs_seats,T.na_Pairs_lots,by omega,by omega,by omega,by omega,.inr ⟨lc,rfl,k1 _ _ e4,pm⟩,fun l' H5 _ _ s5 a5 l5=>?_⟩;rw [G3] at s5;have s5:=(Li (Ac hdx (.own a)) ha).trans s5;clear k1;refine ⟨rfl,?_⟩;have md5:CD ad.c_Pairs H5 a n s os:=⟨⟨dx,l',a5,l5⟩,pm,by omega,by omega,by omega,by omega⟩;symm;intro g dg hg hdg neg;refine ⟨g,ad.c_PairsMargin,dg,a,rfl,Ab,T.cl_PairsMargin,T.na_PairsMargin_way,fun H6 s6 eg=>?_⟩;rw [G3] at s6;have s6:=(Li (Ac hdg (.own g)) hg).trans s6;refine ⟨rfl,?_⟩;have s36:=(s4.trans s5).trans s6;have sH6:=s13.trans s36;have im6:IsM ad.c_PairsMargin H6 g a:=⟨dg,eg⟩;have md6:=md5.same s6;have el6:=s36 _ _ el;have gs6:=gs.same s36;have eo6:=s36 _ _ eo3;have lt6:LT ad.lP H6:=.inl (sH6 _ _ hP);have hS6:=sH6.seq hS;have okl:∀q∈Hr ls,OkA n q.1:=fun q m=>(dr.ok q m).1;clear hS eo eo3 e4 a5 l5 hlc hl el gs e2 ha2 md5;symm;refine ⟨l,ls,n,rfl,el6,gs6,okl,by omega,by omega,by omega,fun b bs H7 s7 eb tb=>?_⟩;obtain ⟨dxz,laz,kz1,kz2⟩:=id (md6.same s7).is;symm;refine ⟨a,dxz,_,rfl,kz1,rfl,?_⟩;have el7:=s7 _ _ el6;symm;intro lb hlb;have s8:=Ac hlb (.lst (vls ls));have e8:(upd H7 lb (.lst (vls ls))) lb=some (.lst (vls ls)):=Ab;generalize upd H7 lb (.lst (vls ls))=H8 at s8 e8 ⊢;have s68:=s7.trans s8;refine ⟨a,lb,n,s,os,ls,rfl,md6.same s68,e8,BK (gs6.same s68) okl,by omega,lt6.same s68,fun ro F H9 sm9 _ lq9 er st=>?_⟩;have sm69:Sm H6 H9:=(Sm.of s68).trans sm9;have el9:=sm69.lst el6;have gs9:Cj H9 ls:=fun q m=>⟨sm69.tup (gs6 q m).1,sm69.tup (gs6 q m).2⟩;have gl9:DN n H9 ls:=BK gs9 okl;have md9:=md6.sm sm69;have im9:=im6.sm sm69;have hS9:SqL K H9 p (ns.map V.int):=sm69.seq hS6;have eo9:=sm69.lst eo6;have sm79:Sm H7 H9:=(Sm.of s8).trans sm9;have eb9:=sm79.lst eb;have tb9:=tb.sm sm79;obtain ⟨out,eout⟩:∃out,out=Bp n (Aw F s os):=⟨_,rfl⟩;have pne:BG out≠[]:=by rw [eout];exact ID st pm s1' sn
 have oln:out.length=n:=by rw [eout];unfold Bp;rw [length_map,length_range]
 rw [<- eout] at er;have same:∀F',Bg n (AU ls) F'->Bp n (Aw F' s os)=out:=fun F' st'=>by rw [eout];exact Je st st' osub fun x y _ _=>by omega
 clear eout sm9 sm69 sm79 el6 gs6 md6 im6 hS6 eo6 eb tb lt6 e8 hlb;symm;refine ⟨p,ns,2,rfl,hS9,h63,by decide,by decide,fun cp p0 p1=>?_⟩;symm;refine ⟨b,ro,lo,bs,n,AU ls,out,os,cp,rfl,eb9,tb9,er,oln,by omega,eo9,pm,EA p0 p1,p0,fun lp rs H10 hlp s10 ep gr ed=>?_⟩;have pnd:=FE out out.length
 have rl:rs.length<=25:=by
  rw [<- BN,ed];exact Nat.le_trans pnd.2.2 (by rw [oln];exact Nat.mul_le_mul n5 n5)
 have r1:1<=rs.length:=by
  rw [<- BN,ed];exact length_pos_iff.mpr pne
 have rnd:(AN rs).Nodup:=by rw [ed];exact pnd.1
 have vl:(vrp rs).length=rs.length:=length_map ..;have rok:∀r∈rs,CB n (AU ls) os r.n r:=fun r m=>(gr r m).1.2.2.2;have rg:∀r∈rs,RpG H10 r:=fun r m=>(gr r m).1.1;have r14:∀r∈rs,r.ws.length<=14:=fun r m=>(gr r m).1.2.2.1
 have rat:∀{i:Nat} {x:V},(vrp rs)[i]?=some x->∃r,rs[i]?=some r/\x=.ref r.t:=fun {i x} hx=>by
  unfold vrp at hx;rw [List.getElem?_map] at hx
  cases e:rs[i]? with
  | none=>rw [e] at hx;cases hx
  | some r=>rw [e] at hx;exact ⟨r,rfl,(Option.some.inj hx).symm⟩
 clear pnd;symm;refine ⟨⟨_,SqL.of ep⟩,?_⟩
 refine A5 (xs:=vrp rs) (by rw [vl];exact A4 (by omega)) (fun D i ys J=>ys=((rs.take i).map (·.n)).map V.int/\J=upd H10 D (.lst ys)) (fun D hD=>⟨rfl,rfl⟩) (fun D i ys J hq=>by
  obtain ⟨f1,f2⟩:=hq
  exact ⟨by rw [f2];exact Ab,by rw [f1,length_map,length_map];exact length_take_le _ _⟩) (fun D i ys J hD hq=>by
  obtain ⟨_,f2⟩:=hq;rw [f2];exact SqL.of (Ac hD _ _ _ ep)) ?_ ?_
 ·rintro D i u ys J K1 K2 hD hu ⟨f1,rfl⟩ k1 k2;obtain ⟨r,hr,rfl⟩:=rat hu;have gt:=Ac hD (.lst ys) _ _ (rg r (mem_of_getElem? hr)).t;refine yes (ifT rfl ?_);symm;refine k1 _ _ Ab ⟨?_,by rw [AT]⟩;rw [f1,take_succ,hr,map_append,map_append];rfl
 rintro D ys H11 hD ⟨rfl,rfl⟩;rw [vl,take_length];have s11:=Ac hD (.lst ((rs.map (·.n)).map V.int));have e11:(upd H10 D (.lst ((rs.map (·.n)).map V.int))) D=some (.lst ((rs.map (·.n)).map V.int)):=Ab;generalize upd H10 D (.lst ((rs.map (·.n)).map V.int))=H11 at s11 e11 ⊢;refine ⟨D,rs.map (·.n),rfl,SqL.of e11,by rw [length_map];exact r1,fun lt lm ll=>?_⟩;have lle:∀r∈rs,lt<=r.n:=fun r m=>ll _ (mem_map.mpr ⟨r,m,rfl⟩);obtain ⟨rm,mrm,erm⟩:=mem_map.mp lm;have lt1:1<=lt:=by rw [<- erm];exact P7 (rok rm mrm)
 clear ll lm e11;symm;have ep11:=s11 _ _ ep;refine ⟨⟨_,SqL.of ep11⟩,?_⟩
 refine Kh (zs:=vrp rs) rfl rfl rfl rfl rfl (by rw [vl];exact Nat.le_of_lt (Av (by omega))) (fun D i ys G=>∃ks:List Rp,ys=vrp ks/\G D=some (.lst ys)/\An H11 G/\(∀q∈ks,RpG G q/\q.w≠D)/\ks.map rpD=(rs.take i).map rpD) (fun D hD=>⟨[],rfl,Ab,Ac hD _,(fun _ m=>absurd m List.not_mem_nil),rfl⟩) (fun D i ys G ⟨ks,f1,f2,_,_,f5⟩=>⟨f2,by
  have a:=congrArg List.length f5;rw [length_map,length_map] at a;rw [f1,show (vrp ks).length=ks.length from length_map _,a];exact length_take_le _ _⟩) (fun D i ys G hD hq_=>by obtain ⟨_,_,_,f3,_⟩:=hq_;exact SqL.of (f3 _ _ ep11)) ?_ ?_
 ·rintro D i x ys G K1 K2 hD hx ⟨ks,rfl,f2,f3,f4,f5⟩ kk1 kk2;obtain ⟨q0,hq0,rfl⟩:=rat hx;have qt:=(rg q0 (mem_of_getElem? hq0)).same (s11.trans f3);refine ⟨q0.t,_,_,_,_,_,rfl,SqT.of qt.t,?_⟩;refine yes (ifT rfl ?_);have qw:=qt.w;symm;intro c hc;have g1:=Ac hc (.lst (q0.ws.map V.int));have ec:(upd G c (.lst (q0.ws.map V.int))) c=some (.lst (q0.ws.map V.int)):=Ab;generalize upd G c (.lst (q0.ws.map V.int))=G1 at g1 ec ⊢;symm;refine ⟨(by show 5<=sizeLine;decide),fun t ht=>?_⟩;have g2:=Ac ht (.tup [V.int q0.x,V.int q0.y,V.ref c,V.int q0.cut,V.int q0.n]);have et:(upd G1 t (.tup [V.int q0.x,V.int q0.y,V.ref c,V.int q0.cut,V.int q0.n])) t=some (.tup [V.int q0.x,V.int q0.y,V.ref c,V.int q0.cut,V.int q0.n]):=Ab;generalize upd G1 t (.tup [V.int q0.x,V.int q0.y,V.ref c,V.int q0.cut,V.int q0.n])=G2 at g2 et ⊢;have g12:=g1.trans g2;have eD2:=g12 _ _ f2;have cD:c≠D:=fun z=>by rw [z,f2] at hc;cases hc
  refine kk1 _ _ eD2 ⟨ks++[⟨t,c,q0.x,q0.y,q0.ws,q0.cut,q0.n⟩],by unfold vrp;rw [map_append];rfl,Ab,Ax (f3.trans g12) hD,fun q m=>?_,?_⟩
  ·have up:∀{q:Rp},RpG G2 q->q.w≠D->RpG (upd G2 D (.lst (vrp ks++[V.ref t]))) q:=fun {q} k n=>⟨by rw [Ak (Du k.t eD2 (fun z=>by cases z))];exact k.t,by rw [Ak n];exact k.w⟩;rcases mem_append.mp m with m | m
   ·exact ⟨up ((f4 q m).1.same g12) (f4 q m).2,(f4 q m).2⟩
   ·rw [mem_singleton.mp m];exact ⟨up ⟨et,g2 _ _ ec⟩ cD,cD⟩
  ·rw [map_append,f5,take_succ,hq0,map_append];rfl
 rintro le ys H12 hle ⟨ks,rfl,eD,s12',gk,ek⟩;rw [vl,take_length] at ek
 have kl:ks.length=rs.length:=by
  have a:=congrArg List.length ek;rwa [length_map,length_map] at a
 have kr:∀k∈ks,∃r∈rs,rpD k=rpD r:=fun k m=>by
  have a:rpD k∈rs.map rpD:=by rw [<- ek];exact mem_map.mpr ⟨k,m,rfl⟩
  obtain ⟨r,mr,e⟩:=mem_map.mp a;exact ⟨r,mr,e.symm⟩
 have kok:∀k∈ks,CB n (AU ls) os k.n k:=fun k m=>by
  obtain ⟨r,mr,e⟩:=kr k m;exact (Gu e (rok r mr)).1
 have kle:∀k∈ks,lt<=k.n:=fun k m=>by
  obtain ⟨r,mr,e⟩:=kr k m;rw [(Gu e (rok r mr)).2.1];exact lle r mr
 have k60:∀{J:Hp},An H12 J->∀k∈ks,RpG J k/\k.ws.length<=60:=fun {J} z k m=>by
  obtain ⟨r,mr,e⟩:=kr k m;rw [(Gu e (rok r mr)).2.2.2];exact ⟨(gk k m).1.same z,Nat.le_trans (r14 r mr) (by decide)⟩
 have dok:AN ks=BG out:=by
  rw [<- ed];unfold AN;have z:∀l:List Rp,(l.map fun r=>(r.x,r.y))=(l.map rpD).map fun d=>match d with | .tuple [.int a,.int b,_,_,_]=>(a,b) | _=>(0,0):=fun l=>by rw [map_map];rfl
  rw [z,z,ek]
 obtain ⟨km,mkm,ekm⟩:∃k∈ks,k.n=lt:=by
  have a:rpD rm∈ks.map rpD:=by rw [ek];exact mem_map.mpr ⟨rm,mrm,rfl⟩
  obtain ⟨k,mk,e⟩:=mem_map.mp a;exact ⟨k,mk,by rw [(Gu e (rok rm mrm)).2.1];exact erm⟩
 have s9c:=(s10.trans s11).trans s12';symm;refine ⟨p,ns,3,rfl,s9c.seq hS9,h63,by decide,by decide,fun cl l0 l1=>?_⟩;symm;refine ⟨cl,4,rfl,EA l0 l1,by decide,by decide,fun z z0 z1=>?_⟩;symm;refine ⟨(by show lt+1≠0;omega),?_⟩;have mz:=AH z (show (0:Int) < lt+1 by omega);dsimp only;generalize z.fmod (lt+1)=lw at mz ⊢;symm;refine ⟨(by show 3<=sizeLine;decide),fun l3 h3=>?_⟩;have s13':=Ac h3 (.lst [V.int lt,V.int lw,V.int (lt - lw)]);have e3:(upd H12 l3 (.lst [V.int lt,V.int lw,V.int (lt - lw)])) l3=some (.lst [V.int lt,V.int lw,V.int (lt - lw)]):=Ab;generalize upd H12 l3 (.lst [V.int lt,V.int lw,V.int (lt - lw)])=H13 at s13' e3 ⊢;have s9d:=s9c.trans s13';refine ⟨l3,rfl,⟨_,SqL.of e3⟩,C4 (xs:=[lt,lw,lt - lw].map V.int) (fun i σ' J=>∃v12:Option V,σ'=[some (.ref p),some (.int (n:Int)),some (.int (s:Int)),some (.ref lo),some (.int most),some (.ref l),some (.ref a),some (.ref g),some (.ref lp),some (.int lt),some (.ref le),some (.int lw),v12,none,none,none,none,none]/\An H13 J) ⟨none,rfl,fun _ _ e=>e⟩ (fun i σ' J _ hq_=>by obtain ⟨_,_,e⟩:=hq_;exact SqL.of (e _ _ e3)) ?_ ?_⟩
 ·rintro i x σ' J hx ⟨v12,rfl,sJ⟩;obtain ⟨lv,hlv,rfl⟩:=int_at hx
  have lm:lv<=lt:=by
   have:=mem_of_getElem? hlv;simp only [mem_cons,List.not_mem_nil,or_false] at this;omega
  have zJ:=s9d.trans sJ;have zk:=s13'.trans sJ;obtain ⟨dgz,hgz⟩:=id (im9.same zJ);symm;refine ⟨g,dgz,_,rfl,hgz,rfl,?_⟩;have elz:=zJ _ _ el9;symm;intro lb hlb;have sm:=Ac hlb (.lst (vls ls));have em:(upd J lb (.lst (vls ls))) lb=some (.lst (vls ls)):=Ab;generalize upd J lb (.lst (vls ls))=HM at sm em ⊢;symm;have zm:=zJ.trans sm;refine ⟨g,a,lb,le,n,s,os,ls,lv,ks,rfl,im9.same zm,md9.same zm,em,BK (gs9.same zm) okl,by omega,(lq9.same zm).1,(zk.trans sm) _ _ eD,k60 (zk.trans sm),by omega,fun F' J2 _ sq _ st'=>?_⟩;have zn:An J J2:=sm.trans (sq (lq9.same zm));rw [same F' st',G4 dok kok (fun r m=>Int.le_trans lm (kle r m))];clear sq em hlb elz hgz zm sm st' F';refine ⟨_,rfl,?_⟩;refine ⟨_,rfl,ifF rfl ?_⟩;exact ⟨_,rfl,sJ.trans zn⟩
 rintro σ' H14 ⟨v12,rfl,s14⟩;clear e3 h3;have z14:=s9d.trans s14;have k14:=s13'.trans s14;obtain ⟨dgz,hgz⟩:=id (im9.same z14);symm;refine ⟨g,dgz,_,rfl,hgz,rfl,?_⟩;have elz:=z14 _ _ el9;symm;intro lb hlb;have sm:=Ac hlb (.lst (vls ls));have em:(upd H14 lb (.lst (vls ls))) lb=some (.lst (vls ls)):=Ab;generalize upd H14 lb (.lst (vls ls))=HM at sm em ⊢;symm;have zm:=z14.trans sm;refine ⟨g,a,lb,le,n,s,os,ls,lt+1+lw,ks,rfl,im9.same zm,md9.same zm,em,BK (gs9.same zm) okl,by omega,(lq9.same zm).1,(k14.trans sm) _ _ eD,k60 (k14.trans sm),by omega,fun F' H15 _ sq _ st'=>?_⟩;have s15:An H14 H15:=sm.trans (sq (lq9.same zm));rw [same F' st',Ht mkm (by omega)];clear sq em hlb elz hgz zm sm st' F';refine ⟨_,rfl,?_⟩;refine ⟨_,rfl,ifF rfl ?_⟩;have dl:Lay 3 (.list (rs.map rpD)):=Hi (Jb QH rs);have k15:=k14.trans s15;have z15:=z14.trans s15;have s10f:=(s11.trans s12').trans k15;have rK:=LI (K:=K) fun q m=>(gk q m).1.same k15;rw [ek] at rK;have ep15:=s10f _ _ ep;symm;refine ⟨.list (rs.map rpD),.list (rs.map rpD),.lst (SqL.of (k15 _ _ eD)) rK,.lst (SqL.of ep15) (LI fun q m=>(rg q m).same s10f),dl.shaped (by decide),dl.shaped (by decide),?_⟩;rw [dl.eqv];refine ⟨_,rfl,ifF rfl ?_⟩;clear dl rK;symm;refine ⟨p,ns,4,rfl,z15.seq hS9,h63,by decide,by decide,fun cs v0 v1=>?_⟩;symm;refine ⟨cs,6,rfl,EA v0 v1,by decide,by decide,fun zs zs0 zs1=>?_⟩;symm;refine ⟨lp,n,AU ls,os,rs,zs,rfl,ep15,fun r m=>⟨(rg r m).same s10f,r14 r m,rok r m⟩,r1,by omega,rnd,DK (by omega) (Int.lt_trans zs1 (by decide)),zs0,by omega,by omega,fun lq rq H16 nq s16 eq gq q80 sh=>?_⟩;rw [ed] at sh;have z16:=z15.trans s16;have k16:=k15.trans s16;obtain ⟨dgz,hgz⟩:=id (im9.same z16);symm;refine ⟨g,dgz,_,rfl,hgz,rfl,?_⟩;have elz:=z16 _ _ el9;symm;intro lb hlb;have sm:=Ac hlb (.lst (vls ls));have em:(upd H16 lb (.lst (vls ls))) lb=some (.lst (vls ls)):=Ab;generalize upd H16 lb (.lst (vls ls))=HM at sm em ⊢;symm;refine ⟨_,_,rfl,?_⟩;symm;have zm:=z16.trans sm;refine ⟨g,a,lb,lq,n,s,os,ls,_,rq,rfl,im9.same zm,md9.same zm,em,BK (gs9.same zm) okl,by omega,(lq9.same zm).1,sm _ _ eq,fun r m=>⟨(gq r m).1.same sm,(gq r m).2⟩,by omega,fun F' H17 _ sq _ st'=>?_⟩;have s17:An H16 H17:=sm.trans (sq (lq9.same zm));rw [same F' st',sh _];clear sq em hlb elz hgz zm sm st' F';refine ⟨_,rfl,?_⟩;refine ⟨_,rfl,ifF rfl ?_⟩;have z17:=z16.trans s17;have k17:=k16.trans s17;clear eq gq q80 sh;obtain ⟨dgz,hgz⟩:=id (im9.same z17);symm;refine ⟨g,dgz,_,rfl,hgz,rfl,?_⟩;have elz:=z17 _ _ el9;symm;intro lb hlb;have sm:=Ac hlb (.lst (vls ls));have em:(upd H17 lb (.lst (vls ls))) lb=some (.lst (vls ls)):=Ab;generalize upd H17 lb (.lst (vls ls))=HM at sm em ⊢;symm;refine ⟨(by show 0<=sizeLine;decide),fun lx hlx=>?_⟩;have sx:=Ac hlx (.lst []);have ex:(upd HM lx (.lst [])) lx=some (.lst []):=Ab;generalize upd HM lx (.lst [])=HX at sx ex ⊢;have em:=sx _ _ em;have sm:=sm.trans sx;have zm:=z17.trans sm;refine ⟨g,a,lb,lx,n,s,os,ls,0 - lw,[],rfl,im9.same zm,md9.same zm,em,BK (gs9.same zm) okl,by omega,(lq9.same zm).1,ex,(fun _ m=>absurd m List.not_mem_nil),(by show 0<=300;decide),fun F' H18 _ sq _ st'=>?_⟩;have s18:An H17 H18:=sm.trans (sq (lq9.same zm));rw [same F' st',DS (fun z=>pne z.symm)];clear sq em hlb elz hgz zm sm st' F';refine ⟨_,rfl,?_⟩;refine ⟨_,rfl,ifF rfl ?_⟩;have z18:=z17.trans s18;have k18:=k17.trans s18;obtain ⟨dgz,hgz⟩:=id (im9.same z18);symm;refine ⟨g,dgz,_,rfl,hgz,rfl,?_⟩;have elz:=z18 _ _ el9;symm;intro lb hlb;have sm:=Ac hlb (.lst (vls ls));have em:(upd H18 lb (.lst (vls ls))) lb=some (.lst (vls ls)):=Ab;generalize upd H18 lb (.lst (vls ls))=HM at sm em ⊢;have zm:=z18.trans sm;refine ⟨g,a,lb,n,s,os,ls,rfl,im9.same zm,md9.same zm,sn,em,BK (gs9.same zm) okl,by omega,(lq9.same zm).1,fun t1 p1 rows F1 z1 H19 _ sq _ et _ ep1 gr1 pe st1 zm1 zl=>?_⟩;have s19:An H18 H19:=sm.trans (sq (lq9.same zm))
 have ok1:∀r∈rows.map (Dt n),CB n (AU ls) os r.n r:=fun r m=>by
  obtain ⟨q,mq,rfl⟩:=mem_map.mp m;exact Op (gr1 q mq).1
 have g1:∀{J:Hp},An H19 J->∀r∈rows.map (Dt n),RpG J r/\r.ws.length<=60:=fun {J} z r m=>by
  obtain ⟨q,mq,rfl⟩:=mem_map.mp m;refine ⟨⟨z _ _ (gr1 q mq).1.tup,z _ _ (gr1 q mq).1.way⟩,?_⟩;show (Bk q.ws).length<=60;have:=Gy (gr1 q mq).1.isw;rw [Dp];omega
 have d1:AN (rows.map (Dt n))=BG out:=by rw [LL,pe,same F1 st1]
 have l1':(rows.map (Dt n)).length<=300:=by
  rw [<- BN,d1,<- ed,BN];omega
 have le1:∀r∈rows.map (Dt n),z1<=r.n:=fun r m=>by
  obtain ⟨q,mq,rfl⟩:=mem_map.mp m;exact zl q mq
 obtain ⟨q1,mq1,eq1⟩:∃r∈rows.map (Dt n),r.n=z1:=by
  obtain ⟨q,mq,e⟩:=mem_map.mp zm1;exact ⟨Dt n q,mem_map.mpr ⟨q,mq,rfl⟩,e⟩
 rw [Of n] at ep1;generalize rows.map (Dt n)=rw1 at ok1 g1 d1 l1' le1 mq1 ep1;clear sq em hlb elz hgz zm sm gr1 pe st1 zm1 zl;have z19:=z18.trans s19;have k19:=k18.trans s19;symm;refine ⟨t1,_,rfl,SqT.of et,rfl,_,_,rfl,_,_,rfl,rfl,?_⟩;obtain ⟨dgz,hgz⟩:=id (im9.same z19);symm;refine ⟨g,dgz,_,rfl,hgz,rfl,?_⟩;have elz:=z19 _ _ el9;symm;intro lb hlb;have sm:=Ac hlb (.lst (vls ls));have em:(upd H19 lb (.lst (vls ls))) lb=some (.lst (vls ls)):=Ab;generalize upd H19 lb (.lst (vls ls))=HM at sm em ⊢;symm;have zm:=z19.trans sm;refine ⟨g,a,lb,p1,n,s,os,ls,z1,rw1,rfl,im9.same zm,md9.same zm,em,BK (gs9.same zm) okl,by omega,(lq9.same zm).1,sm _ _ ep1,g1 sm,l1',fun F' H20 _ sq _ st'=>?_⟩;have s20:An H19 H20:=sm.trans (sq (lq9.same zm));rw [same F' st',G4 d1 ok1 le1];clear sq em hlb elz hgz zm sm st' F';refine ⟨_,rfl,?_⟩;refine ⟨_,rfl,ifF rfl ?_⟩;have z20:=z19.trans s20;have k20:=k19.trans s20;symm;refine ⟨p,ns,4,rfl,z20.seq hS9,h63,by decide,by decide,fun c' e0 e1=>?_⟩;symm
 obtain ⟨k,hk,ek2⟩:∃k:Nat,k < n/\c' % (n:Int)=(k:Int):=by
  have a:=Int.emod_nonneg c' (show (n:Int)≠0 by omega);have b:=Int.emod_lt_of_pos c' (show (0:Int) < (n:Int) by omega);exact ⟨(c' % (n:Int)).toNat,by omega,by omega⟩
 refine ⟨by show (n:Int)≠0;omega,?_⟩;dsimp only;rw [show Int.fmod c' (n:Int)=c' % (n:Int) from Int.fmod_eq_emod_of_nonneg _ (by omega),ek2];symm;refine ⟨Dm (by omega),?_⟩;dsimp only;rw [Int.toNat_natCast,Int.one_mul];symm;refine ⟨(by show 1<=sizeLine;decide),fun sl hsl=>?_⟩;have s21:=Ac hsl (.tup [V.int (2 ^ k)]);have esl:(upd H20 sl (.tup [V.int (2 ^ k)])) sl=some (.tup ([(2:Int) ^ k].map V.int)):=Ab;generalize upd H20 sl (.tup [V.int (2 ^ k)])=H21 at s21 esl ⊢;symm;refine ⟨(by show 2<=sizeLine;decide),fun tl htl=>?_⟩;have s22:=Ac htl (.tup [V.ref sl,V.int 7]);have etl:(upd H21 tl (.tup [V.ref sl,V.int 7])) tl=some (.tup [V.ref sl,V.int 7]):=Ab;generalize upd H21 tl (.tup [V.ref sl,V.int 7])=H22 at s22 etl ⊢;refine ⟨(by show 1<=sizeLine;decide),fun ol2 hol=>?_⟩;have s23:=Ac hol (.lst [V.ref tl]);have eol:(upd H22 ol2 (.lst [V.ref tl])) ol2=some (.lst (vls [(tl,sl,[(2:Int) ^ k],7)])):=Ab;generalize upd H22 ol2 (.lst [V.ref tl])=H23 at s23 eol ⊢;have s203:=(s21.trans s22).trans s23;have z23:=z20.trans s203
 have gs23:Cj H23 [(tl,sl,[(2:Int) ^ k],7)]:=fun q m=>by
  rw [mem_singleton.mp m];exact ⟨s23 _ _ etl,(s22.trans s23) _ _ esl⟩
 have okr:∀q∈Hr [(tl,sl,[(2:Int) ^ k],7)],OkA n q.1:=fun q m=>by
  rw [mem_singleton.mp m];exact PC hk
 obtain ⟨xs,exs⟩:∃xs,xs=[(tl,sl,[(2:Int) ^ k],(7:Int))]:=⟨_,rfl⟩;have xsl:xs.length<=60:=by rw [exs];show 1<=60;decide
 rw [<- exs] at gs23 okr eol;clear exs etl esl htl hsl hol;symm;intro g2 dg2 hg2 hdg2 neg2;refine ⟨g2,ad.c_PairsMargin,dg2,a,rfl,Ab,T.cl_PairsMargin,T.na_PairsMargin_way,fun H24 s24 eg2=>?_⟩;rw [G3] at s24;have s24:=(Li (Ac hdg2 (.own g2)) hg2).trans s24;refine ⟨rfl,?_⟩;have z24:=z23.trans s24;have im24:IsM ad.c_PairsMargin H24 g2 a:=⟨dg2,eg2⟩;have eol:=s24 _ _ eol;have gs24:=gs23.same s24;symm;refine ⟨g2,dg2,_,rfl,eg2,rfl,?_⟩;symm;intro lb hlb;have sm:=Ac hlb (.lst (vls xs));have em:(upd H24 lb (.lst (vls xs))) lb=some (.lst (vls xs)):=Ab;generalize upd H24 lb (.lst (vls xs))=HM at sm em ⊢;have zm:=z24.trans sm;refine ⟨g2,a,lb,n,s,os,xs,rfl,im24.same sm,md9.same zm,sn,em,BK (gs24.same sm) okr,xsl,(lq9.same zm).1,fun t2 p2 rows2 F2 z2 H25 _ sq _ et2 _ ep2 gr2 pe2 st2 zm2 zl2=>?_⟩;have s25:An H24 H25:=sm.trans (sq (lq9.same zm))
 have ok2:∀r∈rows2.map (Dt n),CB n (AU xs) os r.n r:=fun r m=>by
  obtain ⟨q,mq,rfl⟩:=mem_map.mp m;exact Op (gr2 q mq).1
 have g2':∀{J:Hp},An H25 J->∀r∈rows2.map (Dt n),RpG J r/\r.ws.length<=60:=fun {J} z r m=>by
  obtain ⟨q,mq,rfl⟩:=mem_map.mp m;refine ⟨⟨z _ _ (gr2 q mq).1.tup,z _ _ (gr2 q mq).1.way⟩,?_⟩;show (Bk q.ws).length<=60;have:=Gy (gr2 q mq).1.isw;rw [Dp];omega
 have d2:AN (rows2.map (Dt n))=BG (Bp n (Aw F2 s os)):=by rw [LL,pe2]
 have l2':(rows2.map (Dt n)).length<=300:=by
  rw [<- BN,d2];refine Nat.le_trans (FE _ _).2.2 ?_;rw [show (Bp n (Aw F2 s os)).length=n by unfold Bp;rw [length_map,length_range]];exact Nat.le_trans (Nat.mul_le_mul n5 n5) (by decide)
 have le2:∀r∈rows2.map (Dt n),z2<=r.n:=fun r m=>by
  obtain ⟨q,mq,rfl⟩:=mem_map.mp m;exact zl2 q mq
 obtain ⟨q2,mq2,eq2⟩:∃r∈rows2.map (Dt n),r.n=z2:=by
  obtain ⟨q,mq,e⟩:=mem_map.mp zm2;exact ⟨Dt n q,mem_map.mpr ⟨q,mq,rfl⟩,e⟩
 rw [Of n] at ep2;generalize rows2.map (Dt n)=rw2 at ok2 g2' d2 l2' le2 mq2 ep2;clear sq em hlb zm sm gr2 pe2 zm2 zl2;have z25:=z24.trans s25;symm;refine ⟨t2,_,rfl,SqT.of et2,rfl,_,_,rfl,_,_,rfl,rfl,?_⟩;obtain ⟨dgz,hgz⟩:=id (im9.same z25);symm;refine ⟨g,dgz,_,rfl,hgz,rfl,?_⟩;symm;refine ⟨g,a,ol2,p2,n,s,os,xs,z2,rw2,rfl,im9.same z25,md9.same z25,s25 _ _ eol,BK (gs24.same s25) okr,xsl,(lq9.same z25).1,(An.refl H25) _ _ ep2,g2' (An.refl H25),l2',fun F' H26 _ sq _ st'=>?_⟩;have s26:An H25 H26:=sq (lq9.same z25);rw [Je st2 st' osub (fun x y _ _=>by omega),G4 d2 ok2 le2];clear sq hgz st' F';refine ⟨_,rfl,?_⟩;refine ⟨_,rfl,ifF rfl ?_⟩;have z26:=z25.trans s26;obtain ⟨dgz,hgz⟩:=id (im9.same z26);symm;refine ⟨g,dgz,_,rfl,hgz,rfl,?_⟩;symm;refine ⟨g,a,ol2,p2,n,s,os,xs,z2+1,rw2,rfl,im9.same z26,md9.same z26,(s25.trans s26) _ _ eol,BK (gs24.same (s25.trans s26)) okr,xsl,(lq9.same z26).1,s26 _ _ ep2,g2' s26,l2',fun F' H27 _ sq _ st'=>?_⟩;have s27:An H26 H27:=sq (lq9.same z26);rw [Je st2 st' osub (fun x y _ _=>by omega),Ht mq2 (by omega)];clear sq hgz st' F';refine ⟨_,rfl,ifF rfl ?_⟩;have z27:=z26.trans s27;have s9k:=((s203.trans s24).trans (s25.trans s26)).trans s27;have k27:=k20.trans s9k;obtain ⟨dgz,hgz⟩:=id (im9.same z27);symm;refine ⟨g,dgz,_,rfl,hgz,rfl,?_⟩;have elz:=z27 _ _ el9;symm;intro lb hlb;have sm:=Ac hlb (.lst (vls ls));have em:(upd H27 lb (.lst (vls ls))) lb=some (.lst (vls ls)):=Ab;generalize upd H27 lb (.lst (vls ls))=HM at sm em ⊢;symm;have zm:=z27.trans sm;refine ⟨g,a,lb,p1,n,s,os,ls,z1+1,rw1,rfl,im9.same zm,md9.same zm,em,BK (gs9.same zm) okl,by omega,(lq9.same zm).1,((s20.trans s9k).trans sm) _ _ ep1,g1 ((s20.trans s9k).trans sm),l1',fun F' H28 _ sq _ st'=>?_⟩;have s28:An H27 H28:=sm.trans (sq (lq9.same zm));rw [same F' st',Ht mq1 (by omega)];clear sq em hlb elz hgz zm sm st' F';have z28:=z27.trans s28;have k28:=k27.trans s28;obtain ⟨dgz,hgz⟩:=id (im9.same z28);symm;refine ⟨g,dgz,_,rfl,hgz,rfl,?_⟩;have elz:=z28 _ _ el9;symm;intro lb hlb;have sm:=Ac hlb (.lst (vls ls));have em:(upd H28 lb (.lst (vls ls))) lb=some (.lst (vls ls)):=Ab;generalize upd H28 lb (.lst (vls ls))=HM at sm em ⊢;symm;have zm:=z28.trans sm;refine ⟨g,a,lb,le,n,s,os,ls,lt,ks,rfl,im9.same zm,md9.same zm,em,BK (gs9.same zm) okl,by omega,(lq9.same zm).1,(k28.trans sm) _ _ eD,k60 (k28.trans sm),by omega,fun F' H29 _ sq _ st'=>?_⟩;have s29:An H28 H29:=sm.trans (sq (lq9.same zm));rw [same F' st',G4 dok kok kle];clear sq em hlb elz hgz zm sm st' F';symm;exact q H29
end
theorem bindsD {K:PySem.W.Frag} {fd:FuncData} {ps:List Str} {ds:List Value} {m:Nat} (hm:m+ds.length=ps.length) (h:∀s:Shared,K.In s.heap->∀us:List Value,us.length=m->BindsTo s fd ⟨us,[]⟩ (ps.zip (us++ds))):A3 K fd ps ds:=fun s us X hl=>h s X us (by rw [length_append] at hl;omega)
theorem by_len1 {α:Type} {P:List α->Prop} (h:∀x0,P [x0]):∀us:List α,us.length=1->P us
 | [_],_=>h _
theorem by_len2 {α:Type} {P:List α->Prop} (h:∀x0 x1,P [x0,x1]):∀us:List α,us.length=2->P us
 | [_,_],_=>h _ _
theorem by_len3 {α:Type} {P:List α->Prop} (h:∀x0 x1 x2,P [x0,x1,x2]):∀us:List α,us.length=3->P us
 | [_,_,_],_=>h _ _ _
theorem by_len4 {α:Type} {P:List α->Prop} (h:∀x0 x1 x2 x3,P [x0,x1,x2,x3]):∀us:List α,us.length=4->P us
 | [_,_,_,_],_=>h _ _ _ _
theorem by_len5 {α:Type} {P:List α->Prop} (h:∀x0 x1 x2 x3 x4,P [x0,x1,x2,x3,x4]):∀us:List α,us.length=5->P us
 | [_,_,_,_,_],_=>h _ _ _ _ _
theorem all_mk {l:PySem.W.OpenLaw} {w:World} {K:PySem.W.Frag} {h:Heap} {mg:Str->Option Value} {fa lf:Addr} {ad:Ads} (X:K.In h) (hfa:mg "law"=some (.ref fa)) (hlf:mg "reached_from"=some (.ref lf)) (hlT:∃o fd,h.get? lf=some o/\o.data=.func fd/\fd.code=.ref ad.lc) (hm:mg "reached_from"=some (.ref ad.f_reached_from)) (hml:mg "law"=some (.ref ad.f_law)) (hF:Fun K "reached_from" "reached_from" Bv ad.f_reached_from ad.d_reached_from) (T:ad.d_reached_from.code=.ref ad.lc->∀base:Heap,GB base mg ad.lc ad.lP->Tx K mg base ad) (hb:∀(s:Shared) (v:Value),BindsTo s ad.d_law ⟨[v],[]⟩ [("_law_script",v)]) :
 ∃fd:FuncData,(∀(s:Shared) (v:Value),BindsTo s fd ⟨[v],[]⟩ [("_law_script",v)])/\∀base:Heap,K.In base->base.Ns mainGlobals mg->GB base mg ad.lc ad.lP->AK l.prog w K mg base CX0 7 fa fd ["_law_script"] (LG K ad.lP):=by
 obtain ⟨_,_,_,_,_,_,_,_,_,e0,lk,_⟩:=hF.ex;have e:=hlf.symm.trans hm
 cases e
 obtain ⟨_,_,e1,e2,e3⟩:=hlT;rw [X _ _ lk] at e1
 cases e1
 injection e2 with e2
 rw [<- e2] at e3;have e:=hfa.symm.trans hml
 cases e
 exact ⟨_,hb,fun base _ _ LB=>Re (T e3 base LB)⟩
theorem walk {l:PySem.W.OpenLaw} {q:Program} {loose:List Str} {XP:(Str->Option Value)->Heap->Prop} {YP:World->Heap->Prop} {d dn:DefRec} {K:Params->PySem.W.Frag} (hn:l.most=some 63) (hdf:d.params.defaults=[])
 (hY:∀(w:World) (h:Heap),YP w h->(K w.params).In h) (hnt:∀p,LM (K p)=true) (hdn:(PyProof.Rows.recsOf q).find? (fun e=>e.name == ("reached_from":Str))=some dn)
 (F:∀(w:World) (mg:Str->Option Value) (fa f c Pt:Addr) (h:Heap),(K w.params).In h->h.Ns mainGlobals mg->mg d.name=some (.ref fa)->mg "reached_from"=some (.ref f)->(∃o fd,h.get? f=some o/\o.data=.func fd/\fd.code=.ref c) ->
  ∃fd:FuncData,(∀(s:Shared) (u:Value),BindsTo s fd ⟨[u],[]⟩ [("_law_script",u)])/\∀base:Heap,(K w.params).In base->base.Ns mainGlobals mg->GB base mg c Pt->AK l.prog w (K w.params) mg base CX0 7 fa fd ["_law_script"] (LG (K w.params) Pt)) :
 PySem.W.WalkO q loose XP YP l.row.toRowW d [] (fun f vs=>PySem.call f vs) :=
 L2.walk_of1 (n:=63) (k:=7) (x:="_law_script") (dn:=dn) (CX:=fun _=>CX0) (sp:=fun w Pt=>LG (K w.params) Pt) hn (by decide) hdf ⟨rfl,by decide,by decide⟩ hY hnt (mem_of_find?_eq_some hdn) (fun w mg fa f c Pt h k1 k2 k3 k4 k5=>F w mg fa f c Pt h k1 k2 k3 (by rw [<- show dn.name="reached_from" from beq_iff_eq.mp (List.find?_some (p:=fun e:DefRec=>e.name == ("reached_from":Str)) hdn)];exact k4) k5) (fun _ _ _ a ns hl hP hS=>⟨a,ns,rfl,hS,hl,hP,fun _=>rfl⟩) fun _ _ _ _ _ z=>z
end Law
open PySem PySem.W PyProof.Rows
set_option maxRecDepth 100000 in
set_option maxHeartbeats 0 in
theorem PySem.Challenge.cw_pollproof_k85_papers_of_pairs_margins_holds : PySem.Challenge.rw_pollproof_k85_papers_of_pairs_margins.Holds := by
 refine Head.top ?_
 k_fill
 refine Law.walk (l:=PySem.Challenge.rw_pollproof_k85_papers_of_pairs_margins) (dn:=((recsOf Head.q0).find? fun e=>e.name == ("reached_from":Str)).get (by decide +kernel)) rfl rfl (fun w h Y=>PySem.W.km_in_of Y) ?nt (Option.some_get _).symm ?F
 case nt=>exact fun p=>by kernel_rfl
 case F =>
  intro w mg fa lf lc lP h KX G hmg hlf hlT;refine' Law.all_mk (ad:=Law.Ads.mk ..) KX hmg hlf hlT ?hm ?hml ?hF ?T ?hb
  case hm=>(refine mg_of KX G ?_;k_is)
  case hml=>(refine mg_of KX G ?_;k_is)
  case hF=>(dsimp only;apply L2.fun_mk <;> k_is)
  case T =>
   intro lcd base LB;dsimp only at lcd;apply Law.Tx.mk
   all_goals try dsimp only
   all_goals first
    | exact LB
    | exact lcd
    | (refine mg_of KX G ?_;k_is)
    | (refine mg_none_of KX G ?_;k_is)
    | k_is
    | (show _=_;first | k_is | k_exc)
    | (apply L2.fun_mk <;> k_is)
    | exact .all (Law.by_len1 fun _=>rfl)
    | exact .all (Law.by_len2 fun _ _=>rfl)
    | exact .all (Law.by_len3 fun _ _ _=>rfl)
    | exact .all (Law.by_len4 fun _ _ _ _=>rfl)
    | exact .all (Law.by_len5 fun _ _ _ _ _=>rfl)
    | (apply L2.fund_mk <;> k_is)
    | (refine Law.bindsD (m:=4) rfl fun s X=>Law.by_len4 fun _ _ _ _=>?_;refine' binds_K X rfl ?ho ?hs ?h1 ?h2;(case ho=>k_is);(case hs=>exact rfl);(case h1=>exact rfl);(case h2=>exact rfl))
    | (constructor <;> k_is)
  case hb=>exact fun s v=>.of_eq rfl
#print axioms PySem.Challenge.cw_pollproof_k85_papers_of_pairs_margins_holds
