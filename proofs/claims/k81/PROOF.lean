import PyProof.Rows.All
import Wide.All
import OpenK.AllK
import Wide.FinOn
import Lean
import PyProof.EqAt
import PyProof.EqKinds
import PyProof.TupleCall
import PySem.Challenge.RW_pollproof_k81_ways_and_cuts_of_margins
open List
set_option Elab.async false
set_option linter.all false
set_option compiler.extract_closed false
set_option maxRecDepth 100000
namespace Head
open PySem PySem.W PyProof.Rows
def OX (p:Program) (w:World) (n0:Nat) (ann:Option Value):Nat->SharedT->Thread->Option SharedT
 | 0,_,_=>none
 | n+1,s,t=>match through t with
   | true=>some s
   | false=>match stepOk n0 ann t with
     | false=>none
     | true=>match stepT (denote treeTable) p w s t with
       | some (s',t')=>OX p w n0 ann n s' t'
       | none=>none
theorem Mg {p:Program} {w:World} {n0:Nat} {ann:Option Value}:∀{n:Nat} {s s':SharedT} {t:Thread},OX p w n0 ann n s t=some s'->topRun treeTable p w n0 ann n s.abs t=some s'.abs
 | 0,_,_,_,h=>by cases h
 | n+1,s,s',t,h=>by
   unfold OX at h
   unfold topRun
   cases he:through t with
   | true=>rw [he] at h;cases h;rfl
   | false =>
     rw [he] at h
     cases hk:stepOk n0 ann t with
     | false=>rw [hk] at h;cases h
     | true =>
       rw [hk] at h
       cases hs:stepT (denote treeTable) p w s t with
       | none=>rw [hs] at h;cases h
       | some r=>obtain ⟨s2,t2⟩:=r;rw [hs] at h;rw [stepT_spec hs];exact Mg h
def MK:List Obj->Nat->BT->Option BT
 | [],_,t=>some t
 | o :: os,n,t=>match ((t.ins n o).get n).isSome with
   | true=>MK os (n+1) (t.ins n o)
   | false=>none
theorem LS {life:Life}:∀{os:List Obj} {n:Nat} {t t':BT} {xs:List Obj},(absHeap t n life)=⟨xs.toArray,life⟩->MK os n t=some t'->absHeap t' (n+os.length) life=⟨(xs++os).toArray,life⟩
 | [],n,t,t',xs,a,h=>by
   cases h
   rw [append_nil]
   exact a
 | o :: os,n,t,t',xs,a,h=>by
   unfold MK at h
   cases g:((t.ins n o).get n).isSome with
   | false=>rw [g] at h;cases h
   | true =>
     rw [g] at h
     have b:absHeap (t.ins n o) (n+1) life=⟨(xs++[o]).toArray,life⟩:=by
      rw [absHeap_ins g,a]
      show (⟨xs.toArray.push o,life⟩:Heap)=_
      rw [push_toArray]
     have c:=LS b h
     rw [append_assoc] at c
     rw [length_cons,show n+(os.length+1)=n+1+os.length by omega]
     exact c
theorem NR {H:Heap} {T:BT} (h:MK H.objs.toList 0 .nil=some T):absHeap T H.objs.size H.life=H:=by
 have c:=LS (life:=H.life) (n:=0) (t:=.nil) (xs:=[]) rfl h
 rw [Nat.zero_add,Array.length_toList] at c
 rw [c]
 obtain ⟨a,l⟩:=H
 show (⟨([]++a.toList).toArray,l⟩:Heap)=⟨a,l⟩
 rw [nil_append,Array.toArray_toList]
theorem left {p q:Program} {loose:List PySem.Str} {Xt:Shared->Bool} {α:Type} {Yf:Shared->α} {Ya:World->α} {N:Nat} {g0:Bool}
 (e:opening p=plainProg p.main.scope.names) (hN:Nat.ble 600 N=true) (f:∀s,fenceModules? p s=some s)
 (h:∀(w:World) (os:OsState),((MK (boot_heap w.params).objs.toList 0 .nil).bind fun T=>(OX p w (boot_heap w.params).objs.size ((boot_heap w.params).nsMap mainGlobals "__annotations__") N ⟨T,(boot_heap w.params).objs.size,(boot_heap w.params).life,Array.mk [],boot_drawn,boot_toks,os⟩ (topStub p)).map fun s =>
  (((boot_heap w.params).isNs mainGlobals,staticsOk (importedModules p.main.body) (boot_heap w.params) s.abs.heap && namesBound p s.abs.heap && gensDone s.abs && laidKept (boot_heap w.params) s.abs.heap),openSeen q loose (importedModules p.main.body) Xt g0 s.abs,Yf s.abs)) =
  some ((true,true),openGood q loose,Ya w)):LeftO p q loose Xt Yf Ya N g0:=fun w=>by
 obtain ⟨⟨hp,gs,d,k,os⟩,e1,e2⟩:=Option.map_eq_some_iff.mp (boot_open e hN f w)
 obtain ⟨rfl,rfl,rfl,rfl⟩:hp=boot_heap w.params/\gs=Array.mk []/\d=boot_drawn/\k=boot_toks:=by simpa using e2
 have z:=h w os
 cases gT:MK (boot_heap w.params).objs.toList 0 .nil with
 | none=>rw [gT] at z;cases z
 | some T =>
   rw [gT] at z
   obtain ⟨s,r,y⟩:=Option.map_eq_some_iff.mp z
   have r':=Mg r
   injection y with y1 y2
   injection y1 with y3 y4
   injection y2 with y5 y6
   have a:(⟨T,(boot_heap w.params).objs.size,(boot_heap w.params).life,Array.mk [],boot_drawn,boot_toks,os⟩:SharedT).abs=⟨boot_heap w.params,Array.mk [],boot_drawn,boot_toks,os⟩:=by
    unfold SharedT.abs
    rw [NR gT]
   rw [a] at r'
   unfold openEnds
   rw [e1]
   show (topFrom treeTable p w N _).map _=_
   have t:topFrom treeTable p w N ⟨boot_heap w.params,Array.mk [],boot_drawn,boot_toks,os⟩=some s.abs:=by
    unfold topFrom
    dsimp only
    rw [y3,r']
    show (match staticsOk (importedModules p.main.body) (boot_heap w.params) s.abs.heap && namesBound p s.abs.heap && gensDone s.abs && laidKept (boot_heap w.params) s.abs.heap with | true=>_ | false=>_)=_
    rw [y4]
   rw [t]
   exact congrArg some (Prod.ext y5 y6)
end Head
namespace Head
open PySem PySem.W PyProof.Rows
abbrev q0:Program:=view PySem.Challenge.pw_pollproof_k81_ways_and_cuts_of_margins [22,57]
abbrev r0:OpenRow:=OpenLaw.row PySem.Challenge.rw_pollproof_k81_ways_and_cuts_of_margins
local macro_rules | `(tactic| o_head $H)=>do
 let (hl,hw,hc):=(Lean.mkIdent `hl,Lean.mkIdent `hw,Lean.mkIdent `hc)
 `(tactic| (
   refine holds_open (r:=r0) (q:=q0) (loose:=[PySem.Str.ofString "_wall",PySem.Str.ofString "PollError",PySem.Str.ofString "NoWay",PySem.Str.ofString "all_of",PySem.Str.ofString "with_one",PySem.Str.ofString "without",PySem.Str.ofString "members",PySem.Str.ofString "is_whole",PySem.Str.ofString "down",PySem.Str.ofString "up",PySem.Str.ofString "ballots_in",PySem.Str.ofString "pairs_by_seats",PySem.Str.ofString "Margin",PySem.Str.ofString "overs",PySem.Str.ofString "hands_of",PySem.Str.ofString "leads_of",PySem.Str.ofString "way_by",PySem.Str.ofString "cut_by",PySem.Str.ofString "PairsMargin",PySem.Str.ofString "MOST_HANDS",PySem.Str.ofString "MOST_SEATS",PySem.Str.ofString "are_hands",PySem.Str.ofString "are_seats",PySem.Str.ofString "are_lots",PySem.Str.ofString "Way",PySem.Str.ofString "shown_from",PySem.Str.ofString "is_beaten",PySem.Str.ofString "Pairs",PySem.Str.ofString "_law_cell",PySem.Str.ofString "_law_mixed",PySem.Str.ofString "_law_lots",PySem.Str.ofString "_law_mask",PySem.Str.ofString "_law_slip",PySem.Str.ofString "_law_sheet",PySem.Str.ofString "_law_hall",PySem.Str.ofString "_law_whole",PySem.Str.ofString "_law_place",PySem.Str.ofString "_law_leads",PySem.Str.ofString "_law_strengths",PySem.Str.ofString "_law_fits",PySem.Str.ofString "_law_needs",PySem.Str.ofString "_law_way_right",PySem.Str.ofString "_law_cut_right",PySem.Str.ofString "_law_paper_right",PySem.Str.ofString "_law_told",PySem.Str.ofString "_law_slips_right"]) (N:=100000)
    (Xt:=fun s=>xlAt q0 [] s && recOk (RowW.records (OpenRow.toRowW r0)) s)
    (XP:=XL q0 []) (Yf:=Hook.obs $H) (Ya:=Hook.val $H) (YP:=Hook.says $H)
    ?$hl (Hook.of $H) (Hook.keeps $H) (fun s e=>xl_of s (Bool.and_eq_true_iff.mp e).1) XL.keeps
    (by rfl) (by rfl) (by rfl) (fun s e=>recFacts_of (Bool.and_eq_true_iff.mp e).2) (by rfl) (by assumption)
    (by decide +kernel) ⟨rfl,rfl,rfl,rfl,rfl,by decide +kernel⟩ ?$hw ?$hc;
   (next=>(exact left (by kernel_rfl) (by decide) (fun s=>by kernel_rfl) (fun w os=>by kernel_rfl)))))
set_option maxRecDepth 100000 in
set_option maxHeartbeats 0 in
open_top top for PySem.Challenge.rw_pollproof_k81_ways_and_cuts_of_margins
end Head
namespace L2
open PySem PySem.Spec PyProof.Rows
abbrev Key:=Sum Int Str
def GQ:Key->Value->Bool
 | .inl k,v=>Value.isInt k v
 | .inr x,v=>Value.isStrOf x v
def RM (w:World):Key->Int
 | .inl k=>hashInt k
 | .inr x=>hashStr w x
theorem Bq:∀{k:Key} {v:Value},GQ k v=true->(∃i t,k=Sum.inl i/\v=Value.int i t)\/(∃x t,k=Sum.inr x/\v=Value.str x t)
 | .inl i,v,h=>by
   obtain ⟨t,e⟩:=Value.isInt_shape (k:=i) (v:=v) h
   exact .inl ⟨i,t,rfl,e⟩
 | .inr x,v,h=>by
   obtain ⟨t,e⟩:=Value.isStrOf_shape (x:=x) (v:=v) h
   exact .inr ⟨x,t,rfl,e⟩
theorem My (i:Int) (t:Tok):GQ (.inl i) (.int i t)=true:=by simp [GQ,Value.isInt]
theorem MI (x:Str) (t:Tok):GQ (.inr x) (.str x t)=true:=by simp [GQ,Value.isStrOf]
theorem Q5 (a b:Int):decide ((Sum.inl a:Key)=Sum.inl b)=(a == b):=by
 by_cases e:a=b
 ·subst e;simp
 ·have h:¬ (Sum.inl a:Key)=Sum.inl b:=fun q=>e (Sum.inl.inj q)
  rw [decide_eq_false h]
  exact (beq_eq_false_iff_ne.mpr e).symm
theorem Q2 (a b:Str):decide ((Sum.inr a:Key)=Sum.inr b)=decide (a=b):=by
 by_cases e:a=b
 ·subst e;simp
 ·have h:¬ (Sum.inr a:Key)=Sum.inr b:=fun q=>e (Sum.inr.inj q)
  rw [decide_eq_false h,decide_eq_false e]
theorem Qp (a:Int) (b:Str):decide ((Sum.inl a:Key)=Sum.inr b)=false:=decide_eq_false (fun q=>nomatch q)
theorem QI (a:Str) (b:Int):decide ((Sum.inr a:Key)=Sum.inl b)=false:=decide_eq_false (fun q=>nomatch q)
def B8 (prog:Program) (w:World):PySem.KeyKind prog w Key where
 is:=GQ
 hash:=RM w
 inj:=fun v a b ha hb=>by
  rcases Bq ha with ⟨i,t,rfl,rfl⟩ | ⟨x,t,rfl,rfl⟩
  ·rcases Bq hb with ⟨j,u,rfl,e⟩ | ⟨y,u,rfl,e⟩
   ·injection e with e1 _;rw [e1]
   ·exact nomatch e
  ·rcases Bq hb with ⟨j,u,rfl,e⟩ | ⟨y,u,rfl,e⟩
   ·exact nomatch e
   ·injection e with e1 _;rw [e1]
 byValue:=fun k v h=>by
  rcases Bq h with ⟨i,t,rfl,rfl⟩ | ⟨x,t,rfl,rfl⟩ <;> rfl
 pyHash:=fun hv h=>by
  rcases Bq hv with ⟨i,t,rfl,rfl⟩ | ⟨x,t,rfl,rfl⟩
  ·exact wpAny_pyHash_int h
  ·exact wpAny_pyHash_str h
 eqBool:=fun hu hv h=>by
  rcases Bq hu with ⟨i,t,rfl,rfl⟩ | ⟨x,t,rfl,rfl⟩
  ·rcases Bq hv with ⟨j,u,rfl,rfl⟩ | ⟨y,u,rfl,rfl⟩
   ·rw [Q5] at h;exact wpAny_eqBool_int h
   ·rw [Qp] at h;exact SeqAt.EqAt.int_str i t y u _ _ _ _ h
  ·rcases Bq hv with ⟨j,u,rfl,rfl⟩ | ⟨y,u,rfl,rfl⟩
   ·rw [QI] at h;exact SeqAt.EqAt.str_int x t j u _ _ _ _ h
   ·rw [Q2] at h;exact wpAny_eqBool_str h
 «strs»:=fun k x t v h=>by
  rcases Bq h with ⟨i,u,rfl,e⟩ | ⟨y,u,rfl,e⟩
  ·exact nomatch e
  ·injection e with e1 _
   subst e1
   cases v <;> rfl
theorem KG (prog:Program) (w:World) (i:Int) (t:Tok):(B8 prog w).is (.inl i) (.int i t)=true:=My i t
theorem K0 (prog:Program) (w:World) (x:Str) (t:Tok):(B8 prog w).is (.inr x) (.str x t)=true:=MI x t
end L2
namespace L2
open PySem PySem.Spec PyProof.Rows
inductive V where
 | non | bl (b:Bool) | int (i:Int) | str (x:Str) | byt (b:Array UInt8) | flt (b:UInt64) | ref (a:Addr) | ty (n:String)
 deriving DecidableEq
def A8:V->Value->Prop
 | .non,u=>u=Value.none
 | .bl b,u=>u=Value.bool b
 | .int i,u=>∃t,u=Value.int i t
 | .str x,u=>∃t,u=Value.str x t
 | .byt b,u=>∃t,u=Value.bytes b t
 | .flt b,u=>∃t,u=Value.float b t
 | .ref a,u=>u=Value.ref a
 | .ty n,u=>u=Value.type n
abbrev A7:List V->List Value->Prop:=Paired A8
theorem A7.length {xs:List V} {us:List Value} (r:A7 xs us):xs.length=us.length:=Paired.length r
theorem A7.get:∀{xs:List V} {us:List Value} {i:Nat} {x:V},A7 xs us->xs[i]?=some x->∃u,us[i]?=some u/\A8 x u
 | _,_,_,_,.nil,e=>by simp at e
 | _,_,0,_,.cons r _,e=>by simp at e;subst e;exact ⟨_,rfl,r⟩
 | _,_,i+1,x,.cons _ t,e=>by
   obtain ⟨u,h1,h2⟩:=A7.get (i:=i) (x:=x) t (by simpa using e)
   exact ⟨u,by simpa using h1,h2⟩
theorem A7.set {x:V} {u:Value} (r:A8 x u):∀{xs:List V} {us:List Value} (i:Nat),A7 xs us->A7 (xs.set i x) (us.set i u)
 | _,_,_,.nil=>.nil
 | _,_,0,.cons _ t=>.cons r t
 | _,_,i+1,.cons q t=>.cons q (A7.set r i t)
theorem A7.append:∀{xs ys:List V} {us ws:List Value},A7 xs us->A7 ys ws->A7 (xs++ys) (us++ws)
 | _,_,_,_,.nil,s=>s
 | _,_,_,_,.cons r t,s=>.cons r (A7.append t s)
theorem A7.take:∀{xs:List V} {us:List Value} (n:Nat),A7 xs us->A7 (xs.take n) (us.take n)
 | _,_,0,_=>.nil
 | _,_,_+1,.nil=>.nil
 | _,_,n+1,.cons r t=>.cons r (A7.take n t)
theorem A7.drop:∀{xs:List V} {us:List Value} (n:Nat),A7 xs us->A7 (xs.drop n) (us.drop n)
 | _,_,0,r=>r
 | _,_,_+1,.nil=>.nil
 | _,_,n+1,.cons _ t=>A7.drop n t
def El:Option V->Option Value->Prop
 | some v,some u=>A8 v u
 | none,none=>True
 | _,_=>False
def KV {κ:Type}:List (κ × V)->List (κ × Value)->Prop:=Paired fun (p:κ × V) (q:κ × Value)=>p.1=q.1/\A8 p.2 q.2
def kV:Key->V
 | .inl i=>.int i
 | .inr x=>.str x
inductive HO where
 | lst (xs:List V)
 | tup (xs:List V)
 | dK (kvs:List (Key × V)) | dT (kvs:List (List Key × V))
 | set (S:Int->Bool) (n:Nat)
 | ins (C dx:Addr) (fs:List (Str × V))
 | own (x:Addr)
 | xd (fs:List (Str × V))
 | met (f x:Addr)
 | rng (lo hi:Int)
 | frz (o:Obj) (u:HO)
 | tbl (ps:Array Value)
 | ext (φ:Heap->Prop)
abbrev Hp:=Addr->Option HO
noncomputable def upd (H:Hp) (a:Addr) (o:HO):Hp:=fun b=>if b=a then some o else H b
theorem Ab {H:Hp} {a:Addr} {o:HO}:upd H a o a=some o:=by unfold upd;rw [if_pos rfl]
theorem Aj {H:Hp} {a b:Addr} {o:HO} (h:b≠a):upd H a o b=H b:=by unfold upd;rw [if_neg h]
theorem B3 {H:Hp} {a:Addr} {o u:HO}:upd (upd H a o) a u=upd H a u:=by
 funext b;unfold upd;split <;> rfl
theorem DQ {H:Hp} {a b:Addr} {o u:HO} (h:H a=some o) (h':H b=some u) (d:o≠u):a≠b:=by
 intro e;subst e;rw [h] at h';exact d (Option.some.inj h')
theorem AU {H:Hp} {a b:Addr} {o:HO} (h:H a=some o) (h':H b=none):a≠b:=by
 intro e;subst e;rw [h] at h';cases h'
section
variable (P:Program) (w:World)
def Bc (H:Hp) (h:Heap) (a:Addr):HO->Prop
 | .lst xs=>xs.length<=sizeLine/\∃(its:List Value) (n:Nat),A7 xs its/\h.get? a=some { cls:=.type "list",data:=.seq its.toArray n }
 | .tup xs=>xs.length<=sizeLine/\∃its:List Value,A7 xs its/\IsTup h a its.toArray
 | .dK kvs=>kvs.length<=sizeLine/\(a == sysModules)=false/\∃vs,KV kvs vs/\h.DictOf (B8 P w) a vs
 | .dT kvs=>kvs.length<=sizeLine/\(a == sysModules)=false/\∃xs:List (List Key × Addr × Value),
  Paired (fun (p:List Key × V) (q:List Key × Addr × Value)=>p.1=q.1/\H q.2.1=some (.tup (p.1.map kV))/\A8 p.2 q.2.2) kvs xs /\
  ∃o es ep,h.get? a=some o/\o.ExactDict/\o.data=.dict es ep/\es.toList=xs.map (entryOfKey (tupleKind (B8 P w)))/\(xs.map (·.1)).Nodup
 | .set S n=>h.SetOf (intKind P w) a S n
 | .ins C dx fs=>H dx=some (.own a)/\fs.length<=1000/\dx≠a/\h.get? a=some (PySem.W.instObj C dx) /\
  ∃mA,h.Ns1 dx mA/\(∀f,El (fs.lookup f) (mA f))/\PySem.Within mA (fs.map (·.1))
 | .own _=>∃o,h.get? a=some o
 | .xd fs=>∃mA,h.Ns1 a mA/\∀f,El (fs.lookup f) (mA f)
 | .rng lo hi=>∃t u v,h.get? a=some { cls:=.type "range",data:=.fields #[.int lo t,.int hi u,.int 1 v] }
 | .frz o u=>h.get? a=some o/\Bc H h a u
 | .tbl ps=>h.get? a=some { cls:=.none,data:=.fields ps }
 | .met f x=>h.get? a=some (PySem.W.methodObj (.ref f) (.ref x))
 | .ext φ=>φ h/\(∃o,h.get? a=some o)/\∀h1 h2:Heap,φ h1->(∀o,h1.get? a=some o->h2.get? a=some o)->φ h2
def HOk (H:Hp) (h:Heap):Prop:=∀a o,H a=some o->Bc P w H h a o
end
section
variable {P:Program} {w:World} {H H':Hp} {h h':Heap} {a:Addr} {o:HO}
theorem Bc.lt (x:Bc P w H h a o):a < h.objs.size:=by
 cases o with
 | lst xs=>obtain ⟨_,_,_,_,e⟩:=x;exact Heap.lt_size e
 | tup xs=>obtain ⟨_,_,_,p⟩:=x;exact p.lt
 | dK kvs=>obtain ⟨_,_,_,_,o,_,_,e,_⟩:=x;exact Heap.lt_size e
 | dT kvs=>obtain ⟨_,_,_,_,o,_,_,e,_⟩:=x;exact Heap.lt_size e
 | set S n=>obtain ⟨o,_,_,_,e,_⟩:=x;exact Heap.lt_size e
 | ins C dx fs=>obtain ⟨_,_,_,e,_⟩:=x;exact Heap.lt_size e
 | own y=>obtain ⟨_,e⟩:=x;exact Heap.lt_size e
 | xd fs=>obtain ⟨_,⟨_,_,_,e,_⟩,_⟩:=x;exact Heap.lt_size e
 | rng lo hi=>obtain ⟨_,_,_,e⟩:=x;exact Heap.lt_size e
 | frz ob u=>obtain ⟨e,_⟩:=x;exact Heap.lt_size e
 | tbl ps=>exact Heap.lt_size (show h.get? a=some _ from x)
 | met f y=>exact Heap.lt_size (show h.get? a=some _ from x)
 | ext φ=>obtain ⟨_,⟨_,e⟩,_⟩:=x;exact Heap.lt_size e
theorem Paired.mapP {α β:Type} {F G:α->β->Prop}:∀{l₁:List α} {l₂:List β},Paired F l₁ l₂->(∀a b,F a b->G a b)->Paired G l₁ l₂
 | _,_,.nil,_=>.nil
 | _,_,.cons r t,f=>.cons (f _ _ r) (Paired.mapP t f)
theorem Bc.stay (x:Bc P w H h a o) (k:∀b u,(b=a\/H b=some (.own a))->h.get? b=some u->h'.get? b=some u)
 (ho:∀b,H b=some (.own a)->H' b=some (.own a)) (ht:∀b xs,H b=some (.tup xs)->H' b=some (.tup xs)):Bc P w H' h' a o:=by
 induction o with
 | lst xs=>obtain ⟨z,its,n,r,e⟩:=x;exact ⟨z,its,n,r,k _ _ (.inl rfl) e⟩
 | tup xs=>obtain ⟨z,its,r,ob,e,c⟩:=x;exact ⟨z,its,r,ob,k _ _ (.inl rfl) e,c⟩
 | dK kvs=>obtain ⟨z,y,vs,r,ob,es,ep,e,c⟩:=x;exact ⟨z,y,vs,r,ob,es,ep,k _ _ (.inl rfl) e,c⟩
 | dT kvs =>
   obtain ⟨z,y,xs,r,ob,es,ep,e,c⟩:=x
   exact ⟨z,y,xs,Paired.mapP r fun p q z=>⟨z.1,ht _ _ z.2.1,z.2.2⟩,ob,es,ep,k _ _ (.inl rfl) e,c⟩
 | set S n=>obtain ⟨ob,es,ep,t,e,c⟩:=x;exact ⟨ob,es,ep,t,k _ _ (.inl rfl) e,c⟩
 | ins C dx fs =>
   obtain ⟨d,z,ne,e,mA,⟨od,es,ep,e2,c⟩,r⟩:=x
   exact ⟨ho _ d,z,ne,k _ _ (.inl rfl) e,mA,⟨od,es,ep,k _ _ (.inr d) e2,c⟩,r⟩
 | own y=>obtain ⟨ob,e⟩:=x;exact ⟨ob,k _ _ (.inl rfl) e⟩
 | xd fs=>obtain ⟨mA,⟨od,es,ep,e,c⟩,r⟩:=x;exact ⟨mA,⟨od,es,ep,k _ _ (.inl rfl) e,c⟩,r⟩
 | rng lo hi=>obtain ⟨t,u,v,e⟩:=x;exact ⟨t,u,v,k _ _ (.inl rfl) e⟩
 | frz ob u ih=>obtain ⟨e,q⟩:=x;exact ⟨k _ _ (.inl rfl) e,ih q⟩
 | tbl ps =>
   have e:h.get? a=some { cls:=.none,data:=.fields ps }:=x
   show h'.get? a=some { cls:=.none,data:=.fields ps }
   exact k a _ (.inl rfl) e
 | met f y =>
   have e:h.get? a=some (PySem.W.methodObj (.ref f) (.ref y)):=x
   show h'.get? a=some (PySem.W.methodObj (.ref f) (.ref y))
   exact k a _ (.inl rfl) e
 | ext φ=>obtain ⟨p,⟨o,e⟩,st⟩:=x;exact ⟨st _ _ p fun o q=>k _ _ (.inl rfl) q,⟨o,k _ _ (.inl rfl) e⟩,st⟩
theorem HOk.lt (x:HOk P w H h) (e:H a=some o):a < h.objs.size:=(x a o e).lt
theorem HOk.fresh (x:HOk P w H h) (e:h.objs.size<=a):H a=none:=by
 cases q:H a with
 | none=>rfl
 | some u=>exact absurd (Nat.lt_of_lt_of_le (x.lt q) e) (Nat.lt_irrefl _)
theorem HOk.kept (x:HOk P w H h) (k:∀b u,h.get? b=some u->h'.get? b=some u):HOk P w H h':=fun a o e =>
 (x a o e).stay (fun b u _ q=>k b u q) (fun _ q=>q) fun _ _ q=>q
theorem HOk.laid (x:HOk P w H h) (k:∀b u,h.get? b=some u->h'.get? b=some u) (hp:h.objs.size<=a) (new:Bc P w (upd H a o) h' a o):HOk P w (upd H a o) h':=fun b u e=>by
 have hn:=x.fresh hp
 by_cases hb:b=a
 ·subst hb;rw [Ab] at e;cases e;exact new
 ·rw [Aj hb] at e
  exact (x b u e).stay (fun c v _ q=>k c v q) (fun c q=>by rw [Aj (AU q hn)];exact q) fun c xs q=>by rw [Aj (AU q hn)];exact q
end
def Rd (H:Hp) (a:Addr) (u:HO):Prop:=H a=some u\/∃o,H a=some (.frz o u)
theorem Rd.ok {P:Program} {w:World} {H:Hp} {h:Heap} {a:Addr} {u:HO} (r:Rd H a u) (x:HOk P w H h):Bc P w H h a u:=by
 rcases r with r | ⟨o,r⟩
 ·exact x a u r
 ·obtain ⟨_,q⟩:=x a _ r
  exact q
def Mut:Option HO->Prop
 | some (.lst _)=>True
 | some (.dK _)=>True
 | some (.dT _)=>True
 | some (.set _ _)=>True
 | some (.ins _ _ _)=>True
 | some (.ext _)=>True
 | _=>False
section
variable {P:Program} {w:World} {H:Hp} {h h':Heap} {x e:Addr} {o':HO}
theorem HOk.write (ok:HOk P w H h) (mu:Mut (H x)) (he:e=x\/H e=some (.own x)) (k:∀b u,b≠e->h.get? b=some u->h'.get? b=some u) (heo:∃u,h'.get? e=some u)
 (new:Bc P w (upd H x o') h' x o'):HOk P w (upd H x o') h':=fun b u q=>by
 have nown:∀c y,H c=some (.own y)->c≠x:=fun c y r z=>by subst z;rw [r] at mu;exact mu
 have ntup:∀c xs,H c=some (.tup xs)->c≠x:=fun c xs r z=>by subst z;rw [r] at mu;exact mu
 by_cases hb:b=x
 ·subst hb;rw [Ab] at q;cases q;exact new
 ·rw [Aj hb] at q
  by_cases hbe:b=e
  ·have q':H b=some (.own x):=by
    rcases he with z | z
    ·exact absurd (hbe.trans z) hb
    ·rw [hbe];exact z
   rw [q] at q';cases q'
   obtain ⟨v,hv⟩:=heo
   exact ⟨v,by rw [hbe];exact hv⟩
  ·refine (ok b u q).stay (fun c v hc r=>k c v ?_ r) (fun c r=>by rw [Aj (nown c b r)];exact r) fun c xs r=>by rw [Aj (ntup c xs r)];exact r
   rcases hc with rfl | hc
   ·exact hbe
   ·rintro rfl
    rcases he with z | z
    ·exact nown c b hc z
    ·rw [hc] at z;cases z;exact hb rfl
end
structure Un (fs ex:List Addr) (H H':Hp) (h h':Heap):Prop where
 keep:∀b o,h.get? b=some o->H b=none->b ∉ fs->b ∉ ex->h'.get? b=some o
 slot:∀b o,h.get? b=some o->H b=none->b∈fs->b ∉ ex->∃sl,h'.get? b=some { o with slots:=sl }
 free:∀b o,h.get? b=some o->H b=none->b ∉ ex->H' b=none
 there:∀b o,h.get? b=some o->b ∉ ex->∃o',h'.get? b=some o'
 tups:∀b xs,H b=some (.tup xs)->H' b=some (.tup xs)
 frzs:∀b o u,H b=some (.frz o u)->H' b=some (.frz o u)
 tbls:∀b ps,H b=some (.tbl ps)->∃more,H' b=some (.tbl (ps++more))
section
variable {fs fs' ex ex':List Addr} {H H1 H2:Hp} {h h1 h2 h':Heap} {a x e:Addr} {o:HO}
theorem Un.any (u:Un fs ex H H1 h h1) {b:Addr} {ob:Obj} (q:h.get? b=some ob) (n:H b=none) (hx:b ∉ ex):∃sl,h1.get? b=some { ob with slots:=sl }:=by
 by_cases hb:b∈fs
 ·exact u.slot b ob q n hb hx
 ·exact ⟨ob.slots,u.keep b ob q n hb hx⟩
theorem Un.kept (k:∀b u,h.get? b=some u->h'.get? b=some u):Un fs ex H H h h' :=
 ⟨fun b ob q _ _ _=>k b ob q,fun b ob q _ _ _=>⟨ob.slots,k b ob q⟩,fun _ _ _ n _=>n,fun b ob q _=>⟨ob,k b ob q⟩,fun _ _ q=>q,fun _ _ _ q=>q,fun _ ps q=>⟨#[],by rw [q];simp⟩⟩
theorem Un.refl:Un fs ex H H h h:=Un.kept fun _ _ q=>q
theorem Un.laid (k:∀b u,h.get? b=some u->h'.get? b=some u) (hp:h.objs.size<=a) (hn:H a=none):Un fs ex H (upd H a o) h h' where
 keep:=fun b u q _ _ _=>k b u q
 slot:=fun b u q _ _ _=>⟨u.slots,k b u q⟩
 free:=fun b u q n _=>by rw [Aj (Nat.ne_of_lt (Nat.lt_of_lt_of_le (Heap.lt_size q) hp))];exact n
 there:=fun b u q _=>⟨u,k b u q⟩
 tups:=fun b xs q=>by rw [Aj (AU q hn)];exact q
 frzs:=fun b u xs q=>by rw [Aj (AU q hn)];exact q
 tbls:=fun b ps q=>⟨#[],by rw [Aj (AU q hn),q];simp⟩
theorem Un.write (mu:Mut (H x)) (he:e=x\/H e=some (.own x)) (k:∀b u,b≠e->h.get? b=some u->h'.get? b=some u) (heo:∃u,h'.get? e=some u):Un fs ex H (upd H x o) h h':=by
 have hx:∀b,H b=none->b≠x:=fun b n z=>by subst z;rw [n] at mu;exact mu
 have hb:∀b,H b=none->b≠e:=fun b n z=>by
  subst z
  rcases he with r | r
  ·exact hx b n r
  ·rw [n] at r;cases r
 have hm:∀b u,H b=some u->¬ Mut (some u)->b≠x:=fun b u q nm z=>by subst z;rw [q] at mu;exact nm mu
 refine ⟨fun b u q n _ _=>k b u (hb b n) q,fun b u q n _ _=>⟨u.slots,k b u (hb b n) q⟩,fun b u q n _=>by rw [Aj (hx b n)];exact n,fun b u q _=>?_,
  fun b xs q=>by rw [Aj (hm b _ q fun z=>z)];exact q,fun b u xs q=>by rw [Aj (hm b _ q fun z=>z)];exact q,fun b ps q=>⟨#[],by rw [Aj (hm b _ q fun z=>z),q];simp⟩⟩
 by_cases hbe:b=e
 ·subst hbe;exact heo
 ·exact ⟨u,k b u hbe q⟩
end
noncomputable def trk (h:Heap) (H:Hp):List Addr:=(List.range h.objs.size).filter fun a=>(H a).isSome
noncomputable def Hi (h:Heap) (H:Hp):Heap:=PySem.W.hideAll h (trk h H)
theorem M8 (h:Heap) (H:Hp):(Hi h H).objs.size=h.objs.size:=PySem.W.hideAll_size _ _
theorem NX {h:Heap} {H:Hp} {b:Addr} {o:Obj} (e:h.get? b=some o) (n:H b=none):(Hi h H).get? b=some o :=
 PySem.W.hideAll_get _ e fun hm=>by
  have q:(H b).isSome=true:=(mem_filter.mp hm).2
  rw [n] at q;simp at q
theorem LH {h:Heap} {H:Hp} {b:Addr} {o:Obj} (e:(Hi h H).get? b=some o):h.get? b=some o/\H b=none:=by
 have e':h.get? b=some o:=PySem.W.of_hideAll (trk h H) e
 refine ⟨e',?_⟩
 cases q:H b with
 | none=>rfl
 | some x =>
   have hm:b∈trk h H:=mem_filter.mpr ⟨mem_range.mpr (Heap.lt_size e'),by simp [q]⟩
   have z:(Hi h H).get? b=none:=PySem.W.hideAll_none (trk h H) hm
   rw [z] at e;cases e
end L2
namespace L2
open PySem PySem.Spec PyProof.Rows
structure Mod (K:PySem.W.Frag) (mg:Str->Option Value) (base:Heap):Prop where
 kin:K.In base
 glob:base.Ns mainGlobals mg
 blt:∃mb,base.Ns builtinsNs mb/\∀x:Str,x≠"__name__"->mb x=bootBuiltins x
 nolimit:base.NoLimit
structure Cx where
 prog:Program
 w:World
 K:PySem.W.Frag
 mg:Str->Option Value
 base:Heap
 A:Around
 N:List Str
 s₀:Shared
 H₀:Hp
 env:Env
 outer:List Env
 stack:List Env
 ex:List Addr
 fn:Str->Bool
 calm:Bool
 pn:List (Addr × Obj)
 xe:Value->Shared->Prop
def frs (l:List Env):List Addr:=l.filterMap (·.frame)
abbrev Cx.fs (X:Cx):List Addr:=frs X.outer
def Vis (sc:Scope) (x:Str):Prop:=sc.names.lookup x=some .local\/sc.names.lookup x=some .cell\/sc.names.lookup x=some .free
def Loc (sc:Scope) (x:Str):Prop:=sc.names.lookup x=some .local\/sc.names.lookup x=some .cell
def RN (env:Env) (h:Heap) (m:Str->Option Value) (x:Str) (u:Value):Prop :=
 (env.kindOf x=some .local/\m x=some u)\/((env.kindOf x=some .cell\/env.kindOf x=some .free)/\∃c,env.cells.lookup x=some c/\h.IsCell c (some u))
structure Cx.Ok (X:Cx):Prop where
 mod:Mod X.K X.mg X.base
 kind:X.env.scope.kind=.function
 glob:X.env.globals=mainGlobals
 blt:X.env.builtins=builtinsNs
 above:X.s₀.heap.objs.size<=X.env.locals
 inj:∀x y c,X.env.cells.lookup x=some c->X.env.cells.lookup y=some c->x=y
 has:∀x,(X.env.kindOf x=some .cell\/X.env.kindOf x=some .free)->∃c,X.env.cells.lookup x=some c
 cab:∀x c,X.fn x=true->X.env.cells.lookup x=some c->X.s₀.heap.objs.size<=c
 hd:X.calm=true->X.A.handled=none
 frames:X.A.frames=some X.stack
 stk:X.stack=X.outer\/(X.stack=X.env :: X.outer/\X.env.frame=some X.env.locals)
 exf:∀b∈X.ex,b≠X.env.locals/\∀x c,X.env.cells.lookup x=some c->c≠b
 bs:∀b o,X.base.get? b=some o->X.s₀.heap.get? b=some o/\X.H₀ b=none
 bsz:X.base.objs.size<=X.s₀.heap.objs.size
 noex:∀b o,X.base.get? b=some o->b ∉ X.ex
 exfs:∀b∈X.ex,b ∉ X.fs
 funs:X.s₀.heap.FunFrames X.base X.outer
 frf:∀b∈X.fs,X.H₀ b=none
structure Inv (X:Cx) (pins:List (Addr × Obj)) (σ:List (Option V)) (H:Hp) (s:Shared):Prop where
 ok:X.Ok
 os:s.os=X.s₀.os
 bare:AllBare s.gens
 base:Un X.fs X.ex X.H₀ H X.s₀.heap s.heap
 loc:∃m,s.heap.Ns X.env.locals m/\∀(i:Nat) (x:Str) (v:V),X.N[i]?=some x->σ[i]?=some (some v)->Vis X.env.scope x->∃u,A8 v u/\RN X.env s.heap m x u
 cell:∀x c,X.env.cells.lookup x=some c->∃v,s.heap.IsCell c v
 free:H X.env.locals=none
 freeC:∀x c,X.env.cells.lookup x=some c->H c=none
 pin:∀p∈X.pn++pins,s.heap.get? p.1=some p.2/\H p.1=none/\p.1≠X.env.locals/\p.1 ∉ X.fs/\∀v,p.2.data≠.cell v
 hok:HOk X.prog X.w H s.heap
 len:σ.length=X.N.length
section
variable {X:Cx} {pins:List (Addr × Obj)} {σ:List (Option V)} {H H':Hp} {s:Shared} {h':Heap}
theorem Cx.Ok.nofr (ok:X.Ok) {b:Addr} {o:Obj} (e:X.base.get? b=some o):b ∉ X.fs:=fun hb=>by
 have:=(ok.funs.mem hb).1
 rw [e] at this;cases this
theorem Inv.bs (I:Inv X pins σ H s):∀b o,X.base.get? b=some o->s.heap.get? b=some o/\H b=none:=fun b o e =>
 ⟨I.base.keep b o (I.ok.bs b o e).1 (I.ok.bs b o e).2 (I.ok.nofr e) (I.ok.noex b o e),I.base.free b o (I.ok.bs b o e).1 (I.ok.bs b o e).2 (I.ok.noex b o e)⟩
theorem Inv.bk (I:Inv X pins σ H s):∀b o,X.base.get? b=some o->s.heap.get? b=some o:=fun b o e=>(I.bs b o e).1
theorem Inv.mod (I:Inv X pins σ H s):Mod X.K X.mg X.base:=I.ok.mod
theorem Inv.kIn (I:Inv X pins σ H s):X.K.In s.heap:=I.ok.mod.kin.keeps I.bk
theorem Inv.nolimit (I:Inv X pins σ H s):s.heap.NoLimit:=I.ok.mod.nolimit.keeps I.bk
theorem Inv.lt (I:Inv X pins σ H s):X.env.locals < s.heap.objs.size:=let ⟨_,hn,_⟩:=I.loc;hn.lt
theorem Inv.sz (I:Inv X pins σ H s):X.s₀.heap.objs.size<=s.heap.objs.size:=Nat.le_trans I.ok.above (Nat.le_of_lt I.lt)
theorem Inv.nofs (I:Inv X pins σ H s) {a:Addr} (h:s.heap.objs.size<=a):a ∉ X.fs:=fun hb=>by
 obtain ⟨_,o,ho,_⟩:=I.ok.funs.mem hb
 exact absurd (Nat.lt_of_lt_of_le (Heap.lt_size ho) (Nat.le_trans I.sz h)) (Nat.lt_irrefl _)
theorem Inv.cne (I:Inv X pins σ H s):∀x c,X.env.cells.lookup x=some c->c≠X.env.locals:=fun x c e z=>by
 obtain ⟨v,o,ho,hd⟩:=I.cell x c e
 obtain ⟨m,⟨o',es,ep,ho',hd',_⟩,_⟩:=I.loc
 rw [z,ho'] at ho;cases ho;rw [hd'] at hd;cases hd
theorem Inv.funs (I:Inv X pins σ H s):s.heap.FunFrames X.base X.outer:=by
 have all:∀(l:List Env),(∀b∈frs l,b∈X.fs)->X.s₀.heap.FunFrames X.base l->s.heap.FunFrames X.base l:=by
  intro l
  induction l with
  | nil=>intro _ _;trivial
  | cons env r ih =>
    intro hs hl
    obtain ⟨hk,⟨L,o,hf,hn,ho,hd⟩,hr⟩:=hl
    have hL:L∈X.fs:=hs L (by unfold frs;rw [filterMap_cons,hf];exact mem_cons_self)
    obtain ⟨sl,e⟩:=I.base.slot L o ho (I.ok.frf L hL) hL fun z=>I.ok.exfs L z hL
    exact ⟨hk,⟨L,_,hf,hn,e,hd⟩,ih (fun b hb=>hs b (by unfold frs;rw [filterMap_cons,hf];exact mem_cons_of_mem _ hb)) hr⟩
 exact all X.outer (fun _ hb=>hb) I.ok.funs
theorem Inv.stack (I:Inv X pins σ H s):s.heap.FunFrames X.base X.stack:=by
 rcases I.ok.stk with e | ⟨e,hf⟩
 ·rw [e];exact I.funs
 ·rw [e]
  obtain ⟨m,hn,_⟩:=I.loc
  refine .cons (by rw [I.ok.kind];decide) hf hn ?_ I.funs
  exact Heap.get?_none_of_le (Nat.le_trans I.ok.bsz I.ok.above)
theorem Inv.stkSub (I:Inv X pins σ H s):∀b∈frs X.stack,b∈X.env.locals :: X.fs:=fun b hb=>by
 rcases I.ok.stk with e | ⟨e,hf⟩
 ·rw [e] at hb;exact mem_cons_of_mem _ hb
 ·rw [e] at hb
  unfold frs at hb
  rw [filterMap_cons,hf] at hb
  exact hb
theorem Inv.stkFree (I:Inv X pins σ H s):∀b∈frs X.stack,H b=none:=fun b hb=>by
 rcases mem_cons.mp (I.stkSub b hb) with e | hb
 ·rw [e];exact I.free
 ·obtain ⟨_,o,ho,_⟩:=I.ok.funs.mem hb
  exact I.base.free b o ho (I.ok.frf b hb) fun z=>I.ok.exfs b z hb
theorem Inv.step {g':Array GenState} {t':Nat} {d':Drawn} {ch:List Addr} (I:Inv X pins σ H s)
 (hch:∀b∈ch,(b∈X.ex\/X.s₀.heap.objs.size<=b)/\b≠X.env.locals/\(∀x c,X.env.cells.lookup x=some c->c≠b)/\∀p∈X.pn++pins,p.1≠b)
 (keep:∀b o,b≠X.env.locals->b ∉ X.fs->b ∉ ch->s.heap.get? b=some o->H b=none->h'.get? b=some o)
 (slot:∀b o,b≠X.env.locals->b∈X.fs->b ∉ ch->s.heap.get? b=some o->H b=none->∃sl,h'.get? b=some { o with slots:=sl }) (free:∀b o,b ∉ ch->s.heap.get? b=some o->H b=none->H' b=none)
 (there:∀b o,b ∉ ch->s.heap.get? b=some o->∃o',h'.get? b=some o')
 (tups:∀b xs,H b=some (.tup xs)->H' b=some (.tup xs)) (frzs:∀b o u,H b=some (.frz o u)->H' b=some (.frz o u)) (tbls:∀b ps,H b=some (.tbl ps)->∃more,H' b=some (.tbl (ps++more)))
 (ns:∀m,s.heap.Ns X.env.locals m->h'.Ns X.env.locals m) (hok:HOk X.prog X.w H' h') (hg:AllBare g') :
 Inv X pins σ H' { s with heap:=h',gens:=g',drawn:=d',toks:=t' }:=by
 have neL:∀b o,X.s₀.heap.get? b=some o->b≠X.env.locals:=fun b o e=>Nat.ne_of_lt (Nat.lt_of_lt_of_le (Heap.lt_size e) I.ok.above)
 have neC:∀b o,X.s₀.heap.get? b=some o->b ∉ X.ex->b ∉ ch:=fun b o e hx hb=>by
  rcases (hch b hb).1 with z | z
  ·exact hx z
  ·exact absurd (Nat.lt_of_lt_of_le (Heap.lt_size e) z) (Nat.lt_irrefl _)
 have cellK:∀x c,X.env.cells.lookup x=some c->∀v,s.heap.IsCell c v->h'.IsCell c v:=fun x c e v ⟨o,ho,hd⟩=>by
  have nch:c ∉ ch:=fun z=>(hch c z).2.2.1 x c e rfl
  by_cases hc:c∈X.fs
  ·obtain ⟨sl,q⟩:=slot c o (I.cne x c e) hc nch ho (I.freeC x c e)
   exact ⟨_,q,hd⟩
  ·exact ⟨o,keep c o (I.cne x c e) hc nch ho (I.freeC x c e),hd⟩
 refine ⟨I.ok,I.os,hg,⟨fun b o e n hb hx=>?_,fun b o e n hb hx=>?_,fun b o e n hx=>?_,fun b o e hx=>?_,fun b xs e=>tups b xs (I.base.tups b xs e),fun b o xs e=>frzs b o xs (I.base.frzs b o xs e),fun b ps e=>?_⟩,?_,fun x c e=>?_,?_,fun x c e=>?_,fun p hp=>?_,hok,I.len⟩
 ·exact keep b o (neL b o e) hb (neC b o e hx) (I.base.keep b o e n hb hx) (I.base.free b o e n hx)
 ·obtain ⟨sl,e1⟩:=I.base.slot b o e n hb hx
  obtain ⟨sl',e2⟩:=slot b _ (neL b o e) hb (neC b o e hx) e1 (I.base.free b o e n hx)
  exact ⟨sl',e2⟩
 ·obtain ⟨o',e1⟩:=I.base.there b o e hx
  exact free b o' (neC b o e hx) e1 (I.base.free b o e n hx)
 ·obtain ⟨o',e1⟩:=I.base.there b o e hx
  exact there b o' (neC b o e hx) e1
 ·obtain ⟨m1,e1⟩:=I.base.tbls b ps e
  obtain ⟨m2,e2⟩:=tbls b _ e1
  exact ⟨m1++m2,by rw [e2,Array.append_assoc]⟩
 ·obtain ⟨m,hn,hl⟩:=I.loc
  refine ⟨m,ns m hn,fun i x v e1 e2 e3=>?_⟩
  obtain ⟨u,r,l⟩:=hl i x v e1 e2 e3
  refine ⟨u,r,?_⟩
  rcases l with l | ⟨k,c,e,z⟩
  ·exact .inl l
  ·exact .inr ⟨k,c,e,cellK x c e _ z⟩
 ·obtain ⟨v,z⟩:=I.cell x c e
  exact ⟨v,cellK x c e v z⟩
 ·obtain ⟨m,⟨o,_,_,ho,_⟩,_⟩:=I.loc
  exact free _ o (fun z=>(hch _ z).2.1 rfl) ho I.free
 ·obtain ⟨v,o,ho,hd⟩:=I.cell x c e
  exact free c o (fun z=>(hch c z).2.2.1 x c e rfl) ho (I.freeC x c e)
 ·obtain ⟨e,n,ne,nf,d⟩:=I.pin p hp
  have nch:p.1 ∉ ch:=fun z=>(hch p.1 z).2.2.2 p hp rfl
  exact ⟨keep p.1 p.2 ne nf nch e n,free p.1 p.2 nch e n,ne,nf,d⟩
theorem Inv.un {t':Nat} (I:Inv X pins σ H s) (u:Un X.fs [] H H' s.heap h') (hok:HOk X.prog X.w H' h'):Inv X pins σ H' { s with heap:=h',toks:=t' }:=by
 obtain ⟨m,⟨o,es,ep,ho,r⟩,_⟩:=id I.loc
 obtain ⟨sl,hL⟩:=u.any ho I.free (by simp)
 exact I.step (g':=s.gens) (d':=s.drawn) (ch:=[]) (fun _ z=>by cases z) (fun b o _ hb _ e n=>u.keep b o e n hb (by simp)) (fun b o _ hb _ e n=>u.slot b o e n hb (by simp)) (fun b o _ e n=>u.free b o e n (by simp)) (fun b o _ e=>u.there b o e (by simp)) u.tups u.frzs u.tbls (fun m' hm=>by
  obtain ⟨o',es',ep',ho',r'⟩:=hm
  rw [ho] at ho';cases ho'
  exact ⟨_,es',ep',hL,r'⟩) hok I.bare
theorem Inv.call {g':Array GenState} {t':Nat} {d':Drawn} {ch:List Addr} (I:Inv X pins σ H s) (u:Un (frs X.stack) ch H H' s.heap h') (hok:HOk X.prog X.w H' h') (hg:AllBare g')
 (hch:∀b∈ch,(b∈X.ex\/X.s₀.heap.objs.size<=b)/\b≠X.env.locals/\(∀x c,X.env.cells.lookup x=some c->c≠b)/\∀p∈X.pn++pins,p.1≠b) :
 Inv X pins σ H' { s with heap:=h',gens:=g',drawn:=d',toks:=t' }:=by
 obtain ⟨m,⟨o,es,ep,ho,r⟩,_⟩:=id I.loc
 obtain ⟨sl,hL⟩:=u.any ho I.free fun z=>(hch _ z).2.1 rfl
 exact I.step (ch:=ch) hch (fun b o hL hb hc e n=>u.keep b o e n (fun z=>(mem_cons.mp (I.stkSub b z)).elim hL hb) hc) (fun b o _ _ hc e n=>u.any e n hc) (fun b o hc e n=>u.free b o e n hc) (fun b o hc e=>u.there b o e hc) u.tups u.frzs u.tbls (fun m' hm=>by
  obtain ⟨o',es',ep',ho',r'⟩:=hm
  rw [ho] at ho';cases ho'
  exact ⟨_,es',ep',hL,r'⟩) hok hg
theorem Inv.turned {t':Nat} {it:Addr} (I:Inv X pins σ H s) (k:∀b o,b≠it->s.heap.get? b=some o->h'.get? b=some o) (hn:H it=none) (hL:it≠X.env.locals)
 (h1:it∈X.ex\/X.s₀.heap.objs.size<=it) (h2:∀x c,X.env.cells.lookup x=some c->c≠it) (h3:∀p∈X.pn++pins,p.1≠it):Inv X pins σ H { s with heap:=h',toks:=t' }:=by
 have nit:∀b u,H b=some u->b≠it:=fun b u e z=>by rw [z,hn] at e;cases e
 refine I.step (g':=s.gens) (d':=s.drawn) (ch:=[it]) (fun b hb=>?_) (fun b o _ _ hc e _=>k b o (fun z=>hc (by simp [z])) e) (fun b o _ _ hc e _=>⟨o.slots,k b o (fun z=>hc (by simp [z])) e⟩) (fun _ _ _ _ n=>n)
  (fun b o hc e=>⟨o,k b o (fun z=>hc (by simp [z])) e⟩) (fun _ _ e=>e) (fun _ _ _ e=>e) (fun b ps e=>⟨#[],by rw [e];simp⟩) (fun m hm=>?_) (fun b u e=>?_) I.bare
 ·have e:b=it:=by simpa using hb
  subst e
  exact ⟨h1,hL,h2,h3⟩
 ·obtain ⟨o,es,ep,ho,r⟩:=hm
  exact ⟨o,es,ep,k _ o (Ne.symm hL) ho,r⟩
 ·refine (I.hok b u e).stay (fun c v hc q=>k c v ?_ q) (fun _ q=>q) fun _ _ q=>q
  rcases hc with z | z
  ·rw [z];exact nit b u e
  ·exact nit c _ z
theorem Inv.tok (I:Inv X pins σ H s) (t:Nat):Inv X pins σ H { s with toks:=t }:=I.un (h':=s.heap) (t':=t) Un.refl I.hok
theorem Inv.kept {t':Nat} (I:Inv X pins σ H s) (k:∀b u,s.heap.get? b=some u->h'.get? b=some u):Inv X pins σ H { s with heap:=h',toks:=t' }:=I.un (Un.kept k) (I.hok.kept k)
theorem Inv.laid {a:Addr} {o:HO} {t':Nat} (I:Inv X pins σ H s) (k:∀b u,s.heap.get? b=some u->h'.get? b=some u) (hp:s.heap.objs.size<=a) (new:Bc X.prog X.w (upd H a o) h' a o) :
 Inv X pins σ (upd H a o) { s with heap:=h',toks:=t' }:=I.un (Un.laid k hp (I.hok.fresh hp)) (I.hok.laid k hp new)
theorem Inv.write {x e:Addr} {o:HO} {t':Nat} (I:Inv X pins σ H s) (mu:Mut (H x)) (he:e=x\/H e=some (.own x)) (k:∀b u,b≠e->s.heap.get? b=some u->h'.get? b=some u) (heo:∃u,h'.get? e=some u)
 (new:Bc X.prog X.w (upd H x o) h' x o):Inv X pins σ (upd H x o) { s with heap:=h',toks:=t' }:=I.un (Un.write mu he k heo) (I.hok.write mu he k heo new)
theorem Inv.pins_of {pins':List (Addr × Obj)} (I:Inv X pins σ H s) (h:∀p∈pins',s.heap.get? p.1=some p.2/\H p.1=none/\p.1≠X.env.locals/\p.1 ∉ X.fs/\∀v,p.2.data≠.cell v):Inv X pins' σ H s :=
 ⟨I.ok,I.os,I.bare,I.base,I.loc,I.cell,I.free,I.freeC,fun p hp=>(mem_append.mp hp).elim (fun z=>I.pin p (mem_append_left _ z)) (h p),I.hok,I.len⟩
theorem JP {N:List Str} (hN:N.Nodup) {i j:Nat} {x:Str} (a:N[i]?=some x) (b:N[j]?=some x):i=j:=by
 obtain ⟨h1,e1⟩:=List.getElem?_eq_some_iff.mp a
 obtain ⟨h2,e2⟩:=List.getElem?_eq_some_iff.mp b
 exact (getElem_inj hN).mp (e1.trans e2.symm)
theorem FT {M:Model} {A:Around} {E:Value->Shared->Prop} {i:Nat} {x:Str} {v:V} {u:Value} {Q:Unit->Shared->Prop} (I:Inv X pins σ H s) (hN:X.N.Nodup) (hi:X.N[i]?=some x) (hx:Loc X.env.scope x) (r:A8 v u)
 (h:∀s',Inv X pins (σ.set i (some v)) H s'->(∃a,Heap.SameBut a s.heap s'.heap/\(a=X.env.locals\/X.env.cells.lookup x=some a))->Q () s') (hf:X.fn x=true\/X.env.scope.names.lookup x=some .local:=by first | exact .inl rfl | exact .inr rfl | assumption):wpAny M A (storeName X.env x u) Q E s:=by
 obtain ⟨m,hn,hl⟩:=id I.loc
 have hcls:(X.env.scope.kind == .class || (X.env.scope.kind == .module && X.env.locals != X.env.globals))=false:=by rw [I.ok.kind];rfl
 have hiσ:i < σ.length:=by rw [I.len];exact (List.getElem?_eq_some_iff.mp hi).1
 have cne:=I.cne
 have tracked:∀{a:Addr} {h':Heap},(∃o,s.heap.get? a=some o/\H a=none)->Heap.SameBut a s.heap h'->HOk X.prog X.w H h':=fun {a h'} ha hs b ob e=>by
  obtain ⟨_,_,hfree⟩:=ha
  refine (I.hok b ob e).stay (fun c w' hc q=>(hs.2 c ?_).trans q) (fun _ q=>q) fun _ _ q=>q
  rintro rfl
  rcases hc with rfl | hc
  ·rw [hfree] at e;cases e
  ·rw [hfree] at hc;cases hc
 rcases hx with hk | hk
 ·refine wpAny_storeName_local hk hn (fun h' hn' hs=>?_) hcls
  obtain ⟨oL,_,_,hoL,_⟩:=id hn
  refine h _ ⟨I.ok,I.os,I.bare,⟨fun b o e n hb hx=>?_,fun b o e n hb hx=>?_,I.base.free,fun b o e hx=>?_,I.base.tups,I.base.frzs,I.base.tbls⟩,⟨_,hn',fun j y v' e1 e2 e3=>?_⟩,fun y c e=>?_,I.free,I.freeC,fun p hp=>?_,tracked ⟨oL,hoL,I.free⟩ hs,by simpa using I.len⟩ ⟨_,hs,.inl rfl⟩
  ·exact (hs.2 b (Nat.ne_of_lt (Nat.lt_of_lt_of_le (Heap.lt_size e) I.ok.above))).trans (I.base.keep b o e n hb hx)
  ·obtain ⟨sl,e1⟩:=I.base.slot b o e n hb hx
   exact ⟨sl,(hs.2 b (Nat.ne_of_lt (Nat.lt_of_lt_of_le (Heap.lt_size e) I.ok.above))).trans e1⟩
  ·obtain ⟨o',e1⟩:=I.base.there b o e hx
   exact ⟨o',(hs.2 b (Nat.ne_of_lt (Nat.lt_of_lt_of_le (Heap.lt_size e) I.ok.above))).trans e1⟩
  ·by_cases hj:j=i
   ·subst hj
    rw [hi] at e1;cases e1
    rw [List.getElem?_set_self hiσ] at e2
    cases e2
    exact ⟨u,r,.inl ⟨hk,by simp⟩⟩
   ·rw [List.getElem?_set_ne (Ne.symm hj)] at e2
    obtain ⟨u',r',q⟩:=hl j y v' e1 e2 e3
    refine ⟨u',r',?_⟩
    rcases q with ⟨k,e⟩ | ⟨k,c,e,z⟩
    ·refine .inl ⟨k,?_⟩
     have:y≠x:=fun e=>hj (JP hN e1 (e ▸ hi))
     simp [this,e]
    ·exact .inr ⟨k,c,e,z.sameBut hs (cne y c e)⟩
  ·obtain ⟨w',z⟩:=I.cell y c e
   exact ⟨w',z.sameBut hs (cne y c e)⟩
  ·obtain ⟨e,n,ne,nf,d⟩:=I.pin p hp
   exact ⟨(hs.2 p.1 ne).trans e,n,ne,nf,d⟩
 ·have hfn:X.fn x=true:=by
   rcases hf with z | z
   ·exact z
   ·rw [z] at hk;cases hk
  obtain ⟨c,hc⟩:=I.ok.has x (.inl hk)
  obtain ⟨w',z⟩:=I.cell x c hc
  refine wpAny_storeName_cell I.ok.kind hk hc z (fun h' hc' hs=>?_)
  obtain ⟨oc,hoc,hocd⟩:=id z
  refine h { s with heap:=h' } ⟨I.ok,I.os,I.bare,⟨fun b o e n hb hx=>?_,fun b o e n hb hx=>?_,I.base.free,fun b o e hx=>?_,I.base.tups,I.base.frzs,I.base.tbls⟩,⟨m,hn.sameBut hs (Ne.symm (cne x c hc)),fun j y v' e1 e2 e3=>?_⟩,fun y c' e=>?_,I.free,I.freeC,fun p hp=>?_,tracked ⟨oc,hoc,I.freeC x c hc⟩ hs,by simpa using I.len⟩ ⟨c,hs,.inr hc⟩
  ·exact (hs.2 b (Nat.ne_of_lt (Nat.lt_of_lt_of_le (Heap.lt_size e) (I.ok.cab x c hfn hc)))).trans (I.base.keep b o e n hb hx)
  ·obtain ⟨sl,e1⟩:=I.base.slot b o e n hb hx
   exact ⟨sl,(hs.2 b (Nat.ne_of_lt (Nat.lt_of_lt_of_le (Heap.lt_size e) (I.ok.cab x c hfn hc)))).trans e1⟩
  ·obtain ⟨o',e1⟩:=I.base.there b o e hx
   exact ⟨o',(hs.2 b (Nat.ne_of_lt (Nat.lt_of_lt_of_le (Heap.lt_size e) (I.ok.cab x c hfn hc)))).trans e1⟩
  ·by_cases hj:j=i
   ·subst hj
    rw [hi] at e1;cases e1
    rw [List.getElem?_set_self hiσ] at e2
    cases e2
    exact ⟨u,r,.inr ⟨.inl hk,c,hc,hc'⟩⟩
   ·rw [List.getElem?_set_ne (Ne.symm hj)] at e2
    obtain ⟨u',r',q⟩:=hl j y v' e1 e2 e3
    refine ⟨u',r',?_⟩
    rcases q with q | ⟨k,c',e,z'⟩
    ·exact .inl q
    ·refine .inr ⟨k,c',e,z'.sameBut hs ?_⟩
     rintro rfl
     exact hj (JP hN e1 (I.ok.inj _ _ _ e hc ▸ hi))
  ·by_cases hcc:c'=c
   ·subst hcc;exact ⟨_,hc'⟩
   ·obtain ⟨w2,z2⟩:=I.cell y c' e
    exact ⟨w2,z2.sameBut hs hcc⟩
  ·obtain ⟨e,n,ne,nf,d⟩:=I.pin p hp
   refine ⟨(hs.2 p.1 ?_).trans e,n,ne,nf,d⟩
   intro q
   rw [q,hoc] at e
   have q':oc=p.2:=Option.some.inj e
   exact d w' (by rw [<- q'];exact hocd)
theorem JF {M:Model} {A:Around} {E:Value->Shared->Prop} {i:Nat} {x:Str} {v:V} {u:Value} {Q:Unit->Shared->Prop} (I:Inv X pins σ H s) (hN:X.N.Nodup) (hi:X.N[i]?=some x) (hx:Loc X.env.scope x) (r:A8 v u)
 (h:∀s',Inv X pins (σ.set i (some v)) H s'->Q () s') (hf:X.fn x=true\/X.env.scope.names.lookup x=some .local:=by first | exact .inl rfl | exact .inr rfl | assumption):wpAny M A (storeName X.env x u) Q E s :=
 FT I hN hi hx r (fun s' I' _=>h s' I') hf
theorem Inv.call' {s':Shared} {ch:List Addr} (I:Inv X pins σ H s) (ho:s'.os=s.os) (u:Un (frs X.stack) ch H H' s.heap s'.heap) (hok:HOk X.prog X.w H' s'.heap) (hg:AllBare s'.gens)
 (hch:∀b∈ch,(b∈X.ex\/X.s₀.heap.objs.size<=b)/\b≠X.env.locals/\(∀x c,X.env.cells.lookup x=some c->c≠b)/\∀p∈X.pn++pins,p.1≠b):Inv X pins σ H' s':=by
 obtain ⟨h',g',d',t',o'⟩:=s'
 have e:o'=s.os:=ho
 subst e
 exact I.call (g':=g') (t':=t') (d':=d') u hok hg hch
end
abbrev XK:=Value->Option Addr->Hp->Prop
abbrev St:=List (Option V)
abbrev VK:=V->Hp->Prop
abbrev TE:=St->Hp->VK->Prop
abbrev TT:=St->Hp->(Bool->Hp->Prop)->Prop
abbrev TA:=St->Hp->(List V->Hp->Prop)->Prop
structure FN where
 nx:St->Hp->Prop
 rt:VK
 bk:St->Hp->Prop:=fun _ _=>False
 ct:St->Hp->Prop:=fun _ _=>False
abbrev TS:=FN->St->Hp->Prop
def EP (X:Cx) (pins:List (Addr × Obj)) (σ:St) (Q:VK) (u:Value) (s':Shared):Prop:=∃v H',Inv X pins σ H' s'/\A8 v u/\Q v H'
def TP (X:Cx) (pins:List (Addr × Obj)) (σ:St) (Q:Bool->Hp->Prop) (b:Bool) (s':Shared):Prop:=∃H',Inv X pins σ H' s'/\Q b H'
def AP (X:Cx) (pins:List (Addr × Obj)) (σ:St) (Q:List V->Hp->Prop) (us:List Value) (s':Shared):Prop:=∃vs H',Inv X pins σ H' s'/\A7 vs us/\Q vs H'
def SP (X:Cx) (pins:List (Addr × Obj)) (D:FN) (f:Flow) (s':Shared):Prop :=
 match f with
 | .next=>∃σ' H',Inv X pins σ' H' s'/\D.nx σ' H'
 | .brk=>∃σ' H',Inv X pins σ' H' s'/\D.bk σ' H'
 | .cont=>∃σ' H',Inv X pins σ' H' s'/\D.ct σ' H'
 | .ret u=>∃v σ' H',Inv X pins σ' H' s'/\A8 v u/\D.rt v H'
def PE (X:Cx) (e:Expr) (t:TE):Prop :=
 ∀(pins:List (Addr × Obj)) (s:Shared) (σ:St) (H:Hp) (Q:VK),Inv X pins σ H s->t σ H Q->wpAny (model X.prog X.w) X.A (eval e X.env) (EP X pins σ Q) X.xe s
def PT (X:Cx) (e:Expr) (t:TT):Prop :=
 ∀(pins:List (Addr × Obj)) (s:Shared) (σ:St) (H:Hp) (Q:Bool->Hp->Prop),Inv X pins σ H s->t σ H Q->wpAny (model X.prog X.w) X.A (isTrue e X.env (eval e X.env)) (TP X pins σ Q) X.xe s
def PW (X:Cx) (e:Expr) (t:TT):Prop :=
 ∀(whole:Sem Value) (pins:List (Addr × Obj)) (s:Shared) (σ:St) (H:Hp) (Q:Bool->Hp->Prop),Inv X pins σ H s->t σ H Q->wpAny (model X.prog X.w) X.A (isTrue e X.env whole) (TP X pins σ Q) X.xe s
theorem PW.pt {X:Cx} {e:Expr} {t:TT} (h:PW X e t):PT X e t:=h _
def PA (X:Cx) (es:List Expr) (t:TA):Prop :=
 ∀(pos:Pos) (pins:List (Addr × Obj)) (s:Shared) (σ:St) (H:Hp) (Q:List V->Hp->Prop),Inv X pins σ H s->t σ H Q->wpAny (model X.prog X.w) X.A (spliced (backTo pos (starEach es X.env))) (AP X pins σ Q) X.xe s
def PS (X:Cx) (st:Stmt) (t:TS):Prop :=
 ∀(pins:List (Addr × Obj)) (s:Shared) (σ:St) (H:Hp) (D:FN),Inv X pins σ H s->t D σ H->wpAny (model X.prog X.w) X.A (exec st X.env) (SP X pins D) X.xe s
def PSs (X:Cx) (st:List Stmt) (t:TS):Prop :=
 ∀(pins:List (Addr × Obj)) (s:Shared) (σ:St) (H:Hp) (D:FN),Inv X pins σ H s->t D σ H->wpAny (model X.prog X.w) X.A (execs st X.env) (SP X pins D) X.xe s
theorem thn {α:Type} {t:Sem α} {Q Q':α->Shared->Prop} {M:Model} {A:Around} {E:Value->Shared->Prop} {s:Shared} (h:wpAny M A t Q E s) (hQ:∀a s,Q a s->Q' a s):wpAny M A t Q' E s:=wpAny_mono h hQ fun _ _ x=>x
end L2
namespace L2
open PySem PySem.Spec PyProof.Rows
section
variable {X:Cx}
def Rb (i:Nat):TE:=fun σ H Q=>∃v,σ[i]?=some (some v)/\Q v H
def tC (v:V):TE:=fun _ H Q=>Q v H
theorem QC {i:Nat} {x:Str} {pos:Pos} (hN:X.N[i]?=some x) (hv:Vis X.env.scope x) (hd:(x == ("__debug__":Str))=false:=by decide) (hcd:(x == ("__classdict__":Str))=false:=by decide):PE X (.Name x pos) (Rb i):=by
 intro pins s σ H Q I h
 obtain ⟨v,e,h⟩:=h
 obtain ⟨m,hn,hl⟩:=I.loc
 obtain ⟨u,r,l⟩:=hl i x v hN e hv
 have fin:EP X pins σ Q u s:=⟨v,H,I,r,h⟩
 rcases l with ⟨hk,hm⟩ | ⟨hk,c,hc,hcell⟩
 ·exact wpAny_Name (wpAny_loadName_local I.ok.kind hk hn hm fin) hd
 ·rcases hk with hk | hk
  ·exact wpAny_Name (wpAny_loadName_cell I.ok.kind hk hc hcell fin) hd
  ·exact wpAny_Name (wpAny_loadName_free I.ok.kind hk hc hcell fin hcd) hd
theorem Ag {i j pos}:PE X (.Constant (.int i) j pos) (tC (.int i)):=fun _ _ _ H _ I h=>wpAny_Constant_int ⟨.int i,H,I.tok _,⟨_,rfl⟩,h⟩
theorem Cp {b j pos}:PE X (.Constant (.bool b) j pos) (tC (.bl b)):=fun _ _ _ H _ I h=>Constant_bool ⟨.bl b,H,I,rfl,h⟩
theorem D9 {j pos}:PE X (.Constant .none j pos) (tC .non):=fun _ _ _ H _ I h=>Constant_none ⟨.non,H,I,rfl,h⟩
def Gl (X:Cx) (x:Str):Prop:=X.env.kindOf x=some .globalImplicit
theorem Jc {E:Value->Shared->Prop} {pins:List (Addr × Obj)} {s:Shared} {σ:St} {H:Hp} {x:Str} {u:Value} {pos:Pos} {Q:Value->Shared->Prop} (I:Inv X pins σ H s) (hg:Gl X x) (hm:X.mg x=some u) (h:Q u s)
 (hd:(x == ("__debug__":Str))=false:=by decide):wpAny (model X.prog X.w) X.A (eval (.Name x pos) X.env) Q E s :=
 Calls.Name_function_global I.ok.kind hg (Calls.loadGlobal_global (by rw [I.ok.glob];exact I.mod.glob.keeps I.bk) hm h) hd
theorem DA {E:Value->Shared->Prop} {pins:List (Addr × Obj)} {s:Shared} {σ:St} {H:Hp} {x:Str} {u:Value} {pos:Pos} {Q:Value->Shared->Prop} (I:Inv X pins σ H s) (hg:Gl X x) (hm:X.mg x=none) (hv:bootBuiltins x=some u) (h:Q u s)
 (hn:x≠"__name__":=by decide) (hd:(x == ("__debug__":Str))=false:=by decide):wpAny (model X.prog X.w) X.A (eval (.Name x pos) X.env) Q E s:=by
 obtain ⟨mb,h1,h2⟩:=I.mod.blt
 exact Calls.Name_function_global I.ok.kind hg (Calls.loadGlobal_builtin (by rw [I.ok.glob];exact I.mod.glob.keeps I.bk) hm (by rw [I.ok.blt];exact h1.keeps I.bk) ((h2 x hn).trans hv) h) hd
theorem Jo {x:Str} {v:V} {u:Value} {pos:Pos} (hg:Gl X x) (hm:X.mg x=some u) (r:A8 v u) (hd:(x == ("__debug__":Str))=false:=by decide):PE X (.Name x pos) (tC v) :=
 fun _ _ _ H _ I h=>Jc I hg hm ⟨v,H,I,r,h⟩ hd
theorem Dm {x:Str} {v:V} {u:Value} {pos:Pos} (hg:Gl X x) (hm:X.mg x=none) (hv:bootBuiltins x=some u) (r:A8 v u) (hn:x≠"__name__":=by decide) (hd:(x == ("__debug__":Str))=false:=by decide):PE X (.Name x pos) (tC v) :=
 fun _ _ _ H _ I h=>DA I hg hm hv ⟨v,H,I,r,h⟩ hn hd
variable {a b:Expr} {ta tb:TE} {pos:Pos}
def tB (t:TE):TT:=fun σ H Q=>t σ H fun x H1=>∃c,x=.bl c/\Q c H1
theorem By {e:Expr} {t:TE} (h:PE X e t) (he:∀whole,isTrue e X.env whole=(do let v <- whole;standAt e.pos;holding [v] (truthy v)):=by intro _;rfl):PT X e (tB t):=by
 intro pins s σ H Q I hw
 refine isTrue_plain (thn (h pins s σ H _ I hw) fun v s1 ⟨x,H1,I1,r1,q1⟩=>?_) (he _)
 obtain ⟨d,rfl,q⟩:=q1
 cases r1
 exact wpAny_truthy_bool ⟨H1,I1,q⟩
variable {tA tB':TT} {rest:List Expr}
def RR (t u:TT):TT:=fun σ H Q=>t σ H fun c H1=>if c=true then u σ H1 Q else Q false H1
def tOr (t u:TT):TT:=fun σ H Q=>t σ H fun c H1=>if c=true then Q true H1 else u σ H1 Q
def RV (t:TT):TT:=fun σ H Q=>t σ H fun c H1=>Q (!c) H1
theorem Dj (ha:PT X a tA):PW X (.BoolOp .And [a] pos) tA:=by
 intro wh pins s σ H Q I h
 refine isTrue_and (thn (ha pins s σ H Q I h) fun c s1 e=>?_)
 cases c with
 | true=>exact isTrue_and_nil e
 | false=>exact e
theorem Du (ha:PT X a tA):PW X (.BoolOp .Or [a] pos) tA:=by
 intro wh pins s σ H Q I h
 refine isTrue_or (thn (ha pins s σ H Q I h) fun c s1 e=>?_)
 cases c with
 | false=>exact isTrue_or_nil e
 | true=>exact e
theorem DE (ha:PT X a tA) (hb:PW X (.BoolOp .And (b :: rest) pos) tB'):PW X (.BoolOp .And (a :: b :: rest) pos) (RR tA tB'):=by
 intro wh pins s σ H Q I h
 refine isTrue_and (thn (ha pins s σ H _ I h) fun c s1 ⟨H1,I1,q1⟩=>?_)
 cases c with
 | true=>exact hb wh pins s1 σ H1 Q I1 q1
 | false=>exact ⟨H1,I1,q1⟩
theorem Cv (ha:PT X a tA) (hb:PW X (.BoolOp .Or (b :: rest) pos) tB'):PW X (.BoolOp .Or (a :: b :: rest) pos) (tOr tA tB'):=by
 intro wh pins s σ H Q I h
 refine isTrue_or (thn (ha pins s σ H _ I h) fun c s1 ⟨H1,I1,q1⟩=>?_)
 cases c with
 | true=>exact ⟨H1,I1,q1⟩
 | false=>exact hb wh pins s1 σ H1 Q I1 q1
theorem Bw (ha:PT X a tA):PT X (.UnaryOp .Not a pos) (RV tA):=by
 intro pins s σ H Q I h
 exact isTrue_not (ha pins s σ H (fun c H1=>Q (!c) H1) I h)
def RC (ta tb:TE):TE:=fun σ H Q=>ta σ H fun x H1=>∃c,x=.bl c/\if c=true then tb σ H1 Q else Q (.bl false) H1
def RG (ta tb:TE):TE:=fun σ H Q=>ta σ H fun x H1=>∃c,x=.bl c/\if c=true then Q (.bl true) H1 else tb σ H1 Q
def R5 (ta:TE):TE:=fun σ H Q=>ta σ H fun x H1=>∃c,x=.bl c/\Q (.bl (!c)) H1
theorem DB {op} {t:TE} (h:PE X a t):PE X (.BoolOp op [a] pos) t:=fun pins s σ H Q I hw=>BoolOp_one (h pins s σ H Q I hw)
theorem DW (ha:PE X a ta) (hb:PE X (.BoolOp .And (b :: rest) pos) tb):PE X (.BoolOp .And (a :: b :: rest) pos) (RC ta tb):=by
 intro pins s σ H Q I h
 refine BoolOp_and (thn (ha pins s σ H _ I h) fun v s1 ⟨x,H1,I1,r1,q1⟩=>?_)
 obtain ⟨c,rfl,q1⟩:=q1
 cases r1
 refine wpAny_truthy_bool ?_
 cases c with
 | true=>exact hb pins s1 σ H1 Q I1 q1
 | false=>exact ⟨.bl false,H1,I1,rfl,q1⟩
theorem Qb (ha:PE X a ta) (hb:PE X (.BoolOp .Or (b :: rest) pos) tb):PE X (.BoolOp .Or (a :: b :: rest) pos) (RG ta tb):=by
 intro pins s σ H Q I h
 refine BoolOp_or (thn (ha pins s σ H _ I h) fun v s1 ⟨x,H1,I1,r1,q1⟩=>?_)
 obtain ⟨c,rfl,q1⟩:=q1
 cases r1
 refine wpAny_truthy_bool ?_
 cases c with
 | false=>exact hb pins s1 σ H1 Q I1 q1
 | true=>exact ⟨.bl true,H1,I1,rfl,q1⟩
theorem Li (ha:PE X a ta):PE X (.UnaryOp .Not a pos) (R5 ta):=by
 intro pins s σ H Q I h
 refine UnaryOp_ (thn (ha pins s σ H _ I h) fun v s1 ⟨x,H1,I1,r1,q1⟩=>?_)
 obtain ⟨c,rfl,q1⟩:=q1
 cases r1
 exact not_of (wpAny_truthy_bool ⟨.bl (!c),H1,I1,rfl,q1⟩)
def tIf (t:TT) (ta tb:TE):TE:=fun σ H Q=>t σ H fun c H1=>if c=true then ta σ H1 Q else tb σ H1 Q
theorem Kf {c:Expr} (hc:PT X c tA) (ha:PE X a ta) (hb:PE X b tb):PE X (.IfExp c a b pos) (tIf tA ta tb):=by
 intro pins s σ H Q I h
 refine wpAny_IfExp (thn (hc pins s σ H _ I h) fun d s1 ⟨H1,I1,q1⟩=>?_)
 cases d with
 | true=>exact ha pins s1 σ H1 Q I1 q1
 | false=>exact hb pins s1 σ H1 Q I1 q1
end
end L2
namespace L2
open PySem PySem.Spec PyProof.Rows
def SqL (K:PySem.W.Frag) (H:Hp) (a:Addr) (xs:List V):Prop :=
 Rd H a (.lst xs) \/
  ∃(o:Obj) (its:Array Value) (n:Nat),K.lookup a=some o/\o.cls=.type "list"/\o.dict=none/\o.data=.seq its n/\its.size<=sizeLine/\A7 xs its.toList
def SqT (K:PySem.W.Frag) (H:Hp) (a:Addr) (xs:List V):Prop :=
 Rd H a (.tup xs) \/
  ∃(o:Obj) (its:Array Value) (n:Nat),K.lookup a=some o/\o.cls=.type "tuple"/\o.data=.seq its n/\its.size<=sizeLine/\A7 xs its.toList
noncomputable def RZ:Value->Option V
 | .none=>some .non
 | .bool b=>some (.bl b)
 | .int i _=>some (.int i)
 | .str x _=>some (.str x)
 | .bytes b _=>some (.byt b)
 | .float b _=>some (.flt b)
 | .ref a=>some (.ref a)
 | .type n=>some (.ty n)
 | _=>none
theorem A8.abs {x:V} {u:Value} (r:A8 x u):RZ u=some x:=by
 cases x with
 | non=>cases r;rfl
 | bl _=>cases r;rfl
 | int _=>obtain ⟨t,rfl⟩:=r;rfl
 | str _=>obtain ⟨t,rfl⟩:=r;rfl
 | byt _=>obtain ⟨t,rfl⟩:=r;rfl
 | flt _=>obtain ⟨t,rfl⟩:=r;rfl
 | ref _=>cases r;rfl
 | ty _=>cases r;rfl
theorem A8.inj {x y:V} {u:Value} (r:A8 x u) (q:A8 y u):x=y:=Option.some.inj (r.abs.symm.trans q.abs)
theorem A7.inj:∀{xs ys:List V} {us:List Value},A7 xs us->A7 ys us->xs=ys
 | _,_,_,.nil,.nil=>rfl
 | _,_,_,.cons r t,.cons r' t'=>by rw [r.inj r',A7.inj t t']
section
variable {X:Cx} {pins:List (Addr × Obj)} {σ:St} {H:Hp} {s:Shared} {a:Addr} {xs ys:List V}
theorem SqL.of {K:PySem.W.Frag} (h:H a=some (.lst xs)):SqL K H a xs:=.inl (.inl h)
theorem SqT.of {K:PySem.W.Frag} (h:H a=some (.tup xs)):SqT K H a xs:=.inl (.inl h)
theorem Inv.list (I:Inv X pins σ H s) (h:SqL X.K H a xs):∃its:List Value,A7 xs its/\PlainL s.heap a its.toArray/\xs.length<=sizeLine:=by
 rcases h with h | ⟨o,its,n,hk,hc,hd,hs,hz,r⟩
 ·obtain ⟨z,its,n,r,e⟩:=h.ok I.hok
  exact ⟨its,r,⟨_,n,e,rfl,rfl,rfl⟩,z⟩
 ·refine ⟨its.toList,r,⟨o,n,I.kIn a o hk,hc,hd,by simpa using hs⟩,?_⟩
  have e:=r.length
  simp only [Array.length_toList] at e
  omega
theorem Inv.tuple (I:Inv X pins σ H s) (h:SqT X.K H a xs):∃its:List Value,A7 xs its/\IsTup s.heap a its.toArray/\xs.length<=sizeLine:=by
 rcases h with h | ⟨o,its,n,hk,hc,hs,hz,r⟩
 ·obtain ⟨z,its,r,p⟩:=h.ok I.hok
  exact ⟨its,r,p,z⟩
 ·refine ⟨its.toList,r,⟨o,I.kIn a o hk,hc,n,by simpa using hs⟩,?_⟩
  have e:=r.length
  simp only [Array.length_toList] at e
  omega
theorem Inv.list_inj (I:Inv X pins σ H s) (h:SqL X.K H a xs) (h':SqL X.K H a ys):xs=ys:=by
 obtain ⟨its,r,⟨o,n,e,_,_,d⟩,_⟩:=I.list h
 obtain ⟨its',r',⟨o',n',e',_,_,d'⟩,_⟩:=I.list h'
 rw [e] at e';cases e'
 rw [d] at d'
 injection d' with d1 _
 have:its=its':=by simpa using congrArg Array.toList d1
 subst this
 exact r.inj r'
theorem Inv.tuple_inj (I:Inv X pins σ H s) (h:SqT X.K H a xs) (h':SqT X.K H a ys):xs=ys:=by
 obtain ⟨its,r,⟨o,e,_,n,d⟩,_⟩:=I.tuple h
 obtain ⟨its',r',⟨o',e',_,n',d'⟩,_⟩:=I.tuple h'
 rw [e] at e';cases e'
 rw [d] at d'
 injection d' with d1 _
 have:its=its':=by simpa using congrArg Array.toList d1
 subst this
 exact r.inj r'
end
abbrev Cx.wish (X:Cx) (E:Value->Shared->Prop):Cx:={ X with xe:=E }
abbrev Cx.nox (X:Cx):Cx:=X.wish fun _ _=>False
theorem Cx.Ok.wish {X:Cx} (ok:X.Ok) (E:Value->Shared->Prop):(X.wish E).Ok :=
 ⟨ok.mod,ok.kind,ok.glob,ok.blt,ok.above,ok.inj,ok.has,ok.cab,ok.hd,ok.frames,ok.stk,ok.exf,ok.bs,ok.bsz,ok.noex,ok.exfs,ok.funs,ok.frf⟩
theorem Cx.Ok.unwish {X:Cx} {E:Value->Shared->Prop} (ok:(X.wish E).Ok):X.Ok :=
 ⟨ok.mod,ok.kind,ok.glob,ok.blt,ok.above,ok.inj,ok.has,ok.cab,ok.hd,ok.frames,ok.stk,ok.exf,ok.bs,ok.bsz,ok.noex,ok.exfs,ok.funs,ok.frf⟩
section
variable {X:Cx} {pins:List (Addr × Obj)} {σ:St} {H:Hp} {s:Shared} {E:Value->Shared->Prop}
theorem Inv.wish (I:Inv X pins σ H s) (E:Value->Shared->Prop):Inv (X.wish E) pins σ H s:=⟨I.ok.wish E,I.os,I.bare,I.base,I.loc,I.cell,I.free,I.freeC,I.pin,I.hok,I.len⟩
theorem Inv.unwish (I:Inv (X.wish E) pins σ H s):Inv X pins σ H s:=⟨I.ok.unwish,I.os,I.bare,I.base,I.loc,I.cell,I.free,I.freeC,I.pin,I.hok,I.len⟩
theorem SP.unwish {D:FN} {f:Flow} {s':Shared} (h:SP (X.wish E) pins D f s'):SP X pins D f s':=by
 cases f with
 | next=>obtain ⟨σ',H',I,q⟩:=h;exact ⟨σ',H',I.unwish,q⟩
 | brk=>obtain ⟨σ',H',I,q⟩:=h;exact ⟨σ',H',I.unwish,q⟩
 | cont=>obtain ⟨σ',H',I,q⟩:=h;exact ⟨σ',H',I.unwish,q⟩
 | ret u=>obtain ⟨v,σ',H',I,r,q⟩:=h;exact ⟨v,σ',H',I.unwish,r,q⟩
theorem PSs.nox {st:List Stmt} {t:TS} (h:PSs X.nox st t):PSs X st t:=fun pins s σ H D I hw =>
 wpAny_mono (h pins s σ H D (I.wish _) hw) (fun _ _ q=>q.unwish) fun _ _ z=>False.elim z
end
section
variable {X:Cx} {st:Stmt} {rest:List Stmt} {t u:TS} {e:Expr} {te:TE} {pos:Pos}
def QV:TS:=fun D σ H=>D.nx σ H
def Ra (t u:TS):TS:=fun D σ H=>t { D with nx:=u D } σ H
theorem A2:PSs X [] QV:=fun _ _ σ H _ I h=>wpAny_execs_nil ⟨σ,H,I,h⟩
theorem Ae (h1:PS X st t) (h2:PSs X rest u):PSs X (st :: rest) (Ra t u):=by
 intro pins s σ H D I h
 refine wpAny_execs_cons (thn (h1 pins s σ H { D with nx:=u D } I h) fun f s1 q=>?_)
 cases f with
 | next =>
   obtain ⟨σ',H',I',q⟩:=q
   exact h2 pins s1 σ' H' D I' q
 | ret v=>exact q
 | brk=>exact q
 | cont=>exact q
theorem Ah (h1:PS X st t):PSs X [st] t:=by
 intro pins s σ H D I h
 refine wpAny_execs_cons (thn (h1 pins s σ H D I h) fun f s1 q=>?_)
 cases f with
 | next=>exact wpAny_execs_nil q
 | ret v=>exact q
 | brk=>exact q
 | cont=>exact q
theorem Inv.quiet {pins:List (Addr × Obj)} {σ:St} {H:Hp} {s:Shared} (I:Inv X pins σ H s):interactive X.env=false:=by simp [interactive,I.ok.kind]
def Rp (te:TE):TS:=fun D σ H=>te σ H fun _ H1=>D.nx σ H1
theorem CB (he:PE X e te) (hs:swapsWith e none pos.line X.env=pure false:=by rfl):PS X (.Expr e pos) (Rp te):=by
 intro pins s σ H D I h
 exact wpAny_Expr_any (thn (he pins s σ H _ I h) fun v s1 ⟨x,H1,I1,r1,q1⟩=>⟨σ,H1,I1,q1⟩) I.quiet hs
def RH (te:TE):TS:=fun D σ H=>te σ H D.rt
theorem Aq (he:PE X e te):PS X (.Return (some e) pos) (RH te):=by
 intro pins s σ H D I h
 exact wpAny_Return_some (thn (he pins s σ H _ I h) fun v s1 ⟨x,H1,I1,r1,q1⟩=>⟨x,σ,H1,I1,r1,q1⟩)
def RI (c:TT) (t u:TS):TS:=fun D σ H=>c σ H fun b H1=>if b=true then t D σ H1 else u D σ H1
theorem Bs {c:Expr} {a b:List Stmt} {tc:TT} (hc:PT X c tc) (ha:PSs X a t) (hb:PSs X b u):PS X (.If c a b pos) (RI tc t u):=by
 intro pins s σ H D I h
 refine wpAny_If (thn (hc pins s σ H _ I h) fun d s1 ⟨H1,I1,q1⟩=>?_)
 cases d with
 | true=>exact ha pins s1 σ H1 D I1 q1
 | false=>exact hb pins s1 σ H1 D I1 q1
def Ql:TS:=fun _ _ _=>False
theorem Ks:PS X st Ql:=fun _ _ _ _ _ _ h=>h.elim
end
abbrev TG:=V->St->Hp->(St->Hp->Prop)->Prop
abbrev TGs:=List V->St->Hp->(St->Hp->Prop)->Prop
def PG (X:Cx) (target:Expr) (t:TG):Prop :=
 ∀(pins:List (Addr × Obj)) (s:Shared) (σ:St) (H:Hp) (v:V) (u:Value) (Q:St->Hp->Prop),Inv X pins σ H s->A8 v u->t v σ H Q ->
  wpAny (model X.prog X.w) X.A (assign target X.env u) (fun _ s'=>∃σ' H',Inv X pins σ' H' s'/\Q σ' H') X.xe s
def PGs (X:Cx) (ts:List Expr) (t:TGs):Prop :=
 ∀(pins:List (Addr × Obj)) (s:Shared) (σ:St) (H:Hp) (vs:List V) (us:List Value) (Q:St->Hp->Prop),Inv X pins σ H s->A7 vs us->t vs σ H Q ->
  wpAny (model X.prog X.w) X.A (assignInOrder ((assignEach ts X.env).map (·.2)) us) (fun _ s'=>∃σ' H',Inv X pins σ' H' s'/\Q σ' H') X.xe s
abbrev Qm:=V->V->V->Hp->(Hp->Prop)->Prop
def RD (X:Cx) (t:Qm):Prop :=
 ∀(pins:List (Addr × Obj)) (s:Shared) (σ:St) (H:Hp) (o i v:V) (ov iv u:Value) (Q:Hp->Prop),Inv X pins σ H s->A8 o ov->A8 i iv->A8 v u->t o i v H Q ->
  wpAny (model X.prog X.w) X.A (setItem ov iv u) (fun _ s'=>∃H',Inv X pins σ H' s'/\Q H') X.xe s
section
variable {X:Cx} {pos:Pos}
def BA (i:Nat):TG:=fun v σ H Q=>Q (σ.set i (some v)) H
theorem A0 {i:Nat} {x:Str} (hN:X.N.Nodup) (hi:X.N[i]?=some x) (hx:Loc X.env.scope x) (hf:X.fn x=true\/X.env.scope.names.lookup x=some .local:=by first | exact .inl rfl | exact .inr rfl | assumption):PG X (.Name x pos) (BA i):=by
 intro pins s σ H v u Q I r h
 exact wpAny_assign_Name (JF I hN hi hx r (fun s' I'=>⟨_,H,I',h⟩) hf)
def MF:TGs:=fun vs σ H Q=>vs=[]/\Q σ H
def Dc (t:TG) (u:TGs):TGs:=fun vs σ H Q=>∃v r,vs=v :: r/\t v σ H fun σ' H'=>u r σ' H' Q
theorem Dn:PGs X [] MF:=by
 intro pins s σ H vs us Q I r h
 obtain ⟨e,h⟩:=h
 subst e
 cases r
 exact assignInOrder_nil ⟨σ,H,I,h⟩
theorem AC {e:Expr} {es:List Expr} {t:TG} {u:TGs} (h1:PG X e t) (h2:PGs X es u)
 (hs:(assignEach (e :: es) X.env).map (·.2)=assign e X.env :: (assignEach es X.env).map (·.2):=by rfl):PGs X (e :: es) (Dc t u):=by
 intro pins s σ H vs us Q I r h
 obtain ⟨v,vr,e1,h⟩:=h
 subst e1
 cases r with
 | cons r rr =>
   rw [hs]
   refine assignInOrder_cons (thn (h1 pins s σ H _ _ _ I r h) fun _ s1 ⟨σ1,H1,I1,q1⟩=>?_)
   exact h2 pins s1 σ1 H1 _ _ Q I1 rr q1
def M3 (K:PySem.W.Frag) (n:Nat) (t:TGs):TG:=fun v σ H Q=>∃a xs,v=.ref a/\SqT K H a xs/\xs.length=n/\t xs σ H Q
theorem DY {es:List Expr} {k:Nat} {t:TGs} {n:Nat} (hc:X.calm=true) (h:PGs X es t)
 (hn:(assignEach es X.env).length=n:=by rfl) (hst:(assignEach es X.env).findIdx? (·.1)=none:=by rfl):PG X (.Tuple es k pos) (M3 X.K n t):=by
 intro pins s σ H v u Q I r hw
 obtain ⟨a,xs,e1,hq,hl,hw⟩:=hw
 subst e1
 cases r
 obtain ⟨its,rv,ht,hz⟩:=I.tuple hq
 refine assign_Tuple_tuple (I.ok.hd hc) ht (by simp [hn,<- hl,rv.length]) hst fun h' hx=>?_
 have I1:Inv X pins σ H { s with heap:=h' }:=I.kept (t':=s.toks) fun b o e=>hx b o (Nat.ne_of_lt (Heap.lt_size e)) e
 exact h pins _ σ H xs _ Q I1 (by simpa using rv) hw
def RF (to ti:TE) (t:Qm):TG:=fun v σ H Q=>to σ H fun o H1=>ti σ H1 fun i H2=>t o i v H2 fun H3=>Q σ H3
theorem FM {o i:Expr} {to ti:TE} {t:Qm} (ho:PE X o to) (hi:PE X i ti) (hs:RD X t)
 (ha:∀v,assign (.Subscript o i pos) X.env v=(do
  let ov <- holding [v] (eval o X.env)
  let iv <- holding [v,ov] (eval i X.env)
  standAt pos
  holding [v,ov,iv] (setItem ov iv v)
  release [v,ov,iv] []):=by intro _;rfl):PG X (.Subscript o i pos) (RF to ti t):=by
 intro pins s σ H v u Q I r h
 rw [ha]
 refine wpAny_bind (wpAny_holding (thn (ho pins s σ H _ I h) fun ov s1 ⟨x,H1,I1,r1,q1⟩=>?_))
 refine wpAny_bind (wpAny_holding (thn (hi pins s1 σ H1 _ I1 q1) fun iv s2 ⟨y,H2,I2,r2,q2⟩=>?_))
 refine wpAny_bind (wpAny_standAt (wpAny_bind (wpAny_holding (thn (hs pins s2 σ H2 x y v ov iv u _ I2 r1 r2 r q2) fun _ s3 ⟨H3,I3,q3⟩=>?_))))
 exact wpAny_release ⟨σ,H3,I3,q3⟩
def OD (te:TE) (g:TG):TS:=fun D σ H=>te σ H fun x H1=>g x σ H1 D.nx
theorem Et {tg e:Expr} {te:TE} {g:TG} (he:PE X e te) (hg:PG X tg g) (hs:swapsWithSole [tg] e pos.line X.env=pure false:=by rfl) (hw:swappedStores [tg] e X.env=pure none:=by rfl)
 (h1:(assignEach [tg] X.env).map (·.2)=[assign tg X.env]:=by rfl):PS X (.Assign [tg] e pos) (OD te g):=by
 intro pins s σ H D I h
 refine wpAny_Assign_stores (thn (he pins s σ H _ I h) fun v s1 ⟨x,H1,I1,r1,q1⟩=>?_) hs hw
 rw [h1]
 exact thn (hg pins s1 σ H1 x v _ I1 r1 q1) fun _ s2 q=>q
theorem At {i:Nat} {x:Str} {e:Expr} {te:TE} {pos':Pos} (hN:X.N.Nodup) (hi:X.N[i]?=some x) (hx:Loc X.env.scope x) (he:PE X e te) (hs:swapsWith e (some (.Name x pos')) pos.line X.env=pure false:=by rfl) (hf:X.fn x=true\/X.env.scope.names.lookup x=some .local:=by first | exact .inl rfl | exact .inr rfl | assumption) :
 PS X (.Assign [.Name x pos'] e pos) (OD te (BA i)):=by
 intro pins s σ H D I h
 refine wpAny_Assign_Name (thn (he pins s σ H _ I h) fun v s1 ⟨y,H1,I1,r1,q1⟩=>?_) hs
 exact JF I1 hN hi hx r1 (fun s2 I2=>⟨_,H1,I2,q1⟩) hf
end
section
variable {X:Cx} {pos:Pos}
def QD (c:TT) (tb:TS):TS:=fun D σ H=>∃W:Nat->St->Hp->Prop,(∃m,W m σ H)/\∀m σ H,W m σ H ->
 c σ H fun b H1=>if b=true then ∃N:St->Hp->Prop,(∀σ' H',N σ' H'->∃m',m' < m/\W m' σ' H')/\tb { D with nx:=N,ct:=N,bk:=D.nx } σ H1 else D.nx σ H1
theorem GT {c:Expr} {body:List Stmt} {tc:TT} {tb:TS} (hp:PassesOwn (model X.prog X.w) X.A X.env X.xe) (hc:PT X c tc) (hb:PSs X body tb):PS X (.While c body [] pos) (QD tc tb):=by
 intro pins s σ H D I h
 obtain ⟨W,⟨m0,w0⟩,turn⟩:=h
 refine wpAny_While (codeAny_whileLoop (fun n s'=>∃σ' H',Inv X pins σ' H' s'/\W n σ' H') ?_ m0 ⟨σ,H,I,w0⟩)
 rintro n s1 ⟨σ1,H1,I1,w1⟩
 refine wpAny_passesOwn hp (thn (hc pins s1 σ1 H1 _ I1 (turn n σ1 H1 w1)) fun b s2 ⟨H2,I2,q2⟩=>?_)
 cases b with
 | true =>
   obtain ⟨N,hN,q2⟩:=q2
   rw [if_pos rfl]
   refine wpAny_passesOwn hp (thn (hb pins s2 σ1 H2 _ I2 q2) fun f s3 q3=>?_)
   cases f with
   | next =>
     obtain ⟨σ3,H3,I3,n3⟩:=q3
     obtain ⟨m',hm,w3⟩:=hN σ3 H3 n3
     exact ⟨m',hm,σ3,H3,I3,w3⟩
   | cont =>
     obtain ⟨σ3,H3,I3,n3⟩:=q3
     obtain ⟨m',hm,w3⟩:=hN σ3 H3 n3
     exact ⟨m',hm,σ3,H3,I3,w3⟩
   | brk=>exact q3
   | ret v=>exact q3
 | false =>
   rw [if_neg Bool.false_ne_true]
   exact wpAny_execs_nil ⟨σ1,H2,I2,q2⟩
end
structure It where
 go:Nat->Hp->Prop
 yld:Nat->Hp->V->Hp->Prop
 stop:Nat->Hp->Prop
def GN (X:Cx) (pins:List (Addr × Obj)) (H:Hp) (b:Addr):Prop :=
 H b=none/\b≠X.env.locals/\b ∉ X.fs/\(b∈X.ex\/X.s₀.heap.objs.size<=b)/\(∀x c,X.env.cells.lookup x=some c->c≠b)/\∀p∈X.pn++pins,p.1≠b
theorem Inv.fpOk {X:Cx} {pins:List (Addr × Obj)} {σ:St} {H H':Hp} {s:Shared} {b:Addr} (I:Inv X pins σ H s) (hb:s.heap.objs.size<=b) (hn:H' b=none):GN X pins H' b:=by
 refine ⟨hn,Nat.ne_of_gt (Nat.lt_of_lt_of_le I.lt hb),I.nofs hb,.inr (Nat.le_trans I.sz hb),fun x c e z=>?_,fun p hp z=>?_⟩
 ·obtain ⟨v,q⟩:=I.cell x c e
  exact absurd (Nat.lt_of_lt_of_le q.lt (by rw [z];exact hb)) (Nat.lt_irrefl _)
 ·exact absurd (Nat.lt_of_lt_of_le (Heap.lt_size (I.pin p hp).1) (by rw [z];exact hb)) (Nat.lt_irrefl _)
structure Lh (P:Program) (w:World) (K:PySem.W.Frag) (tg:Expr) (J:It) (fp:List Addr) (it:Addr) (tn:Nat->Heap->Prop):Prop where
 mem:it∈fp
 obj:∀i h,tn i h->∀b∈fp,∃o,h.get? b=some o/\∀v,o.data≠.cell v
 keep:∀i h h',tn i h->(∀b∈fp,∀o,h.get? b=some o->h'.get? b=some o)->tn i h'
 item:∀(X:Cx),X.prog=P->X.w=w->X.K=K->X.calm=true->∀(i:Nat) (pins:List (Addr × Obj)) (s:Shared) (σ:St) (H:Hp) (E:Value->Shared->Prop),Inv X pins σ H s->(∀b∈fp,GN X pins H b)->tn i s.heap->J.go i H ->
  wpAny (model P w) X.A (pyNext (.ref it)) (fun r s1=>∃u,r=some u /\
   wpAny (model P w) X.A (letOwnedTupleGo tg (.ref it) u) (fun _ s2=>∃x H',Inv X pins σ H' s2/\A8 x u/\J.yld i H x H'/\tn (i+1) s2.heap/\∀b∈fp,H' b=none) E s1) E s
 done:∀(X:Cx),X.prog=P->X.w=w->X.K=K->X.calm=true->∀(i:Nat) (pins:List (Addr × Obj)) (s:Shared) (σ:St) (H:Hp) (E:Value->Shared->Prop),Inv X pins σ H s->(∀b∈fp,GN X pins H b)->tn i s.heap->J.stop i H ->
  wpAny (model P w) X.A (pyNext (.ref it)) (fun r s1=>r=none/\Inv X pins σ H s1) E s
 self:∀(A:Around) (i:Nat) (s:Shared) (Q:Value->Shared->Prop) (E:Value->Shared->Prop),tn i s.heap->Q (.ref it) s->wpAny (model P w) A (pyIter (.ref it)) Q E s
abbrev TI:=St->Hp->(It->Hp->Prop)->Prop
def PIE (X:Cx) (pins:List (Addr × Obj)) (σ:St) (tg:Expr) (R:It->Hp->Prop) (itv:Value) (s2:Shared):Prop :=
 ∃(it:Addr) (fp:List Addr) (tn:Nat->Heap->Prop) (J:It) (H':Hp),itv=.ref it/\Inv X pins σ H' s2/\Lh X.prog X.w X.K tg J fp it tn/\tn 0 s2.heap/\(∀b∈fp,GN X pins H' b)/\R J H'
def PI (X:Cx) (tg iter:Expr) (wi:TI):Prop :=
 ∀(pins:List (Addr × Obj)) (s:Shared) (σ:St) (H:Hp) (R:It->Hp->Prop),Inv X pins σ H s->wi σ H R ->
  wpAny (model X.prog X.w) X.A (eval iter X.env) (fun v s1=>wpAny (model X.prog X.w) X.A (pyIter v) (PIE X pins σ tg R) X.xe s1) X.xe s
theorem Oo {M:Model} {A:Around} {E:Value->Shared->Prop} {s:Shared} {tg:Expr} {it:Addr} {u:Value} {o:Obj} {n:String} {vs:Array Value} {Q:Unit->Shared->Prop} (ho:s.heap.get? it=some o) (hc:o.cls=.type n) (hd:o.data=.fields vs)
 (hn:["enumerate","zip","dict_itemiterator","dict_reverseitemiterator","odict_iterator","itertools.zip_longest","itertools.pairwise"].contains n=false) (hQ:Q () s):wpAny M A (letOwnedTupleGo tg (.ref it) u) Q E s:=by
 unfold letOwnedTupleGo
 cases tg <;> first
  | exact wpAny_pure hQ
  | (cases u <;> first
   | exact wpAny_pure hQ
   | (refine wpAny_bind (wpAny_load ho ?_)
      rw [hc,hd]
      show wpAny M A (if (["enumerate","zip","dict_itemiterator","dict_reverseitemiterator","odict_iterator","itertools.zip_longest","itertools.pairwise"].contains n && vs[0]? == some (rawInt _))=true then _ else _) Q E s
      rw [if_neg (by intro h;rw [hn,Bool.false_and] at h;cases h)]
      exact wpAny_pure hQ))
noncomputable def Itl (K:PySem.W.Frag) (a:Addr):It :=
 ⟨fun i H=>∃xs x,SqL K H a xs/\xs[i]?=some x,fun i H x H'=>H'=H/\∀xs,SqL K H a xs->xs[i]?=some x,fun i H=>∃xs,SqL K H a xs/\xs.length<=i⟩
noncomputable def Itt (K:PySem.W.Frag) (a:Addr):It :=
 ⟨fun i H=>∃xs x,SqT K H a xs/\xs[i]?=some x,fun i H x H'=>H'=H/\∀xs,SqT K H a xs->xs[i]?=some x,fun i H=>∃xs,SqT K H a xs/\xs.length<=i⟩
noncomputable def Itr (lo:Int) (n:Nat):It:=⟨fun i _=>i < n,fun i H x H'=>H'=H/\x=.int (lo+i),fun i _=>n<=i⟩
theorem MG {P:Program} {w:World} {K:PySem.W.Frag} {tg:Expr} (a it:Addr):Lh P w K tg (Itl K a) [it] it (fun i h=>h.IsListIter it a i) where
 mem:=by simp
 obj:=fun i h st b hb=>by
  have e:b=it:=by simpa using hb
  subst e
  obtain ⟨o,e,c,d⟩:=st
  exact ⟨o,e,fun v z=>by rw [d] at z;cases z⟩
 keep:=fun i h h' st k=>st.at fun o e=>k it (by simp) o e
 item:=by
  intro X hP hw hK hc i pins s σ H E I hf st hg
  subst hP hw hK
  obtain ⟨xs,x,hq,hx⟩:=hg
  obtain ⟨its,rv,p,hz⟩:=I.list hq
  obtain ⟨u,hu,ru⟩:=rv.get hx
  obtain ⟨f0,f1,f2,f3,f4,f5⟩:=hf it (by simp)
  refine wpAny_pyNext_list_item st p.isList (x:=u) (by simpa using hu) fun h' st' sb=>?_
  have I1:Inv X pins σ H { s with heap:=h' }:=I.turned (t':=s.toks) (fun b o hb e=>(sb.2 b hb).trans e) f0 f1 f3 f4 f5
  obtain ⟨o,e,c,d⟩:=id st'
  exact ⟨u,rfl,Oo (s:={ s with heap:=h' }) e c d (by decide) ⟨x,H,I1,ru,⟨rfl,fun ys hy=>by rw [I.list_inj hy hq];exact hx⟩,st',fun b hb=>(hf b hb).1⟩⟩
 done:=by
  intro X hP hw hK hc i pins s σ H E I hf st hg
  subst hP hw hK
  obtain ⟨xs,hq,hx⟩:=hg
  obtain ⟨its,rv,p,hz⟩:=I.list hq
  obtain ⟨f0,f1,f2,f3,f4,f5⟩:=hf it (by simp)
  have hl:=rv.length
  exact wpAny_pyNext_list_end (I.ok.hd hc) st p.isList (by simp;omega) fun h' eb=>⟨rfl,I.turned (t':=s.toks) (fun b o hb e=>eb b o hb e) f0 f1 f3 f4 f5⟩
 self:=fun _ _ _ _ _ st h=>wpAny_pyIter_listiter st h
theorem Lu {P:Program} {w:World} {K:PySem.W.Frag} {tg:Expr} (a it:Addr):Lh P w K tg (Itt K a) [it] it (fun i h=>h.IsTupleIter it a i) where
 mem:=by simp
 obj:=fun i h st b hb=>by
  have e:b=it:=by simpa using hb
  subst e
  obtain ⟨o,e,c,d⟩:=st
  exact ⟨o,e,fun v z=>by rw [d] at z;cases z⟩
 keep:=fun i h h' st k=>st.at fun o e=>k it (by simp) o e
 item:=by
  intro X hP hw hK hc i pins s σ H E I hf st hg
  subst hP hw hK
  obtain ⟨xs,x,hq,hx⟩:=hg
  obtain ⟨its,rv,p,hz⟩:=I.tuple hq
  obtain ⟨u,hu,ru⟩:=rv.get hx
  obtain ⟨f0,f1,f2,f3,f4,f5⟩:=hf it (by simp)
  refine wpAny_pyNext_tuple_item st (show s.heap.IsTuple a its.toArray from p) (x:=u) (by simpa using hu) fun h' st' sb=>?_
  have I1:Inv X pins σ H { s with heap:=h' }:=I.turned (t':=s.toks) (fun b o hb e=>(sb.2 b hb).trans e) f0 f1 f3 f4 f5
  obtain ⟨o,e,c,d⟩:=id st'
  exact ⟨u,rfl,Oo (s:={ s with heap:=h' }) e c d (by decide) ⟨x,H,I1,ru,⟨rfl,fun ys hy=>by rw [I.tuple_inj hy hq];exact hx⟩,st',fun b hb=>(hf b hb).1⟩⟩
 done:=by
  intro X hP hw hK hc i pins s σ H E I hf st hg
  subst hP hw hK
  obtain ⟨xs,hq,hx⟩:=hg
  obtain ⟨its,rv,p,hz⟩:=I.tuple hq
  obtain ⟨f0,f1,f2,f3,f4,f5⟩:=hf it (by simp)
  have hl:=rv.length
  exact wpAny_pyNext_tuple_end (I.ok.hd hc) st (show s.heap.IsTuple a its.toArray from p) (by simp;omega) fun h' eb=>⟨rfl,I.turned (t':=s.toks) (fun b o hb e=>eb b o hb e) f0 f1 f3 f4 f5⟩
 self:=fun _ _ _ _ _ st h=>wpAny_pyIter_tupleiter st h
theorem KZ {P:Program} {w:World} {K:PySem.W.Frag} {tg:Expr} (it:Addr) (lo:Int) (n:Nat):Lh P w K tg (Itr lo n) [it] it (fun i h=>IsRangeIter h it (lo+(i:Nat)*1) ((n:Int) - (i:Nat)) 1) where
 mem:=by simp
 obj:=fun i h st b hb=>by
  have e:b=it:=by simpa using hb
  subst e
  exact ⟨_,st,fun v z=>by
   have z':Data.fields _=Data.cell v:=z
   cases z'⟩
 keep:=fun i h h' st k=>k it (by simp) _ st
 item:=by
  intro X hP hw hK hc i pins s σ H E I hf st hg
  subst hP hw hK
  obtain ⟨f0,f1,f2,f3,f4,f5⟩:=hf it (by simp)
  have W:=Walks.range (prog:=X.prog) (w:=X.w) (I.ok.hd hc) it lo 1 n
  refine W.item i s _ _ hg st fun v h' tk hv st' kk=>?_
  obtain ⟨t,rfl⟩:=hv
  have I1:Inv X pins σ H { s with heap:=h',toks:=tk }:=I.turned (fun b o hb e=>kk b o (by simpa using hb) e) f0 f1 f3 f4 f5
  refine ⟨_,rfl,Oo (s:={ s with heap:=h',toks:=tk }) (n:="range_iterator") st' rfl rfl (by decide) ⟨.int (lo+i),H,I1,⟨t,?_⟩,⟨rfl,rfl⟩,st',fun b hb=>(hf b hb).1⟩⟩
  rw [Int.mul_one]
 done:=by
  intro X hP hw hK hc i pins s σ H E I hf st hg
  subst hP hw hK
  obtain ⟨f0,f1,f2,f3,f4,f5⟩:=hf it (by simp)
  exact wpAny_pyNext_range_end (I.ok.hd hc) st (by have:n<=i:=hg;omega) fun h' eb=>⟨rfl,I.turned (t':=s.toks) (fun b o hb e=>eb b o hb e) f0 f1 f3 f4 f5⟩
 self:=fun _ _ _ _ _ st h=>wpAny_pyIter_rangeiter st h
end L2
namespace L2
open PySem PySem.Spec PyProof.Rows
section
variable {X:Cx} {tg:Expr}
def PQ (K:PySem.W.Frag) (tl:TE):TI:=fun σ H R=>tl σ H fun x H1=>∃a,x=.ref a/\(∃xs,SqL K H1 a xs)/\R (Itl K a) H1
def RK (K:PySem.W.Frag) (tl:TE):TI:=fun σ H R=>tl σ H fun x H1=>∃a,x=.ref a/\(∃xs,SqT K H1 a xs)/\R (Itt K a) H1
theorem AJ {l:Expr} {tl:TE} (hl:PE X l tl):PI X tg l (PQ X.K tl):=by
 intro pins s σ H R I h
 refine thn (hl pins s σ H _ I h) fun v s1 ⟨x,H1,I1,r1,q1⟩=>?_
 obtain ⟨a,e,⟨xs,hq⟩,q⟩:=q1
 subst e
 cases r1
 obtain ⟨its,rv,p,hz⟩:=I1.list hq
 refine wpAny_pyIter_list p.isList ?_
 refine ⟨s1.heap.objs.size,[s1.heap.objs.size],_,_,H1,rfl,I1.kept (t':=s1.toks) fun b o e=>Heap.get?_push_of_some _ e,MG a _,⟨_,Heap.get?_push_size _ rfl,rfl,rfl⟩,fun b hb=>?_,q⟩
 have e:b=s1.heap.objs.size:=by simpa using hb
 subst e
 exact I1.fpOk (Nat.le_refl _) (I1.hok.fresh (Nat.le_refl _))
theorem Qf {l:Expr} {tl:TE} (hl:PE X l tl):PI X tg l (RK X.K tl):=by
 intro pins s σ H R I h
 refine thn (hl pins s σ H _ I h) fun v s1 ⟨x,H1,I1,r1,q1⟩=>?_
 obtain ⟨a,e,⟨xs,hq⟩,q⟩:=q1
 subst e
 cases r1
 obtain ⟨its,rv,p,hz⟩:=I1.tuple hq
 refine wpAny_pyIter_tuple (show s1.heap.IsTuple a its.toArray from p) ?_
 refine ⟨s1.heap.objs.size,[s1.heap.objs.size],_,_,H1,rfl,I1.kept (t':=s1.toks) fun b o e=>Heap.get?_push_of_some _ e,Lu a _,⟨_,Heap.get?_push_size _ rfl,rfl,rfl⟩,fun b hb=>?_,q⟩
 have e:b=s1.heap.objs.size:=by simpa using hb
 subst e
 exact I1.fpOk (Nat.le_refl _) (I1.hok.fresh (Nat.le_refl _))
theorem NU {pins:List (Addr × Obj)} {σ:St} {H:Hp} {s:Shared} {R:It->Hp->Prop} {E:Value->Shared->Prop} {lo hi:Int} {t u v:Tok} {tk:Nat} (I:Inv X pins σ H s) (h1:-(2 ^ 62)<=lo) (h2:lo < 2 ^ 62) (h3:-(2 ^ 62)<=hi) (h4:hi < 2 ^ 62)
 (q:R (Itr lo (hi - lo).toNat) H):wpAny (model X.prog X.w) X.A (pyIter (.ref s.heap.objs.size)) (PIE X pins σ tg R) E { s with heap:=s.heap.push { cls:=.type "range",data:=.fields #[.int lo t,.int hi u,.int 1 v] },toks:=tk }:=by
 refine wpAny_pyIter_range (IsRange.new ..) (small_one h1 h2 h3 h4) ?_
 have I1:Inv X pins σ H { s with heap:=s.heap.push { cls:=.type "range",data:=.fields #[.int lo t,.int hi u,.int 1 v] },toks:=tk }:=I.kept fun b o e=>Heap.get?_push_of_some _ e
 refine ⟨(s.heap.push { cls:=.type "range",data:=.fields #[.int lo t,.int hi u,.int 1 v] }).objs.size,[(s.heap.push { cls:=.type "range",data:=.fields #[.int lo t,.int hi u,.int 1 v] }).objs.size],_,_,H,rfl,
  I1.kept (t':=tk) fun b o e=>Heap.get?_push_of_some _ e,KZ _ lo (hi - lo).toNat,?_,fun b hb=>?_,q⟩
 ·have e1:lo+((0:Nat):Int)*1=lo:=by simp
  have e2:(((hi - lo).toNat:Nat):Int) - ((0:Nat):Int)=Builtin.Range.rangeSize lo hi 1:=by rw [rangeSize_one];split <;> omega
  show IsRangeIter _ _ (lo+((0:Nat):Int)*1) ((((hi - lo).toNat:Nat):Int) - ((0:Nat):Int)) 1
  rw [e1,e2]
  exact Heap.get?_push_size _ rfl
 ·have e:b=(s.heap.push { cls:=.type "range",data:=.fields #[.int lo t,.int hi u,.int 1 v] }).objs.size:=by simpa using hb
  subst e
  exact I1.fpOk (Nat.le_refl _) (I1.hok.fresh (Nat.le_refl _))
def Rx (ta:TA):TI:=fun σ H R=>ta σ H fun vs H1=>∃j:Int,vs=[.int j]/\-(2 ^ 62)<=j/\j < 2 ^ 62/\R (Itr 0 j.toNat) H1
theorem A1 {a:Expr} {ta:TA} {p pos:Pos} (hg:Gl X "range") (hm:X.mg "range"=none) (ha:PA X [a] ta) (hs:starEach [a] X.env=[(false,eval a X.env)]:=by rfl):PI X tg (.Call (.Name "range" p) [a] [] pos) (Rx ta):=by
 intro pins s σ H R I h
 refine Call_ (DA I hg hm boot_range (PyProof.Rows.callWith_type1 (thn (ha pos pins s σ H _ I h) fun us s1 ⟨vs,H1,I1,r1,q1⟩=>?_) hs rfl))
 obtain ⟨j,e,q1,q2,q⟩:=q1
 subst e
 cases r1 with
 | cons r rr =>
   cases rr
   obtain ⟨t,rfl⟩:=r
   exact call_range_1 (NU I1 (by omega) (by omega) q1 q2 (by simpa using q))
def RP (wi:TI) (g:TG) (tb:TS):TS:=fun D σ H=>wi σ H fun J H1=>∃W:Nat->Nat->St->Hp->Prop,(∃m,W 0 m σ H1)/\∀i m σ H,W i m σ H ->
 (J.stop i H/\D.nx σ H)\/(J.go i H/\∃N:St->Hp->Prop,(∀σ' H',N σ' H'->∃m',m' < m/\W (i+1) m' σ' H')/\∀x H',J.yld i H x H'->g x σ H' fun σ2 H2=>tb { D with nx:=N,ct:=N,bk:=D.nx } σ2 H2)
noncomputable def FF (fp:List Addr) (h:Heap):List (Addr × Obj):=fp.filterMap fun b=>(h.get? b).map fun o=>(b,o)
theorem CJ {fp:List Addr} {h:Heap} {b:Addr} {o:Obj} (hb:b∈fp) (e:h.get? b=some o):(b,o)∈FF fp h:=mem_filterMap.mpr ⟨b,hb,by rw [e];rfl⟩
theorem MC {fp:List Addr} {h:Heap} {p:Addr × Obj} (hp:p∈FF fp h):p.1∈fp/\h.get? p.1=some p.2:=by
 obtain ⟨b,hb,e⟩:=mem_filterMap.mp hp
 cases q:h.get? b with
 | none=>rw [q] at e;cases e
 | some o =>
   rw [q] at e
   have e':(b,o)=p:=Option.some.inj e
   subst e'
   exact ⟨hb,q⟩
theorem Inv.pinned {pins:List (Addr × Obj)} {σ:St} {H:Hp} {s:Shared} {fp:List Addr} (I:Inv X pins σ H s) (hf:∀b∈fp,GN X pins H b) (ho:∀b∈fp,∃o,s.heap.get? b=some o/\∀v,o.data≠.cell v):Inv X (pins++FF fp s.heap) σ H s :=
 I.pins_of fun p hp=>(mem_append.mp hp).elim (fun z=>I.pin p (mem_append_right _ z)) fun z=>by
  obtain ⟨hb,e⟩:=MC z
  obtain ⟨f0,f1,f2,_⟩:=hf p.1 hb
  obtain ⟨o,e',d⟩:=ho p.1 hb
  rw [e] at e';cases e'
  exact ⟨e,f0,f1,f2,d⟩
theorem Inv.unpinned {pins pl:List (Addr × Obj)} {σ:St} {H:Hp} {s:Shared} (I:Inv X (pins++pl) σ H s):Inv X pins σ H s:=I.pins_of fun p hp=>I.pin p (mem_append_right _ (mem_append_left _ hp))
theorem Be {iter:Expr} {body:List Stmt} {wi:TI} {g:TG} {tb:TS} {pos:Pos} (hp:PassesOwn (model X.prog X.w) X.A X.env X.xe) (hc:X.calm=true) (hi:PI X tg iter wi) (hg:PG X tg g) (hb:PSs X body tb)
 (hs:∀x,foldedSetIterable iter X.env x=pure x:=by intro _;rfl):PS X (.For tg iter body [] pos) (RP wi g tb):=by
 intro pins s σ H D I h
 refine wpAny_For (thn (hi pins s σ H _ I h) fun v s1 h1=>thn h1 fun itv s2 h2=>?_) hs
 obtain ⟨it,fp,tn,J,H2,e,I2,T,st2,f2,W,⟨m0,w0⟩,turn⟩:=h2
 subst e
 have stat:∀{H':Hp},(∀b∈fp,H' b=none)->∀b∈fp,GN X pins H' b:=fun hn b hb=>⟨hn b hb,(f2 b hb).2⟩
 refine codeAny_forLoop_any (fun n s'=>∃i σ' H',Inv X pins σ' H' s'/\tn i s'.heap/\(∀b∈fp,H' b=none)/\W i n σ' H') ?_ m0 ⟨0,σ,H2,I2,st2,fun b hb=>(f2 b hb).1,w0⟩
 rintro n s3 ⟨i,σ3,H3,I3,st3,fr3,w3⟩
 rcases turn i n σ3 H3 w3 with ⟨stop,qn⟩ | ⟨go,N,hN,step⟩
 ·refine wpAny_passesOwn hp (thn (T.done X rfl rfl rfl hc i pins s3 σ3 H3 X.xe I3 (stat fr3) st3 stop) fun r s4 ⟨hr,I4⟩=>?_)
  subst hr
  exact wpAny_execs_nil ⟨σ3,H3,I4,qn⟩
 ·refine wpAny_passesOwn hp (thn (T.item X rfl rfl rfl hc i pins s3 σ3 H3 X.xe I3 (stat fr3) st3 go) fun r s4 ⟨u,hr,h4⟩=>?_)
  subst hr
  refine wpAny_passesOwn hp (thn h4 fun _ s5 ⟨x,H5,I5,r5,y5,st5,fr5⟩=>?_)
  have I5':=I5.pinned (stat fr5) (T.obj _ _ st5)
  refine wpAny_passesOwn hp (thn (hg _ s5 σ3 H5 x u _ I5' r5 (step x H5 y5)) fun _ s6 ⟨σ6,H6,I6,q6⟩=>?_)
  refine wpAny_passesOwn hp (thn (hb _ s6 σ6 H6 _ I6 q6) fun f s7 q7=>?_)
  have again:∀{σ7:St} {H7:Hp},Inv X (pins++FF fp s5.heap) σ7 H7 s7->N σ7 H7->∃m,m < n/\∃i σ' H',Inv X pins σ' H' s7/\tn i s7.heap/\(∀b∈fp,H' b=none)/\W i m σ' H':=fun {σ7 H7} I7 n7=>by
   obtain ⟨m',hm,w7⟩:=hN σ7 H7 n7
   refine ⟨m',hm,i+1,σ7,H7,I7.unpinned,T.keep _ _ _ st5 fun b hb o e=>(I7.pin (b,o) (mem_append_right _ (mem_append_right _ (CJ hb e)))).1,fun b hb=>?_,w7⟩
   obtain ⟨o,e,d⟩:=T.obj _ _ st5 b hb
   exact (I7.pin (b,o) (mem_append_right _ (mem_append_right _ (CJ hb e)))).2.1
  cases f with
  | next=>obtain ⟨σ7,H7,I7,n7⟩:=q7;exact again I7 n7
  | cont=>obtain ⟨σ7,H7,I7,n7⟩:=q7;exact again I7 n7
  | brk=>obtain ⟨σ7,H7,I7,q7⟩:=q7;exact ⟨σ7,H7,I7.unpinned,q7⟩
  | ret v=>obtain ⟨x7,σ7,H7,I7,r7,q7⟩:=q7;exact ⟨x7,σ7,H7,I7.unpinned,r7,q7⟩
end
theorem Dt {K:PySem.W.Frag} {a:Addr} {xs:List V} {g:TG} {tb:TS} {D:FN} {σ:St} {H:Hp} (Pv:Nat->St->Hp->Prop) (h0:Pv 0 σ H) (hl:∀i σ H,i<=xs.length->Pv i σ H->SqL K H a xs)
 (hs:∀i x σ H,xs[i]?=some x->Pv i σ H->g x σ H fun σ2 H2=>tb { D with nx:=Pv (i+1),ct:=Pv (i+1),bk:=D.nx } σ2 H2) (hd:∀σ H,Pv xs.length σ H->D.nx σ H) :
 ∃W:Nat->Nat->St->Hp->Prop,(∃m,W 0 m σ H)/\∀i m σ H,W i m σ H ->
  ((Itl K a).stop i H/\D.nx σ H)\/((Itl K a).go i H/\∃N:St->Hp->Prop,(∀σ' H',N σ' H'->∃m',m' < m/\W (i+1) m' σ' H')/\∀x H',(Itl K a).yld i H x H'->g x σ H' fun σ2 H2=>tb { D with nx:=N,ct:=N,bk:=D.nx } σ2 H2):=by
 refine ⟨fun i m σ H=>m=xs.length - i/\i<=xs.length/\Pv i σ H,⟨xs.length,by simp,Nat.zero_le _,h0⟩,?_⟩
 rintro i m σ H ⟨rfl,hi,p⟩
 have q:=hl i σ H hi p
 by_cases hlt:i < xs.length
 ·refine .inr ⟨⟨xs,xs[i],q,by simp [hlt]⟩,Pv (i+1),fun σ' H' p'=>⟨xs.length - (i+1),by omega,rfl,hlt,p'⟩,fun x H' y=>?_⟩
  obtain ⟨e,y⟩:=y
  subst e
  exact hs i x σ _ (y xs q) p
 ·have e:i=xs.length:=by omega
  subst e
  exact .inl ⟨⟨xs,q,Nat.le_refl _⟩,hd σ H p⟩
theorem Po {K:PySem.W.Frag} {a:Addr} {xs:List V} {g:TG} {tb:TS} {D:FN} {σ:St} {H:Hp} (Pv:Nat->St->Hp->Prop) (h0:Pv 0 σ H) (hl:∀i σ H,i<=xs.length->Pv i σ H->SqT K H a xs)
 (hs:∀i x σ H,xs[i]?=some x->Pv i σ H->g x σ H fun σ2 H2=>tb { D with nx:=Pv (i+1),ct:=Pv (i+1),bk:=D.nx } σ2 H2) (hd:∀σ H,Pv xs.length σ H->D.nx σ H) :
 ∃W:Nat->Nat->St->Hp->Prop,(∃m,W 0 m σ H)/\∀i m σ H,W i m σ H ->
  ((Itt K a).stop i H/\D.nx σ H)\/((Itt K a).go i H/\∃N:St->Hp->Prop,(∀σ' H',N σ' H'->∃m',m' < m/\W (i+1) m' σ' H')/\∀x H',(Itt K a).yld i H x H'->g x σ H' fun σ2 H2=>tb { D with nx:=N,ct:=N,bk:=D.nx } σ2 H2):=by
 refine ⟨fun i m σ H=>m=xs.length - i/\i<=xs.length/\Pv i σ H,⟨xs.length,by simp,Nat.zero_le _,h0⟩,?_⟩
 rintro i m σ H ⟨rfl,hi,p⟩
 have q:=hl i σ H hi p
 by_cases hlt:i < xs.length
 ·refine .inr ⟨⟨xs,xs[i],q,by simp [hlt]⟩,Pv (i+1),fun σ' H' p'=>⟨xs.length - (i+1),by omega,rfl,hlt,p'⟩,fun x H' y=>?_⟩
  obtain ⟨e,y⟩:=y
  subst e
  exact hs i x σ _ (y xs q) p
 ·have e:i=xs.length:=by omega
  subst e
  exact .inl ⟨⟨xs,q,Nat.le_refl _⟩,hd σ H p⟩
theorem AN {lo:Int} {n:Nat} {g:TG} {tb:TS} {D:FN} {σ:St} {H:Hp} (Pv:Nat->St->Hp->Prop) (h0:Pv 0 σ H)
 (hs:∀i σ H,i < n->Pv i σ H->g (.int (lo+i)) σ H fun σ2 H2=>tb { D with nx:=Pv (i+1),ct:=Pv (i+1),bk:=D.nx } σ2 H2) (hd:∀σ H,Pv n σ H->D.nx σ H) :
 ∃W:Nat->Nat->St->Hp->Prop,(∃m,W 0 m σ H)/\∀i m σ H,W i m σ H ->
  ((Itr lo n).stop i H/\D.nx σ H)\/((Itr lo n).go i H/\∃N:St->Hp->Prop,(∀σ' H',N σ' H'->∃m',m' < m/\W (i+1) m' σ' H')/\∀x H',(Itr lo n).yld i H x H'->g x σ H' fun σ2 H2=>tb { D with nx:=N,ct:=N,bk:=D.nx } σ2 H2):=by
 refine ⟨fun i m σ H=>m=n - i/\i<=n/\Pv i σ H,⟨n,by simp,Nat.zero_le _,h0⟩,?_⟩
 rintro i m σ H ⟨rfl,hi,p⟩
 by_cases hlt:i < n
 ·refine .inr ⟨hlt,Pv (i+1),fun σ' H' p'=>⟨n - (i+1),by omega,rfl,hlt,p'⟩,fun x H' y=>?_⟩
  obtain ⟨e,y⟩:=y
  subst e y
  exact hs i σ _ hlt p
 ·have e:i=n:=by omega
  subst e
  exact .inl ⟨Nat.le_refl _,hd σ H p⟩
end L2
namespace L2
open PySem PySem.Spec PyProof.Rows
abbrev R2:=V->V->Hp->VK->Prop
def OpR (X:Cx) (f:Value->Value->Sem Value) (r:R2):Prop :=
 ∀(pins:List (Addr × Obj)) (s:Shared) (σ:St) (H:Hp) (x y:V) (v u:Value) (Q:VK),Inv X pins σ H s->A8 x v->A8 y u->r x y H Q ->
  wpAny (model X.prog X.w) X.A (f v u) (EP X pins σ Q) X.xe s
def UnR (X:Cx) (f:Value->Sem Value) (r:V->Hp->VK->Prop):Prop :=
 ∀(pins:List (Addr × Obj)) (s:Shared) (σ:St) (H:Hp) (x:V) (v:Value) (Q:VK),Inv X pins σ H s->A8 x v->r x H Q ->
  wpAny (model X.prog X.w) X.A (f v) (EP X pins σ Q) X.xe s
def Db (X:Cx) (f:Value) (r:List V->Hp->VK->Prop):Prop :=
 ∀(pins:List (Addr × Obj)) (s:Shared) (σ:St) (H:Hp) (xs:List V) (us:List Value) (Q:VK),Inv X pins σ H s->A7 xs us->r xs H Q ->
  wpAny (model X.prog X.w) X.A (call f us) (EP X pins σ Q) X.xe s
def tOp (r:R2) (ta tb:TE):TE:=fun σ H Q=>ta σ H fun x H1=>tb σ H1 fun y H2=>r x y H2 Q
def tUn (r:V->Hp->VK->Prop) (ta:TE):TE:=fun σ H Q=>ta σ H fun x H1=>r x H1 Q
def rI (C:Int->Int->Prop) (g:Int->Int->V):R2:=fun x y H Q=>∃i j,x=.int i/\y=.int j/\C i j/\Q (g i j) H
def rI0 (g:Int->Int->V):R2:=fun x y H Q=>∃i j,x=.int i/\y=.int j/\Q (g i j) H
def rU (g:Int->V):V->Hp->VK->Prop:=fun x H Q=>∃i,x=.int i/\Q (g i) H
section
variable {X:Cx} {a b c:Expr} {ta tb tc:TE} {pos:Pos}
theorem QN (ha:PE X a ta) (hb:PE X b tb) {pins:List (Addr × Obj)} {s:Shared} {σ:St} {H:Hp} {R:V->V->Hp->Prop} (I:Inv X pins σ H s)
 (h:ta σ H fun x H1=>tb σ H1 fun y H2=>R x y H2) {Q:Value->Shared->Prop} {f:Value->Value->Sem Value}
 (hf:∀v u s2 x y H2,Inv X pins σ H2 s2->A8 x v->A8 y u->R x y H2->wpAny (model X.prog X.w) X.A (f v u) Q X.xe s2) :
 wpAny (model X.prog X.w) X.A (eval a X.env) (fun v s₁=>wpAny (model X.prog X.w) X.A (eval b X.env) (fun u s₂=>wpAny (model X.prog X.w) X.A (f v u) Q X.xe s₂) X.xe s₁) X.xe s:=by
 refine thn (ha pins s σ H _ I h) fun v s1 ⟨x,H1,I1,r1,q1⟩=>?_
 refine thn (hb pins s1 σ H1 _ I1 q1) fun u s2 ⟨y,H2,I2,r2,q2⟩=>?_
 exact hf v u s2 x y H2 I2 r1 r2 q2
theorem Ak {op:Operator} {r:R2} (ho:OpR X (binaryOp op) r) (ha:PE X a ta) (hb:PE X b tb):PE X (.BinOp a op b pos) (tOp r ta tb):=by
 intro pins s σ H Q I h
 exact wpAny_BinOp (QN ha hb I h fun v u s2 x y H2 I2 rx ry q=>ho pins s2 σ H2 x y v u Q I2 rx ry q)
theorem Jx {op:UnaryOp} {r:V->Hp->VK->Prop} (ho:UnR X (unaryOp op) r) (ha:PE X a ta):PE X (.UnaryOp op a pos) (tUn r ta):=by
 intro pins s σ H Q I h
 exact UnaryOp_ (thn (ha pins s σ H _ I h) fun v s1 ⟨x,H1,I1,r1,q1⟩=>ho pins s1 σ H1 x v Q I1 r1 q1)
theorem opI {f:Value->Value->Sem Value} {C:Int->Int->Prop} {g:Int->Int->Int}
 (rule:∀(i j:Int) (t u:Tok) (s:Shared) (Q:Value->Shared->Prop) (E:Value->Shared->Prop),C i j->Q (.int (g i j) s.toks) { s with toks:=s.toks+1 }->wpAny (model X.prog X.w) X.A (f (.int i t) (.int j u)) Q E s) :
 OpR X f (rI C fun i j=>.int (g i j)):=by
 intro pins s σ H x y v u Q I rx ry h
 obtain ⟨i,j,rfl,rfl,hc,q⟩:=h
 obtain ⟨t,rfl⟩:=rx
 obtain ⟨t',rfl⟩:=ry
 exact rule i j t t' s _ _ hc ⟨.int (g i j),H,I.tok _,⟨_,rfl⟩,q⟩
theorem Pn {f:Value->Value->Sem Value} {g:Int->Int->Int}
 (rule:∀(i j:Int) (t u:Tok) (s:Shared) (Q:Value->Shared->Prop) (E:Value->Shared->Prop),Q (.int (g i j) s.toks) { s with toks:=s.toks+1 }->wpAny (model X.prog X.w) X.A (f (.int i t) (.int j u)) Q E s) :
 OpR X f (rI0 fun i j=>.int (g i j)):=by
 intro pins s σ H x y v u Q I rx ry h
 obtain ⟨i,j,rfl,rfl,q⟩:=h
 obtain ⟨t,rfl⟩:=rx
 obtain ⟨t',rfl⟩:=ry
 exact rule i j t t' s _ _ ⟨.int (g i j),H,I.tok _,⟨_,rfl⟩,q⟩
theorem Qe {f:Value->Value->Sem Value} {g:Int->Int->Bool}
 (rule:∀(i j:Int) (t u:Tok) (s:Shared) (Q:Value->Shared->Prop) (E:Value->Shared->Prop),Q (.bool (g i j)) s->wpAny (model X.prog X.w) X.A (f (.int i t) (.int j u)) Q E s) :
 OpR X f (rI0 fun i j=>.bl (g i j)):=by
 intro pins s σ H x y v u Q I rx ry h
 obtain ⟨i,j,rfl,rfl,q⟩:=h
 obtain ⟨t,rfl⟩:=rx
 obtain ⟨t',rfl⟩:=ry
 exact rule i j t t' s _ _ ⟨.bl (g i j),H,I,rfl,q⟩
def NY (i j:Int):Prop:=0<=j/\j<=1000000/\i.natAbs < 2 ^ 64
theorem Lz (k:Nat):(0:Int)<=2 ^ k:=by
 rw [two_pow_cast]
 exact Int.natCast_nonneg _
theorem B5:OpR X (binaryOp .Add) (rI0 fun i j=>.int (i+j)):=Pn fun _ _ _ _ _ _ _ q=>add_int q
theorem CF:OpR X (binaryOp .Sub) (rI0 fun i j=>.int (i - j)):=Pn fun _ _ _ _ _ _ _ q=>sub_int q
theorem Bb:OpR X (binaryOp .Mod) (rI (fun _ j=>j≠0) fun i j=>.int (i.fmod j)):=opI fun _ _ _ _ _ _ _ hc q=>mod_int' hc q
theorem IS:OpR X (binaryOp .Pow) (rI NY fun i j=>.int (i ^ j.toNat)):=opI fun _ _ _ _ _ _ _ hc q=>pow_int_small hc.1 hc.2.1 hc.2.2 q
theorem Dd:OpR X (binaryOp .LShift) (rI NY fun i j=>.int (i*2 ^ j.toNat)):=opI fun _ _ _ _ _ _ _ hc q=>lshift_int_small hc.1 hc.2.1 hc.2.2 q
theorem FD:OpR X (binaryOp .RShift) (rI (fun _ j=>0<=j) fun i j=>.int (i / 2 ^ j.toNat)):=opI fun i j _ _ _ _ _ hc q =>
 rshift_int hc (by rw [Int.fdiv_eq_ediv_of_nonneg i (Lz _)];exact q)
theorem Eu:OpR X (binaryOp .BitAnd) (rI0 fun i j=>.int (Builtin.bitAnd i j)):=Pn fun _ _ _ _ _ _ _ q=>and_int q
theorem QU:OpR X (binaryOp .BitOr) (rI0 fun i j=>.int (Builtin.bitOr i j)):=Pn fun _ _ _ _ _ _ _ q=>or_int q
theorem unI {f:Value->Sem Value} {g:Int->Int}
 (rule:∀(i:Int) (t:Tok) (s:Shared) (Q:Value->Shared->Prop) (E:Value->Shared->Prop),Q (.int (g i) s.toks) { s with toks:=s.toks+1 }->wpAny (model X.prog X.w) X.A (f (.int i t)) Q E s) :
 UnR X f (rU fun i=>.int (g i)):=by
 intro pins s σ H x v Q I rx h
 obtain ⟨i,rfl,q⟩:=h
 obtain ⟨t,rfl⟩:=rx
 exact rule i t s _ _ ⟨.int (g i),H,I.tok _,⟨_,rfl⟩,q⟩
theorem Lc:UnR X (unaryOp .USub) (rU fun i=>.int (-i)):=unI fun _ _ _ _ _ q=>neg_int q
theorem Og:UnR X (unaryOp .Invert) (rU fun i=>.int (Builtin.bitNot i)):=unI fun _ _ _ _ _ q=>invert_int q
end
noncomputable def R1:V->V->Bool
 | .non,.non=>true | .non,.int _=>true | .int _,.non=>true | .non,.bl _=>true | .bl _,.non=>true | .non,.str _=>true | .str _,.non=>true
 | .int _,.int _=>true | .bl _,.bl _=>true | .str _,.str _=>true | .byt _,.byt _=>true
 | .int _,.str _=>true | .str _,.int _=>true | .bl _,.str _=>true | .str _,.bl _=>true
 | _,_=>false
def rEq:R2:=fun x y H Q=>R1 x y=true/\Q (.bl (decide (x=y))) H
def rNe:R2:=fun x y H Q=>R1 x y=true/\Q (.bl (!decide (x=y))) H
theorem Mf {i j:Int}:decide (V.int i=V.int j)=(i == j):=by
 rw [Bool.eq_iff_iff]
 simp
theorem Ow {i j:Bool}:decide (V.bl i=V.bl j)=(i == j):=by
 rw [Bool.eq_iff_iff]
 simp
theorem Me {i j:Str}:decide (V.str i=V.str j)=(i == j):=by
 rw [Bool.eq_iff_iff]
 simp
theorem Mo {i j:Array UInt8}:decide (V.byt i=V.byt j)=(i.toList == j.toList):=by
 rw [Bool.eq_iff_iff]
 cases i
 cases j
 simp
section
variable {X:Cx} {a b c:Expr} {ta tb tc:TE} {pos:Pos}
theorem AG {pins:List (Addr × Obj)} {σ:St} {H:Hp} {s:Shared} {Q:VK} {k k':Bool} (I:Inv X pins σ H s) (q:Q (.bl k) H) (e:k=k'):EP X pins σ Q (.bool k') s:=by
 subst e
 exact ⟨.bl k,H,I,rfl,q⟩
theorem CD:OpR X (compareOp .Eq) rEq:=by
 intro pins s σ H x y v u Q I rx ry h
 obtain ⟨hs,q⟩:=h
 cases x with
 | non =>
   cases rx
   cases y with
   | non=>cases ry;exact PySem.EqNone.eq_none_none (AG I q (by simp))
   | bl j=>cases ry;exact PySem.EqNone.eq_none_bool (AG I q (by simp))
   | int j=>obtain ⟨t',rfl⟩:=ry;exact PySem.EqNone.eq_none_int (AG I q (by simp))
   | str j=>obtain ⟨t',rfl⟩:=ry;exact PySem.EqNone.eq_none_str (AG I q (by simp))
   | _=>exact absurd (show false=true from hs) Bool.false_ne_true
 | bl i =>
   cases rx
   cases y with
   | non=>cases ry;exact PySem.EqNone.eq_bool_none (AG I q (by simp))
   | bl j=>cases ry;exact eq_bool (AG I q Ow)
   | str j=>obtain ⟨t',rfl⟩:=ry;exact PySem.EqMixed.eq_bool_str (AG I q (by simp))
   | _=>exact absurd (show false=true from hs) Bool.false_ne_true
 | int i =>
   obtain ⟨t,rfl⟩:=rx
   cases y with
   | non=>cases ry;exact PySem.EqNone.eq_int_none (AG I q (by simp))
   | int j=>obtain ⟨t',rfl⟩:=ry;exact eq_int (AG I q Mf)
   | str j=>obtain ⟨t',rfl⟩:=ry;exact PySem.EqMixed.eq_int_str (AG I q (by simp))
   | _=>exact absurd (show false=true from hs) Bool.false_ne_true
 | str i =>
   obtain ⟨t,rfl⟩:=rx
   cases y with
   | non=>cases ry;exact PySem.EqNone.eq_str_none (AG I q (by simp))
   | bl j=>cases ry;exact PySem.EqMixed.eq_str_bool (AG I q (by simp))
   | int j=>obtain ⟨t',rfl⟩:=ry;exact PySem.EqMixed.eq_str_int (AG I q (by simp))
   | str j=>obtain ⟨t',rfl⟩:=ry;exact eq_str (AG I q Me)
   | _=>exact absurd (show false=true from hs) Bool.false_ne_true
 | byt i =>
   obtain ⟨t,rfl⟩:=rx
   cases y with
   | byt j=>obtain ⟨t',rfl⟩:=ry;exact PySem.W.eq_bytes (AG I q Mo)
   | _=>exact absurd (show false=true from hs) Bool.false_ne_true
 | _=>cases y <;> exact absurd (show false=true from hs) Bool.false_ne_true
theorem Dv:OpR X (compareOp .NotEq) rNe:=by
 intro pins s σ H x y v u Q I rx ry h
 obtain ⟨hs,q⟩:=h
 cases x with
 | non =>
   cases rx
   cases y with
   | non=>cases ry;exact PySem.EqNone.ne_none_none (AG I q (by simp))
   | bl j=>cases ry;exact PySem.EqNone.ne_none_bool (AG I q (by simp))
   | int j=>obtain ⟨t',rfl⟩:=ry;exact PySem.EqNone.ne_none_int (AG I q (by simp))
   | str j=>obtain ⟨t',rfl⟩:=ry;exact PySem.EqNone.ne_none_str (AG I q (by simp))
   | _=>exact absurd (show false=true from hs) Bool.false_ne_true
 | bl i =>
   cases rx
   cases y with
   | non=>cases ry;exact PySem.EqNone.ne_bool_none (AG I q (by simp))
   | bl j=>cases ry;exact ne_bool (AG I q (congrArg not Ow))
   | str j=>obtain ⟨t',rfl⟩:=ry;exact PySem.EqMixed.ne_bool_str (AG I q (by simp))
   | _=>exact absurd (show false=true from hs) Bool.false_ne_true
 | int i =>
   obtain ⟨t,rfl⟩:=rx
   cases y with
   | non=>cases ry;exact PySem.EqNone.ne_int_none (AG I q (by simp))
   | int j=>obtain ⟨t',rfl⟩:=ry;exact ne_int (AG I q (congrArg not Mf))
   | str j=>obtain ⟨t',rfl⟩:=ry;exact PySem.EqMixed.ne_int_str (AG I q (by simp))
   | _=>exact absurd (show false=true from hs) Bool.false_ne_true
 | str i =>
   obtain ⟨t,rfl⟩:=rx
   cases y with
   | non=>cases ry;exact PySem.EqNone.ne_str_none (AG I q (by simp))
   | bl j=>cases ry;exact PySem.EqMixed.ne_str_bool (AG I q (by simp))
   | int j=>obtain ⟨t',rfl⟩:=ry;exact PySem.EqMixed.ne_str_int (AG I q (by simp))
   | str j=>obtain ⟨t',rfl⟩:=ry;exact ne_str (AG I q (congrArg not Me))
   | _=>exact absurd (show false=true from hs) Bool.false_ne_true
 | byt i =>
   obtain ⟨t,rfl⟩:=rx
   cases y with
   | byt j=>obtain ⟨t',rfl⟩:=ry;exact PySem.W.ne_bytes (AG I q (congrArg not Mo))
   | _=>exact absurd (show false=true from hs) Bool.false_ne_true
 | _=>cases y <;> exact absurd (show false=true from hs) Bool.false_ne_true
theorem EI:OpR X (compareOp .Lt) (rI0 fun i j=>.bl (decide (i < j))):=Qe fun _ _ _ _ _ _ _ q=>lt_int q
theorem Ij:OpR X (compareOp .LtE) (rI0 fun i j=>.bl (decide (i<=j))):=Qe fun _ _ _ _ _ _ _ q=>le_int q
theorem Ef:OpR X (compareOp .Gt) (rI0 fun i j=>.bl (decide (j < i))):=Qe fun _ _ _ _ _ _ _ q=>gt_int q
theorem Jk:OpR X (compareOp .Is) (fun x y H Q=>y=.non/\Q (.bl (decide (x=.non))) H):=by
 intro pins s σ H x y v u Q I rx ry h
 obtain ⟨rfl,q⟩:=h
 cases ry
 refine is_none_gen (AG I q ?_)
 cases x <;> first
  | (cases rx;rfl)
  | (obtain ⟨t,rfl⟩:=rx;rfl)
theorem Pk:OpR X (compareOp .IsNot) (fun x y H Q=>y=.non/\Q (.bl (!decide (x=.non))) H):=by
 intro pins s σ H x y v u Q I rx ry h
 obtain ⟨rfl,q⟩:=h
 cases ry
 refine isnot_none_gen (AG I q ?_)
 cases x <;> first
  | (cases rx;rfl)
  | (obtain ⟨t,rfl⟩:=rx;rfl)
theorem Au (b:Expr) {op:CmpOp} (h:op≠.In:=by decide) (h2:op≠.NotIn:=by decide):behindInMarks op b=false:=by
 have e1:(op == CmpOp.In)=false:=by cases op <;> first | rfl | exact absurd rfl h
 have e2:(op == CmpOp.NotIn)=false:=by cases op <;> first | rfl | exact absurd rfl h2
 cases b <;> simp [behindInMarks,e1,e2]
theorem Ca {op:CmpOp} {r:R2} (ho:OpR X (compareOp op) r) (ha:PE X a ta) (hb:PE X b tb) (hm:behindInMarks op b=false):PE X (.Compare a [op] [b] pos) (tOp r ta tb):=by
 intro pins s σ H Q I h
 exact wpAny_Compare1 (QN ha hb I h fun v u s2 x y H2 I2 rx ry q=>ho pins s2 σ H2 x y v u Q I2 rx ry q) hm
def PY (t:TE):TT:=fun σ H Q=>t σ H fun x H'=>∃k,x=.bl k/\Q k H'
theorem As {op:CmpOp} {r:R2} (ho:OpR X (compareOp op) r) (ha:PE X a ta) (hb:PE X b tb) (hm:behindInMarks op b=false):PT X (.Compare a [op] [b] pos) (PY (tOp r ta tb)):=by
 intro pins s σ H Q I h
 refine wpAny_isTrue_Compare1 (thn (ha pins s σ H _ I h) fun v s1 ⟨x,H1,I1,r1,q1⟩=>thn (hb pins s1 σ H1 _ I1 q1) fun u s2 ⟨y,H2,I2,r2,q2⟩ =>
  thn (ho pins s2 σ H2 x y v u _ I2 r1 r2 q2) fun c s3 ⟨z,H3,I3,r3,k,e,q3⟩=>?_) hm
 subst e
 cases r3
 exact wpAny_truthy_bool ⟨H3,I3,q3⟩
def NT (r r':R2) (ta tb tc:TE):TE:=fun σ H Q=>ta σ H fun x H1=>tb σ H1 fun y H2=>r x y H2 fun z H3=>∃k,z=.bl k /\
 (if k=true then tc σ H3 fun w' H4=>r' y w' H4 Q else Q (.bl false) H3)
theorem KF {op op':CmpOp} {r r':R2} (ho:OpR X (compareOp op) r) (ho':OpR X (compareOp op') r') (ha:PE X a ta) (hb:PE X b tb) (hc:PE X c tc)
 (hm:lastMarks [op,op'] [b,c]=false:=by with_unfolding_all rfl):PE X (.Compare a [op,op'] [b,c] pos) (NT r r' ta tb tc):=by
 intro pins s σ H Q I h
 refine Compare_chain (thn (ha pins s σ H _ I h) fun v s1 ⟨x,H1,I1,r1,q1⟩=>chain_link (thn (hb pins s1 σ H1 _ I1 q1) fun u s2 ⟨y,H2,I2,r2,q2⟩ =>
  thn (ho pins s2 σ H2 x y v u _ I2 r1 r2 q2) fun d s3 ⟨z,H3,I3,r3,k,e,q3⟩=>?_)) hm
 subst e
 cases r3
 refine wpAny_truthy_bool ?_
 cases k with
 | false=>exact ite_ff ⟨.bl false,H3,I3,rfl,q3⟩
 | true=>exact ite_tt (chain_last (thn (hc pins s3 σ H3 _ I3 q3) fun w' s4 ⟨z',H4,I4,r4,q4⟩=>ho' pins s4 σ H4 y z' u w' Q I4 r2 r4 q4))
theorem J9 {op op':CmpOp} {r r':R2} (ho:OpR X (compareOp op) r) (ho':OpR X (compareOp op') r') (ha:PE X a ta) (hb:PE X b tb) (hc:PE X c tc)
 (hm:lastMarks [op,op'] [b,c]=false:=by with_unfolding_all rfl):PT X (.Compare a [op,op'] [b,c] pos) (PY (NT r r' ta tb tc)):=by
 intro pins s σ H Q I h
 refine isTrue_chain (thn (ha pins s σ H _ I h) fun v s1 ⟨x,H1,I1,r1,q1⟩=>test_link (thn (hb pins s1 σ H1 _ I1 q1) fun u s2 ⟨y,H2,I2,r2,q2⟩ =>
  thn (ho pins s2 σ H2 x y v u _ I2 r1 r2 q2) fun d s3 ⟨z,H3,I3,r3,k,e,q3⟩=>?_)) hm
 subst e
 cases r3
 refine wpAny_truthy_bool ?_
 cases k with
 | false =>
   obtain ⟨k',e',q'⟩:=q3
   cases e'
   exact ite_ff ⟨H3,I3,q'⟩
 | true =>
   refine ite_tt (test_last (thn (hc pins s3 σ H3 _ I3 q3) fun w' s4 ⟨z',H4,I4,r4,q4⟩=>thn (ho' pins s4 σ H4 y z' u w' _ I4 r2 r4 q4) fun d' s5 ⟨z2,H5,I5,r5,k2,e2,q5⟩=>?_))
   subst e2
   cases r5
   exact wpAny_truthy_bool ⟨H5,I5,q5⟩
theorem IG:(sizeLine:Nat) < 2 ^ 63:=by rw [sizeLine_eq];decide
theorem E1 {x:V} {us:List Value} (r:A7 [x] us):∃u,us=[u]/\A8 x u:=by
 cases r with
 | cons r1 r2=>cases r2;exact ⟨_,rfl,r1⟩
theorem LG {x y:V} {us:List Value} (r:A7 [x,y] us):∃u w',us=[u,w']/\A8 x u/\A8 y w':=by
 cases r with
 | cons r1 r2 =>
   cases r2 with
   | cons r3 r4=>cases r4;exact ⟨_,_,rfl,r1,r3⟩
theorem DM (hc:X.calm=true):Db X (.builtin "max") (fun xs H Q=>∃i j,xs=[.int i,.int j]/\Q (.int (if j > i then j else i)) H):=by
 intro pins s σ H xs us Q I r h
 obtain ⟨i,j,rfl,q⟩:=h
 obtain ⟨u,w',rfl,⟨t,rfl⟩,⟨t',rfl⟩⟩:=LG r
 refine max_two_ints (I.ok.hd hc) fun h' tk k=>⟨_,H,I.kept k,?_,q⟩
 by_cases hj:j > i
 ·rw [if_pos hj,if_pos hj];exact ⟨_,rfl⟩
 ·rw [if_neg hj,if_neg hj];exact ⟨_,rfl⟩
theorem Ft (hc:X.calm=true):Db X (.builtin "min") (fun xs H Q=>∃i j,xs=[.int i,.int j]/\Q (.int (if j < i then j else i)) H):=by
 intro pins s σ H xs us Q I r h
 obtain ⟨i,j,rfl,q⟩:=h
 obtain ⟨u,w',rfl,⟨t,rfl⟩,⟨t',rfl⟩⟩:=LG r
 refine min_two_ints (I.ok.hd hc) fun h' tk k=>⟨_,H,I.kept k,?_,q⟩
 by_cases hj:j < i
 ·rw [if_pos hj,if_pos hj];exact ⟨_,rfl⟩
 ·rw [if_neg hj,if_neg hj];exact ⟨_,rfl⟩
end
end L2
namespace L2
open PySem PySem.Spec PyProof.Rows
structure Lo (h:Heap) (x dx C:Addr) (mA:Str->Option Value):Prop where
 obj:h.get? x=some (PySem.W.instObj C dx)
 ns:h.Ns1 dx mA
 ne:dx≠x
theorem Mt {h:Heap} {dx:Addr} {mA:Str->Option Value} (n:h.Ns1 dx mA):∃od,h.get? dx=some od/\∀name,PySem.W.lookIn name od=some (mA name):=by
 obtain ⟨o,es,ep,ho,hd,hk,_,hm⟩:=n
 refine ⟨o,ho,fun name=>?_⟩
 have e:=hm name
 unfold nsFind findBy at e
 rw [<- Array.find?_toList] at e
 unfold PySem.W.lookIn
 rw [hd]
 dsimp only
 split
 ·rename_i y q
  rw [q] at e
  exact congrArg some e
 ·rename_i q
  rw [q] at e
  have a:es.toList.any (·.refKey)=false:=by
   rw [any_eq_false]
   intro y hy
   obtain ⟨z,t,hkey⟩:=hk y (Array.mem_toList_iff.mp hy)
   simp [DictEntry.refKey,hkey]
  have a':¬ es.toList.any (·.refKey)=true:=by rw [a];exact Bool.false_ne_true
  rw [if_neg a']
  exact congrArg some e
theorem Lo.look {h:Heap} {x dx C:Addr} {mA:Str->Option Value} (I:Lo h x dx C mA):∃od,PySem.W.InstAt h x (PySem.W.instObj C dx) C (some od)/\∀name,PySem.W.lookIn name od=some (mA name) :=
 let ⟨od,ho,hl⟩:=Mt I.ns
 ⟨od,⟨I.obj,rfl,rfl,ho⟩,hl⟩
section
variable {prog:Program} {w:World} {A:Around} {E:Value->Shared->Prop} {s:Shared} {K:PySem.W.Frag} {x dx C f:Addr} {mA:Str->Option Value} {name:Str} {v:Value}
theorem OZ {expr:Bool} {Q:Value->Shared->Prop} (X:K.In s.heap) (I:Lo s.heap x dx C mA) (hg:PySem.W.plainGet K C name=true) (hh:PySem.W.hasDictIn K C=true)
 (ha:PySem.W.findIn K (.ref C) name=some none) (hv:mA name=some v) (hv':PySem.W.handedIn v=true) (h:Q v { s with toks:=s.toks+1 }) :
 wpAny (model prog w) A (getAttr (.ref x) name expr) Q E s:=by
 obtain ⟨od,J,hl⟩:=I.look
 exact PySem.W.get_value X J (PySem.W.plainGet_of hg).1 (PySem.W.findObj_own hh ha rfl (by rw [hl,hv])) hv' h
theorem Ou {pl:Sem Bool} {Q:Value × List Value->Shared->Prop} (X:K.In s.heap) (I:Lo s.heap x dx C mA) (hg:PySem.W.plainGet K C name=true)
 (hf:PySem.W.findIn K (.ref C) name=some (some (.ref f))) (ht:PySem.W.isFn K (.ref f)=true) (hv:mA name=none) (h:Q (.ref f,[.ref x]) s) :
 wpAny (model prog w) A (getMethod (.ref x) name pl) Q E s:=by
 obtain ⟨od,J,hl⟩:=I.look
 exact PySem.W.method_fn X J (PySem.W.plainGet_of hg).1 (PySem.W.plainGet_of hg).2 hf (beq_iff_eq.mp ht) (by show (PySem.W.lookIn name od).map (·.isSome)=some false;rw [hl,hv];rfl) h
theorem set_map {ns:List Str} {Q:Unit->Shared->Prop} (X:K.In s.heap) (I:Lo s.heap x dx C mA)
 (hs:PySem.W.findIn K (.ref C) "__setattr__"=some (some (.builtin "object.__setattr__"))) (hp:PySem.W.plainOver K C=true) (ht:PySem.W.takerIn K C name=some none) (hh:PySem.W.hasDictIn K C=true)
 (hw:PySem.Within mA ns) (hsz:ns.length<=sizeLine)
 (h:∀h',Lo h' x dx C (fun y=>if y=name then some v else mA y)->Heap.SameBut dx s.heap h'->Q () { s with heap:=h',toks:=s.toks+2 }) :
 wpAny (model prog w) A (setAttr (.ref x) name v) Q E s:=by
 obtain ⟨od,J,hl⟩:=I.look
 refine PySem.W.set_plain X J hs (PySem.W.osa_open (s:={ s with toks:=s.toks+1 }) (r:=none) X J hp ht fun b=>?_)
 obtain ⟨cd,hc,hd'⟩:=PySem.W.any_some hh
 have hx:s.heap.get? x=some ⟨.ref C,some dx,.plain,#[]⟩:=I.obj
 refine wpAny_bind (wpAny_pure (wpAny_bind (wpAny_bind (wpAny_loadPart hx (wpAny_bind (PySem.W.Looks.here (s:={ s with toks:=s.toks+1 }) (PySem.W.looks_clsIn X hc) ?_))))))
 rw [hd']
 refine wpAny_pure (a:=some dx) (wpAny_bind (wpAny_pure (wpAny_bind ?_)))
 refine wpAny_nsSet1 (s:={ s with toks:=s.toks+1 }) I.ns fun h' hn2 hs2=>?_
 obtain ⟨oD,esD,epD,hoD,hdD,hcD⟩:=hn2.count (PySem.Within.cons name v hw)
 refine wpAny_bind (wpAny_lookBehind hoD (by rw [hdD];exact pastItsLine_dict (Nat.le_trans hcD (by rw [length_cons];omega))) ?_)
 exact wpAny_pure (h _ ⟨(hs2.2 _ (Ne.symm I.ne)).trans I.obj,hn2,I.ne⟩ hs2)
theorem OA {R:Result->Shared->Prop} {vs:List Value} {kw:List (Str × Value)} (X:K.In s.heap) (hm:PySem.W.makesIn K C=true)
 (hi:PySem.W.findIn K (.ref C) "__init__"=some (some (.ref f))) (hf:PySem.W.typeIn K (.ref f)=some (.type "function"))
 (h:codeAny (model prog w) (A.under (.builtin "type.__call__" ⟨.ref C :: vs,kw⟩)) (.call (.ref f) ⟨.ref (s.heap.objs.size+1) :: vs,kw⟩) (PySem.W.InitBack (s.heap.objs.size+1) R)
  { s with heap:=(s.heap.push PySem.W.emptyDict).push (PySem.W.instObj C s.heap.objs.size) }) :
 codeAny (model prog w) A (.call (.ref C) ⟨vs,kw⟩) R s:=by
 obtain ⟨hh,g,d,t,os⟩:=s
 exact PySem.W.make_core (PySem.W.makes_of X hm) (PySem.W.looks_findIn X hi) (fun self=>PySem.W.bind_fn X self hf) (.inl rfl) h
end
noncomputable def Dq (f:Str) (v:V):List (Str × V)->List (Str × V)
 | []=>[(f,v)]
 | (g,x) :: r=>if g=f then (g,v) :: r else (g,x) :: Dq f v r
theorem Gc (f g:Str) (v:V):∀fs:List (Str × V),(Dq f v fs).lookup g=if g=f then some v else fs.lookup g
 | []=>by
   show List.lookup g [(f,v)]=_
   by_cases h:g=f
   ·have hb:(g == f)=true:=beq_iff_eq.mpr h
    simp only [List.lookup,hb,if_pos h]
   ·have hb:(g == f)=false:=beq_eq_false_iff_ne.mpr h
    simp only [List.lookup,hb,if_neg h]
 | (k,x) :: r=>by
   have ih:=Gc f g v r
   rw [show Dq f v ((k,x) :: r)=(if k=f then (k,v) :: r else (k,x) :: Dq f v r) from rfl]
   by_cases hk:k=f
   ·rw [if_pos hk]
    by_cases h:g=k
    ·have hb:(g == k)=true:=beq_iff_eq.mpr h
     simp only [List.lookup,hb,if_pos (h.trans hk)]
    ·have hb:(g == k)=false:=beq_eq_false_iff_ne.mpr h
     simp only [List.lookup,hb,if_neg (fun e:g=f=>h (e.trans hk.symm))]
   ·rw [if_neg hk]
    by_cases h:g=k
    ·have hb:(g == k)=true:=beq_iff_eq.mpr h
     simp only [List.lookup,hb,if_neg (fun e:g=f=>hk (h.symm.trans e))]
    ·have hb:(g == k)=false:=beq_eq_false_iff_ne.mpr h
     simp only [List.lookup,hb]
     exact ih
theorem Fy (f:Str) (v:V):∀fs:List (Str × V),f∈(Dq f v fs).map (·.1)/\∀g,g∈fs.map (·.1)->g∈(Dq f v fs).map (·.1)
 | []=>⟨by simp [Dq],fun g h=>by simp at h⟩
 | (k,x) :: r=>by
   obtain ⟨i1,i2⟩:=Fy f v r
   rw [show Dq f v ((k,x) :: r)=(if k=f then (k,v) :: r else (k,x) :: Dq f v r) from rfl]
   by_cases hk:k=f
   ·rw [if_pos hk]
    subst hk
    exact ⟨by simp,fun g h=>by simpa using h⟩
   ·rw [if_neg hk]
    refine ⟨?_,fun g h=>?_⟩
    ·rw [map_cons]
     exact mem_cons_of_mem _ i1
    ·rw [map_cons] at h ⊢
     rcases mem_cons.mp h with e | e
     ·exact mem_cons.mpr (.inl e)
     ·exact mem_cons_of_mem _ (i2 g e)
theorem Gd (f:Str) (v:V):∀fs:List (Str × V),(Dq f v fs).length<=fs.length+1
 | []=>by simp [Dq]
 | (k,x) :: r=>by
   have ih:=Gd f v r
   rw [show Dq f v ((k,x) :: r)=(if k=f then (k,v) :: r else (k,x) :: Dq f v r) from rfl]
   by_cases hk:k=f
   ·rw [if_pos hk,length_cons,length_cons];omega
   ·rw [if_neg hk,length_cons,length_cons];omega
theorem El.some_of {v:V} {o:Option Value} (r:El (some v) o):∃u,o=some u/\A8 v u:=by
 cases o with
 | none=>exact (show False from r).elim
 | some u=>exact ⟨u,rfl,r⟩
theorem El.none_of {o:Option Value} (r:El none o):o=none:=by
 cases o with
 | none=>rfl
 | some u=>exact (show False from r).elim
theorem ML {v:V} {u:Value} (r:A8 v u):PySem.W.handedIn u=true:=by
 cases v with
 | non=>cases (show u=Value.none from r);rfl
 | bl b=>cases (show u=Value.bool b from r);rfl
 | int i=>obtain ⟨t,e⟩:=(show ∃t,u=Value.int i t from r);cases e;rfl
 | str x=>obtain ⟨t,e⟩:=(show ∃t,u=Value.str x t from r);cases e;rfl
 | byt b=>obtain ⟨t,e⟩:=(show ∃t,u=Value.bytes b t from r);cases e;rfl
 | flt b=>obtain ⟨t,e⟩:=(show ∃t,u=Value.float b t from r);cases e;rfl
 | ref a=>cases (show u=Value.ref a from r);rfl
 | ty n=>cases (show u=Value.type n from r);rfl
section
variable {P:Program} {w:World} {H H':Hp} {h h':Heap} {a C dx:Addr} {fs fs':List (Str × V)}
theorem G8 (hok:HOk P w H h) (e:H a=some (.ins C dx fs)):∃mA,Lo h a dx C mA/\(∀f,El (fs.lookup f) (mA f))/\PySem.Within mA (fs.map (·.1))/\fs.length<=1000/\H dx=some (.own a):=by
 obtain ⟨d,z,ne,ob,mA,n,r,q⟩:=(show Bc P w H h a (.ins C dx fs) from hok a _ e)
 exact ⟨mA,⟨ob,n,ne⟩,r,q,z,d⟩
end
structure Cls (K:PySem.W.Frag) (C:Addr):Prop where
 pg:PySem.W.plainGet K C Str.empty=true
 hd:PySem.W.hasDictIn K C=true
 po:PySem.W.plainOver K C=true
 sa:PySem.W.findIn K (.ref C) "__setattr__"=some (some (.builtin "object.__setattr__"))
theorem Cls.get {K:PySem.W.Frag} {C:Addr} (c:Cls K C) (f:Str):PySem.W.plainGet K C f=true:=c.pg
def CA (K:PySem.W.Frag) (C:Addr) (f:Str):Prop:=PySem.W.findIn K (.ref C) f=some none
theorem CA.taker {K:PySem.W.Frag} {C:Addr} {f:Str} (n:CA K C f):PySem.W.takerIn K C f=some none:=by
 unfold PySem.W.takerIn
 rw [show PySem.W.findIn K (.ref C) f=some none from n]
 rfl
structure Gu (K:PySem.W.Frag) (C:Addr) (m:Str) (f:Addr):Prop where
 at_:PySem.W.findIn K (.ref C) m=some (some (.ref f))
 fn:PySem.W.isFn K (.ref f)=true
 kp:PySem.W.keepIn K (.ref f)=true
section
variable {X:Cx} {pins:List (Addr × Obj)} {σ:St} {H:Hp} {s:Shared} {a C dx:Addr} {fs:List (Str × V)} {f:Str} {v:V} {A:Around} {E:Value->Shared->Prop}
theorem Le {b:Bool} {Q:Value->Shared->Prop} (I:Inv X pins σ H s) (e:H a=some (.ins C dx fs)) (c:Cls X.K C) (n:CA X.K C f) (l:fs.lookup f=some v)
 (h:∀u s',Inv X pins σ H s'->A8 v u->Q u s'):wpAny (model X.prog X.w) A (getAttr (.ref a) f b) Q E s:=by
 obtain ⟨mA,O,r,_,_,_⟩:=G8 I.hok e
 obtain ⟨u,hu,ru⟩:=El.some_of (v:=v) (o:=mA f) (by rw [<- l];exact r f)
 exact OZ I.kIn O (c.get f) c.hd n hu (ML ru) (h u _ (I.tok _) ru)
theorem L5 {m:Str} {g:Addr} {pl:Sem Bool} {Q:Value × List Value->Shared->Prop} (I:Inv X pins σ H s) (e:H a=some (.ins C dx fs)) (c:Cls X.K C) (k:Gu X.K C m g) (l:fs.lookup m=none)
 (h:Q (.ref g,[.ref a]) s):wpAny (model X.prog X.w) A (getMethod (.ref a) m pl) Q E s:=by
 obtain ⟨mA,O,r,_,_,_⟩:=G8 I.hok e
 have hn:mA m=none:=El.none_of (by rw [<- l];exact r m)
 exact Ou I.kIn O (c.get m) k.at_ k.fn hn h
theorem KS {y:V} {u:Value} {Q:Unit->Shared->Prop} (I:Inv X pins σ H s) (e:H a=some (.ins C dx fs)) (c:Cls X.K C) (n:CA X.K C f) (hl:fs.length < 1000) (ry:A8 y u)
 (h:∀s',Inv X pins σ (upd H a (.ins C dx (Dq f y fs))) s'->Q () s'):wpAny (model X.prog X.w) A (setAttr (.ref a) f u) Q E s:=by
 obtain ⟨mA,O,r,wi,_,ho⟩:=G8 I.hok e
 have hz:(fs.map (·.1)).length<=sizeLine:=by rw [length_map,sizeLine_eq];omega
 refine set_map I.kIn O c.sa c.po n.taker c.hd wi hz fun h' O' sb=>h _ ?_
 have hd:∃o,h'.get? dx=some o:=let ⟨o,_,_,e',_⟩:=O'.ns;⟨o,e'⟩
 refine I.write (x:=a) (e:=dx) (by rw [e];exact True.intro) (.inr ho) (fun b q hb z=>(sb.2 b hb).trans z) hd ?_
 refine ⟨by rw [Aj O.ne];exact ho,?_,O.ne,O'.obj,_,O'.ns,fun g=>?_,fun g hg=>?_⟩
 ·have:=Gd f y fs;omega
 ·show El ((Dq f y fs).lookup g) (if g=f then some u else mA g)
  rw [Gc]
  by_cases q:g=f
  ·rw [if_pos q,if_pos q];exact ry
  ·rw [if_neg q,if_neg q];exact r g
 ·by_cases q:g=f
  ·rw [q];exact (Fy f y fs).1
  ·refine (Fy f y fs).2 g (wi g fun z=>hg ?_)
   show (if g=f then some u else mA g)=none
   rw [if_neg q];exact z
theorem Inv.made (I:Inv X pins σ H s):Inv X pins σ (upd (upd H s.heap.objs.size (.own (s.heap.objs.size+1))) (s.heap.objs.size+1) (.ins C s.heap.objs.size []))
 { s with heap:=(s.heap.push PySem.W.emptyDict).push (PySem.W.instObj C s.heap.objs.size) }:=by
 have e1:(s.heap.push PySem.W.emptyDict).get? s.heap.objs.size=some PySem.W.emptyDict:=Heap.get?_push_size s.heap rfl
 have e2:((s.heap.push PySem.W.emptyDict).push (PySem.W.instObj C s.heap.objs.size)).get? (s.heap.objs.size+1)=some (PySem.W.instObj C s.heap.objs.size):=by
  have:=Heap.get?_push_size (s.heap.push PySem.W.emptyDict) (o:=PySem.W.instObj C s.heap.objs.size) rfl
  rwa [Heap.size_push] at this
 have e3:(s.heap.push PySem.W.emptyDict).Ns s.heap.objs.size (fun _=>none):=⟨PySem.W.emptyDict,#[],_,e1,rfl,(fun e he=>absurd he (by simp)),fun _=>rfl⟩
 have I1:=I.laid (a:=s.heap.objs.size) (o:=.own (s.heap.objs.size+1)) (h':=s.heap.push PySem.W.emptyDict) (t':=s.toks) (fun b u q=>Heap.get?_push_of_some _ q) (Nat.le_refl _) ⟨_,e1⟩
 refine I1.laid (a:=s.heap.objs.size+1) (o:=.ins C s.heap.objs.size []) (t':=s.toks) (fun b u q=>Heap.get?_push_of_some _ q) (Nat.le_of_eq (Heap.size_push _ _)) ?_
 have ne:s.heap.objs.size≠s.heap.objs.size+1:=Nat.ne_of_lt (Nat.lt_succ_self _)
 refine ⟨by rw [Aj ne,Ab],Nat.zero_le _,ne,e2,fun _=>none,(Heap.Ns1.of_empty e3).at fun o q=>Heap.get?_push_of_some _ q,fun _=>True.intro,fun y hy=>absurd rfl hy⟩
theorem OP {prog:Program} {w:World} {env:Env} {e:Expr} {f:Str} {pos:Pos} {s:Shared} {Q:Value->Shared->Prop} (hb:attributeBase e f env (eval e env)=eval e env)
 (h:wpAny (model prog w) A (eval e env) (fun o s₁=>wpAny (model prog w) A (getAttr o f true) Q E s₁) E s):wpAny (model prog w) A (eval (.Attribute e f pos) env) Q E s :=
 Attribute_any_ h (by rw [arm_eval_Attribute,hb])
end
def Sd (K:PySem.W.Frag) (ta:TE) (f:Str):TE:=fun σ H Q=>ta σ H fun x H1=>∃a C dx fs v,x=.ref a/\H1 a=some (.ins C dx fs)/\Cls K C/\CA K C f/\fs.lookup f=some v/\Q v H1
def Sa (K:PySem.W.Frag) (ta tv:TE) (f:Str):TS:=fun D σ H=>tv σ H fun y H1=>ta σ H1 fun x H2=>∃a C dx fs,x=.ref a/\H2 a=some (.ins C dx fs)/\Cls K C/\CA K C f/\fs.length < 1000 /\
 D.nx σ (upd H2 a (.ins C dx (Dq f y fs)))
section
variable {X:Cx} {o e value:Expr} {f:Str} {pos pos' tpos:Pos} {ta tv:TE}
theorem Bo (he:PE X e ta) (hb:attributeBase e f X.env (eval e X.env)=eval e X.env):PE X (.Attribute e f pos) (Sd X.K ta f):=by
 intro pins s σ H Q I h
 refine OP hb (thn (he pins s σ H _ I h) fun u s1 ⟨x,H1,I1,rx,a,C,dx,fs,v,ex,ea,c,n,l,q⟩=>?_)
 subst ex
 obtain rfl:u=Value.ref a:=rx
 exact Le I1 ea c n l fun u' s2 I2 ru=>⟨v,H1,I2,ru,q⟩
theorem IQ (ha:PE X o ta) (hv:PE X value tv) (hs:swapsWith value (some (.Attribute o f pos')) pos.line X.env=pure false):PS X (.Assign [.Attribute o f pos'] value pos) (Sa X.K ta tv f):=by
 intro pins s σ H D I h
 refine plainObj_wpAny_Assign_Attribute (thn (hv pins s σ H _ I h) fun u s1 ⟨y,H1,I1,ry,q⟩=>thn (ha pins s1 σ H1 _ I1 q) fun ov s2 ⟨x,H2,I2,rx,a,C,dx,fs,ex,ea,c,n,l,q2⟩=>?_) hs
 subst ex
 obtain rfl:ov=Value.ref a:=rx
 exact KS I2 ea c n l ry fun s3 I3=>⟨σ,_,I3,q2⟩
end
section
variable {X:Cx} {pins:List (Addr × Obj)} {σ:St} {H:Hp} {s:Shared} {A:Around} {E:Value->Shared->Prop} {Q:Value->Shared->Prop} {c:Value} {b:Bool}
inductive Dw (K:PySem.W.Frag) (H:Hp):V->Value->Prop where
 | non:Dw K H .non (.type "NoneType")
 | bl (x:Bool):Dw K H (.bl x) (.type "bool")
 | int (i:Int):Dw K H (.int i) (.type "int")
 | str (x:Str):Dw K H (.str x) (.type "str")
 | flt (x:UInt64):Dw K H (.flt x) (.type "float")
 | lst {a:Addr} {xs:List V} (e:H a=some (.lst xs)):Dw K H (.ref a) (.type "list")
 | frz {a:Addr} {o:Obj} {xs:List V} (e:H a=some (.frz o (.lst xs))):Dw K H (.ref a) (.type "list")
 | tup {a:Addr} {xs:List V} (e:H a=some (.tup xs)):Dw K H (.ref a) (.type "tuple")
 | dK {a:Addr} {kvs:List (Key × V)} (e:H a=some (.dK kvs)):Dw K H (.ref a) (.type "dict")
 | dT {a:Addr} {kvs:List (List Key × V)} (e:H a=some (.dT kvs)):Dw K H (.ref a) (.type "dict")
 | ins {a C dx:Addr} {fs:List (Str × V)} (e:H a=some (.ins C dx fs)) (cl:Cls K C) (ha:PySem.W.findIn K (.ref C) "__class__"=some (some (.builtin "object.__class__")))
  (hn:PySem.W.specialIn K (.builtin "object.__class__") "__get__"=some (some (.builtin "getset_descriptor.__get__"))) (htk:PySem.W.takesIn K (.builtin "object.__class__")=some true)
  (hm:PySem.W.mroIn K C (.type "object")=some true):Dw K H (.ref a) (.ref C)
theorem Ig {x:V} {u t:Value} (I:Inv X pins σ H s) (rx:A8 x u) (ty:Dw X.K H x t) (e:PySem.W.kitOne X.K t c=some b) (h:∀tk,Q (.bool b) { s with toks:=tk }) :
 wpAny (model X.prog X.w) A (call (.builtin "isinstance") [u,c]) Q E s:=by
 cases ty with
 | non=>cases (show u=Value.none from rx);exact PySem.W.kia_one PySem.W.kitx_none I.kIn True.intro e (fun z=>by cases z) h
 | bl y=>cases (show u=Value.bool y from rx);exact PySem.W.kia_one PySem.W.kitx_bool I.kIn True.intro e (fun z=>by cases z) h
 | int i=>obtain ⟨t,q⟩:=(show ∃t,u=Value.int i t from rx);cases q;exact PySem.W.kia_one PySem.W.kitx_int I.kIn True.intro e (fun z=>by cases z) h
 | str y=>obtain ⟨t,q⟩:=(show ∃t,u=Value.str y t from rx);cases q;exact PySem.W.kia_one PySem.W.kitx_str I.kIn True.intro e (fun z=>by cases z) h
 | flt y=>obtain ⟨t,q⟩:=(show ∃t,u=Value.float y t from rx);cases q;exact PySem.W.kia_one PySem.W.kitx_float I.kIn True.intro e (fun z=>by cases z) h
 | @lst a xs ea =>
   cases (show u=Value.ref a from rx)
   obtain ⟨_,_,n,_,h1⟩:=(show Bc X.prog X.w H s.heap a (.lst xs) from I.hok a _ ea)
   exact PySem.W.kia_one PySem.W.kitx_list I.kIn ⟨_,h1,rfl⟩ e (fun z=>by cases z) h
 | @frz a ob xs ea =>
   cases (show u=Value.ref a from rx)
   obtain ⟨_,_,_,n,_,h1⟩:=(show Bc X.prog X.w H s.heap a (.frz ob (.lst xs)) from I.hok a _ ea)
   exact PySem.W.kia_one PySem.W.kitx_list I.kIn ⟨_,h1,rfl⟩ e (fun z=>by cases z) h
 | @tup a xs ea =>
   cases (show u=Value.ref a from rx)
   obtain ⟨_,_,_,p⟩:=(show Bc X.prog X.w H s.heap a (.tup xs) from I.hok a _ ea)
   obtain ⟨o,h1,h2,_⟩:=p
   exact PySem.W.kia_one PySem.W.kitx_tuple I.kIn ⟨o,h1,h2⟩ e (fun z=>by cases z) h
 | @dK a kvs ea =>
   cases (show u=Value.ref a from rx)
   obtain ⟨_,_,vs,_,p⟩:=(show Bc X.prog X.w H s.heap a (.dK kvs) from I.hok a _ ea)
   obtain ⟨o,es,ep,h1,h2,_⟩:=p
   exact PySem.W.kia_one PySem.W.kitx_dict I.kIn ⟨o,h1,h2.1⟩ e (fun z=>by cases z) h
 | @dT a kvs ea =>
   cases (show u=Value.ref a from rx)
   obtain ⟨_,_,xs,_,o,es,ep,h1,h2,_⟩:=(show Bc X.prog X.w H s.heap a (.dT kvs) from I.hok a _ ea)
   exact PySem.W.kia_one PySem.W.kitx_dict I.kIn ⟨o,h1,h2.1⟩ e (fun z=>by cases z) h
 | @ins a C dx fs ea cl ha hn htk hm =>
   cases (show u=Value.ref a from rx)
   obtain ⟨mA,O,_⟩:=G8 I.hok ea
   obtain ⟨od,J,_⟩:=O.look
   exact PySem.W.kia_one (PySem.W.kitx_own (cl.get _) cl.hd ha hn htk hm) I.kIn J e (fun z=>by cases z) h
end
end L2
namespace L2
open PySem PySem.Spec PyProof.Rows
structure CY (k:Nat) (A:Around):Prop where
 hd:A.handled=none
 dp:A.depth+3*k+5 < recursionLimit
 un:A.units+16*k+200 < cLine
theorem CY.mono {j k:Nat} {A:Around} (r:CY k A) (h:j<=k):CY j A:=⟨r.hd,by have:=r.dp;omega,by have:=r.un;omega⟩
theorem CY.deeper {k:Nat} {A:Around} (r:CY (k+1) A) (env:Env):CY k (A.deeper env) :=
 ⟨r.hd,by have:=r.dp;show A.depth+1+3*k+5 < _;omega,by have:=r.un;show A.units+3+16*k+200 < _;omega⟩
theorem LC {A:Around} {C:Addr} {us:List Value} {kw:List (Str × Value)}:(A.under (.builtin "type.__call__" ⟨.ref C :: us,kw⟩)).depth=A.depth+1:=by
 first | rfl | simp [Around.under,Code.weight,Code.isCreation,Code.isGuard,Code.isCaller,Code.frames,Code.isFrame,guardIds]
theorem LD {A:Around} {C:Addr} {us:List Value} {kw:List (Str × Value)}:(A.under (.builtin "type.__call__" ⟨.ref C :: us,kw⟩)).units=A.units+1:=by
 first | rfl | simp [Around.under,Code.cUnits,Code.frames,Code.isFrame]
theorem CY.make {k:Nat} {A:Around} (r:CY (k+1) A) (C:Addr) (us:List Value) (kw:List (Str × Value)):CY k (A.under (.builtin "type.__call__" ⟨.ref C :: us,kw⟩)) :=
 ⟨r.hd,by have:=r.dp;rw [LC];omega,by have:=r.un;rw [LD];omega⟩
theorem CY.depth {k:Nat} {A:Around} (r:CY k A):A.depth < recursionLimit:=by have:=r.dp;omega
theorem CY.units {k:Nat} {A:Around} (r:CY k A):A.units+64 < cLine:=by have:=r.un;omega
def RU:TA:=fun _ H Q=>Q [] H
def Rj (ta:TE) (tr:TA):TA:=fun σ H Q=>ta σ H fun x H1=>tr σ H1 fun xs H2=>Q (x :: xs) H2
section
variable {X:Cx} {e:Expr} {es:List Expr} {te:TE} {t:TA} {pos:Pos}
theorem Ac:PA X [] RU:=fun _ _ _ _ H Q I h=>Calls.spliced_nil ⟨[],H,I,.nil,h⟩
theorem Aa (ha:PE X e te) (hr:PA X es t) (hs:starEach (e :: es) X.env=(false,eval e X.env) :: starEach es X.env:=by rfl):PA X (e :: es) (Rj te t):=by
 intro pos pins s σ H Q I h
 rw [hs]
 show wpAny _ _ (spliced ((false,eval e X.env) :: backTo pos (starEach es X.env))) _ _ s
 refine Calls.spliced_cons (thn (ha pins s σ H _ I h) fun u s1 ⟨x,H1,I1,r1,q1⟩=>?_)
 exact thn (hr pos pins s1 σ H1 _ I1 q1) fun us s2 ⟨xs,H2,I2,r2,q2⟩=>⟨x :: xs,H2,I2,.cons r1 r2,q2⟩
def Sf (t:TA):TE:=fun σ H Q=>t σ H fun xs H1=>xs.length<=sizeLine/\∀p,H1 p=none->Q (.ref p) (upd H1 p (.tup xs))
def Sc (t:TA):TE:=fun σ H Q=>t σ H fun xs H1=>xs.length<=sizeLine/\∀p,H1 p=none->Q (.ref p) (upd H1 p (.lst xs))
theorem BY {x1} (h:PA X es t):PE X (.Tuple es x1 pos) (Sf t):=by
 intro pins s σ H Q I hq
 refine wpAny_Tuple_spliced (thn (h pos pins s σ H _ I hq) fun us s1 ⟨xs,H1,I1,r,z,q⟩=>⟨by rw [<- r.length];exact z,?_⟩)
 have hf:H1 s1.heap.objs.size=none:=I1.hok.fresh (Nat.le_refl _)
 refine ⟨.ref s1.heap.objs.size,upd H1 s1.heap.objs.size (.tup xs),I1.laid (t':=s1.toks) (fun b u e=>Heap.get?_push_of_some _ e) (Nat.le_refl _) ?_,rfl,q _ hf⟩
 exact ⟨z,us,r,⟨_,Heap.get?_push_size _ rfl,rfl,_,rfl⟩⟩
theorem BM (h:PA X es t):PE X (.List es pos) (Sc t):=by
 intro pins s σ H Q I hq
 refine wpAny_List_spliced (thn (h pos pins s σ H _ I hq) fun us s1 ⟨xs,H1,I1,r,z,q⟩=>⟨by rw [<- r.length];exact z,?_⟩)
 have hf:H1 s1.heap.objs.size=none:=I1.hok.fresh (Nat.le_refl _)
 refine ⟨.ref s1.heap.objs.size,upd H1 s1.heap.objs.size (.lst xs),I1.laid (t':=s1.toks) (fun b u e=>Heap.get?_push_of_some _ e) (Nat.le_refl _) ?_,rfl,q _ hf⟩
 exact ⟨z,us,0,r,Heap.get?_push_size _ rfl⟩
end
abbrev Sp:=List V->Hp->VK->XK->Prop
abbrev CXT:=List Env->Hp->Shared->XK->Value->Shared->Prop
structure L6 (P:Program) (w:World) (K:PySem.W.Frag) (mg:Str->Option Value) (base:Heap) (A:Around) (outer:List Env) (s:Shared) (H:Hp):Prop where
 frames:A.frames=some outer
 mod:Mod K mg base
 bs:∀b o,base.get? b=some o->s.heap.get? b=some o/\H b=none
 bsz:base.objs.size<=s.heap.objs.size
 funs:s.heap.FunFrames base outer
 frf:∀b∈frs outer,H b=none
 hok:HOk P w H s.heap
 bare:AllBare s.gens
def CE (outer:List Env) (P:Program) (w:World) (H:Hp) (s:Shared) (Q:VK) (u:Value) (s':Shared):Prop :=
 ∃v H',s'.os=s.os/\AllBare s'.gens/\Un (frs outer) [] H H' s.heap s'.heap/\HOk P w H' s'.heap/\A8 v u/\Q v H'
def CR (CX:CXT) (outer:List Env) (P:Program) (w:World) (H:Hp) (s:Shared) (Q:VK) (E:XK) (r:Result) (s':Shared):Prop :=
 match r with
 | .ok (.ret u)=>CE outer P w H s Q u s'
 | .ok _=>False
 | .error e=>CX outer H s E e s'
structure AI (P:Program) (w:World) (K:PySem.W.Frag) (mg:Str->Option Value) (base:Heap) (CX:CXT) (k:Nat) (f:Addr) (fd:FuncData) (ps:List Str) (sp:Sp):Prop where
 len:∀vs H Q E,sp vs H Q E->vs.length=ps.length
 run:∀(A:Around) (outer:List Env) (s:Shared) (H:Hp) (args:Args) (us:List Value) (vs:List V) (Q:VK) (E:XK),CY k A->L6 P w K mg base A outer s H->BindsTo s fd args (ps.zip us)->A7 vs us->sp vs H Q E ->
  codeAny (model P w) A (.call (.ref f) args) (CR CX outer P w H s Q E) s
theorem L6.make {P:Program} {w:World} {K:PySem.W.Frag} {mg:Str->Option Value} {base:Heap} {A:Around} {outer:List Env} {s:Shared} {H:Hp} (e:L6 P w K mg base A outer s H) (C:Addr) (us:List Value) (kw:List (Str × Value)) :
 L6 P w K mg base (A.under (.builtin "type.__call__" ⟨.ref C :: us,kw⟩)) outer s H:=⟨by first | exact e.frames | (simpa [Around.under,Code.envs,Code.isFrame,pushEnvs] using e.frames),e.mod,e.bs,e.bsz,e.funs,e.frf,e.hok,e.bare⟩
section
variable {X:Cx} {pins:List (Addr × Obj)} {σ:St} {H:Hp} {s s':Shared}
theorem Inv.env0 (I:Inv X pins σ H s):L6 X.prog X.w X.K X.mg X.base X.A X.stack s H :=
 ⟨I.ok.frames,I.ok.mod,I.bs,Nat.le_trans I.ok.bsz I.sz,I.stack,I.stkFree,I.hok,I.bare⟩
theorem Inv.after {Q:VK} {u:Value} (I:Inv X pins σ H s) (h:CE X.stack X.prog X.w H s Q u s'):EP X pins σ Q u s':=by
 obtain ⟨v,H',os,bare,un,hok,r,q⟩:=h
 obtain ⟨hh,g,d,t,os'⟩:=s'
 obtain rfl:os'=s.os:=os
 exact ⟨v,H',I.call (h':=hh) (g':=g) (d':=d) (t':=t) (ch:=[]) un hok bare (fun b z=>absurd z (by simp)),r,q⟩
end
def R7 (sp:Sp) (dvs:List V) (E:XK) (t:TA):TE:=fun σ H Q=>t σ H fun vs H1=>sp (vs++dvs) H1 Q E
def Rr (C:Addr) (m:Str) (sp:Sp) (dvs:List V) (E:XK) (ta:TE) (t:TA):TE:=fun σ H Q=>ta σ H fun x H1=>∃a dx fs,x=.ref a/\H1 a=some (.ins C dx fs)/\fs.lookup m=none /\
 t σ H1 fun vs H2=>sp (x :: (vs++dvs)) H2 Q E
def Rk (C:Addr) (sp:Sp) (dvs:List V) (E:XK) (t:TA):TE:=fun σ H Q=>t σ H fun vs H1=>∀x dx,H1 x=none->H1 dx=none->dx≠x ->
 sp (.ref x :: (vs++dvs)) (upd (upd H1 dx (.own x)) x (.ins C dx [])) (fun v H2=>v=.non/\Q (.ref x) H2) E
def A5 (K:PySem.W.Frag) (fd:FuncData) (ps:List Str) (ds:List Value):Prop :=
 ∀(s:Shared) (us:List Value),K.In s.heap->(us++ds).length=ps.length->BindsTo s fd ⟨us,[]⟩ (ps.zip (us++ds))
theorem A5.all {K:PySem.W.Frag} {fd:FuncData} {ps:List Str} (h:∀us:List Value,us.length=ps.length->bindArgs fd ⟨us,[]⟩=pure (ps.zip us)):A5 K fd ps []:=fun s us _ hl=>by
 rw [append_nil] at hl ⊢
 exact .of_eq (h us hl)
def FW (CX:CXT) (X:Cx) (E:XK):Prop:=∀(pins:List (Addr × Obj)) (σ:St) (H:Hp) (s:Shared) (e:Value) (s':Shared),Inv X pins σ H s->CX X.stack H s E e s'->X.xe e s'
section
variable {X:Cx} {CX:CXT} {k:Nat} {f C:Addr} {fd:FuncData} {ps:List Str} {sp:Sp} {dvs:List V} {ds:List Value} {E:XK} {x m:Str} {p pos apos:Pos} {e o:Expr} {es:List Expr} {ta:TE} {t:TA}
theorem ND {pins:List (Addr × Obj)} {σ:St} {H:Hp} {s:Shared} {Q:VK} {us:List Value} {vs:List V} (F:AI X.prog X.w X.K X.mg X.base CX k f fd ps sp) (hr:CY k X.A) (hb:A5 X.K fd ps ds) (hd:A7 dvs ds) (hx:FW CX X E)
 (I:Inv X pins σ H s) (r:A7 vs us) (h:sp (vs++dvs) H Q E):wpAny (model X.prog X.w) X.A (call (.ref f) us) (EP X pins σ Q) X.xe s:=by
 have r2:A7 (vs++dvs) (us++ds):=r.append hd
 have hl:(us++ds).length=ps.length:=by rw [<- r2.length];exact F.len _ _ _ _ h
 refine wpAny_call (codeAny_mono (F.run X.A X.stack s H ⟨us,[]⟩ (us++ds) (vs++dvs) Q E hr I.env0 (hb s us I.kIn hl) r2 h) fun r s' hq=>?_)
 cases r with
 | error e=>exact hx pins σ H s e s' I hq
 | ok fl =>
   cases fl with
   | ret u=>exact I.after hq
   | next=>exact False.elim hq
   | brk=>exact False.elim hq
   | cont=>exact False.elim hq
theorem Ai (F:AI X.prog X.w X.K X.mg X.base CX k f fd ps sp) (hr:CY k X.A) (hg:Gl X x) (hm:X.mg x=some (.ref f)) (hk:PySem.W.keepIn X.K (.ref f)=true) (hb:A5 X.K fd ps ds) (hd:A7 dvs ds) (hx:FW CX X E)
 (ha:PA X (e :: es) t) (hdb:(x == ("__debug__":Str))=false:=by decide) (he:starEach (e :: es) X.env=(false,eval e X.env) :: starEach es X.env:=by rfl) (hpl:(backTo pos (starEach es X.env)).any (·.1)=false:=by rfl) :
 PE X (.Call (.Name x p) (e :: es) [] pos) (R7 sp dvs E t):=by
 intro pins s σ H Q I h
 refine wpAny_Call_Name_kw (Jc I hg hm ?_ hdb)
 refine PySem.W.callWith_K (h₀:=X.base) I.ok.mod.kin hk (thn (ha pos pins s σ H _ I h) fun us s1 ⟨vs,H1,I1,r,q⟩=>⟨I1.kIn,?_⟩) he hpl
 exact ND F hr hb hd hx I1 r q
theorem C8 {pl:Sem Bool} (he:PE X o ta) (c:Cls X.K C) (hm:Gu X.K C m f) (F:AI X.prog X.w X.K X.mg X.base CX k f fd ps sp) (hr:CY k X.A) (hb:A5 X.K fd ps ds) (hd:A7 dvs ds) (hx:FW CX X E) (ha:PA X (e :: es) t)
 (hst:starEach (e :: es) X.env=(false,eval e X.env) :: starEach es X.env:=by rfl) (hpl:(backTo pos (starEach es X.env)).any (·.1)=false:=by rfl)
 (ht:eval (.Call (.Attribute o m apos) (e :: es) [] pos) X.env=(do
  let ov <- eval o X.env
  standAt apos.atName
  let (f,first) <- holding [ov] (getMethod ov m pl)
  callWith pos f first (backTo pos (starEach (e :: es) X.env)) (backToKw pos (keywordEach [] X.env))):=by rfl) :
 PE X (.Call (.Attribute o m apos) (e :: es) [] pos) (Rr C m sp dvs E ta t):=by
 intro pins s σ H Q I h
 refine PySem.W.methodCall_KW (pl:=pl) (thn (he pins s σ H _ I h) fun u s1 ⟨x,H1,I1,rx,a,dx,fs,ex,ea,l,q⟩=>?_) ht
 subst ex
 obtain rfl:u=Value.ref a:=rx
 refine L5 I1 ea c hm l ?_
 refine PySem.W.callWith_K (first:=[.ref a]) (h₀:=X.base) I.ok.mod.kin hm.kp (thn (ha pos pins s1 σ H1 _ I1 q) fun us s2 ⟨vs,H2,I2,r,q2⟩=>⟨I2.kIn,?_⟩) hst hpl
 exact ND (us:=.ref a :: us) (vs:=.ref a :: vs) F hr hb hd hx I2 (.cons rfl r) q2
structure Mk (K:PySem.W.Frag) (C f:Addr):Prop where
 makes:PySem.W.makesIn K C=true
 init:PySem.W.findIn K (.ref C) "__init__"=some (some (.ref f))
 fn:PySem.W.isFn K (.ref f)=true
 kp:PySem.W.keepIn K (.ref C)=true
theorem NW {pins:List (Addr × Obj)} {σ:St} {H:Hp} {s:Shared} {Q:VK} {us:List Value} {vs:List V} (M:Mk X.K C f) (F:AI X.prog X.w X.K X.mg X.base CX k f fd ps sp) (hr:CY (k+1) X.A) (hb:A5 X.K fd ps ds) (hd:A7 dvs ds)
 (hx:FW CX X E) (I:Inv X pins σ H s) (r:A7 vs us)
 (h:∀x dx,H x=none->H dx=none->dx≠x->sp (.ref x :: (vs++dvs)) (upd (upd H dx (.own x)) x (.ins C dx [])) (fun v H2=>v=.non/\Q (.ref x) H2) E) :
 wpAny (model X.prog X.w) X.A (call (.ref C) us) (EP X pins σ Q) X.xe s:=by
 have hq:=h (s.heap.objs.size+1) s.heap.objs.size (I.hok.fresh (Nat.le_succ _)) (I.hok.fresh (Nat.le_refl _)) (Nat.ne_of_lt (Nat.lt_succ_self _))
 have I2:=Inv.made (C:=C) I
 have r2:A7 (V.ref (s.heap.objs.size+1) :: (vs++dvs)) (Value.ref (s.heap.objs.size+1) :: (us++ds)):=.cons rfl (r.append hd)
 have hl:(Value.ref (s.heap.objs.size+1) :: us++ds).length=ps.length:=by
  have e:=r2.length
  rw [F.len _ _ _ _ hq] at e
  exact e.symm
 refine wpAny_call (OA (f:=f) I.kIn M.makes M.init (beq_iff_eq.mp M.fn) (codeAny_mono (F.run _ X.stack _ _ ⟨Value.ref (s.heap.objs.size+1) :: us,[]⟩ (Value.ref (s.heap.objs.size+1) :: (us++ds)) _ _ E (hr.make C us [])
  (I2.env0.make C us []) (hb _ (Value.ref (s.heap.objs.size+1) :: us) I2.kIn hl) r2 hq) fun r s' hq'=>?_))
 cases r with
 | error e=>exact hx pins σ _ _ e s' I2 hq'
 | ok fl =>
   cases fl with
   | ret u =>
     obtain ⟨v,H',I3,rv,ev,q3⟩:=I2.after hq'
     subst ev
     exact ⟨rv,⟨V.ref (s.heap.objs.size+1),H',I3,rfl,q3⟩⟩
   | next=>exact False.elim hq'
   | brk=>exact False.elim hq'
   | cont=>exact False.elim hq'
theorem LW (M:Mk X.K C f) (F:AI X.prog X.w X.K X.mg X.base CX k f fd ps sp) (hr:CY (k+1) X.A) (hg:Gl X x) (hm:X.mg x=some (.ref C)) (hb:A5 X.K fd ps ds) (hd:A7 dvs ds) (hx:FW CX X E)
 (ha:PA X (e :: es) t) (hdb:(x == ("__debug__":Str))=false:=by decide) (he:starEach (e :: es) X.env=(false,eval e X.env) :: starEach es X.env:=by rfl) (hpl:(backTo pos (starEach es X.env)).any (·.1)=false:=by rfl) :
 PE X (.Call (.Name x p) (e :: es) [] pos) (Rk C sp dvs E t):=by
 intro pins s σ H Q I h
 refine wpAny_Call_Name_kw (Jc I hg hm ?_ hdb)
 refine PySem.W.callWith_K (h₀:=X.base) I.ok.mod.kin M.kp (thn (ha pos pins s σ H _ I h) fun us s1 ⟨vs,H1,I1,r,q⟩=>⟨I1.kIn,?_⟩) he hpl
 exact NW M F hr hb hd hx I1 r q
end
section
variable {X:Cx} {CX:CXT} {k:Nat} {f C:Addr} {fd:FuncData} {ps ks:List Str} {sp:Sp} {E:XK} {x m:Str} {p pos apos kpos:Pos} {e o:Expr} {es:List Expr} {kws:List Keyword} {te ta:TE} {t tk:TA} {nm:Option Str}
variable {g:List Value->List Value->List Value} {gV:List V->List V->List V}
end
structure Ar (N P:List Str) (sc:Scope):Prop where
 kind:sc.kind=.function
 co:sc.isCoroutine=false
 gen:sc.isGenerator=false
 nd:N.Nodup
 pre:N.take P.length=P
 par:∀x∈P,sc.names.lookup x=some .local\/sc.names.lookup x=some .cell
 nofree:∀y∈sc.names,y.2≠.free
theorem HH {kindOf:Str->Option NameKind} {x:Str}:∀{binds:List (Str × Value)} {m:Str->Option Value},(∀v,(x,v) ∉ binds)->bindL kindOf binds m x=m x
 | [],_,_=>rfl
 | (n,v) :: r,m,h=>by
   unfold bindL
   rw [HH fun w hw=>h w (mem_cons_of_mem _ hw)]
   split
   ·have:x≠n:=by rintro rfl;exact h v mem_cons_self
    simp [this]
   ·rfl
theorem Id {kindOf:Str->Option NameKind} {x:Str}:∀{binds:List (Str × Value)} {m:Str->Option Value},(∀v,(x,v) ∉ binds)->bindC kindOf binds m x=m x
 | [],_,_=>rfl
 | (n,v) :: r,m,h=>by
   unfold bindC
   rw [Id fun w hw=>h w (mem_cons_of_mem _ hw)]
   split
   ·rfl
   ·have:x≠n:=by rintro rfl;exact h v mem_cons_self
    simp [this]
theorem Im {kindOf:Str->Option NameKind} {x:Str} {v:Value}:∀{P:List Str} {vs:List Value} {i:Nat} {m:Str->Option Value},P.Nodup->P[i]?=some x->vs[i]?=some v->kindOf x=some .local ->
 bindL kindOf (P.zip vs) m x=some v
 | [],_,_,_,_,h,_,_=>by simp at h
 | _ :: _,[],_,_,_,_,h,_=>by simp at h
 | p :: P,w :: vs,0,m,nd,h1,h2,hk=>by
   simp at h1 h2;subst h1;subst h2
   show bindL kindOf ((p,w) :: P.zip vs) m p=_
   unfold bindL
   rw [HH fun v hv=>(nodup_cons.mp nd).1 (of_mem_zip hv).1,if_pos hk]
   simp
 | p :: P,w :: vs,i+1,m,nd,h1,h2,hk=>by
   show bindL kindOf ((p,w) :: P.zip vs) m x=_
   unfold bindL
   exact Im (i:=i) (nodup_cons.mp nd).2 (by simpa using h1) (by simpa using h2) hk
theorem Ik {kindOf:Str->Option NameKind} {x:Str} {v:Value}:∀{P:List Str} {vs:List Value} {i:Nat} {m:Str->Option Value},P.Nodup->P[i]?=some x->vs[i]?=some v->kindOf x≠some .local ->
 bindC kindOf (P.zip vs) m x=some v
 | [],_,_,_,_,h,_,_=>by simp at h
 | _ :: _,[],_,_,_,_,h,_=>by simp at h
 | p :: P,w :: vs,0,m,nd,h1,h2,hk=>by
   simp at h1 h2;subst h1;subst h2
   show bindC kindOf ((p,w) :: P.zip vs) m p=_
   unfold bindC
   rw [Id fun v hv=>(nodup_cons.mp nd).1 (of_mem_zip hv).1,if_neg hk]
   simp
 | p :: P,w :: vs,i+1,m,nd,h1,h2,hk=>by
   show bindC kindOf ((p,w) :: P.zip vs) m x=_
   unfold bindC
   exact Ik (i:=i) (nodup_cons.mp nd).2 (by simpa using h1) (by simpa using h2) hk
noncomputable def start (N:List Str) (vs:List V):St:=vs.map some++List.replicate (N.length - vs.length) none
noncomputable def JI (CX:CXT) (P:Program) (w:World) (K:PySem.W.Frag) (mg:Str->Option Value) (base:Heap) (N:List Str) (qual:Str) (scope:Scope) (f:Addr) (cd:Value) (A:Around) (outer:List Env) (s:Shared) (H:Hp) (E:XK):Cx where
 prog:=P
 w:=w
 K:=K
 mg:=mg
 base:=base
 A:=A.deeper (envOfC qual scope s.heap.objs.size f cd)
 N:=N
 s₀:=s
 H₀:=H
 env:=envOfC qual scope s.heap.objs.size f cd
 outer:=outer
 stack:=envOfC qual scope s.heap.objs.size f cd :: outer
 ex:=[]
 calm:=true
 fn:=fun _=>true
 pn:=[]
 xe:=fun e s'=>wpAny (model P w) (A.deeper (envOfC qual scope s.heap.objs.size f cd)) (leaving (envOfC qual scope s.heap.objs.size f cd) e) (fun _ s''=>CX outer H s E e s'') (fun e' s''=>CX outer H s E e' s'') s'
theorem Km {sc:Scope} {n:Nat} {x:Str} (h:sc.names.lookup x=some .cell):∃c,(cellsFrom n sc.names []).lookup x=some c:=by
 have q:=PySem.W.cellsFrom_some sc.names n [] (.inl h)
 exact Option.isSome_iff_exists.mp q
theorem Nk {CX:CXT} {P:Program} {w:World} {K:PySem.W.Frag} {mg:Str->Option Value} {base:Heap} {N ps:List Str} {qual:Str} {scope:Scope} {f:Addr} {cd:Value} {A:Around} {outer:List Env} {s s1:Shared} {H:Hp} {E:XK} {us:List Value} {vs:List V}
 (S:Ar N ps scope) (hd:A.handled=none) (e0:L6 P w K mg base A outer s H) (hl:vs.length=ps.length) (r:A7 vs us)
 (x:InCallC s s.heap.objs.size (bindL (envOfC qual scope s.heap.objs.size f cd).kindOf (ps.zip us) fun _=>none) (cellsFrom (s.heap.objs.size+1) scope.names []) (bindC (envOfC qual scope s.heap.objs.size f cd).kindOf (ps.zip us) fun _=>none) s1) :
 Inv (JI CX P w K mg base N qual scope f cd A outer s H E) [] (start N vs) H s1:=by
 have hpl:ps.length<=N.length:=by have:=congrArg List.length S.pre;rw [length_take] at this;omega
 obtain ⟨h1,tk,rfl,hk⟩:=x.done
 have noA:∀b:Addr,b ∉ (JI CX P w K mg base N qual scope f cd A outer s H E).ex:=fun b z=>absurd (show b∈([]:List Addr) from z) (by simp)
 refine ⟨⟨e0.mod,S.kind,rfl,rfl,Nat.le_refl _,fun y z c h1 h2=>?_,fun y hy=>?_,fun y c _ h=>?_,fun _=>hd,Around.frames_deeper e0.frames,.inr ⟨rfl,rfl⟩,fun b z=>absurd z (noA b),e0.bs,e0.bsz,fun b _ _=>noA b,fun b z=>absurd z (noA b),e0.funs,e0.frf⟩,
  rfl,e0.bare,Un.kept hk,⟨_,x.toInCall.ns,fun i y v h1 h2 h3=>?_⟩,fun y c h=>⟨_,x.cell y c h⟩,e0.hok.fresh (Nat.le_refl _),fun y c h=>?_,fun p hp=>absurd (show p∈([]:List (Addr × Obj)) from hp) (by simp),e0.hok.kept hk,?_⟩
 ·exact name_of_addr x.apart (PySem.mem_of_lookup h1) (PySem.mem_of_lookup h2)
 ·have hy:scope.names.lookup y=some .cell\/scope.names.lookup y=some .free:=hy
  rcases hy with hy | hy
  ·exact Km hy
  ·exact absurd rfl (S.nofree _ (PySem.mem_of_lookup hy))
 ·exact Nat.le_of_lt (x.above y c (PySem.mem_of_lookup h))
 ·have hi:i < vs.length:=by
   unfold start at h2
   by_cases hi:i < vs.length
   ·exact hi
   ·rw [List.getElem?_append_right (by simpa using hi)] at h2
    rw [List.getElem?_replicate] at h2
    split at h2 <;> cases h2
  have ha:vs[i]?=some v:=by
   unfold start at h2
   rw [List.getElem?_append_left (by simpa using hi),List.getElem?_map] at h2
   cases e:vs[i]? with
   | none=>rw [e] at h2;cases h2
   | some a=>rw [e] at h2;cases h2;rfl
  obtain ⟨u,hu,rv⟩:=r.get ha
  have hp:ps[i]?=some y:=by
   rw [<- S.pre,List.getElem?_take_of_lt (by omega)];exact h1
  have ndP:ps.Nodup:=by rw [<- S.pre];exact S.nd.sublist (take_sublist _ _)
  refine ⟨u,rv,?_⟩
  rcases S.par y (mem_of_getElem? hp) with k | k
  ·exact .inl ⟨k,Im ndP hp hu k⟩
  ·obtain ⟨c,e⟩:=Km (n:=s.heap.objs.size+1) k
   refine .inr ⟨.inl k,c,e,?_⟩
   have q:=x.cell y c e
   rw [Ik ndP hp hu (by show scope.names.lookup y≠_;rw [k];decide)] at q
   exact q
 ·exact e0.hok.fresh (Nat.le_of_lt (x.above y c (PySem.mem_of_lookup h)))
 ·unfold start
  show _=N.length
  rw [length_append,length_map,length_replicate]
  omega
theorem NF {CX:CXT} {P:Program} {w:World} {K:PySem.W.Frag} {mg:Str->Option Value} {base:Heap} {k:Nat} {f:Addr} {name qual:Str} {params:Arguments} {body:List Stmt} {scope:Scope} {dV kV doc pm cdv ct oc:Value} {an od:Option Addr}
 {osl:Array (Option Value)} {N ps:List Str} {sp:Sp} (lk:K.lookup f=some ⟨oc,od,.func (PySem.W.fnOf name qual params body scope dV kV doc pm an cdv ct),osl⟩) (hcd:PySem.W.codeIn K cdv qual=true) (S:Ar N ps scope)
 (len:∀vs H Q E,sp vs H Q E->vs.length=ps.length)
 (hbody:∀(A:Around) (outer:List Env) (s:Shared) (H:Hp) (vs:List V) (Q:VK) (E:XK),CY k (A.deeper (envOfC qual scope s.heap.objs.size f cdv))->sp vs H Q E ->
  ∃t,PSs (JI CX P w K mg base N qual scope f cdv A outer s H E) body t/\t { nx:=fun _ H'=>Q .non H',rt:=Q } (start N vs) H) :
 AI P w K mg base CX (k+1) f (PySem.W.fnOf name qual params body scope dV kV doc pm an cdv ct) ps sp:=by
 refine ⟨len,fun A outer s H args us vs Q E hr e0 hb r hsp=>?_⟩
 have hl:=len _ _ _ _ hsp
 have KX:K.In s.heap:=e0.mod.kin.keeps fun b o e=>(e0.bs b o e).1
 have lim:s.heap.NoLimit:=e0.mod.nolimit.keeps fun b o e=>(e0.bs b o e).1
 have hkind:∀y∈ps.zip us,scope.names.lookup y.1=some .local\/(scope.names.lookup y.1=some .cell/\((cellsFrom (s.heap.objs.size+1) scope.names []).lookup y.1).isSome=true):=fun ⟨n,v⟩ hy=>by
  rcases S.par n (of_mem_zip hy).1 with q | q
  ·exact .inl q
  ·exact .inr ⟨q,PySem.W.cellsFrom_some _ _ _ (.inl q)⟩
 refine codeAny_call_function hr.depth (KX _ _ lk) rfl S.co S.gen rfl (PySem.W.codeRec_of KX hcd) (hb _ _ _ _ ?_)
 refine wpAny_newFunctionEnv_cells S.kind hkind fun env he s1 x=>?_
 subst he
 refine ⟨lim.keeps x.toInCall.keep,codeAny_func ?_⟩
 obtain ⟨t,ht,hq⟩:=hbody A outer s H vs Q E (hr.deeper _) hsp
 have I:Inv (JI CX P w K mg base N qual scope f cdv A outer s H E) [] (start N vs) H s1:=Nk S hr.hd e0 hl r x
 refine wpAny_mono (ht [] s1 (start N vs) H _ I hq) (fun fl s' hs=>?_) fun e s' hs=>hs
 have fin:∀{σ':St} {H':Hp} {v:V} {u:Value},Inv (JI CX P w K mg base N qual scope f cdv A outer s H E) [] σ' H' s'->A8 v u->Q v H'->CE outer P w H s Q u s' :=
  fun {σ' H' v u} J rv q=>⟨v,H',J.os,J.bare,J.base,J.hok,rv,q⟩
 cases fl with
 | ret u =>
   obtain ⟨v,σ',H',J,rv,q⟩:=hs
   exact fin J rv q
 | next =>
   obtain ⟨σ',H',J,q⟩:=hs
   exact fin (v:=V.non) (u:=Value.none) J rfl q
 | brk =>
   obtain ⟨_,_,_,q⟩:=hs
   exact False.elim q
 | cont =>
   obtain ⟨_,_,_,q⟩:=hs
   exact False.elim q
end L2
namespace L2
open PySem PySem.Spec PyProof.Rows
section
variable {X:Cx} {x:Str} {p pos:Pos} {e:Expr} {es:List Expr} {t:TA} {id T:String} {r:List V->Hp->VK->Prop}
def tCB (r:List V->Hp->VK->Prop) (t:TA):TE:=fun σ H Q=>t σ H fun vs H1=>r vs H1 Q
theorem Ao (hc:Db X (.builtin id) r) (hg:Gl X x) (hm:X.mg x=none) (hv:bootBuiltins x=some (.builtin id)) (ha:PA X (e :: es) t) (hn:x≠"__name__":=by decide) (hdb:(x == ("__debug__":Str))=false:=by decide)
 (he:starEach (e :: es) X.env=(false,eval e X.env) :: starEach es X.env:=by rfl) (hpl:(backTo pos (starEach es X.env)).any (·.1)=false:=by rfl):PE X (.Call (.Name x p) (e :: es) [] pos) (tCB r t):=by
 intro pins s σ H Q I h
 refine wpAny_Call_Name_kw (DA I hg hm hv ?_ hn hdb)
 exact PyProof.Rows.callWith_builtin1 (thn (ha pos pins s σ H _ I h) fun us s1 ⟨vs,H1,I1,r1,q1⟩=>hc pins s1 σ H1 vs us Q I1 r1 q1) he hpl
theorem BK (hc:Db X (.type T) r) (hg:Gl X x) (hm:X.mg x=none) (hv:bootBuiltins x=some (.type T)) (ha:PA X (e :: es) t) (hn:x≠"__name__":=by decide) (hdb:(x == ("__debug__":Str))=false:=by decide)
 (he:starEach (e :: es) X.env=(false,eval e X.env) :: starEach es X.env:=by rfl) (hpl:(backTo pos (starEach es X.env)).any (·.1)=false:=by rfl):PE X (.Call (.Name x p) (e :: es) [] pos) (tCB r t):=by
 intro pins s σ H Q I h
 refine wpAny_Call_Name_kw (DA I hg hm hv ?_ hn hdb)
 exact PyProof.Rows.callWith_type1 (thn (ha pos pins s σ H _ I h) fun us s1 ⟨vs,H1,I1,r1,q1⟩=>hc pins s1 σ H1 vs us Q I1 r1 q1) he hpl
end
end L2
namespace HT
open PySem PyProof.Rows
noncomputable def lexLt:List Int->List Int->Bool
 | [],[]=>false
 | [],_ :: _=>true
 | _ :: _,[]=>false
 | x :: xs,y :: ys=>if x=y then lexLt xs ys else decide (x < y)
theorem lexLt_cons (x y:Int) (xs ys:List Int):lexLt (x :: xs) (y :: ys)=if x=y then lexLt xs ys else decide (x < y):=rfl
theorem Hw:lexLt [] []=false:=rfl
theorem GG (y:Int) (ys:List Int):lexLt [] (y :: ys)=true:=rfl
theorem GE (x:Int) (xs:List Int):lexLt (x :: xs) []=false:=rfl
theorem O2 (A:Around) (s:Shared) (a:Int) (t:Tok) (c:Int) (u:Tok):∃e,SeqAt.EqAt A s (.int a t) (.int c u) e/\(e=true↔a=c) :=
 ⟨(a == c),SeqAt.EqAt.int_int a t c u,by simp⟩
theorem O8 (A:Around) (s:Shared) (a:Int) (t:Tok) (c:Int) (u:Tok) (prog:Program) (w:World) (E:Value->Shared->Prop) (Q:Value->Shared->Prop) (h:Q (.bool (decide (a < c))) s) :
 wpAny (model prog w) A (richCompare .Lt (.int a t) (.int c u)) Q E s :=
 (PyProof.Rows.lt_int h:wpAny (model prog w) A (compareOp .Lt (.int a t) (.int c u)) Q E s)
section
open PySem.SeqAt
open PySem.AutoSeq1 (wpAny_loadPart')
open PySem.MeetsSeq PySem.MeetsSeq2 PySem.MeetsSeq3
theorem tuple_lt_ints (l b:Addr) (items items2:Array Value) (n n2:Nat) (dd dd2:Option Addr) (sl sl2:Array (Option Value)) (ns ms:List Int) (hi:IntsAre items.toList ns) (hj:IntsAre items2.toList ms) :
 Meets (Builtin.«tuple.__lt__» ⟨[.ref l,.ref b],[]⟩)
  (fun _ R s=>s.heap.get? l=some { cls:=.type "tuple",dict:=dd,data:=.seq items n,slots:=sl }/\s.heap.get? b=some { cls:=.type "tuple",dict:=dd2,data:=.seq items2 n2,slots:=sl2 } /\
   R (.ok (.ret (.bool (lexLt ns ms)))) s) :=
 .of_wp fun prog w A R s h=>by
  obtain ⟨hp,g,d,tk,os⟩:=s;obtain ⟨hl,hb,h⟩:=h
  have f2:=AutoSeq1.sub_tuple_tuple
  have z1:items.size=ns.length:=by rw [<- hi.length];simp
  have z2:items2.size=ms.length:=by rw [<- hj.length];simp
  wp_walk using wpAny_loadPart' hl,wpAny_loadPart' hb,wpAny_forIn_list _ (fun rest b s'=>b.1=none/\s'=⟨hp,g,d,tk,os⟩/\∃(vs ws:List Value) (ns' ms':List Int),rest=vs.zip ws /\
   IntsAre vs ns'/\IntsAre ws ms'/\ns'.length+items2.size=ms'.length+items.size/\R (.ok (.ret (.bool (lexLt ns' ms')))) ⟨hp,g,d,tk,os⟩) _
  case turn =>
   rintro ⟨y,x⟩ rest b s' ⟨hb',rfl,vs,ws,ns',ms',hz,hvi,hwi,hlen,hR⟩
   cases hvi with
   | nil=>rw [zip_nil_left] at hz;cases hz
   | cons a t hvi' =>
     cases hwi with
     | nil=>rw [zip_nil_right] at hz;cases hz
     | cons c u hwi' =>
       rw [zip_cons_cons] at hz
       injection hz with hyx hrest
       injection hyx with hy hx
       subst hy hx
       rw [lexLt_cons] at hR
       simp only [length_cons] at hlen
       obtain ⟨e,he,hiff⟩:=O2 A.in1 ⟨hp,g,d,tk,os⟩ a t c u
       refine wpAny_bind (he prog w _ _ ?_)
       cases e with
       | true =>
         rw [if_pos (hiff.mp rfl)] at hR
         wp_walk
         exact ⟨rfl,rfl,_,_,_,_,hrest,hvi',hwi',by omega,hR⟩
       | false =>
         rw [if_neg (fun q=>absurd (hiff.mpr q) Bool.false_ne_true)] at hR
         have hri:=O8 A.in1 ⟨hp,g,d,tk,os⟩ a t c u prog w
         wp_walk using hri
         exact ⟨_,rfl,by simpa using hR⟩
  case fin =>
   rintro ⟨b1,b2⟩ s' ⟨hb',rfl,vs,ws,ns',ms',hz,hvi,hwi,hlen,hR⟩
   simp only at hb'
   subst hb'
   have hv:lexLt ns' ms'=decide (items.size < items2.size):=by
    cases hvi with
    | nil =>
      cases hwi with
      | nil =>
        simp only [length_nil] at hlen
        rw [Hw]
        exact (decide_eq_false (by omega)).symm
      | cons c u hw =>
        simp only [length_nil,length_cons] at hlen
        rw [GG]
        exact (decide_eq_true (by omega)).symm
    | cons a t hv =>
      cases hwi with
      | nil =>
        simp only [length_nil,length_cons] at hlen
        rw [GE]
        exact (decide_eq_false (by omega)).symm
      | cons c u hw =>
        rw [zip_cons_cons] at hz
        cases hz
   rw [hv] at hR
   wp_walk
   exact ⟨_,rfl,by simpa [Builtin.Tuple.tupleCompareSizes] using hR⟩
  case h =>
   exact ⟨rfl,rfl,items.toList,items2.toList,ns,ms,rfl,hi,hj,by omega,h⟩
end
section
variable {prog:Program} {w:World} {A:Around} {E:Value->Shared->Prop} {s:Shared}
theorem lt_tupInts {l b:Addr} {items items2:Array Value} {ns ms:List Int} {Q:Value->Shared->Prop} (hl:IsTup s.heap l items) (hb:IsTup s.heap b items2) (hi:IntsAre items.toList ns) (hj:IntsAre items2.toList ms)
 (hu:A.units < cLine) (h:Q (.bool (lexLt ns ms)) s):wpAny (model prog w) A (compareOp .Lt (.ref l) (.ref b)) Q E s:=by
 obtain ⟨⟨cls,dd,data,sl⟩,ho,hc,n,hd⟩:=id hl
 obtain ⟨⟨cls2,dd2,data2,sl2⟩,ho2,hc2,n2,hd2⟩:=id hb
 simp only at hc hd hc2 hd2
 subst hc hd hc2 hd2
 exact richCompare_meets_room (op:=.Lt) ⟨_,ho,rfl⟩ ⟨_,ho2,rfl⟩ PySem.F.slot_tuple_lt PySem.F.entry_tuple_lt (PySem.F.args_tuple_lt_2 _ _) (tuple_lt_ints l b items items2 n n2 dd dd2 sl sl2 ns ms hi hj)
  ⟨ho,ho2,show Value.bool (lexLt ns ms)≠Value.notImplemented/\Q (.bool (lexLt ns ms)) s from ⟨(fun x=>nomatch x),h⟩⟩ hu
noncomputable def sIx (n d:Nat):Option Int->Nat
 | none=>d
 | some v=>if v < 0 then (v+(n:Int)).toNat else min v.toNat n
theorem Q4 (n d:Nat) (hd:d<=n) (o:Option Int):sIx n d o<=n:=by
 cases o with
 | none=>exact hd
 | some v =>
   show (if v < 0 then (v+(n:Int)).toNat else min v.toNat n)<=n
   by_cases hv:v < 0
   ·rw [if_pos hv];omega
   ·rw [if_neg hv];exact Nat.min_le_right _ _
theorem Mh (v:Int) (n d:Nat):(if v < 0 then max (v+(n:Int)) 0 else min v (n:Int))=((sIx n d (some v):Nat):Int):=by
 show (if v < 0 then max (v+(n:Int)) 0 else min v (n:Int))=(((if v < 0 then (v+(n:Int)).toNat else min v.toNat n):Nat):Int)
 by_cases hv:v < 0
 ·simp only [if_pos hv];omega
 ·simp only [if_neg hv];omega
theorem Ll (lo hi:Option Int) (n:Nat):Builtin.Slice.sliceAdjust lo hi 1 (n:Int)=(((sIx n 0 lo:Nat):Int),((sIx n n hi:Nat):Int)):=by
 have h1:¬ ((1:Int) < 0):=by omega
 unfold Builtin.Slice.sliceAdjust
 simp only [h1,if_false]
 refine Prod.ext ?_ ?_
 ·cases lo with
  | none=>rfl
  | some v=>exact Mh v n 0
 ·cases hi with
  | none=>rfl
  | some v=>exact Mh v n n
theorem Lm (i j:Nat):Builtin.Slice.slicePlaces (i:Int) (j:Int) 1=j - i:=by
 unfold Builtin.Slice.slicePlaces
 have h1:(1:Int) > 0:=by omega
 simp only [h1,if_true,Int.ediv_one]
 split <;> omega
theorem GV {v:Value} {o:Option Int} {Q:Option Int->Shared->Prop} (p:IsPart v o) (h:Q o s):wpAny (model prog w) A (Builtin.Slice.slicePartIndex v) Q E s:=by
 cases p with
 | none=>exact slicePart_none h
 | int i t=>exact slicePart_int h
theorem Fx {sl:Addr} {vl vu:Value} {lo hi:Option Int} {n:Nat} {Q:Int × Int × Nat->Shared->Prop} (hs:s.heap.IsSliceOf sl vl vu .none) (pl:IsPart vl lo) (pu:IsPart vu hi)
 (h:Q (((sIx n 0 lo:Nat):Int),1,sIx n n hi - sIx n 0 lo) s):wpAny (model prog w) A (Builtin.Slice.sliceApplied (.ref sl) (pure (n:Int))) Q E s:=by
 obtain ⟨os,hos,hcs,hds⟩:=id hs
 unfold Builtin.Slice.sliceApplied Builtin.Slice.sliceFields
 refine wpAny_bind (wpAny_bind (wpAny_field hos hds (x:=vl) rfl (wpAny_bind (wpAny_field hos hds (x:=vu) rfl (wpAny_bind (wpAny_field hos hds (x:=.none) rfl (wpAny_pure ?_)))))))
 refine wpAny_bind (slicePart_none ?_)
 show wpAny _ _ (if ((1:Int) == 0)=true then _ else _) _ _ s
 rw [if_neg (by decide)]
 refine wpAny_bind (GV pl (wpAny_bind (GV pu (wpAny_bind (wpAny_pure ?_)))))
 show wpAny _ _ (match Builtin.Slice.sliceAdjust lo hi 1 (n:Int) with | (lo,hi)=>pure (lo,(1:Int),Builtin.Slice.slicePlaces lo hi 1)) _ _ s
 rw [Ll lo hi n]
 show wpAny _ _ (pure (((sIx n 0 lo:Nat):Int),(1:Int),Builtin.Slice.slicePlaces ((sIx n 0 lo:Nat):Int) ((sIx n n hi:Nat):Int) 1)) _ _ s
 rw [Lm]
 exact wpAny_pure h
theorem N9 (xs:Array Value) (i k:Nat):((List.range k).filterMap fun (m:Nat)=>xs[((i:Int)+(m:Int)*1).toNat]?).toArray=((xs.toList.drop i).take k).toArray:=by
 have e:(fun (m:Nat)=>xs[((i:Int)+(m:Int)*1).toNat]?)=fun m=>xs[i+m]?:=by
  funext m
  have:((i:Int)+(m:Int)*1).toNat=i+m:=by omega
  rw [this]
 rw [e]
 have:=pick_run xs i k
 rw [filterMap_map] at this
 have e2:((fun x=>xs[x]?) ∘ fun x=>i+x)=fun m=>xs[i+m]?:=rfl
 rw [e2] at this
 rw [this]
theorem getItem_tuple_cut {t sl:Addr} {items:Array Value} {vl vu:Value} {lo hi:Option Int} {Q:Value->Shared->Prop} (ht:IsTup s.heap t items) (hs:s.heap.IsSliceOf sl vl vu .none) (pl:IsPart vl lo) (pu:IsPart vu hi)
 (hw:¬ (sIx items.size 0 lo=0/\sIx items.size items.size hi=items.size))
 (h:Q (.ref s.heap.objs.size) { s with heap:=s.heap.push { cls:=.type "tuple",data:=.seq ((items.toList.drop (sIx items.size 0 lo)).take (sIx items.size items.size hi - sIx items.size 0 lo)).toArray } })
 (hsz:items.size<=sizeLine):wpAny (model prog w) A (getItem (.ref t) (.ref sl)) Q E s:=by
 have htake:sizeOk (.seq ((items.toList.drop (sIx items.size 0 lo)).take (sIx items.size items.size hi - sIx items.size 0 lo)).toArray):=by
  show ((items.toList.drop (sIx items.size 0 lo)).take (sIx items.size items.size hi - sIx items.size 0 lo)).toArray.size<=sizeLine
  rw [size_toArray,length_take,length_drop,Array.length_toList]
  omega
 have hj:sIx items.size items.size hi<=items.size:=Q4 _ _ (Nat.le_refl _) hi
 obtain ⟨os,hos,hcs,hds⟩:=id hs
 have hTs:s.TypeIs (.ref sl) "slice":=⟨os,hos,hcs⟩
 unfold getItem
 try with_reducible refine wpAny_holding ?_
 first | refine wpAny_bind (wpAny_pure ?_) | skip
 refine wpAny_bind (wpAny_sequenceKey ht.typeIs (by decide) ?_)
 refine wpAny_bind (wpAny_callSpecial?_slot (name:=Str.ofString "__getitem__") ht.typeIs PyProof.Rows.slot_tuple_getitem
  (wpAny_call_entry PyProof.Rows.slot_tuple_getitem ht.typeIs entry_tuple_getitem ?_ (args_tuple_getitem _ _)))
 show wpAny _ _ (Builtin.Tuple.tupleItemsOf (.ref t) >>= _) _ _ s
 refine wpAny_bind (tupleItemsOf_ ht ?_)
 refine wpAny_bind (wpAny_typeOf hTs ?_)
 rw [if_pos (by decide)]
 refine wpAny_bind (Fx hs pl pu ?_)
 have hno:¬ ((((sIx items.size 0 lo:Nat):Int) == 0 && (1:Int) == 1 && (sIx items.size items.size hi - sIx items.size 0 lo) == items.size)=true):=by
  intro q
  rw [Bool.and_eq_true,Bool.and_eq_true] at q
  have q1:((sIx items.size 0 lo:Nat):Int)=0:=eq_of_beq q.1.1
  have q2:sIx items.size items.size hi - sIx items.size 0 lo=items.size:=eq_of_beq q.2
  exact hw ⟨by omega,by omega⟩
 show wpAny _ _ (if (((sIx items.size 0 lo:Nat):Int) == 0 && (1:Int) == 1 && (sIx items.size items.size hi - sIx items.size 0 lo) == items.size)=true then _ else _) _ _ s
 rw [if_neg hno,N9]
 first
  | exact wpAny_bind (m:=Builtin.Tuple.tupleExact _) (wpAny_newObj_type (wpAny_pure ⟨_,rfl,wpAny_pure h⟩) htake)
  | exact wpAny_bind (m:=Builtin.Tuple.tupleExact _) (wpAny_newObj_type (wpAny_bind (wpAny_pure (wpAny_pure ⟨_,rfl,wpAny_pure h⟩))) htake)
  | exact wpAny_bind (wpAny_bind (m:=Builtin.Tuple.tupleExact _) (wpAny_newObj_type (wpAny_pure (wpAny_pure ⟨_,rfl,wpAny_pure h⟩)) htake))
  | exact wpAny_bind (wpAny_bind (m:=Builtin.Tuple.tupleExact _) (wpAny_newObj_type (wpAny_pure ⟨_,rfl,wpAny_pure h⟩) htake))
end
end HT
namespace L2
open PySem PySem.Spec PyProof.Rows
abbrev TO:=St->Hp->(Option Int->Hp->Prop)->Prop
def PO (X:Cx) (e:Option Expr) (t:TO):Prop :=
 ∀(pins:List (Addr × Obj)) (s:Shared) (σ:St) (H:Hp) (Q:Option Int->Hp->Prop),Inv X pins σ H s->t σ H Q ->
  wpAny (model X.prog X.w) X.A (evalPart e X.env) (fun u s'=>∃o H',Inv X pins σ H' s'/\IsPart u o/\Q o H') X.xe s
def Px:TO:=fun _ H Q=>Q none H
def QZ (t:TE):TO:=fun σ H Q=>t σ H fun x H1=>∃i,x=.int i/\Q (some i) H1
theorem Co {ns:List Int}:∀{us:List Value},A7 (ns.map V.int) us->IntsAre us ns:=by
 induction ns with
 | nil=>intro us r;rw [map_nil] at r;cases r;exact .nil
 | cons n ns ih =>
   intro us r
   rw [map_cons] at r
   cases r with
   | cons r1 r2 =>
     obtain ⟨t,e⟩:=r1
     subst e
     exact .cons n t (ih r2)
section
variable {X:Cx} {e:Expr} {te:TE} {lo hi:Option Expr} {tl th:TO} {pos p2:Pos}
theorem Ps:PO X none Px:=by
 intro pins s σ H Q I h
 rw [evalPart_none]
 exact wpAny_pure ⟨none,H,I,.none,h⟩
theorem Pa (h:PE X e te):PO X (some e) (QZ te):=by
 intro pins s σ H Q I hw
 rw [evalPart_some]
 refine thn (h pins s σ H _ I hw) fun u s1 ⟨x,H1,I1,r1,q1⟩=>?_
 obtain ⟨i,rfl,q⟩:=q1
 obtain ⟨t,rfl⟩:=r1
 exact ⟨some i,H1,I1,.int i t,q⟩
def SlR (X:Cx) (r:V->Option Int->Option Int->Hp->VK->Prop):Prop :=
 ∀(pins:List (Addr × Obj)) (s:Shared) (σ:St) (H:Hp) (x:V) (v vl vu:Value) (lo hi:Option Int) (sl:Addr) (Q:VK),Inv X pins σ H s->A8 x v->s.heap.IsSliceOf sl vl vu .none->IsPart vl lo->IsPart vu hi->r x lo hi H Q ->
  ∃T id,typeLookup (.type T) "__getitem__"=pure (some (.builtin id))/\s.TypeIs v T/\wpAny (model X.prog X.w) X.A (getItem v (.ref sl)) (EP X pins σ Q) X.xe s
def tSl (r:V->Option Int->Option Int->Hp->VK->Prop) (te:TE) (tl th:TO):TE:=fun σ H Q=>te σ H fun x H1=>tl σ H1 fun l H2=>th σ H2 fun u H3=>r x l u H3 Q
theorem Oi {r:V->Option Int->Option Int->Hp->VK->Prop} (hr:SlR X r) (he:PE X e te) (hl:PO X lo tl) (hu:PO X hi th):PE X (.Subscript e (.Slice lo hi none p2) pos) (tSl r te tl th):=by
 intro pins s σ H Q I h
 refine Subscript_ (thn (he pins s σ H _ I h) fun v s1 ⟨x,H1,I1,r1,q1⟩=>?_)
 refine wpAny_Slice (thn (hl pins s1 σ H1 _ I1 q1) fun vl s2 ⟨l,H2,I2,pl,q2⟩=>thn (hu pins s2 σ H2 _ I2 q2) fun vu s3 ⟨u,H3,I3,pu,q3⟩=>?_)
 rw [evalPart_none]
 refine wpAny_pure ?_
 have I4:Inv X pins σ H3 { s3 with heap:=s3.heap.push { cls:=.type "slice",data:=.fields #[vl,vu,.none] } }:=I3.kept (t':=s3.toks) fun b ob q=>Heap.get?_push_of_some _ q
 obtain ⟨T,id,hT,ht,hg⟩:=hr pins { s3 with heap:=s3.heap.push { cls:=.type "slice",data:=.fields #[vl,vu,.none] } } σ H3 x v vl vu l u s3.heap.objs.size Q I4 r1 (Heap.IsSliceOf.new ..) pl pu q3
 show wpAny (model X.prog X.w) X.A (subscriptTail e (.Slice lo hi none p2) v (.ref s3.heap.objs.size)) (EP X pins σ Q) X.xe { s3 with heap:=s3.heap.push { cls:=.type "slice",data:=.fields #[vl,vu,.none] } }
 exact tail_any (ops:=[.ref s3.heap.objs.size,v]) ht hT hg (by with_unfolding_all rfl)
noncomputable def O0 (xs:List V) (lo hi:Option Int):List V:=(xs.drop (HT.sIx xs.length 0 lo)).take (HT.sIx xs.length xs.length hi - HT.sIx xs.length 0 lo)
theorem Ko (xs:List V) (lo hi:Option Int):(O0 xs lo hi).length<=xs.length:=by
 unfold O0
 rw [length_take,length_drop]
 omega
def RW (K:PySem.W.Frag):V->Option Int->Option Int->Hp->VK->Prop:=fun x lo hi H Q=>∃a xs,x=.ref a/\SqT K H a xs /\
 ¬ (HT.sIx xs.length 0 lo=0/\HT.sIx xs.length xs.length hi=xs.length)/\∀p,H p=none->Q (.ref p) (upd H p (.tup (O0 xs lo hi)))
theorem Qw:SlR X (RW X.K):=by
 intro pins s σ H x v vl vu lo hi sl Q I rx hs pl pu h
 obtain ⟨a,xs,rfl,hx,hw,q⟩:=h
 cases rx
 obtain ⟨its,r,ht,hz⟩:=I.tuple hx
 have hlen:its.toArray.size=xs.length:=by rw [size_toArray];exact r.length.symm
 refine ⟨"tuple",_,PyProof.Rows.slot_tuple_getitem.lookup,ht.typeIs,?_⟩
 refine HT.getItem_tuple_cut ht hs pl pu (by rw [hlen];exact hw) ?_ (by rw [hlen];exact hz)
 rw [hlen]
 refine ⟨.ref s.heap.objs.size,_,I.laid (t':=s.toks) (o:=.tup (O0 xs lo hi)) (fun b ob q=>Heap.get?_push_of_some _ q) (Nat.le_refl _) ?_,rfl,q _ (I.hok.fresh (Nat.le_refl _))⟩
 exact ⟨Nat.le_trans (Ko xs lo hi) hz,_,(r.drop (HT.sIx xs.length 0 lo)).take (HT.sIx xs.length xs.length hi - HT.sIx xs.length 0 lo),IsTup.new _ _⟩
end
end L2
namespace L2
open PySem PySem.Spec PyProof.Rows
noncomputable def ixN (n:Nat) (i:Int):Option Nat:=if 0<=i then (if i < n then some i.toNat else none) else if -(n:Int)<=i then some (i+n).toNat else none
noncomputable def atI {α:Type} (xs:List α) (i:Int):Option α:=(ixN xs.length i).bind fun j=>xs[j]?
theorem IE {n:Nat} {i:Int} {j:Nat} (h:ixN n i=some j):seqIndex? i n=some j/\j < n/\-(n:Int)<=i/\i < n:=by
 unfold ixN at h
 by_cases h0:0<=i
 ·rw [if_pos h0] at h
  by_cases h1:i < n
  ·rw [if_pos h1] at h
   have e:i.toNat=j:=Option.some.inj h
   exact ⟨by rw [seqIndex_of h0 h1,e],by omega,by omega,h1⟩
  ·rw [if_neg h1] at h;cases h
 ·rw [if_neg h0] at h
  by_cases h1:-(n:Int)<=i
  ·rw [if_pos h1] at h
   have e:(i+n).toNat=j:=Option.some.inj h
   exact ⟨by rw [seqIndex_neg (by omega) h1,e],by omega,h1,by omega⟩
  ·rw [if_neg h1] at h;cases h
theorem LP {α:Type} {xs:List α} {i:Int} {v:α} (h:atI xs i=some v):∃j,seqIndex? i xs.length=some j/\xs[j]?=some v/\j < xs.length/\-(xs.length:Int)<=i/\i < xs.length:=by
 unfold atI at h
 cases e:ixN xs.length i with
 | none=>rw [e] at h;cases h
 | some j =>
   rw [e] at h
   obtain ⟨h1,h2,h3,h4⟩:=IE e
   exact ⟨j,h1,h,h2,h3,h4⟩
theorem C6 {α:Type} {xs:List α} {j:Nat} {v:α} (h:xs[j]?=some v):atI xs (j:Int)=some v:=by
 have hj:j < xs.length:=(List.getElem?_eq_some_iff.mp h).1
 have e:ixN xs.length (j:Int)=some j:=by
  unfold ixN
  rw [if_pos (by omega),if_pos (by omega)];simp
 unfold atI;rw [e];exact h
def Pu (b:Expr):Prop:=∀o i,subscripted b false o i=operate [o,i] (getItem o i)
def IxR (X:Cx) (r:R2):Prop :=
 ∀(value slice:Expr) (pins:List (Addr × Obj)) (s:Shared) (σ:St) (H:Hp) (x y:V) (v u:Value) (Q:VK),Inv X pins σ H s->A8 x v->A8 y u->r x y H Q ->
  subscripted slice false v u=operate [v,u] (getItem v u)->wpAny (model X.prog X.w) X.A (subscriptTail value slice v u) (EP X pins σ Q) X.xe s
def MtR (X:Cx) (id:String) (r:V->List V->Hp->VK->Prop):Prop :=
 ∀(pins:List (Addr × Obj)) (s:Shared) (σ:St) (H:Hp) (x:V) (xs:List V) (v:Value) (us:List Value) (Q:VK),Inv X pins σ H s->A8 x v->A7 xs us->r x xs H Q ->
  wpAny (model X.prog X.w) X.A (call (.builtin id) (v :: us)) (EP X pins σ Q) X.xe s
section
variable {X:Cx} {a b:Expr} {ta tb:TE} {pos:Pos}
theorem Am {r:R2} (hr:IxR X r) (ha:PE X a ta) (hb:PE X b tb) (hs:Pu b):PE X (.Subscript a b pos) (tOp r ta tb):=by
 intro pins s σ H Q I h
 exact Subscript_ (QN ha hb I h fun v u s2 x y H2 I2 rx ry q=>hr a b pins s2 σ H2 x y v u Q I2 rx ry q (hs _ _))
def RE (K:PySem.W.Frag):R2:=fun x y H Q=>∃p xs i v,x=.ref p/\y=.int i/\SqL K H p xs/\atI xs i=some v/\Q v H
def QY (K:PySem.W.Frag):R2:=fun x y H Q=>∃p xs i v,x=.ref p/\y=.int i/\SqT K H p xs/\atI xs i=some v/\Q v H
theorem Al:IxR X (RE X.K):=by
 intro value slice pins s σ H x y v u Q I rx ry h hs
 obtain ⟨p,xs,i,z,rfl,rfl,hq,he,q⟩:=h
 cases rx
 obtain ⟨t,rfl⟩:=ry
 obtain ⟨its,r,pl,hz⟩:=I.list hq
 obtain ⟨j,h1,h2,h3,h4,h5⟩:=LP he
 obtain ⟨w,ew,rw'⟩:=r.get h2
 have hl:=r.length
 have hn:=IG
 have fin:EP X pins σ Q w s:=⟨z,H,I,rw',q⟩
 by_cases h0:0<=i
 ·have hj:i.toNat=j:=by
   rw [seqIndex_of h0 h5] at h1
   exact Option.some.inj h1
  exact item_listR pl.isList h0 (by omega) (by rw [hj];simpa using ew) fin hs
 ·have hj:(i+(its.toArray.size:Int)).toNat=j:=by
   rw [seqIndex_neg (by omega) h4] at h1
   rw [size_toArray,<- hl]
   exact Option.some.inj h1
  exact subscriptTail_builtinR (x:=w) pl.isList.typeIs slot_list_getitem.lookup
   (wpAny_getItem_list_neg (Q:=fun r s'=>r=w/\EP X pins σ Q r s') pl.isList (by omega) (by rw [size_toArray] <;> omega) (by omega) (by rw [hj];simpa using ew) ⟨rfl,fin⟩) hs
theorem Bl:IxR X (QY X.K):=by
 intro value slice pins s σ H x y v u Q I rx ry h hs
 obtain ⟨p,xs,i,z,rfl,rfl,hq,he,q⟩:=h
 cases rx
 obtain ⟨t,rfl⟩:=ry
 obtain ⟨its,r,pl,hz⟩:=I.tuple hq
 obtain ⟨j,h1,h2,h3,h4,h5⟩:=LP he
 obtain ⟨w,ew,rw'⟩:=r.get h2
 have hl:=r.length
 have hn:=IG
 have fin:EP X pins σ Q w s:=⟨z,H,I,rw',q⟩
 exact subscriptTail_builtinR (x:=w) pl.typeIs slot_tuple_getitem.lookup
  (getItem_tuple (j:=j) (Q:=fun r s'=>r=w/\EP X pins σ Q r s') pl (by omega) (by omega) (by rw [size_toArray,<- hl];exact h1) (by simpa using ew) ⟨rfl,fin⟩) hs
theorem Lp (its:List Value) (n j:Nat) (u:Value):Obj.mapSeq (·.setIfInBounds j u) { cls:=.type "list",data:=.seq its.toArray n }={ cls:=.type "list",data:=.seq (its.set j u).toArray n }:=by
 simp [Obj.mapSeq]
theorem Inv.lst {pins:List (Addr × Obj)} {σ:St} {H:Hp} {s:Shared} {p:Addr} {xs:List V} (I:Inv X pins σ H s) (h:H p=some (.lst xs)) :
 ∃(its:List Value) (n:Nat),A7 xs its/\s.heap.get? p=some { cls:=.type "list",data:=.seq its.toArray n }/\xs.length<=sizeLine:=by
 obtain ⟨z,its,n,r,e⟩:=I.hok p _ h
 exact ⟨its,n,r,e,z⟩
theorem Inv.lstUpd {pins:List (Addr × Obj)} {σ:St} {H:Hp} {s:Shared} {p:Addr} {xs ys:List V} {its its':List Value} {n n':Nat} {f:Obj->Obj} (I:Inv X pins σ H s) (h:H p=some (.lst xs))
 (ho:s.heap.get? p=some { cls:=.type "list",data:=.seq its.toArray n }) (hf:f { cls:=.type "list",data:=.seq its.toArray n }={ cls:=.type "list",data:=.seq its'.toArray n' }) (r:A7 ys its') (hz:ys.length<=sizeLine) (t:Nat) :
 Inv X pins σ (upd H p (.lst ys)) { s with heap:=s.heap.update p f,toks:=t }:=by
 have e:(s.heap.update p f).get? p=some { cls:=.type "list",data:=.seq its'.toArray n' }:=by
  rw [Heap.get?_update_self f ho (by rw [hf] <;> rfl),hf]
 refine I.write (x:=p) (e:=p) (by rw [h];trivial) (.inl rfl) (fun b u hb q=>(Heap.get?_update_other _ _ (Ne.symm hb)).trans q) ⟨_,e⟩ ?_
 exact ⟨hz,its',n',r,e⟩
def Ry:V->V->V->Hp->(Hp->Prop)->Prop:=fun o i v H Q=>∃p xs k j,o=.ref p/\i=.int k/\H p=some (.lst xs)/\ixN xs.length k=some j/\Q (upd H p (.lst (xs.set j v)))
theorem DF:RD X Ry:=by
 intro pins s σ H o i v ov iv u Q I ro ri rv h
 obtain ⟨p,xs,k,j,rfl,rfl,hp,hj,q⟩:=h
 cases ro
 obtain ⟨t,rfl⟩:=ri
 obtain ⟨its,n,r,ho,hz⟩:=I.lst hp
 obtain ⟨h1,h2,h3,h4⟩:=IE hj
 have hl:=r.length
 have hn:=IG
 have I':Inv X pins σ (upd H p (.lst (xs.set j v))) { s with heap:=s.heap.update p (Obj.mapSeq (·.setIfInBounds j u)) } :=
  I.lstUpd hp ho (Lp its n j u) (r.set rv j) (by rw [length_set];exact hz) s.toks
 by_cases h0:0<=k
 ·have hk:k.toNat=j:=by
   rw [seqIndex_of h0 h4] at h1
   exact Option.some.inj h1
  exact PySem.W.ki_setAt ho h0 (by omega) (by rw [size_toArray,<- hl];exact h4) (by rw [hk];exact ⟨_,I',q⟩)
 ·have hk:(k+(its.toArray.size:Int)).toNat=j:=by
   rw [seqIndex_neg (by omega) h3] at h1
   rw [size_toArray,<- hl]
   exact Option.some.inj h1
  exact PySem.W.ki_setBack ho (by omega) (by rw [size_toArray,<- hl];exact h3) (by omega) (by rw [hk];exact ⟨_,I',q⟩)
noncomputable def Fg:V->Bool
 | .non=>true
 | .bl _=>true
 | .int _=>true
 | .str _=>true
 | _=>false
noncomputable def eqV:V->V->Bool
 | .non,.non=>true
 | .bl a,.bl b=>a == b
 | .bl a,.int b=>(if a then 1 else 0) == b
 | .int a,.bl b=>a == (if b then 1 else 0)
 | .int a,.int b=>a == b
 | .str a,.str b=>a == b
 | _,_=>false
theorem Qj {A:Around} {s:Shared} {y x:V} {u v:Value} (ry:A8 y u) (rx:A8 x v) (fy:Fg y=true) (fx:Fg x=true):SeqAt.EqAt A s u v (eqV y x):=by
 cases y with
 | non =>
   cases ry
   cases x with
   | non=>cases rx;exact SeqAt.EqAt.same _
   | bl b=>cases rx;exact SeqAt.EqAt.none_bool b
   | int b=>obtain ⟨t,rfl⟩:=rx;exact SeqAt.EqAt.none_int b t
   | str b=>obtain ⟨t,rfl⟩:=rx;exact SeqAt.EqAt.none_str b t
   | _=>exact absurd (show false=true from fx) Bool.false_ne_true
 | bl a =>
   cases ry
   cases x with
   | non=>cases rx;exact SeqAt.EqAt.bool_none a
   | bl b=>cases rx;exact SeqAt.EqAt.bool_bool a b
   | int b=>obtain ⟨t,rfl⟩:=rx;exact SeqAt.EqAt.bool_int a b t
   | str b=>obtain ⟨t,rfl⟩:=rx;exact SeqAt.EqAt.bool_str a b t
   | _=>exact absurd (show false=true from fx) Bool.false_ne_true
 | int a =>
   obtain ⟨t',rfl⟩:=ry
   cases x with
   | non=>cases rx;exact SeqAt.EqAt.int_none a t'
   | bl b=>cases rx;exact SeqAt.EqAt.int_bool a t' b
   | int b=>obtain ⟨t,rfl⟩:=rx;exact SeqAt.EqAt.int_int a t' b t
   | str b=>obtain ⟨t,rfl⟩:=rx;exact SeqAt.EqAt.int_str a t' b t
   | _=>exact absurd (show false=true from fx) Bool.false_ne_true
 | str a =>
   obtain ⟨t',rfl⟩:=ry
   cases x with
   | non=>cases rx;exact SeqAt.EqAt.str_none a t'
   | bl b=>cases rx;exact SeqAt.EqAt.str_bool a t' b
   | int b=>obtain ⟨t,rfl⟩:=rx;exact SeqAt.EqAt.str_int a t' b t
   | str b=>obtain ⟨t,rfl⟩:=rx;exact SeqAt.EqAt.str_str a t' b t
   | _=>exact absurd (show false=true from fx) Bool.false_ne_true
 | _=>exact absurd (show false=true from fy) Bool.false_ne_true
noncomputable def eqU (x:V) (u:Value):Bool:=match u with
 | .none=>eqV .non x
 | .bool b=>eqV (.bl b) x
 | .int i _=>eqV (.int i) x
 | .str z _=>eqV (.str z) x
 | _=>false
theorem No {x y:V} {u:Value} (r:A8 y u) (f:Fg y=true):eqU x u=eqV y x:=by
 cases y with
 | non=>cases r;rfl
 | bl b=>cases r;rfl
 | int i=>obtain ⟨t,rfl⟩:=r;rfl
 | str z=>obtain ⟨t,rfl⟩:=r;rfl
 | _=>exact absurd (show false=true from f) Bool.false_ne_true
theorem Jm {x:V}:∀{xs:List V} {us:List Value},A7 xs us->xs.all Fg=true->us.any (eqU x)=xs.any fun y=>eqV y x
 | _,_,.nil,_=>rfl
 | y :: xs,u :: us,.cons r t,f=>by
   rw [all_cons,Bool.and_eq_true] at f
   rw [any_cons,any_cons,No r f.1,Jm t f.2]
theorem GZ {A:Around} {s:Shared} {x:V} {v:Value} (rx:A8 x v) (fx:Fg x=true):∀{xs:List V} {us:List Value},A7 xs us->xs.all Fg=true->∀u∈us,SeqAt.EqAt A s u v (eqU x u)
 | _,_,.nil,_=>fun u hu=>by cases hu
 | y :: xs,u :: us,.cons r t,f=>fun u' hu=>by
   rw [all_cons,Bool.and_eq_true] at f
   rcases mem_cons.mp hu with rfl | hu
   ·rw [No r f.1];exact Qj r rx f.1 fx
   ·exact GZ rx fx t f.2 u' hu
noncomputable def inV (x:V) (xs:List V):Bool:=xs.any fun y=>eqV y x
def rIn (K:PySem.W.Frag) (neg:Bool):R2:=fun x y H Q=>∃p xs,y=.ref p/\(SqL K H p xs\/SqT K H p xs)/\Fg x=true/\xs.all Fg=true/\Q (.bl (if neg then !inV x xs else inV x xs)) H
theorem Io:OpR X (compareOp .In) (rIn X.K false):=by
 intro pins s σ H x y v u Q I rx ry h
 obtain ⟨p,xs,rfl,hq,fx,fs,q⟩:=h
 cases ry
 rcases hq with hq | hq
 ·obtain ⟨its,r,pl,hz⟩:=I.list hq
  refine SeqAt.in_listAt (eqU x) pl.isList (fun w hw=>GZ rx fx r fs w (by simpa using hw)) ⟨.bl _,H,I,rfl,?_⟩
  rw [show its.toArray.any (eqU x)=its.any (eqU x) by simp,Jm r fs]
  exact q
 ·obtain ⟨its,r,pl,hz⟩:=I.tuple hq
  refine SeqAt.in_tupleAt (eqU x) pl (fun w hw=>GZ rx fx r fs w (by simpa using hw)) ⟨.bl _,H,I,rfl,?_⟩
  rw [show its.toArray.any (eqU x)=its.any (eqU x) by simp,Jm r fs]
  exact q
theorem Ax:Db X (.builtin "len") (fun xs H Q=>∃p ys,xs=[.ref p]/\(SqL X.K H p ys\/SqT X.K H p ys)/\Q (.int ys.length) H):=by
 intro pins s σ H xs us Q I r h
 obtain ⟨p,ys,rfl,hq,q⟩:=h
 obtain ⟨u,rfl,rx⟩:=E1 r
 cases rx
 have hn:=IG
 rcases hq with hq | hq
 ·obtain ⟨its,r',pl,hz⟩:=I.list hq
  have hlen:=r'.length
  exact Calls.call_len_list pl.isList (by simp only [size_toArray] <;> omega) ⟨.int ys.length,H,I.tok _,⟨s.toks+1,by rw [size_toArray,hlen]⟩,q⟩
 ·obtain ⟨its,r',pl,hz⟩:=I.tuple hq
  have hlen:=r'.length
  exact len_tuple pl (by simp only [size_toArray] <;> omega) ⟨.int ys.length,H,I.tok _,⟨s.toks+1,by rw [size_toArray,hlen]⟩,q⟩
theorem BD:Db X (.type "list") (fun xs H Q=>∃p ys,xs=[.ref p]/\(SqL X.K H p ys\/SqT X.K H p ys)/\∀l,H l=none->Q (.ref l) (upd H l (.lst ys))):=by
 intro pins s σ H xs us Q I r h
 obtain ⟨p,ys,rfl,hq,q⟩:=h
 obtain ⟨u,rfl,rx⟩:=E1 r
 cases rx
 have fin:∀(its:List Value),A7 ys its->ys.length<=sizeLine->∀(h':Heap) (c':Nat),(∀b o',s.heap.get? b=some o'->h'.get? b=some o') ->
  h'.get? s.heap.objs.size=some { cls:=.type "list",dict:=none,data:=.seq its.toArray c',slots:=#[] }->EP X pins σ Q (.ref s.heap.objs.size) { s with heap:=h' }:=fun its r' hz h' c' kp e =>
  ⟨.ref s.heap.objs.size,_,I.laid (t':=s.toks) kp (Nat.le_refl _) (show Bc X.prog X.w _ h' _ (.lst ys) from ⟨hz,its,c',r',e⟩),rfl,q _ (I.hok.fresh (Nat.le_refl _))⟩
 rcases hq with hq | hq
 ·obtain ⟨its,r',pl,hz⟩:=I.list hq
  have hlen:=r'.length
  obtain ⟨o,ho,hc,n,hd⟩:=pl.isList
  exact call_list_seq p (.inl rfl) ho hc hd (fun h' c' kp e=>fin its r' hz h' c' kp e) (by simp only [size_toArray] <;> omega)
 ·obtain ⟨its,r',pl,hz⟩:=I.tuple hq
  have hlen:=r'.length
  obtain ⟨o,ho,hc,n,hd⟩:=pl
  exact call_list_seq p (.inr rfl) ho hc hd (fun h' c' kp e=>fin its r' hz h' c' kp e) (by simp only [size_toArray] <;> omega)
theorem EL:Db X (.type "tuple") (fun xs H Q=>∃p ys,xs=[.ref p]/\((SqL X.K H p ys/\∀l,H l=none->Q (.ref l) (upd H l (.tup ys)))\/(SqT X.K H p ys/\Q (.ref p) H))):=by
 intro pins s σ H xs us Q I r h
 obtain ⟨p,ys,rfl,h⟩:=h
 obtain ⟨u,rfl,rx⟩:=E1 r
 cases rx
 rcases h with ⟨hq,q⟩ | ⟨hq,q⟩
 ·obtain ⟨its,r',pl,hz⟩:=I.list hq
  have hlen:=r'.length
  refine call_tuple_list pl.isList (fun h' kp=>?_) (by simp only [size_toArray] <;> omega)
  have I1:Inv X pins σ H { s with heap:=h' }:=I.kept (t':=s.toks) kp
  have I2:Inv X pins σ (upd H h'.objs.size (.tup ys)) { s with heap:=h'.push { cls:=.type "tuple",data:=.seq its.toArray } } :=
   I1.laid (t':=s.toks) (fun b o e=>Heap.get?_push_of_some _ e) (Nat.le_refl _) (show Bc X.prog X.w _ _ _ (.tup ys) from ⟨hz,its,r',IsTup.new _ _⟩)
  exact ⟨.ref h'.objs.size,_,I2,rfl,q _ (I1.hok.fresh (Nat.le_refl _))⟩
 ·obtain ⟨its,r',pl,hz⟩:=I.tuple hq
  exact call_tuple_same pl ⟨.ref p,H,I,rfl,q⟩
def tyV (K:PySem.W.Frag) (T:String) (x:V) (H:Hp):Prop:=match x with
 | .str _=>T="str"
 | .int _=>T="int"
 | .ref p=>(T="list"/\∃xs,SqL K H p xs)\/(T="tuple"/\∃o,K.lookup p=some o/\o.cls=.type "tuple"/\o.dict=none) \/
  (T="dict"/\((∃kvs,H p=some (.dK kvs))\/∃kvs,H p=some (.dT kvs)))\/(T="set"/\∃S n,H p=some (.set S n))
 | _=>False
theorem NK {pins:List (Addr × Obj)} {σ:St} {H:Hp} {s:Shared} {T:String} {x:V} {v:Value} (I:Inv X pins σ H s) (r:A8 x v) (ty:tyV X.K T x H) :
 s.TypeIs v T/\∀a,v=.ref a->∃ob,s.heap.get? a=some ob/\ob.dict=none:=by
 cases x with
 | str z =>
   obtain ⟨t,rfl⟩:=r
   cases (show T="str" from ty)
   exact ⟨typeIs_str s z t,fun _ e=>nomatch e⟩
 | int i =>
   obtain ⟨t,rfl⟩:=r
   cases (show T="int" from ty)
   exact ⟨typeIs_int s i t,fun _ e=>nomatch e⟩
 | ref p =>
   cases r
   rcases ty with ⟨rfl,xs,hq⟩ | ⟨rfl,o,hk,hc,hd⟩ | ⟨rfl,hk⟩ | ⟨rfl,S,n,hk⟩
   ·obtain ⟨its,_,pl,_⟩:=I.list hq
    refine ⟨pl.isList.typeIs,fun a e=>?_⟩
    cases e
    obtain ⟨o,n,e,c,hd,_⟩:=pl
    exact ⟨o,e,hd⟩
   ·refine ⟨⟨o,I.kIn p o hk,hc⟩,fun a e=>?_⟩
    cases e
    exact ⟨o,I.kIn _ o hk,hd⟩
   ·have z:∃o,s.heap.get? p=some o/\o.ExactDict:=by
     rcases hk with ⟨kvs,hk⟩ | ⟨kvs,hk⟩
     ·obtain ⟨_,_,_,_,o,_,_,e,ex,_⟩:=I.hok p _ hk
      exact ⟨o,e,ex⟩
     ·obtain ⟨_,_,_,_,o,_,_,e,ex,_⟩:=I.hok p _ hk
      exact ⟨o,e,ex⟩
    obtain ⟨o,e,ex⟩:=z
    refine ⟨⟨o,e,ex.1⟩,fun a e2=>?_⟩
    cases e2
    exact ⟨o,e,ex.2.1⟩
   ·obtain ⟨o,_,_,_,e,ex,_⟩:=I.hok p _ hk
    refine ⟨⟨o,e,ex.1⟩,fun a e2=>?_⟩
    cases e2
    exact ⟨o,e,ex.2.1⟩
 | _=>exact False.elim ty
def RJ (K:PySem.W.Frag) (T:String) (r:V->List V->Hp->VK->Prop) (to:TE):TE:=fun σ H Q=>to σ H fun x H1=>tyV K T x H1/\r x [] H1 Q
def tBM (K:PySem.W.Frag) (T:String) (r:V->List V->Hp->VK->Prop) (to:TE) (t:TA):TE:=fun σ H Q=>to σ H fun x H1=>tyV K T x H1/\t σ H1 fun xs H2=>r x xs H2 Q
variable {o e:Expr} {es:List Expr} {to:TE} {t:TA} {name:Str} {apos cpos:Pos} {T id:String} {r:V->List V->Hp->VK->Prop}
theorem QQ (pa:PlainAttrs T) (slot:Slot T name id) (hty:typeOf (.builtin id)=pure (.type "method_descriptor")) (hm:MtR X id r) (ho:PE X o to)
 (hbase:attributeBase o name X.env (eval o X.env)=eval o X.env:=by rfl) (hline:(apos.endLine == cpos.line)=true:=by rfl):PE X (.Call (.Attribute o name apos) [] [] cpos) (RJ X.K T r to):=by
 intro pins s σ H Q I h
 refine wpAny_Call_method0_late hbase hline (thn (ho pins s σ H _ I h) fun v s1 ⟨x,H1,I1,r1,ty,q1⟩=>?_)
 obtain ⟨h1,h2⟩:=NK I1 r1 ty
 exact ⟨T,id,pa,slot,hty,h1,h2,Calls.callWith_builtin rfl (PySem.evalArgs_none (hm pins s1 σ H1 x [] v [] Q I1 r1 .nil q1))⟩
theorem CW (pa:PlainAttrs T) (slot:Slot T name id) (hty:typeOf (.builtin id)=pure (.type "method_descriptor")) (hm:MtR X id r) (ho:PE X o to) (ha:PA X (e :: es) t)
 (hbase:attributeBase o name X.env (eval o X.env)=eval o X.env:=by rfl)
 (hfew:((backTo cpos (starEach (e :: es) X.env)).all (fun x=>!x.1) && (backToKw cpos (keywordEach [] X.env)).all (fun x=>x.1.isSome)
  && decide ((e :: es).length+([]:List Keyword).length+(if ([]:List Keyword).isEmpty then 0 else 1) < 30))=true:=by rfl)
 (hline:(apos.endLine == cpos.line)=true:=by rfl) (hs:starEach (e :: es) X.env=(false,eval e X.env) :: starEach es X.env:=by rfl) (hplain:(backTo cpos (starEach es X.env)).any (·.1)=false:=by rfl) :
 PE X (.Call (.Attribute o name apos) (e :: es) [] cpos) (tBM X.K T r to t):=by
 intro pins s σ H Q I h
 refine wpAny_Call_method_late hbase hfew hline rfl (thn (ho pins s σ H _ I h) fun v s1 ⟨x,H1,I1,r1,ty,q1⟩=>?_)
 obtain ⟨h1,h2⟩:=NK I1 r1 ty
 refine ⟨T,id,pa,slot,hty,h1,h2,?_⟩
 have hA:=ha cpos pins s1 σ H1 _ I1 q1
 rw [hs] at hA ⊢
 refine Calls.callWith_builtin (by show (false || (backTo cpos (starEach es X.env)).any (·.1))=false;rw [hplain] <;> rfl) (Calls.evalArgs_plain ?_)
 exact thn hA fun us s2 ⟨vs,H2,I2,r2,q2⟩=>hm pins s2 σ H2 x vs v us Q I2 r1 r2 q2
end
end L2
namespace L2
open PySem PySem.Spec PyProof.Rows
def MtM (X:Cx) (id:String) (r:V->List V->Hp->VK->Prop):Prop :=
 ∀(pins:List (Addr × Obj)) (s:Shared) (σ:St) (H:Hp) (x:V) (xs:List V) (v:Value) (us:List Value) (Q:VK),Inv X pins σ H s->A8 x v->A7 xs us->r x xs H Q ->
  wpAny (model X.prog X.w) X.A (call (.builtin id) (v :: us)) (EP X pins σ Q) X.xe s
theorem A7.one:∀{x:V} {us:List Value},A7 [x] us->∃u,us=[u]/\A8 x u
 | _,_,.cons r .nil=>⟨_,rfl,r⟩
theorem A7.eraseIdx:∀{xs:List V} {us:List Value} (i:Nat),A7 xs us->A7 (xs.eraseIdx i) (us.eraseIdx i)
 | _,_,_,.nil=>.nil
 | _,_,0,.cons _ t=>t
 | _,_,i+1,.cons r t=>.cons r (A7.eraseIdx i t)
theorem A7.rep {xs:List V} {us:List Value} (h:A7 xs us):∀k:Nat,A7 (List.replicate k xs).flatten (List.replicate k us).flatten
 | 0=>.nil
 | k+1=>by
   rw [replicate_succ,replicate_succ,flatten_cons,flatten_cons]
   exact A7.append h (A7.rep h k)
theorem FK {α:Type}:∀(l:List α) (i:Nat),(l.eraseIdx i).length<=l.length
 | [],_=>Nat.le_refl _
 | _ :: _,0=>Nat.le_succ _
 | _ :: r,i+1=>Nat.succ_le_succ (FK r i)
theorem HG (its:List Value):∀(k:Nat) (acc:List Value),
 List.foldl (fun x1 x2=>x1++x2) acc.toArray (List.replicate k its.toArray)=(acc++(List.replicate k its).flatten).toArray
 | 0,acc=>by simp
 | k+1,acc=>by
   have e:acc.toArray++its.toArray=(acc++its).toArray:=by simp
   have e2:(acc++its)++(List.replicate k its).flatten=acc++(List.replicate (k+1) its).flatten:=by
    rw [replicate_succ,flatten_cons,append_assoc]
   rw [<- e2,<- HG its k (acc++its),<- e,replicate_succ,foldl_cons]
section
variable {X:Cx} {pins:List (Addr × Obj)} {σ:St} {H:Hp} {s:Shared} {l b:Addr} {xs ys zs:List V}
theorem Inv.lset {its its':List Value} {n:Nat} {f:Array Value->Array Value} {t':Nat} (I:Inv X pins σ H s) (hH:H l=some (.lst xs))
 (e:s.heap.get? l=some { cls:=.type "list",data:=.seq its.toArray n }) (hf:f its.toArray=its'.toArray) (hv:A7 ys its') (hz:ys.length<=sizeLine) :
 Inv X pins σ (upd H l (.lst ys)) { s with heap:=s.heap.update l (Obj.mapSeq f),toks:=t' }:=by
 have q:=PySem.IsL.update e f
 rw [hf] at q
 refine I.write (x:=l) (e:=l) (by rw [hH];exact trivial) (.inl rfl) (fun b' u hb hu=>(Heap.get?_update_other s.heap (Obj.mapSeq f) (Ne.symm hb)).trans hu) ⟨_,q⟩ ?_
 exact ⟨hz,its',_,hv,q⟩
theorem Inv.lnew {its:List Value} {t':Nat} (I:Inv X pins σ H s) (hv:A7 ys its) (hz:ys.length<=sizeLine) :
 Inv X pins σ (upd H s.heap.objs.size (.lst ys)) { s with heap:=s.heap.push { cls:=.type "list",data:=.seq its.toArray },toks:=t' } :=
 I.laid (fun _ _ q=>Heap.get?_push_of_some _ q) (Nat.le_refl _) ⟨hz,its,0,hv,Heap.get?_push_size _ rfl⟩
theorem Inv.fresh (I:Inv X pins σ H s):H s.heap.objs.size=none:=I.hok.fresh (Nat.le_refl _)
theorem Inv.lstM (I:Inv X pins σ H s) (hH:H l=some (.lst xs)):xs.length<=sizeLine/\∃(its:List Value) (n:Nat),A7 xs its/\xs.length=its.length/\s.heap.get? l=some { cls:=.type "list",data:=.seq its.toArray n }:=by
 obtain ⟨z,its,n,r,e⟩:=I.hok l _ hH
 exact ⟨z,its,n,r,r.length,e⟩
theorem Kt {n:Nat} (h:n<=sizeLine):Builtin.List.listTooLong n=false:=by
 unfold Builtin.List.listTooLong
 exact decide_eq_false (by omega)
end
section
variable {X:Cx}
def Pg:V->List V->Hp->VK->Prop:=fun x vs H Q=>∃l xs y,x=.ref l/\vs=[y]/\H l=some (.lst xs)/\xs.length < sizeLine/\Q .non (upd H l (.lst (xs++[y])))
theorem Cw:MtM X "list.append" Pg:=by
 intro pins s σ H x vs v us Q I rx rv h
 obtain ⟨l,xs,y,rfl,rfl,hH,hz,q⟩:=h
 cases rx
 obtain ⟨u,rfl,ru⟩:=rv.one
 obtain ⟨z,its,n,r,hl,e⟩:=I.lstM hH
 refine call_meets F.slot_list_append ⟨_,e,rfl⟩ F.entry_list_append (F.args_list_append_2 _ _) (PySem.list_append l its.toArray n u (by rw [size_toArray];omega)) ⟨e,?_⟩
 refine ⟨.non,_,I.lset (its':=its++[u]) hH e (by simp) (r.append (.cons ru .nil)) ?_,rfl,q⟩
 rw [length_append,length_singleton]
 omega
def Pl:V->List V->Hp->VK->Prop:=fun x vs H Q=>∃l b xs zs,x=.ref l/\vs=[.ref b]/\H l=some (.lst xs)/\H b=some (.lst zs)/\xs.length+zs.length<=sizeLine/\Q .non (upd H l (.lst (xs++zs)))
theorem HQ:MtM X "list.extend" Pl:=by
 intro pins s σ H x vs v us Q I rx rv h
 obtain ⟨l,b,xs,zs,rfl,rfl,hH,hB,hz,q⟩:=h
 cases rx
 obtain ⟨u,rfl,ru⟩:=rv.one
 cases ru
 obtain ⟨z,its,n,r,hl,e⟩:=I.lstM hH
 obtain ⟨z2,its2,n2,r2,hl2,e2⟩:=I.lstM hB
 have hsz:its.toArray.size+its2.toArray.size<=sizeLine:=by rw [size_toArray,size_toArray];omega
 have hlong:¬ (!its.toArray.isEmpty && Builtin.List.listTooLong (its.toArray.size+its2.toArray.size))=true:=by
  rw [Kt hsz,Bool.and_false]
  exact Bool.false_ne_true
 refine call_meets F.slot_list_extend ⟨_,e,rfl⟩ F.entry_list_extend (F.args_list_extend_2 _ _)
  (AutoSeq1.list_extend_list_list_0 l its.toArray n b its2.toArray n2 hlong (by rw [size_toArray];omega) (by omega)) ⟨e,e2,?_⟩
 refine ⟨.non,_,I.lset (its':=its++its2) hH e (by simp) (r.append r2) ?_,rfl,q⟩
 rw [length_append]
 omega
def Qn:V->List V->Hp->VK->Prop:=fun x vs H Q=>∃l xs i k y,x=.ref l/\vs=[.int i]/\H l=some (.lst xs)/\-(2 ^ 63)<=i/\i < 2 ^ 63/\seqIndex? i xs.length=some k/\xs[k]?=some y/\Q y (upd H l (.lst (xs.eraseIdx k)))
theorem Kw:MtM X "list.pop" Qn:=by
 intro pins s σ H x vs v us Q I rx rv h
 obtain ⟨l,xs,i,k,y,rfl,rfl,hH,h1,h2,hk,hy,q⟩:=h
 cases rx
 obtain ⟨u,rfl,ru⟩:=rv.one
 obtain ⟨t,rfl⟩:=ru
 obtain ⟨z,its,n,r,hl,e⟩:=I.lstM hH
 obtain ⟨w,hw,rw'⟩:=r.get hy
 refine call_meets F.slot_list_pop ⟨_,e,rfl⟩ F.entry_list_pop (F.args_list_pop_2 _ _)
  (MeetsSeq.list_pop_at l its.toArray n i t k w (fitsIndex_both h1 h2) (by rw [size_toArray,<- hl];exact hk) (by rw [<- Array.getElem?_toList];exact hw) (by rw [size_toArray];omega)) ⟨e,?_⟩
 refine ⟨y,_,I.lset (its':=its.eraseIdx k) hH e ?_ (r.eraseIdx k) ?_,rw',q⟩
 ·show its.toArray.eraseIdxIfInBounds k=(its.eraseIdx k).toArray
  rw [eraseIdxIfInBounds_toArray]
 ·have:=FK xs k
  omega
def Se:R2:=fun x y H Q=>∃l b xs zs,x=.ref l/\y=.ref b/\H l=some (.lst xs)/\H b=some (.lst zs)/\xs.length+zs.length<=sizeLine/\∀p,H p=none->Q (.ref p) (upd H p (.lst (xs++zs)))
theorem Nu:OpR X (binaryOp .Add) Se:=by
 intro pins s σ H x y v u Q I rx ry h
 obtain ⟨l,b,xs,zs,rfl,rfl,hH,hB,hz,q⟩:=h
 cases rx
 cases ry
 obtain ⟨z,its,n,r,hl,e⟩:=I.lstM hH
 obtain ⟨z2,its2,n2,r2,hl2,e2⟩:=I.lstM hB
 refine PySem.P.add_list e e2 ?_ (by rw [size_toArray,size_toArray];omega)
 have ea:its.toArray++its2.toArray=(its++its2).toArray:=by simp
 rw [ea]
 exact ⟨.ref _,_,I.lnew (t':=s.toks) (r.append r2) (by rw [length_append];omega),rfl,q _ I.fresh⟩
def RY:R2:=fun x y H Q=>∃l k xs,x=.ref l/\y=.int k/\H l=some (.lst xs)/\-(2 ^ 63)<=k/\k < 2 ^ 63/\xs.length*k.toNat<=sizeLine /\
 ∀p,H p=none->Q (.ref p) (upd H p (.lst (List.replicate k.toNat xs).flatten))
theorem P5 {α:Type} (xs:List α) (k:Nat):(List.replicate k xs).flatten.length=k*xs.length:=by
 induction k with
 | zero=>simp
 | succ k ih=>rw [replicate_succ,flatten_cons,length_append,ih,Nat.succ_mul,Nat.add_comm]
theorem Qs:OpR X (binaryOp .Mult) RY:=by
 intro pins s σ H x y v u Q I rx ry h
 obtain ⟨l,k,xs,rfl,rfl,hH,h1,h2,hz,q⟩:=h
 cases rx
 obtain ⟨t,rfl⟩:=ry
 obtain ⟨z,its,n,r,hl,e⟩:=I.lstM hH
 have hlen:its.toArray.size*k.toNat<=sizeLine:=by rw [size_toArray,<- hl];exact hz
 have hcap:¬ its.toArray.size*k.toNat > (2 ^ 63 - 1) / 8:=by
  have:(sizeLine:Nat)<=(2 ^ 63 - 1) / 8:=by decide
  omega
 have hfit:¬ (!Builtin.List.listFitsIndex k)=true:=by
  rw [fitsIndex_both h1 h2]
  exact Bool.false_ne_true
 have hlong:¬ Builtin.List.listTooLong (its.toArray.size*k.toNat)=true:=by
  rw [Kt hlen]
  exact Bool.false_ne_true
 have hnew:List.foldl (fun x1 x2=>x1++x2) #[] (List.replicate (if its.toArray.isEmpty=true then 0 else k.toNat) its.toArray)=(List.replicate k.toNat its).flatten.toArray:=by
  have f0:∀m:Nat,List.foldl (fun x1 x2=>x1++x2) #[] (List.replicate m its.toArray)=(List.replicate m its).flatten.toArray:=fun m=>by
   have:=HG its m []
   rw [nil_append] at this
   exact this
  rw [f0]
  cases its with
  | nil=>simp
  | cons a r'=>rw [if_neg (by simp)]
 refine wpAny_binaryOp_repeat_ref (T:="list") (U:="int") (by decide) ⟨_,e,rfl⟩ (fun s'=>typeIs_int s' k t) noFill_list_mul F.fills_int_mul F.slot_int_rmul repeat_list F.slot_int_index.lookup
  (call_meets F.slot_int_rmul (typeIs_int s k t) F.entry_int_rmul (F.args_int_rmul_2 _ _) (int___rmul___int_list k t l its.toArray n)
   ⟨e,rfl,⟨_,e,rfl⟩,call_meets F.slot_list_mul ⟨_,e,rfl⟩ F.entry_list_mul (F.args_list_mul_2 _ _) (AutoListH.list___mul___list_int_3 l its.toArray n k t hfit hcap hlong) ⟨e,?_⟩⟩)
 rw [hnew]
 exact ⟨.ref _,_,I.lnew (t':=s.toks) (r.rep k.toNat) (by rw [P5,Nat.mul_comm];exact hz),rfl,q _ I.fresh⟩
end
section
variable {prog:Program} {w:World} {A:Around} {E:Value->Shared->Prop} {s:Shared}
set_option maxRecDepth 100000 in
end
section
variable {X:Cx}
end
end L2
namespace Att
open PySem PySem.W PySem.Calls PyProof.Rows
theorem Gv {P:Params} {h:Heap}:∀(ns:List Int) (vs:List Value),WellAll P h vs (ns.map WData.int)->IntsAre vs ns:=by
 intro ns
 induction ns with
 | nil =>
   intro vs w
   rw [map_nil] at w
   cases w
   exact .nil
 | cons n ns ih =>
   intro vs w
   rw [map_cons] at w
   cases w with
   | cons a b =>
     cases a
     exact .cons _ _ (ih _ b)
theorem Nb {l:OpenLaw} {n:Nat} (hn:l.most=some n) {P:Params} {h:Heap} {args:List WData} {vals:List Value}
 (hpre:l.row.toRowW.claim.pre args=true) (hwl:WellAll P h vals args) :
 ∃a vs ns,vals=[Value.ref a]/\args=[WData.list (ns.map WData.int)]/\h.get? a=some { cls:=.type "list",data:=.seq vs.toArray }/\IntsAre vs ns/\ns.length<=n:=by
 have hsh:WShape.hasAll [] args [.list .int]=true:=(pre_splitW hpre).1
 have hc:l.pre.holds [] { args:=args }=true:=(pre_splitW hpre).2
 obtain ⟨d,r,rfl,h1,h2⟩:=hasAllW_cons hsh
 obtain rfl:=hasAllW_nil h2
 obtain ⟨xs,rfl,h3⟩:=hasW_list h1
 obtain ⟨ns,rfl⟩:=items_int h3
 have hlen:ns.length<=n:=by
  unfold OpenLaw.pre at hc
  have h4:(WTm.not (.lt (.lit (.int (n:Int))) (.len (.arg 0)))).holds [] { args:=[.list (ns.map .int)] }=true:=by
   have h4:=(holds_andW hc).1
   rw [hn] at h4
   exact h4
  have h5:=condW_of h4 (w_not (w_lt w_lit (w_len_list (w_arg rfl))))
  rw [length_map] at h5
  refine Nat.le_of_not_lt fun q=>?_
  have q':(n:Int) < ((ns.length:Nat):Int):=by omega
  first
   | (rw [decide_eq_true q'] at h5;exact absurd h5 (by decide))
   | (simp at h5;omega)
 cases hwl with
 | cons w1 w2 =>
   cases w2
   cases w1 with
   | list ho hall=>exact ⟨_,_,ns,rfl,rfl,ho,Gv ns _ hall,hlen⟩
theorem MX (l:OpenLaw) (args:List WData):l.row.toRowW.claim.post args (.bool true) args=true :=
 postW_of (r:=l.row.toRowW) (X:=(true == true))
  (show WShape.has [] (.bool true) .bool=true by first | rfl | decide | simp [WShape.has,WShape.arms,WShape.armsAll])
  (show (WTm.eq .res (.lit (.bool true))).value [] { args:=args,res:=some (.bool true),after:=args }=some (.bool (true == true)) from w_eq_bool (w_res rfl) w_lit) rfl
theorem attach_call {l:OpenLaw} {n:Nat} {q:Program} {loose:List Str} {XP:(Str->Option Value)->Heap->Prop} {YP:World->Heap->Prop} {d:DefRec}
 (hn:l.most=some n) (hdf:d.params.defaults=[])
 (call:∀(w:World) (s₀ s₁:Shared) (mg mb:Str->Option Value) (fa:Addr) (o:Obj) (pm cd doc:Value) (a:Addr) (vs:List Value) (ns:List Int),
  Ground q loose [] XP w s₀ mg mb s₁.heap->YP w s₁.heap ->
  s₁.heap.get? fa=some o->o.data=.func (docDef d.name d.params d.body d.scope pm cd doc)->s₁.heap.CodeRec cd d.name->mg d.name=some (.ref fa) ->
  s₁.heap.get? a=some { cls:=.type "list",data:=.seq vs.toArray }->IntsAre vs ns->ns.length<=n->s₁.gens=#[] ->
  codeAny (model l.prog w) callerA (.call (.ref fa) ⟨[.ref a],[]⟩) (fun r s'=>r=.ok (.ret (.bool true))/\OldK s₁.heap s'.heap/\s'.os=s₁.os/\AllBare s'.gens) s₁) :
 WalkO q loose XP YP l.row.toRowW d [] (fun f vs=>PySem.call f vs):=by
 intro w s₀ s₁ mg mb G Y fa o pm cd doc dV kV ho hd hcd hD hmg hg args vals as hpre hlay hrd hwl hlo
 obtain rfl:dV=.none:=Dflts.none hD hdf
 obtain rfl:kV=.none:=Dflts.noKw hD
 obtain ⟨a,vs,ns,rfl,rfl,hobj,hints,hlen⟩:=Nb hn hpre hwl
 refine enter_call (codeAny_mono (call w s₀ s₁ mg mb fa o pm cd doc a vs ns G Y ho (fd_plain hd) hcd hmg hobj hints hlen hg) fun r s' hq=>?_)
 obtain ⟨rfl,h2,h3,h4⟩:=hq
 exact ⟨.inl ⟨.bool true,.bool true,[],rfl,fun _=>rfl,.bool true,MX l _,fun _=>⟨List.Pairwise.nil,fun _ hm=>(nomatch hm)⟩⟩,h2,h3,h4⟩
section
variable {prog:Program} {w:World} {A:Around} {E:Value->Shared->Prop} {s:Shared} {K:Frag}
end
end Att
namespace L2
open PySem PySem.Spec PyProof.Rows
theorem EC:∀{vs:List Value} {ns:List Int},IntsAre vs ns->A7 (ns.map V.int) vs
 | _,_,.nil=>.nil
 | _,_,.cons n t h=>.cons ⟨t,rfl⟩ (EC h)
end L2
namespace L2
open PySem PySem.Spec PyProof.Rows
end L2
namespace L2
open PySem PySem.Spec PyProof.Rows
def Ci (s:Stmt) (j:Nat):Stmt:=match s with
 | .ClassDef _ _ _ body _ _ _ _ _ _ _=>body.getD j (.Pass ⟨0,0,0,0⟩)
 | _=>.Pass ⟨0,0,0,0⟩
noncomputable def Ap (s:Stmt):Arguments:=match s with
 | .FunctionDef _ a _ _ _ _ _ _ _ _=>a
 | _=>{ posonlyargs:=[],args:=[],vararg:=none,kwonlyargs:=[],kw_defaults:=[],kwarg:=none,defaults:=[] }
noncomputable def An (s:Stmt):List Stmt:=match s with
 | .FunctionDef _ _ b _ _ _ _ _ _ _=>b
 | _=>[]
noncomputable def Ad (s:Stmt):Scope:=match s with
 | .FunctionDef _ _ _ _ _ _ sc _ _ _=>sc
 | _=>{ kind:=.function,names:=[],isGenerator:=false,isCoroutine:=false }
abbrev CX0:CXT:=fun _ _ _ _ _ _=>False
abbrev E0:XK:=fun _ _ _=>False
theorem Aw {X:Cx}:FW CX0 X E0:=fun _ _ _ _ _ _ _ h=>h.elim
structure Fun (K:PySem.W.Frag) (x qual:Str) (st:Stmt) (f:Addr) (fd:FuncData):Prop where
 ex:∃(oc:Value) (od:Option Addr) (kV doc pm:Value) (an:Option Addr) (cdv ct:Value) (osl:Array (Option Value)),
  fd=PySem.W.fnOf x qual (Ap st) (An st) (Ad st) .none kV doc pm an cdv ct/\K.lookup f=some ⟨oc,od,.func fd,osl⟩/\PySem.W.codeIn K cdv qual=true
 kp:PySem.W.keepIn K (.ref f)=true
section
variable {P:Program} {w:World} {K:PySem.W.Frag} {mg:Str->Option Value} {base:Heap}
theorem Fun.ok {x qual:Str} {st:Stmt} {f:Addr} {fd:FuncData} {N ps:List Str} {k:Nat} {sp:Sp} (F:Fun K x qual st f fd) (S:Ar N ps (Ad st)) (len:∀vs H Q E,sp vs H Q E->vs.length=ps.length)
 (hbody:∀(cdv:Value) (A:Around) (outer:List Env) (s:Shared) (H:Hp) (vs:List V) (Q:VK) (E:XK),CY k (A.deeper (envOfC qual (Ad st) s.heap.objs.size f cdv))->sp vs H Q E ->
  ∃t,PSs (JI CX0 P w K mg base N qual (Ad st) f cdv A outer s H E).nox (An st) t/\t { nx:=fun _ H'=>Q .non H',rt:=Q } (start N vs) H):AI P w K mg base CX0 (k+1) f fd ps sp:=by
 obtain ⟨oc,od,kV,doc,pm,an,cdv,ct,osl,rfl,lk,hcd⟩:=F.ex
 refine NF lk hcd S len fun A outer s H vs Q E hr hsp=>?_
 obtain ⟨t,h,q⟩:=hbody cdv A outer s H vs Q E hr hsp
 exact ⟨t,h.nox,q⟩
theorem Fun.binds {x qual:Str} {st:Stmt} {f:Addr} {fd:FuncData} {ps:List Str} (F:Fun K x qual st f fd)
 (h:∀(kV doc pm:Value) (an:Option Addr) (cdv ct:Value) (us:List Value),us.length=ps.length->bindArgs (PySem.W.fnOf x qual (Ap st) (An st) (Ad st) .none kV doc pm an cdv ct) ⟨us,[]⟩=pure (ps.zip us)):A5 K fd ps []:=by
 obtain ⟨oc,od,kV,doc,pm,an,cdv,ct,osl,rfl,lk,hcd⟩:=F.ex
 exact .all (h kV doc pm an cdv ct)
theorem Az {x qual:Str} {st:Stmt} {f:Addr} {oc:Value} {od an:Option Addr} {osl:Array (Option Value)} {kV doc pm cdv ct:Value} (l:K.lookup f=some ⟨oc,od,.func (PySem.W.fnOf x qual (Ap st) (An st) (Ad st) .none kV doc pm an cdv ct),osl⟩)
 (c:PySem.W.codeIn K cdv qual=true) (k:PySem.W.keepIn K (.ref f)=true):Fun K x qual st f (PySem.W.fnOf x qual (Ap st) (An st) (Ad st) .none kV doc pm an cdv ct):=⟨⟨oc,od,kV,doc,pm,an,cdv,ct,osl,rfl,l,c⟩,k⟩
end
theorem A9 {n:Nat} (h:n<=1000):n < sizeLine:=Nat.lt_of_le_of_lt h (by decide)
section
variable {X:Cx}
theorem pv (i:Nat) {x:Str} {pos:Pos} (hN:X.N[i]?=some x:=by rfl) (hv:Vis X.env.scope x:=by first | exact Or.inl rfl | exact Or.inr (Or.inl rfl) | exact Or.inr (Or.inr rfl)) (hd:(x == ("__debug__":Str))=false:=by decide)
 (hcd:(x == ("__classdict__":Str))=false:=by decide):PE X (.Name x pos) (Rb i):=QC hN hv hd hcd
end
theorem RX {A B:Prop} (h:B):if false=true then A else B:=by
 rw [if_neg Bool.false_ne_true]
 exact h
theorem Qh {A B:Prop} (h:A):if true=true then A else B:=by
 rw [if_pos rfl]
 exact h
theorem Qo {c A B:Prop} [Decidable c] (h1:c->A) (h2:¬ c->B):if c then A else B:=by
 by_cases h:c
 ·rw [if_pos h]
  exact h1 h
 ·rw [if_neg h]
  exact h2 h
def Av (H H':Hp):Prop:=∀b o,H b=some o->H' b=some o
theorem Av.refl (H:Hp):Av H H:=fun _ _ h=>h
theorem Av.trans {H H1 H2:Hp} (a:Av H H1) (b:Av H1 H2):Av H H2:=fun c o h=>b c o (a c o h)
theorem Av.seq {K:PySem.W.Frag} {H H':Hp} {a:Addr} {xs:List V} (e:Av H H') (h:SqL K H a xs):SqL K H' a xs:=by
 rcases h with (h | ⟨o,h⟩) | h
 ·exact .inl (.inl (e _ _ h))
 ·exact .inl (.inr ⟨o,e _ _ h⟩)
 ·exact .inr h
end L2
namespace L2
open PySem PySem.Spec PyProof.Rows
section
variable {κ:Type} [DecidableEq κ]
noncomputable def B2 (kvs:List (κ × V)) (k:κ):Option V:=(kvs.find? fun kv=>decide (kv.1=k)).map (·.2)
noncomputable def C2 (kvs:List (κ × V)) (k:κ) (v:V):List (κ × V) :=
 if (kvs.any fun kv=>decide (kv.1=k))=true then kvs.map (fun kv=>if kv.1=k then (kv.1,v) else kv) else kvs++[(k,v)]
theorem BZ {p:κ × V} {r:List (κ × V)} {k:κ} (e:p.1=k):B2 (p :: r) k=some p.2:=by simp [B2,List.find?_cons,e]
theorem BU {p:κ × V} {r:List (κ × V)} {k:κ} (e:¬ p.1=k):B2 (p :: r) k=B2 r k:=by simp [B2,List.find?_cons,e]
theorem Da (k:κ):∀kvs:List (κ × V),(kvs.any fun kv=>decide (kv.1=k))=(B2 kvs k).isSome
 | []=>rfl
 | p :: r=>by
   rw [any_cons]
   by_cases e:p.1=k
   ·simp only [BZ e,decide_eq_true e,Bool.true_or,Option.isSome_some]
   ·rw [BU e,decide_eq_false e,Bool.false_or];exact Da k r
theorem Jt (k j:κ) (y:V):∀kvs:List (κ × V),B2 (kvs.map fun kv=>if kv.1=k then (kv.1,y) else kv) j=(B2 kvs j).map fun x=>if j=k then y else x
 | []=>rfl
 | p :: r=>by
   have ih:=Jt k j y r
   rw [map_cons]
   by_cases h:p.1=k
   ·rw [if_pos h]
    by_cases e:p.1=j
    ·rw [BZ (p:=(p.1,y)) e,BZ e,Option.map_some,if_pos (e.symm.trans h)]
    ·rw [BU (p:=(p.1,y)) e,BU e,ih]
   ·rw [if_neg h]
    by_cases e:p.1=j
    ·rw [BZ (p:=p) e,BZ e,Option.map_some,if_neg (fun z=>h (e.trans z))]
    ·rw [BU (p:=p) e,BU e,ih]
theorem HY (k j:κ) (y:V):∀kvs:List (κ × V),B2 kvs k=none->B2 (kvs++[(k,y)]) j=if j=k then some y else B2 kvs j
 | [],_=>by
   by_cases e:k=j
   ·rw [if_pos e.symm];exact BZ (p:=(k,y)) e
   ·rw [if_neg (fun z=>e z.symm)];exact BU (p:=(k,y)) e
 | p :: r,hn=>by
   rw [cons_append]
   have hk:¬ p.1=k:=fun z=>by rw [BZ z] at hn;cases hn
   rw [BU hk] at hn
   have ih:=HY k j y r hn
   by_cases e:p.1=j
   ·rw [BZ e,BZ e,if_neg (fun z=>hk (e.trans z))]
   ·rw [BU e,BU e,ih]
theorem OC (kvs:List (κ × V)) (k j:κ) (y:V):B2 (C2 kvs k y) j=if j=k then some y else B2 kvs j:=by
 unfold C2
 by_cases a:(kvs.any fun kv=>decide (kv.1=k))=true
 ·rw [if_pos a,Jt]
  rw [Da] at a
  by_cases e:j=k
  ·obtain ⟨x,hx⟩:=Option.isSome_iff_exists.mp a
   rw [if_pos e,e,hx,Option.map_some,if_pos rfl]
  ·rw [if_neg e]
   cases B2 kvs j with
   | none=>rfl
   | some x=>rw [Option.map_some,if_neg e]
 ·rw [if_neg a]
  refine HY k j y kvs ?_
  rw [Da] at a
  cases q:B2 kvs k with
  | none=>rfl
  | some x=>rw [q] at a;exact (a rfl).elim
theorem D4 (kvs:List (κ × V)) (k:κ) (v:V):(C2 kvs k v).length<=kvs.length+1:=by
 unfold C2
 split
 ·rw [length_map];omega
 ·rw [length_append,length_cons,length_nil];omega
theorem O4 {kvs:List (κ × V)} {k:κ} (v:V) (h:B2 kvs k=none):C2 kvs k v=kvs++[(k,v)]:=by
 unfold C2
 rw [Da,h]
 exact if_neg (by decide)
theorem El.isSome_eq {o:Option V} {u:Option Value} (r:El o u):o.isSome=u.isSome:=by
 cases o with
 | none=>cases u with
   | none=>rfl
   | some _=>exact (show False from r).elim
 | some _=>cases u with
   | none=>exact (show False from r).elim
   | some _=>rfl
theorem El.getD {o:Option V} {u:Option Value} {d:V} {d':Value} (r:El o u) (rd:A8 d d'):A8 (o.getD d) (u.getD d'):=by
 cases o with
 | none=>cases u with
   | none=>exact rd
   | some _=>exact (show False from r).elim
 | some _=>cases u with
   | none=>exact (show False from r).elim
   | some _=>exact r
theorem KV.val {kvs:List (κ × V)} {vs:List (κ × Value)} (r:KV kvs vs) (k:κ):El (B2 kvs k) (valueAt vs k):=by
 unfold KV at r
 induction r with
 | nil=>exact True.intro
 | @cons p q ps qs h t ih =>
   obtain ⟨h1,h2⟩:=h
   by_cases e:p.1=k
   ·have e':q.1=k:=h1.symm.trans e
    have b:valueAt (q :: qs) k=some q.2:=by simp [valueAt,List.find?_cons,e']
    rw [BZ e,b];exact h2
   ·have e':¬ q.1=k:=fun z=>e (h1.trans z)
    have b:valueAt (q :: qs) k=valueAt qs k:=by simp [valueAt,List.find?_cons,e']
    rw [BU e,b];exact ih
theorem KV.any {kvs:List (κ × V)} {vs:List (κ × Value)} (r:KV kvs vs) (k:κ):(kvs.any fun kv=>decide (kv.1=k))=vs.any fun kv=>decide (kv.1=k):=by
 unfold KV at r
 induction r with
 | nil=>rfl
 | cons h t ih=>rw [any_cons,any_cons,ih,h.1]
theorem KV.repl {kvs:List (κ × V)} {vs:List (κ × Value)} (r:KV kvs vs) (k:κ) {y:V} {u:Value} (ry:A8 y u) :
 KV (kvs.map fun kv=>if kv.1=k then (kv.1,y) else kv) (vs.map fun kv=>if kv.1=k then (kv.1,u) else kv):=by
 unfold KV at r ⊢
 induction r with
 | nil=>exact .nil
 | @cons p q ps qs h t ih =>
   rw [map_cons,map_cons]
   refine .cons ?_ ih
   obtain ⟨h1,h2⟩:=h
   by_cases e:p.1=k
   ·rw [if_pos e,if_pos (h1.symm.trans e)];exact ⟨h1,ry⟩
   ·rw [if_neg e,if_neg (fun z=>e (h1.trans z))];exact ⟨h1,h2⟩
theorem KV.put {kvs:List (κ × V)} {vs:List (κ × Value)} (r:KV kvs vs) (k:κ) {y:V} {u:Value} (ry:A8 y u):KV (C2 kvs k y) (stored vs k u):=by
 unfold C2 stored
 rw [r.any k]
 by_cases e:(vs.any fun kv=>decide (kv.1=k))=true
 ·rw [if_pos e,if_pos e];exact r.repl k ry
 ·rw [if_neg e,if_neg e];exact Paired.snoc r ⟨rfl,ry⟩
theorem KV.keys {kvs:List (κ × V)} {vs:List (κ × Value)} (r:KV kvs vs):kvs.map (·.1)=vs.map (·.1):=by
 unfold KV at r
 induction r with
 | nil=>rfl
 | cons h t ih=>rw [map_cons,map_cons,ih,h.1]
theorem KV.length {kvs:List (κ × V)} {vs:List (κ × Value)} (r:KV kvs vs):kvs.length=vs.length:=Paired.length r
end
theorem LF {P:Program} {w:World} {k:Key} {u:Value} (r:A8 (kV k) u):(B8 P w).is k u=true:=by
 cases k with
 | inl i=>obtain ⟨t,e⟩:=(show ∃t,u=Value.int i t from r);subst e;exact KG P w i t
 | inr x=>obtain ⟨t,e⟩:=(show ∃t,u=Value.str x t from r);subst e;exact K0 P w x t
theorem HK {P:Program} {w:World}:∀{ks:List Key} {us:List Value},A7 (ks.map kV) us->ItemsAre (B8 P w) ks us
 | [],_,r=>by rw [map_nil] at r;cases r;exact .nil
 | k :: ks,_,r=>by
   rw [map_cons] at r
   cases r with
   | cons h t=>exact .cons (LF h) (HK t)
abbrev KT (H:Hp):List (List Key × V)->List (List Key × Addr × Value)->Prop:=Paired fun p q=>p.1=q.1/\H q.2.1=some (.tup (p.1.map kV))/\A8 p.2 q.2.2
theorem KT.val {H:Hp} {kvs:List (List Key × V)} {xs:List (List Key × Addr × Value)} (r:KT H kvs xs) (k:List Key):El (B2 kvs k) ((atKey xs k).map (·.2)):=by
 induction r with
 | nil=>exact True.intro
 | @cons p q ps qs h t ih =>
   obtain ⟨h1,_,h2⟩:=h
   by_cases e:p.1=k
   ·have e':q.1=k:=h1.symm.trans e
    have b:atKey (q :: qs) k=some q.2:=by simp [atKey,List.find?_cons,e']
    rw [BZ e,b];exact h2
   ·have e':¬ q.1=k:=fun z=>e (h1.trans z)
    have b:atKey (q :: qs) k=atKey qs k:=by simp [atKey,List.find?_cons,e']
    rw [BU e,b];exact ih
theorem KT.repl {H:Hp} {kvs:List (List Key × V)} {xs:List (List Key × Addr × Value)} (r:KT H kvs xs) (k:List Key) {y:V} {u:Value} (ry:A8 y u) :
 KT H (kvs.map fun kv=>if kv.1=k then (kv.1,y) else kv) (xs.map (putAt k u)):=by
 induction r with
 | nil=>exact .nil
 | @cons p q ps qs h t ih =>
   rw [map_cons,map_cons]
   refine .cons ?_ ih
   obtain ⟨h1,h2,h3⟩:=h
   unfold putAt
   by_cases e:p.1=k
   ·rw [if_pos e,if_pos (h1.symm.trans e)];exact ⟨h1,h2,ry⟩
   ·rw [if_neg e,if_neg (fun z=>e (h1.trans z))];exact ⟨h1,h2,h3⟩
theorem KT.put {H:Hp} {kvs:List (List Key × V)} {xs:List (List Key × Addr × Value)} (r:KT H kvs xs) (k:List Key) {b:Addr} {y:V} {u:Value} (hb:H b=some (.tup (k.map kV))) (ry:A8 y u) :
 KT H (C2 kvs k y) (storedH xs k b u):=by
 have e:(kvs.any fun kv=>decide (kv.1=k))=(atKey xs k).isSome:=by
  rw [Da,(r.val k).isSome_eq,Option.isSome_map]
 unfold C2 storedH
 rw [e]
 by_cases q:(atKey xs k).isSome=true
 ·rw [if_pos q,if_pos q];exact r.repl k ry
 ·rw [if_neg q,if_neg q];exact Paired.snoc r ⟨rfl,hb,ry⟩
theorem KT.keeps {H H':Hp} {kvs:List (List Key × V)} {xs:List (List Key × Addr × Value)} (r:KT H kvs xs) (ht:∀b ys,H b=some (.tup ys)->H' b=some (.tup ys)):KT H' kvs xs :=
 Paired.mapP r fun _ _ z=>⟨z.1,ht _ _ z.2.1,z.2.2⟩
section
variable {P:Program} {w:World} {H:Hp} {h:Heap} {a:Addr}
theorem Qa {u:HO} (ok:HOk P w H h) (e:Rd H a u):Bc P w H h a u:=e.ok ok
theorem Ib {kvs:List (Key × V)} (ok:HOk P w H h) (e:Rd H a (.dK kvs)):kvs.length<=sizeLine/\(a == sysModules)=false/\∃vs,KV kvs vs/\h.DictOf (B8 P w) a vs :=
 show Bc P w H h a (.dK kvs) from Qa ok e
theorem RA {kvs:List (Key × V)} (ok:HOk P w H h) (e:H a=some (.dK kvs)):kvs.length<=sizeLine/\(a == sysModules)=false/\∃vs,KV kvs vs/\h.DictOf (B8 P w) a vs:=Ib ok (.inl e)
theorem IW {ks:List Key} (ok:HOk P w H h) (e:H a=some (.tup (ks.map kV))):(tupleKind (B8 P w)).is h ks a:=by
 obtain ⟨_,its,r,o,h1,h2,n,h3⟩:=(show Bc P w H h a (.tup (ks.map kV)) from ok a _ e)
 exact ⟨o,its.toArray,n,h1,h2,h3,by simpa using HK r⟩
theorem Il {kvs:List (List Key × V)} (ok:HOk P w H h) (e:Rd H a (.dT kvs)):kvs.length<=sizeLine/\(a == sysModules)=false /\
 ∃xs,KT H kvs xs/\h.DictOfH (tupleKind (B8 P w)) a xs:=by
 obtain ⟨z,y,xs,r,o,es,ep,h1,h2,h3,h4,h5⟩:=(show Bc P w H h a (.dT kvs) from Qa ok e)
 refine ⟨z,y,xs,r,o,es,ep,h1,h2,h3,h4,fun x hx=>?_,h5⟩
 have all:∀{l:List (List Key × V)} {m:List (List Key × Addr × Value)},KT H l m->∀x∈m,(tupleKind (B8 P w)).is h x.1 x.2.1:=by
  intro l m q
  induction q with
  | nil=>intro x hx;exact nomatch hx
  | @cons p q ps qs hq t ih =>
    intro x hx
    rcases mem_cons.mp hx with e | hx
    ·subst e
     exact IW ok (by rw [<- hq.1];exact hq.2.1)
    ·exact ih x hx
 exact all r x hx
theorem QW {kvs:List (List Key × V)} (ok:HOk P w H h) (e:H a=some (.dT kvs)):kvs.length<=sizeLine/\(a == sysModules)=false /\
 ∃xs,KT H kvs xs/\h.DictOfH (tupleKind (B8 P w)) a xs:=Il ok (.inl e)
end
def Fk (H:Hp) (a:Addr) (y:V) (r:Option V):Prop :=
 (∃kvs k,Rd H a (.dK kvs)/\y=kV k/\r=B2 kvs k)\/∃kvs k b,Rd H a (.dT kvs)/\y=.ref b/\H b=some (.tup (k.map kV))/\r=B2 kvs k
def Hz (H:Hp) (a:Addr) (y v:V) (H':Hp):Prop :=
 (∃kvs k,H a=some (.dK kvs)/\y=kV k/\kvs.length < sizeLine/\H'=upd H a (.dK (C2 kvs k v))) \/
 ∃kvs k b,H a=some (.dT kvs)/\y=.ref b/\H b=some (.tup (k.map kV))/\kvs.length < sizeLine/\H'=upd H a (.dT (C2 kvs k v))
theorem Fk.k {H:Hp} {a:Addr} {kvs:List (Key × V)} {k:Key} (e:H a=some (.dK kvs)):Fk H a (kV k) (B2 kvs k):=.inl ⟨kvs,k,.inl e,rfl,rfl⟩
theorem Fk.t {H:Hp} {a b:Addr} {kvs:List (List Key × V)} {k:List Key} (e:H a=some (.dT kvs)) (eb:H b=some (.tup (k.map kV))):Fk H a (.ref b) (B2 kvs k):=.inr ⟨kvs,k,b,.inl e,rfl,eb,rfl⟩
theorem Hz.k {H:Hp} {a:Addr} {kvs:List (Key × V)} {k:Key} {v:V} (e:H a=some (.dK kvs)) (hl:kvs.length < sizeLine):Hz H a (kV k) v (upd H a (.dK (C2 kvs k v))):=.inl ⟨kvs,k,e,rfl,hl,rfl⟩
theorem Hz.t {H:Hp} {a b:Addr} {kvs:List (List Key × V)} {k:List Key} {v:V} (e:H a=some (.dT kvs)) (eb:H b=some (.tup (k.map kV))) (hl:kvs.length < sizeLine) :
 Hz H a (.ref b) v (upd H a (.dT (C2 kvs k v))):=.inr ⟨kvs,k,b,e,rfl,eb,hl,rfl⟩
section
variable {X:Cx} {pins:List (Addr × Obj)} {σ:St} {H:Hp} {s:Shared} {a:Addr} {y v:V} {u r:Value} {o:Option V} {A:Around} {E:Value->Shared->Prop}
theorem Inv.big (I:Inv X pins σ H s):sysModules < s.heap.objs.size:=by
 have h:mainGlobals < s.heap.objs.size:=(I.mod.glob.keeps I.bk).lt
 exact Nat.lt_trans (by decide) h
theorem Mp {Q:Value->Shared->Prop} (hu:A.units+1 < cLine) (I:Inv X pins σ H s) (g:Fk H a y (some v)) (ry:A8 y u) (h:∀w' s',Inv X pins σ H s'->A8 v w'->Q w' s') :
 wpAny (model X.prog X.w) A (getItem (.ref a) u) Q E s:=by
 rcases g with ⟨kvs,k,e,ey,l⟩ | ⟨kvs,k,b,e,ey,eb,l⟩
 ·subst ey
  obtain ⟨z,hd,vs,rel,dd⟩:=Ib I.hok e
  obtain ⟨w',hw,rw'⟩:=El.some_of (v:=v) (o:=valueAt vs k) (by rw [l];exact rel.val k)
  exact wpAny_getItem_of (LF ry) dd.mapOf hw (h w' _ (I.tok _) rw')
 ·subst ey
  cases (show u=Value.ref b from ry)
  obtain ⟨z,hd,xs,rel,dd⟩:=Il I.hok e
  obtain ⟨w',hw,rw'⟩:=El.some_of (v:=v) (o:=(atKey xs k).map (·.2)) (by rw [l];exact rel.val k)
  obtain ⟨p,hp,hp2⟩:=Option.map_eq_some_iff.mp hw
  refine wpAny_getItem_heap (tupleKind_room_in1 hu) (IW I.hok eb) dd hp ?_
  rw [hp2]
  exact h w' _ (I.tok _) rw'
theorem LV {h':Heap} {t':Nat} {ob:HO} (I:Inv X pins σ H s) (mu:Mut (H a)) (hs:Heap.SameBut a s.heap h') (he:∃q,h'.get? a=some q) (new:Bc X.prog X.w (upd H a ob) h' a ob) :
 Inv X pins σ (upd H a ob) { s with heap:=h',toks:=t' } :=
 I.write (x:=a) (e:=a) mu (.inl rfl) (fun b q hb z=>(hs.2 b hb).trans z) he new
theorem Q6 {P:Program} {w:World} {H':Hp} {h':Heap} {kvs:List (Key × V)} {vs:List (Key × Value)} (z:kvs.length<=sizeLine) (hd:(a == sysModules)=false) (rel:KV kvs vs) (dd:h'.DictOf (B8 P w) a vs) :
 Bc P w H' h' a (.dK kvs):=⟨z,hd,vs,rel,dd⟩
theorem MH {H':Hp} {Q:Unit->Shared->Prop} (hu:A.units+1 < cLine) (I:Inv X pins σ H s) (g:Hz H a y v H') (ry:A8 y u) (rv:A8 v r) (h:∀s',Inv X pins σ H' s'->Q () s') :
 wpAny (model X.prog X.w) A (setItem (.ref a) u r) Q E s:=by
 rcases g with ⟨kvs,k,e,ey,l,eH⟩ | ⟨kvs,k,b,e,ey,eb,l,eH⟩
 ·subst ey eH
  obtain ⟨z,hd,vs,rel,dd⟩:=RA I.hok e
  have hz:vs.length<=sizeLine:=by rw [<- rel.length];exact z
  have hl:(C2 kvs k v).length<=sizeLine:=by have:=D4 kvs k v;omega
  refine wpAny_setItem_pairs (hsz:=hz) (LF ry) dd fun h' dd' hs=>h _ ?_
  have he:∃q,h'.get? a=some q:=let ⟨q,_,_,hq,_⟩:=dd';⟨q,hq⟩
  exact LV I (by rw [e];exact True.intro) hs he (Q6 hl hd (rel.put k rv) dd')
 ·subst ey eH
  cases (show u=Value.ref b from ry)
  obtain ⟨z,hd,xs,rel,dd⟩:=QW I.hok e
  have hz:xs.length<=sizeLine:=by rw [<- Paired.length rel];exact z
  have hl:(C2 kvs k v).length<=sizeLine:=by have:=D4 kvs k v;omega
  refine wpAny_setItem_heap (hsz:=hz) (tupleKind_room_in1 hu) (IW I.hok eb) dd fun h' dd' hs=>h _ ?_
  obtain ⟨q,es,ep,hq,h2,h3,h4,_,h5⟩:=dd'
  refine LV I (by rw [e];exact True.intro) hs ⟨q,hq⟩ ⟨hl,hd,_,(rel.put k eb rv).keeps fun c ys ec=>?_,q,es,ep,hq,h2,h3,h4,h5⟩
  rw [Aj (DQ ec e (fun z=>nomatch z))]
  exact ec
end
section
variable {X:Cx} {pins:List (Addr × Obj)} {σ:St} {H:Hp} {s:Shared} {a:Addr} {kvs:List (Key × V)} {k:Key} {u:Value} {A:Around} {E:Value->Shared->Prop}
end
def Rh (i:Expr):Prop:=∀ov iv,subscripted i false ov iv=operate [ov,iv] (getItem ov iv)
theorem OU {prog:Program} {w:World} {A:Around} {E:Value->Shared->Prop} {s:Shared} {env:Env} {value slice:Expr} {pos:Pos} {T id:String} {Q:Value->Shared->Prop}
 (hl:typeLookup (.type T) "__getitem__"=pure (some (.builtin id))) (hs:Rh slice)
 (h:wpAny (model prog w) A (eval value env) (fun o s₁=>wpAny (model prog w) A (eval slice env) (fun i s₂=>s₂.TypeIs o T/\wpAny (model prog w) A (getItem o i) Q E s₂) E s₁) E s) :
 wpAny (model prog w) A (eval (.Subscript value slice pos) env) Q E s:=by
 refine Subscript_ (wpAny_mono h (fun o s₁ h₁=>wpAny_mono h₁ (fun i s₂ h₂=>?_) fun _ _ x=>x) fun _ _ x=>x)
 obtain ⟨hT,h₂⟩:=h₂
 unfold subscriptTail
 refine wpAny_bind ?_
 rw [getitemInPython_of_ne hT.not_modules]
 refine wpAny_bind (wpAny_specialOf hT hl ?_)
 have fin:wpAny (model prog w) A (subscripted slice false o i) (fun r s₃=>wpAny (model prog w) A (letTemporaryGo value o r >>= fun _=>pure r) Q E s₃) E s₂:=by
  rw [hs o i]
  exact wpAny_operating (wpAny_mono h₂ (fun r s₃ h₃=>wpAny_bind (wpAny_letTemporaryGo (wpAny_pure h₃))) fun _ _ x=>x)
 first
  | exact wpAny_pure (wpAny_bind fin)
  | exact wpAny_bind (wpAny_pure (wpAny_bind fin))
  | exact wpAny_bind fin
theorem Jz {X:Cx} {pins:List (Addr × Obj)} {σ:St} {H:Hp} {s:Shared} {a:Addr} {y:V} {o:Option V} (I:Inv X pins σ H s) (g:Fk H a y o):s.TypeIs (.ref a) "dict":=by
 rcases g with ⟨kvs,k,e,_,_⟩ | ⟨kvs,k,b,e,_,_,_⟩
 ·obtain ⟨_,_,vs,_,dd⟩:=Ib I.hok e
  exact dd.typeIs
 ·obtain ⟨_,_,xs,_,dd⟩:=Il I.hok e
  exact dd.typeIs
def Re (td ty:TE):TE:=fun σ H Q=>td σ H fun x H1=>ty σ H1 fun y H2=>∃a v,x=.ref a/\Fk H2 a y (some v)/\Q v H2
def R6 (td ty tv:TE):TS:=fun D σ H=>tv σ H fun v H1=>td σ H1 fun x H2=>ty σ H2 fun y H3=>∃a H4,x=.ref a/\Hz H3 a y v H4/\D.nx σ H4
section
variable {X:Cx} {o i e value:Expr} {pos pos' tpos:Pos} {td ty tv:TE}
theorem Mb (hu:X.A.units+1 < cLine) (ho:PE X o td) (hi:PE X i ty) (hs:Rh i):PE X (.Subscript o i pos) (Re td ty):=by
 intro pins s σ H Q I h
 refine OU PySem.F.slot_dict_getitem.lookup hs (thn (ho pins s σ H _ I h) fun u s1 ⟨x,H1,I1,rx,q1⟩=>thn (hi pins s1 σ H1 _ I1 q1) fun iv s2 ⟨y,H2,I2,ry,a,v,ex,g,q2⟩=>?_)
 subst ex
 obtain rfl:u=Value.ref a:=rx
 exact ⟨Jz I2 g,Mp hu I2 g ry fun w' s3 I3 rw'=>⟨v,H2,I3,rw',q2⟩⟩
theorem G3 (hu:X.A.units+1 < cLine) (ho:PE X o td) (hi:PE X i ty) (hv:PE X value tv) (hs:swapsWith value (some (.Subscript o i pos')) pos.line X.env=pure false) :
 PS X (.Assign [.Subscript o i pos'] value pos) (R6 td ty tv):=by
 intro pins s σ H D I h
 refine wpAny_Assign_Subscript (thn (hv pins s σ H _ I h) fun r s1 ⟨v,H1,I1,rv,q1⟩=>thn (ho pins s1 σ H1 _ I1 q1) fun u s2 ⟨x,H2,I2,rx,q2⟩=>thn (hi pins s2 σ H2 _ I2 q2) fun iv s3 ⟨y,H3,I3,ry,a,H4,ex,g,q3⟩=>?_) hs
 subst ex
 obtain rfl:u=Value.ref a:=rx
 exact MH hu I3 g ry rv fun s4 I4=>⟨σ,H4,I4,q3⟩
end
theorem N6 {P:Program} {w:World} {H:Hp} (h:Heap) (hb:sysModules < h.objs.size):Bc P w H (h.push { cls:=.type "dict",data:=.dict #[] }) h.objs.size (.dK []) :=
 ⟨Nat.zero_le _,beq_eq_false_iff_ne.mpr (Ne.symm (Nat.ne_of_lt hb)),[],.nil,Heap.DictOf.new h⟩
theorem NE {P:Program} {w:World} {H:Hp} (h:Heap) (hb:sysModules < h.objs.size):Bc P w H (h.push { cls:=.type "dict",data:=.dict #[] }) h.objs.size (.dT []) :=
 ⟨Nat.zero_le _,beq_eq_false_iff_ne.mpr (Ne.symm (Nat.ne_of_lt hb)),[],.nil,_,#[],0,Heap.get?_push_size _ rfl,⟨rfl,rfl,rfl⟩,rfl,rfl,nodup_nil⟩
def Qq:TE:=fun _ H Q=>∀p,H p=none->Q (.ref p) (upd H p (.dK []))
def Q9:TE:=fun _ H Q=>∀p,H p=none->Q (.ref p) (upd H p (.dT []))
section
variable {X:Cx} {pos:Pos}
theorem NL:PE X (.Dict [] [] pos) Qq:=fun pins s σ H Q I h =>
 wpAny_Dict_empty ⟨.ref s.heap.objs.size,_,I.laid (a:=s.heap.objs.size) (o:=.dK []) (t':=s.toks) (fun _ _ q=>Heap.get?_push_of_some _ q) (Nat.le_refl _) (N6 s.heap I.big),rfl,h _ (I.hok.fresh (Nat.le_refl _))⟩
theorem N8:PE X (.Dict [] [] pos) Q9:=fun pins s σ H Q I h =>
 wpAny_Dict_empty ⟨.ref s.heap.objs.size,_,I.laid (a:=s.heap.objs.size) (o:=.dT []) (t':=s.toks) (fun _ _ q=>Heap.get?_push_of_some _ q) (Nat.le_refl _) (NE s.heap I.big),rfl,h _ (I.hok.fresh (Nat.le_refl _))⟩
end
structure M2 (X:Cx) (o:Expr) (m:Str) (apos:Pos) (e f:Expr) (cpos:Pos):Prop where
 base:attributeBase o m X.env (eval o X.env)=eval o X.env
 few:((backTo cpos (starEach [e,f] X.env)).all (fun x=>!x.1) && (backToKw cpos (keywordEach [] X.env)).all (fun x=>x.1.isSome)
  && decide (([e,f]:List Expr).length+([]:List Keyword).length+(if ([]:List Keyword).isEmpty then 0 else 1) < 30))=true
 line:(apos.endLine == cpos.line)=true
 trees:backTo cpos (starEach [e,f] X.env)=[(false,eval e X.env),(false,eval f X.env)]
def IsD (H:Hp) (a:Addr):Prop:=(∃kvs,Rd H a (.dK kvs))\/∃kvs,Rd H a (.dT kvs)
theorem QG {X:Cx} {pins:List (Addr × Obj)} {σ:St} {H:Hp} {s:Shared} {a:Addr} (I:Inv X pins σ H s) (d:IsD H a) :
 s.TypeIs (.ref a) "dict"/\(∀b,Value.ref a=.ref b->∃ob,s.heap.get? b=some ob/\ob.dict=none)/\(a == sysModules)=false:=by
 rcases d with ⟨kvs,e⟩ | ⟨kvs,e⟩
 ·obtain ⟨_,hd,vs,_,dd⟩:=Ib I.hok e
  refine ⟨dd.typeIs,fun b q=>?_,hd⟩
  cases q
  obtain ⟨ob,_,_,h1,h2,_⟩:=dd
  exact ⟨ob,h1,h2.2.1⟩
 ·obtain ⟨_,hd,xs,_,dd⟩:=Il I.hok e
  refine ⟨dd.typeIs,fun b q=>?_,hd⟩
  cases q
  obtain ⟨ob,_,_,h1,h2,_⟩:=dd
  exact ⟨ob,h1,h2.2.1⟩
section
variable {X:Cx} {pins:List (Addr × Obj)} {σ:St} {H:Hp} {s:Shared} {a:Addr} {y d:V} {u r:Value} {o:Option V} {A:Around} {E:Value->Shared->Prop}
theorem QF {Q:Value->Shared->Prop} (hu:A.units+1 < cLine) (I:Inv X pins σ H s) (g:Fk H a y o) (ry:A8 y u) (rd:A8 d r) (h:∀w' s',Inv X pins σ H s'->A8 (o.getD d) w'->Q w' s') :
 wpAny (model X.prog X.w) A (call (.builtin "dict.get") [.ref a,u,r]) Q E s:=by
 rcases g with ⟨kvs,k,e,ey,l⟩ | ⟨kvs,k,b,e,ey,eb,l⟩
 ·subst ey
  obtain ⟨z,hd,vs,rel,dd⟩:=Ib I.hok e
  refine call_meetsIn PySem.F.slot_dict_get dd.typeIs PySem.F.entry_dict_get (PySem.F.args_dict_get_3 _ _ _) (meets_dict_get_default (B8 X.prog X.w) a (LF ry) hd r) ⟨_,dd.mapOf,h _ _ (I.tok _) ?_⟩
  rw [l]
  exact (rel.val k).getD rd
 ·subst ey
  cases (show u=Value.ref b from ry)
  obtain ⟨z,hd,xs,rel,dd⟩:=Il I.hok e
  refine call_meetsIn PySem.F.slot_dict_get dd.typeIs PySem.F.entry_dict_get (PySem.F.args_dict_get_3 _ _ _) (meetsH_dict_get_default (tupleKind (B8 X.prog X.w)) a b hd r) ⟨tupleKind_room_in1 hu,k,xs,IW I.hok eb,dd,h _ _ (I.tok _) ?_⟩
  rw [l]
  exact (rel.val k).getD rd
end
def QJ (td ty tx:TE):TE:=fun σ H Q=>td σ H fun x H1=>∃a,x=.ref a/\IsD H1 a/\ty σ H1 fun y H2=>tx σ H2 fun z H3=>∃o,Fk H3 a y o/\Q (o.getD z) H3
section
variable {X:Cx} {o e f:Expr} {apos cpos:Pos} {td ty tx:TE}
theorem GI (hu:X.A.units+1 < cLine) (ho:PE X o td) (he:PE X e ty) (hf:PE X f tx) (m:M2 X o "get" apos e f cpos):PE X (.Call (.Attribute o "get" apos) [e,f] [] cpos) (QJ td ty tx):=by
 intro pins s σ H Q I h
 refine wpAny_Call_method m.base m.few m.line PySem.F.plainAttrs_dict PySem.F.slot_dict_get PySem.F.type_dict_get (thn (ho pins s σ H _ I h) fun u s1 ⟨x,H1,I1,rx,a,ex,d,q1⟩=>?_)
 subst ex
 obtain rfl:u=Value.ref a:=rx
 obtain ⟨t1,t2,_⟩:=QG I1 d
 refine ⟨t1,t2,?_⟩
 rw [m.trees]
 refine Calls.callWith_builtin rfl (Calls.evalArgs_plain (Calls.spliced_cons (thn (he pins s1 σ H1 _ I1 q1) fun iv s2 ⟨y,H2,I2,ry,q2⟩ =>
  Calls.spliced_cons (thn (hf pins s2 σ H2 _ I2 q2) fun fv s3 ⟨z,H3,I3,rz,ov,g,q3⟩=>Calls.spliced_nil ?_))))
 exact QF hu I3 g ry rz fun w' s4 I4 rw'=>⟨_,H3,I4,rw',q3⟩
end
section
variable {X:Cx} {pins:List (Addr × Obj)} {σ:St} {H:Hp} {s:Shared} {a:Addr} {kvs:List (Key × V)} {A:Around} {E:Value->Shared->Prop}
end
section
variable {X:Cx} {pins:List (Addr × Obj)} {σ:St} {H:Hp} {s:Shared} {a:Addr} {y:V} {u:Value} {A:Around} {E:Value->Shared->Prop}
end
end L2
namespace L2
open PySem PySem.Spec PyProof.Rows
section
variable {κ:Type} [DecidableEq κ]
theorem GK {kvs:List (κ × V)} {k:κ} (h:B2 kvs k=none):¬ k∈kvs.map (·.1):=by
 intro m
 obtain ⟨p,hp,e⟩:=mem_map.mp m
 have q:(kvs.any fun kv=>decide (kv.1=k))=true:=any_eq_true.mpr ⟨p,hp,decide_eq_true e⟩
 rw [Da,h] at q
 exact absurd q (by simp)
theorem PM {kvs:List (κ × V)} {k:κ} {v:V} (h:B2 kvs k=some v):k∈kvs.map (·.1):=by
 have q:(kvs.any fun kv=>decide (kv.1=k))=true:=by
  rw [Da,h]
  all_goals rfl
 obtain ⟨p,hp,e⟩:=any_eq_true.mp q
 exact mem_map.mpr ⟨p,hp,of_decide_eq_true e⟩
theorem LZ:∀{l:List κ} {k:κ},l.Nodup->¬ k∈l->(l++[k]).Nodup
 | [],k,_,_=>by simp
 | a :: r,k,h,hk=>by
   obtain ⟨h1,h2⟩:=nodup_cons.mp h
   show (a :: (r++[k])).Nodup
   refine nodup_cons.mpr ⟨fun m=>?_,LZ h2 fun m=>hk (mem_cons.mpr (Or.inr m))⟩
   rcases mem_append.mp m with q | q
   ·exact h1 q
   ·exact hk (mem_cons.mpr (Or.inl (mem_singleton.mp q).symm))
theorem Md {kvs:List (κ × V)} {k:κ} (v:V) (hn:(kvs.map (·.1)).Nodup) (h:B2 kvs k=none):((C2 kvs k v).map (·.1)).Nodup:=by
 rw [O4 v h,map_append]
 exact LZ hn (GK h)
end
end L2
namespace L2
open PySem PySem.Spec PyProof.Rows
def Sz (n:Nat) (x:Int):Prop:=x.natAbs < 2 ^ n
section
variable {m n:Nat} {x y:Int}
theorem Sz.bits (h:Sz n x):Builtin.Int.intBits x<=n:=intBits_le_iff.mpr h
theorem Sz.of_bits (h:Builtin.Int.intBits x<=n):Sz n x:=intBits_le_iff.mp h
theorem Sz.mono (h:Sz m x) (l:m<=n):Sz n x:=.of_bits (Nat.le_trans h.bits l)
theorem Sz.mul (h:Sz m x) (k:Sz n y):Sz (m+n) (x*y):=.of_bits (intBits_mul_le h.bits k.bits)
theorem Sz.add (h:Sz m x) (k:Sz n y):Sz (max m n+1) (x+y):=.of_bits (intBits_add_le h.bits k.bits)
theorem Sz.sub (h:Sz m x) (k:Sz n y):Sz (max m n+1) (x - y):=.of_bits (intBits_sub_le h.bits k.bits)
theorem Sz.neg (h:Sz m x):Sz m (-x):=.of_bits (intBits_neg_le h.bits)
theorem Sz.fdiv (h:Sz m x):Sz m (x.fdiv y):=.of_bits (intBits_fdiv_le h.bits)
theorem szd (n:Nat) {x:Int} (h:decide (x.natAbs < 2 ^ n)=true:=by decide +kernel):Sz n x:=(show x.natAbs < 2 ^ n from of_decide_eq_true h)
theorem Go (h:-(2 ^ n:Nat) < x) (k:x < (2 ^ n:Nat)):Sz n x:=by
 unfold Sz
 generalize 2 ^ n=p at h k ⊢
 omega
end
def Qc (i j:Int):Prop:=∃m n,Sz m i/\Sz n j/\m+n<=134217728
def QX (_ j:Int):Prop:=j≠0/\Sz 9000 j
section
variable {X:Cx}
theorem Cj:OpR X (binaryOp .Mult) (rI Qc fun i j=>.int (i*j)):=opI fun _ _ _ _ _ _ _ hc q =>
 mul_int q (let ⟨_,_,a,b,c⟩:=hc;IntMulOk.of_le a.bits b.bits c)
theorem BI:OpR X (binaryOp .FloorDiv) (rI QX fun i j=>.int (i.fdiv j)):=opI fun _ j _ _ _ _ _ hc q =>
 floordiv_int hc.1 q (.inl (PyProof.noPylong_of_log2 ((Nat.log2_lt (by have:=hc.1;omega)).mpr hc.2)))
theorem C5:Db X (.builtin "isinstance") (fun xs H Q=>∃x t c b,xs=[x,.ty c]/\Dw X.K H x t/\PySem.W.kitOne X.K t (.type c)=some b/\Q (.bl b) H):=by
 intro pins s σ H xs us Q I rv h
 obtain ⟨x,t,c,b,rfl,ty,e,q⟩:=h
 obtain ⟨u,u',rfl,r1,r2⟩:=LG rv
 cases (show u'=Value.type c from r2)
 exact Ig I r1 ty e fun tk=>⟨.bl b,H,I.tok tk,rfl,q⟩
end
section
variable {K:PySem.W.Frag}
theorem Gf:PySem.W.kitOne K (.type "int") (.type "int")=some true:=by
 show (if ((Value.type "int") == (Value.type "int"))=true then some true else (if PySem.W.kitMeta "int"=true then (PySem.fastBuiltinMro "int").map (·.contains (Value.type "int")) else none))=some true
 decide +kernel
theorem Fo:PySem.W.kitOne K (.type "int") (.type "bool")=some false:=by
 show (if ((Value.type "int") == (Value.type "bool"))=true then some true else (if PySem.W.kitMeta "bool"=true then (PySem.fastBuiltinMro "int").map (·.contains (Value.type "bool")) else none))=some false
 decide +kernel
theorem Ek:PySem.W.kitOne K (.type "tuple") (.type "tuple")=some true:=by
 show (if ((Value.type "tuple") == (Value.type "tuple"))=true then some true else (if PySem.W.kitMeta "tuple"=true then (PySem.fastBuiltinMro "tuple").map (·.contains (Value.type "tuple")) else none))=some true
 decide +kernel
theorem DC:PySem.W.kitOne K (.type "list") (.type "list")=some true:=by
 show (if ((Value.type "list") == (Value.type "list"))=true then some true else (if PySem.W.kitMeta "list"=true then (PySem.fastBuiltinMro "list").map (·.contains (Value.type "list")) else none))=some true
 decide +kernel
end
def RL (c:TT) (t u:TS):TS:=fun D σ H=>∃M:St->Hp->Prop,(c σ H fun b H1=>if b=true then t { D with nx:=M } σ H1 else u { D with nx:=M } σ H1)/\∀σ' H',M σ' H'->D.nx σ' H'
theorem FV {X:Cx} {c:Expr} {a b:List Stmt} {tc:TT} {t u:TS} {pos:Pos} (hc:PT X c tc) (ha:PSs X a t) (hb:PSs X b u):PS X (.If c a b pos) (RL tc t u):=by
 intro pins s σ H D I h
 obtain ⟨M,h,hM⟩:=h
 have up:∀(f:Flow) (s':Shared),SP X pins { D with nx:=M } f s'->SP X pins D f s':=fun f s' q=>by
  cases f with
  | next =>
    obtain ⟨σ',H',I',q⟩:=q
    exact ⟨σ',H',I',hM σ' H' q⟩
  | ret v=>exact q
  | brk=>exact q
  | cont=>exact q
 refine wpAny_If (thn (hc pins s σ H _ I h) fun d s1 ⟨H1,I1,q1⟩=>?_)
 cases d with
 | true=>exact thn (ha pins s1 σ H1 _ I1 q1) up
 | false=>exact thn (hb pins s1 σ H1 _ I1 q1) up
theorem Oy:NY 10 40:=⟨by decide,by decide,by decide⟩
theorem AH {n:Nat} (h:n<=1000):n<=sizeLine:=Nat.le_of_lt (A9 h)
theorem Mc {ns:List Int} {k:Int} (h0:0<=k) (h:k < (ns.length:Int)):∃v:Int,atI (ns.map V.int) k=some (.int v):=by
 have hk:k.toNat < ns.length:=by omega
 have ek:k=((k.toNat:Nat):Int):=by omega
 have q:atI (ns.map V.int) ((k.toNat:Nat):Int)=some (.int ns[k.toNat]):=C6 (by rw [List.getElem?_map,List.getElem?_eq_getElem hk] <;> rfl)
 rw [<- ek] at q
 exact ⟨_,q⟩
end L2
namespace L2
open PySem PySem.Spec PyProof.Rows
noncomputable def Cx.inComp (X:Cx) (Nc:List Str) (sc:Scope) (cl:List (Str × Addr)) (s:Shared) (H:Hp) (ex:List Addr):Cx :=
 { X with N:=Nc,s₀:=s,H₀:=H,env:=compEnvC sc cl s.heap.objs.size X.env,outer:=X.stack,stack:=X.stack,ex:=ex,fn:=fun _=>false,pn:=[],xe:=fun _ _=>False }
theorem KW {env:Env} {f:Str × NameKind->List (Str × Addr)->Sem (ForInStep (List (Str × Addr)))}
 (hf:∀n k r,f (n,k) r=if (k == NameKind.free)=true then (cellOf env n >>= fun c=>pure (ForInStep.yield ((n,c) :: r))) else pure (ForInStep.yield r)) :
 ∀(l:List (Str × NameKind)) (cs:List (Str × Addr)),(∀x∈l,x.2=.free->∃c,env.cells.lookup x.1=some c) ->
  ∃cl,(forIn l cs f:Sem (List (Str × Addr)))=pure cl/\(∀p∈cl,p∈cs\/env.cells.lookup p.1=some p.2)/\(∀p∈cs,p∈cl)/\∀x∈l,x.2=.free->∃c,(x.1,c)∈cl:=by
 intro l
 induction l with
 | nil =>
   intro cs _
   exact ⟨cs,by rw [forIn_nil],fun p hp=>.inl hp,fun p hp=>hp,fun x hx=>absurd hx (by simp)⟩
 | cons y r ih =>
   intro cs h
   obtain ⟨n,k⟩:=y
   by_cases hk:k=.free
   ·subst hk
    obtain ⟨c,hc⟩:=h (n,.free) (by simp) rfl
    have e:cellOf env n=pure c:=by
     unfold cellOf
     rw [show env.cells.lookup n=some c from hc]
    obtain ⟨cl,h1,h2,h3,h4⟩:=ih ((n,c) :: cs) fun x hx=>h x (mem_cons_of_mem _ hx)
    refine ⟨cl,?_,fun p hp=>?_,fun p hp=>h3 p (mem_cons_of_mem _ hp),fun x hx hf'=>?_⟩
    ·rw [forIn_cons,hf,if_pos (by decide),e]
     simp only [pure_bind]
     exact h1
    ·rcases h2 p hp with z | z
     ·rcases mem_cons.mp z with z | z
      ·subst z;exact .inr hc
      ·exact .inl z
     ·exact .inr z
    ·rcases mem_cons.mp hx with z | z
     ·subst z;exact ⟨c,h3 _ (by simp)⟩
     ·exact h4 x z hf'
   ·have hb:(k == NameKind.free)=false:=by simpa using hk
    obtain ⟨cl,h1,h2,h3,h4⟩:=ih cs fun x hx=>h x (mem_cons_of_mem _ hx)
    refine ⟨cl,?_,h2,h3,fun x hx hf'=>?_⟩
    ·rw [forIn_cons,hf,hb,if_neg (by decide)]
     simp only [pure_bind]
     exact h1
    ·rcases mem_cons.mp hx with z | z
     ·subst z;exact absurd hf' hk
     ·exact h4 x z hf'
theorem He {α:Type}:∀{l:List (Str × α)} {n:Str} {c:α},(n,c)∈l->∃d,l.lookup n=some d
 | (k,v) :: r,n,c,h=>by
   rw [lookup_cons]
   cases hx:(n == k) with
   | true=>exact ⟨v,rfl⟩
   | false =>
     rcases mem_cons.mp h with z | z
     ·cases z
      simp at hx
     ·exact He z
theorem CN {env:Env} {sc:Scope} (h:∀x∈sc.names,x.2=.free->∃c,env.cells.lookup x.1=some c) :
 ∃cl,closureFor sc env=pure cl/\(∀y c,cl.lookup y=some c->env.cells.lookup y=some c)/\∀x∈sc.names,x.2=.free->∃c,cl.lookup x.1=some c:=by
 obtain ⟨cl,h1,h2,_,h4⟩:=KW (env:=env) (f:=fun x r=>if (x.2 == NameKind.free)=true then (cellOf env x.1 >>= fun c=>pure (ForInStep.yield ((x.1,c) :: r))) else pure (ForInStep.yield r)) (fun _ _ _=>rfl) sc.names [] h
 refine ⟨cl,?_,fun y c e=>?_,fun x hx hf=>?_⟩
 ·unfold closureFor
  have:(forIn sc.names ([]:List (Str × Addr)) fun x r=>(match x with | (name,kind)=>if (kind == NameKind.free)=true then (do let __do_lift <- cellOf env name;pure (ForInStep.yield ((name,__do_lift) :: r))) else pure (ForInStep.yield r)):Sem (List (Str × Addr)))=pure cl:=h1
  first
   | (simp only [this,pure_bind];done)
   | (simp only [h1,pure_bind];done)
   | (rw [show (forIn sc.names ([]:List (Str × Addr)) _:Sem (List (Str × Addr)))=pure cl from h1];rfl)
 ·rcases h2 (y,c) (PySem.mem_of_lookup e) with z | z
  ·exact absurd z (by simp)
  ·exact z
 ·obtain ⟨c,hc⟩:=h4 x hx hf
  exact He hc
theorem C7 (env:Env):∀(names:List (Str × NameKind)) (y:Str),
 (names.map fun (n,k)=>if (k == NameKind.free && env.scope.kind == .function && env.kindOf n == some .cell) then (n,NameKind.cell) else (n,k)).lookup y
  = (names.lookup y).map fun k=>if (k == NameKind.free && env.scope.kind == .function && env.kindOf y == some .cell) then NameKind.cell else k
 | [],y=>rfl
 | (n,k) :: r,y=>by
   have ih:=C7 env r y
   rw [map_cons]
   dsimp only
   cases hx:(y == n) with
   | true =>
     have e:y=n:=by simpa using hx
     subst e
     by_cases c:(k == NameKind.free && env.scope.kind == .function && env.kindOf y == some .cell)=true
     ·rw [if_pos c];simp only [lookup_cons,hx,Option.map_some];rw [if_pos c]
     ·rw [if_neg c];simp only [lookup_cons,hx,Option.map_some];rw [if_neg c]
   | false =>
     by_cases c:(k == NameKind.free && env.scope.kind == .function && env.kindOf n == some .cell)=true
     ·rw [if_pos c];simp only [lookup_cons,hx];exact ih
     ·rw [if_neg c];simp only [lookup_cons,hx];exact ih
def FB (X:Cx) (ifs:List Expr) (t:TT):Prop :=
 ∀(pins:List (Addr × Obj)) (s:Shared) (σ:St) (H:Hp) (Q:Bool->Hp->Prop),Inv X pins σ H s->t σ H Q ->
  wpAny (model X.prog X.w) X.A (forIn ifs true fun c r=>if r=true then do let ok <- isTrue c X.env (eval c X.env);pure (ForInStep.yield ok) else pure (ForInStep.yield r)) (TP X pins σ Q) X.xe s
def RB:TT:=fun _ H Q=>Q true H
theorem yes {σ:St} {H:Hp} {Q:Bool->Hp->Prop} (h:Q true H):RB σ H Q:=h
theorem AK {X:Cx}:FB X [] RB:=by
 intro pins s σ H Q I h
 rw [forIn_nil]
 exact wpAny_pure ⟨H,I,h⟩
theorem ED {X:Cx} {c:Expr} {t:TT} (hc:PT X c t):FB X [c] t:=by
 intro pins s σ H Q I h
 rw [forIn_cons,if_pos rfl]
 refine wpAny_bind (wpAny_bind (thn (hc pins s σ H Q I h) fun b s1 q=>wpAny_pure ?_))
 dsimp only
 rw [forIn_nil]
 exact wpAny_pure q
theorem ES {α:Type} {t:Sem α} {Q Q':α->Shared->Prop} {M:Model} {A:Around} {E:Value->Shared->Prop} {s:Shared} (h:wpAny M A t Q (fun _ _=>False) s) (hQ:∀a s,Q a s->Q' a s):wpAny M A t Q' E s:=wpAny_mono h hQ fun _ _ z=>z.elim
def JO (wi:TI) (tt:TT) (te:TE):TE:=fun σ H Q=>wi σ H fun J H1=>∀D,H1 D=none->∃W:Nat->Nat->List V->Hp->Prop,(∃m,W 0 m [] (upd H1 D (.lst [])))/\∀i m ys H2,W i m ys H2 ->
 H2 D=some (.lst ys)/\((J.stop i H2/\Q (.ref D) H2)\/(J.go i H2/\ys.length < sizeLine/\∀x H3,J.yld i H2 x H3->tt (σ++[some x]) H3 fun b H4=>if b=true then te (σ++[some x]) H4 fun y H5=>H5 D=some (.lst ys)/\∃m',m' < m/\W (i+1) m' (ys++[y]) (upd H5 D (.lst (ys++[y])))
  else ∃m',m' < m/\W (i+1) m' ys H4))
structure Ei (N Nc:List Str) (x:Str) (sc fsc:Scope):Prop where
 kind:sc.kind=.function
 cell:∀y∈sc.names,y.2≠.cell
 nm:∀y∈sc.names,y.2=.local->sc.names.lookup y.1=some .local
 own:sc.names.lookup x=some .local
 fr:∀y∈sc.names,y.2=.free->fsc.names.lookup y.1=some .cell\/fsc.names.lookup y.1=some .free
 len:Nc.length=N.length+1
 nd:Nc.Nodup
 last:Nc[N.length]?=some x
 slot:((List.range N.length).all fun i=>match Nc[i]? with
  | some y=>(match sc.names.lookup y with | some .free=>N[i]? == some y | some .local=>false | some .cell=>false | _=>true)
  | none=>true)=true
theorem Ei.at {N Nc:List Str} {x:Str} {sc fsc:Scope} (C:Ei N Nc x sc fsc) {i:Nat} {y:Str} (hi:i < N.length) (h:Nc[i]?=some y):sc.names.lookup y≠some .local/\sc.names.lookup y≠some .cell/\(sc.names.lookup y=some .free->N[i]?=some y):=by
 have q:=all_eq_true.mp C.slot i (mem_range.mpr hi)
 rw [h] at q
 dsimp only at q
 cases e:sc.names.lookup y with
 | none=>exact ⟨fun z=>(nomatch z),fun z=>(nomatch z),fun z=>(nomatch z)⟩
 | some k =>
   rw [e] at q
   cases k with
   | «local»=>exact absurd (show false=true from q) Bool.false_ne_true
   | cell=>exact absurd (show false=true from q) Bool.false_ne_true
   | free=>exact ⟨fun z=>(nomatch z),fun z=>(nomatch z),fun _=>by simpa using q⟩
   | _=>exact ⟨fun z=>(nomatch z),fun z=>(nomatch z),fun z=>(nomatch z)⟩
section
variable {X:Cx} {elt iter:Expr} {x:Str} {px pos:Pos} {ifs:List Expr} {sc fsc:Scope} {N Nc:List Str} {wi:TI} {tt:TT} {te:TE}
structure Em (X:Cx) (pins:List (Addr × Obj)) (H:Hp) (C:Addr):Prop where
 free:H C=none
 ne:C≠X.env.locals
 new:X.s₀.heap.objs.size<=C
 cells:∀x c,X.env.cells.lookup x=some c->c≠C
 pins:∀p∈X.pn++pins,p.1≠C
theorem Inv.sameBut {pins:List (Addr × Obj)} {σ:St} {H:Hp} {s:Shared} {C:Addr} {h':Heap} (I:Inv X pins σ H s) (c:Em X pins H C) (k:Heap.SameBut C s.heap h'):Inv X pins σ H { s with heap:=h' } :=
 I.turned (t':=s.toks) (it:=C) (fun b o hb e=>(k.2 b hb).trans e) c.free c.ne (.inr c.new) c.cells c.pins
theorem Kb {σ:St} {o v:Option V}:(σ++[o]).set σ.length v=σ++[v]:=by
 rw [set_append_right _ _ (Nat.le_refl _),Nat.sub_self]
 rfl
theorem NM (I:∀y,(X.env.kindOf y=some .cell\/X.env.kindOf y=some .free)->∃c,X.env.cells.lookup y=some c) (hE:X.env.scope=fsc) (cn:Ei N Nc x sc fsc):∀y∈sc.names,y.2=.free->∃c,X.env.cells.lookup y.1=some c:=fun y hy hf=>by
 refine I y.1 ?_
 show X.env.scope.names.lookup y.1=some .cell\/X.env.scope.names.lookup y.1=some .free
 rw [hE]
 exact cn.fr y hy hf
end
theorem Bv {lo:Int} {n:Nat} {tt:TT} {te:TE} {σ:St} {H1:Hp} {Q:Addr->Hp->Prop} (hn:n<=sizeLine) (Pv:Addr->Nat->List V->Hp->Prop)
 (h0:∀D,H1 D=none->Pv D 0 [] (upd H1 D (.lst []))) (hD:∀D i ys H,Pv D i ys H->H D=some (.lst ys)/\ys.length<=i)
 (hs:∀D i ys H (K1:VK) (K2:Hp->Prop),H1 D=none->i < n->Pv D i ys H->(∀y H5,H5 D=some (.lst ys)->Pv D (i+1) (ys++[y]) (upd H5 D (.lst (ys++[y])))->K1 y H5)->(∀H4,Pv D (i+1) ys H4->K2 H4) ->
  tt (σ++[some (.int (lo+i))]) H fun b H4=>if b=true then te (σ++[some (.int (lo+i))]) H4 K1 else K2 H4)
 (hd:∀D ys H,H1 D=none->Pv D n ys H->Q D H) :
 ∀D,H1 D=none->∃W:Nat->Nat->List V->Hp->Prop,(∃m,W 0 m [] (upd H1 D (.lst [])))/\∀i m ys H2,W i m ys H2 ->
  H2 D=some (.lst ys)/\(((Itr lo n).stop i H2/\Q D H2)\/((Itr lo n).go i H2/\ys.length < sizeLine/\∀x H3,(Itr lo n).yld i H2 x H3->tt (σ++[some x]) H3 fun b H4=>if b=true then te (σ++[some x]) H4 fun y H5=>H5 D=some (.lst ys)/\∃m',m' < m/\W (i+1) m' (ys++[y]) (upd H5 D (.lst (ys++[y])))
   else ∃m',m' < m/\W (i+1) m' ys H4)):=by
 intro D hDn
 refine ⟨fun i m ys H=>m=n - i/\i<=n/\Pv D i ys H,⟨n,rfl,Nat.zero_le _,h0 D hDn⟩,?_⟩
 rintro i m ys H2 ⟨rfl,hi,p⟩
 obtain ⟨e,l⟩:=hD D i ys H2 p
 refine ⟨e,?_⟩
 by_cases hlt:i < n
 ·refine .inr ⟨hlt,Nat.lt_of_le_of_lt l (Nat.lt_of_lt_of_le hlt hn),fun x H3 y=>?_⟩
  obtain ⟨e1,e2⟩:=y
  subst e1 e2
  exact hs D i ys _ _ _ hDn hlt p (fun y H5 h5 p5=>⟨h5,n - (i+1),by omega,rfl,hlt,p5⟩) fun H4 p4=>⟨n - (i+1),by omega,rfl,hlt,p4⟩
 ·have ei:i=n:=by omega
  subst ei
  exact .inl ⟨Nat.le_refl _,hd D ys H2 hDn p⟩
theorem AS {K:PySem.W.Frag} {a:Addr} {xs:List V} {tt:TT} {te:TE} {σ:St} {H1:Hp} {Q:Addr->Hp->Prop} (hn:xs.length<=sizeLine) (Pv:Addr->Nat->List V->Hp->Prop)
 (h0:∀D,H1 D=none->Pv D 0 [] (upd H1 D (.lst []))) (hD:∀D i ys H,Pv D i ys H->H D=some (.lst ys)/\ys.length<=i) (hl:∀D i ys H,H1 D=none->Pv D i ys H->SqL K H a xs)
 (hs:∀D i x ys H (K1:VK) (K2:Hp->Prop),H1 D=none->xs[i]?=some x->Pv D i ys H->(∀y H5,H5 D=some (.lst ys)->Pv D (i+1) (ys++[y]) (upd H5 D (.lst (ys++[y])))->K1 y H5)->(∀H4,Pv D (i+1) ys H4->K2 H4) ->
  tt (σ++[some x]) H fun b H4=>if b=true then te (σ++[some x]) H4 K1 else K2 H4)
 (hd:∀D ys H,H1 D=none->Pv D xs.length ys H->Q D H) :
 ∀D,H1 D=none->∃W:Nat->Nat->List V->Hp->Prop,(∃m,W 0 m [] (upd H1 D (.lst [])))/\∀i m ys H2,W i m ys H2 ->
  H2 D=some (.lst ys)/\(((Itl K a).stop i H2/\Q D H2)\/((Itl K a).go i H2/\ys.length < sizeLine/\∀x H3,(Itl K a).yld i H2 x H3->tt (σ++[some x]) H3 fun b H4=>if b=true then te (σ++[some x]) H4 fun y H5=>H5 D=some (.lst ys)/\∃m',m' < m/\W (i+1) m' (ys++[y]) (upd H5 D (.lst (ys++[y])))
   else ∃m',m' < m/\W (i+1) m' ys H4)):=by
 intro D hDn
 refine ⟨fun i m ys H=>m=xs.length - i/\i<=xs.length/\Pv D i ys H,⟨xs.length,rfl,Nat.zero_le _,h0 D hDn⟩,?_⟩
 rintro i m ys H2 ⟨rfl,hi,p⟩
 obtain ⟨e,l⟩:=hD D i ys H2 p
 have q:=hl D i ys H2 hDn p
 refine ⟨e,?_⟩
 by_cases hlt:i < xs.length
 ·refine .inr ⟨⟨xs,xs[i],q,by simp [hlt]⟩,Nat.lt_of_le_of_lt l (Nat.lt_of_lt_of_le hlt hn),fun x H3 y=>?_⟩
  obtain ⟨e1,y⟩:=y
  subst e1
  exact hs D i x ys _ _ _ hDn (y xs q) p (fun y H5 h5 p5=>⟨h5,xs.length - (i+1),by omega,rfl,hlt,p5⟩) fun H4 p4=>⟨xs.length - (i+1),by omega,rfl,hlt,p4⟩
 ·have ei:i=xs.length:=by omega
  subst ei
  exact .inl ⟨⟨xs,q,Nat.le_refl _⟩,hd D ys H2 hDn p⟩
section
variable {X:Cx}
theorem Bn (K:PySem.W.Frag) (h:X.K=K:=by rfl):IxR X (RE K):=by subst h;exact Al
theorem Gy (K:PySem.W.Frag) (h:X.K=K:=by rfl):IxR X (QY K):=by subst h;exact Bl
theorem L3 (K:PySem.W.Frag) (h:X.K=K:=by rfl):OpR X (compareOp .In) (rIn K false):=by subst h;exact Io
end
end L2
namespace L2
open PySem PySem.Spec PyProof.Rows
section
variable {X:Cx}
theorem Ki (hc:X.calm=true):Db X (.builtin "sum") (fun xs H Q=>∃(p:Addr) (ns:List Int),xs=[.ref p]/\SqL X.K H p (ns.map V.int)/\Q (.int ns.sum) H):=by
 intro pins s σ H xs us Q I rv h
 obtain ⟨p,ns,rfl,hS,q⟩:=h
 obtain ⟨u,rfl,r⟩:=E1 rv
 cases r
 obtain ⟨its,rv,pl,hz⟩:=I.list hS
 have hi:=Co rv
 obtain ⟨xs,e⟩:=hi.allInts.items
 have en:xs.toList.map (·.1)=ns:=by
  have:=nums_intItems xs
  rw [<- e,show its.toArray.toList=its from rfl,hi.numsOf] at this
  exact this.symm
 refine sum_intListG (I.ok.hd hc) (by rw [<- e];exact pl.isList) fun h' tk t' hk=>?_
 rw [preSum_eq,take_of_length_le (by simp),en]
 exact ⟨.int ns.sum,H,I.kept hk,⟨_,rfl⟩,q⟩
theorem P9:MtR X "int.bit_length" (fun x xs H Q=>∃i:Int,x=.int i/\xs=[]/\Q (.int (Builtin.Int.intBits i:Nat)) H):=by
 intro pins s σ H x xs v us Q I rx rv h
 obtain ⟨i,rfl,rfl,q⟩:=h
 obtain ⟨t,rfl⟩:=rx
 cases rv
 exact call_int_bit_length ⟨.int _,H,I.tok _,⟨_,rfl⟩,q⟩
end
end L2
namespace L2
open PySem PySem.Spec PyProof.Rows
section
variable {M:Model} {A:Around} {E:Value->Shared->Prop} {s:Shared} {env:Env} {outer:List Env} {L e:Addr} {base:Heap}
end
end L2
namespace L2
open PySem PySem.Spec PyProof.Rows
section
variable {X:Cx} {pins:List (Addr × Obj)} {σ:St} {H:Hp} {s:Shared} {e:Addr} {cls:Value} {od:Option Addr}
end
section
variable {X:Cx} {pins:List (Addr × Obj)} {σ:St} {H:Hp} {s s':Shared} {E:XK} {ev:Value}
end
section
variable {X:Cx} {W:St->XK} {k:Nat} {f:Addr} {fd:FuncData} {ps:List Str} {sp:Sp} {dvs:List V} {ds:List Value} {x:Str} {p pos:Pos} {e:Expr} {es:List Expr} {t:TA}
end
end L2
namespace L2
open PySem PySem.Spec PyProof.Rows
section
variable {X:Cx} {W:St->XK} {C:Addr} {x:Str} {p cpos pos:Pos} {e:Expr} {es:List Expr} {t:TA}
end
section
variable {X:Cx} {pins:List (Addr × Obj)} {σ:St} {H:Hp} {s:Shared} {e:Addr} {cls:Value} {od:Option Addr}
end
section
variable {X:Cx} {pins:List (Addr × Obj)} {σ:St} {H:Hp} {s:Shared} {e C:Addr} {cls:Value} {od:Option Addr} {x n:Str} {i:Nat} {np pos:Pos} {b₀:Stmt} {suite:List Stmt} {rest:List ExceptHandler} {ts:TS} {tr:TH}
end
end L2
namespace L2
open PySem PySem.Spec PyProof.Rows
section
variable {prog:Program} {w:World} {A:Around} {E:Value->Shared->Prop} {s:Shared} {K:PySem.W.Frag} {a C:Addr} {o:Obj} {od:Option Obj} {name:Str} {tk:Tok}
end
section
variable {X:Cx}
end
end L2
namespace L2
open PySem PySem.Spec PyProof.Rows
section
variable {X:Cx}
end
section
variable {K:PySem.W.Frag} {H H':Hp} {x:V} {b:Bool}
end
section
variable {K:PySem.W.Frag} {A B:Addr}
end
end L2
namespace L2
open PySem PySem.Spec PyProof.Rows
end L2
namespace L2
open PySem PySem.Spec PyProof.Rows
section
variable {prog:Program} {w:World} {A:Around} {E:Value->Shared->Prop} {s:Shared} {K:PySem.W.Frag} {C P f x:Addr} {ox:Obj} {od:Option Obj} {name:Str} {v:Value}
end
end L2
namespace L2
open PySem PySem.Spec PyProof.Rows
section
variable {prog:Program} {w:World} {A:Around} {E:Value->Shared->Prop} {h:Heap} {g:Array GenState} {d:Drawn} {t:Nat} {os:OsState}
variable {nm q:Str} {C N:Addr} {bs bm:List Value} {hd:Bool} {sn:List Str} {sub:List Value} {ab:Bool} {col:Option Bool} {dd:Option Addr} {k0 k1 k2 k3 k5:Option Value}
end
section
variable {X:Cx} {W:St->XK} {C P fi:Addr} {k:Nat} {fd:FuncData} {ps ns:List Str} {x:Str} {p cpos pos:Pos} {e:Expr} {es:List Expr} {t:TA}
end
end L2
namespace L2
open PySem PySem.Spec PyProof.Rows
mutual
inductive Rep (K:PySem.W.Frag) (H:Hp):V->PyData->Prop
 | non:Rep K H .non .none
 | bl (b:Bool):Rep K H (.bl b) (.bool b)
 | int (i:Int):Rep K H (.int i) (.int i)
 | str (x:Str):Rep K H (.str x) (.str x)
 | lst {a:Addr} {xs:List V} {ds:List PyData}:SqL K H a xs->Reps K H xs ds->Rep K H (.ref a) (.list ds)
 | tup {a:Addr} {xs:List V} {ds:List PyData}:SqT K H a xs->Reps K H xs ds->Rep K H (.ref a) (.tuple ds)
inductive Reps (K:PySem.W.Frag) (H:Hp):List V->List PyData->Prop
 | nil:Reps K H [] []
 | cons {x:V} {xs:List V} {d:PyData} {ds:List PyData}:Rep K H x d->Reps K H xs ds->Reps K H (x :: xs) (d :: ds)
end
section
variable {K:PySem.W.Frag} {H H':Hp}
mutual
theorem Rep.same (e:Av H H'):∀{x:V} {d:PyData},Rep K H x d->Rep K H' x d
 | _,_,.non=>.non
 | _,_,.bl b=>.bl b
 | _,_,.int i=>.int i
 | _,_,.str x=>.str x
 | _,_,.lst h r=>.lst (e.seq h) (Reps.same e r)
 | _,_,.tup h r=>.tup (by
  rcases h with (h | ⟨o,h⟩) | h
  ·exact .inl (.inl (e _ _ h))
  ·exact .inl (.inr ⟨o,e _ _ h⟩)
  ·exact .inr h) (Reps.same e r)
theorem Reps.same (e:Av H H'):∀{xs:List V} {ds:List PyData},Reps K H xs ds->Reps K H' xs ds
 | _,_,.nil=>.nil
 | _,_,.cons r t=>.cons (Rep.same e r) (Reps.same e t)
end
theorem Reps.ints:∀(ns:List Int),Reps K H (ns.map V.int) (ns.map PyData.int)
 | []=>.nil
 | n :: ns=>.cons (.int n) (Reps.ints ns)
end
section
variable {X:Cx} {pins:List (Addr × Obj)} {σ:St} {H:Hp} {s:Shared}
mutual
theorem Inv.reads (I:Inv X pins σ H s):∀{x:V} {d:PyData},Rep X.K H x d->∀{v:Value},A8 x v->∃as,Reads s.heap v d as
 | _,_,.non,v,r=>by cases (show v=Value.none from r);exact ⟨_,.none⟩
 | _,_,.bl b,v,r=>by cases (show v=Value.bool b from r);exact ⟨_,.bool b⟩
 | _,_,.int i,v,r=>by obtain ⟨t,e⟩:=(show ∃t,v=Value.int i t from r);cases e;exact ⟨_,.int i t⟩
 | _,_,.str x,v,r=>by obtain ⟨t,e⟩:=(show ∃t,v=Value.str x t from r);cases e;exact ⟨_,.str x t⟩
 | _,_,.lst (a:=a) h rs,v,r=>by
   cases (show v=Value.ref a from r)
   obtain ⟨its,rv,⟨o,n,e1,e2,_,e4⟩,_⟩:=I.list h
   obtain ⟨as,q⟩:=Inv.readsAll I rs rv
   exact ⟨_,.list e1 e2 e4 q⟩
 | _,_,.tup (a:=a) h rs,v,r=>by
   cases (show v=Value.ref a from r)
   obtain ⟨its,rv,⟨o,e1,e2,n,e4⟩,_⟩:=I.tuple h
   obtain ⟨as,q⟩:=Inv.readsAll I rs rv
   exact ⟨_,.tuple e1 e2 e4 q⟩
theorem Inv.readsAll (I:Inv X pins σ H s):∀{xs:List V} {ds:List PyData},Reps X.K H xs ds->∀{vs:List Value},A7 xs vs->∃as,ReadsAll s.heap vs ds as
 | _,_,.nil,_,.nil=>⟨_,.nil⟩
 | _,_,.cons r t,_,.cons q u=>by
   obtain ⟨a1,h1⟩:=Inv.reads I r q
   obtain ⟨a2,h2⟩:=Inv.readsAll I t u
   exact ⟨_,.cons h1 h2⟩
end
def RO (K:PySem.W.Frag):R2:=fun x y H Q=>∃d e,Rep K H x d/\Rep K H y e/\PySem.SeqAt.shaped d=true/\PySem.SeqAt.shaped e=true/\Q (.bl (PyData.eqv d e)) H
def RS (K:PySem.W.Frag):R2:=fun x y H Q=>∃d e,Rep K H x d/\Rep K H y e/\PySem.SeqAt.shaped d=true/\PySem.SeqAt.shaped e=true/\Q (.bl (!PyData.eqv d e)) H
theorem Qy {K:PySem.W.Frag} (hu:X.A.units+64 < cLine) (hK:X.K=K:=by rfl):OpR X (compareOp .Eq) (RO K):=by
 subst hK
 intro pins s σ H x y v u Q I rx ry h
 obtain ⟨d,e,hx,hy,s1,s2,q⟩:=h
 obtain ⟨as,r1⟩:=I.reads hx rx
 obtain ⟨bs,r2⟩:=I.reads hy ry
 exact eq_dataH r1 r2 s1 s2 hu ⟨.bl _,H,I,rfl,q⟩
theorem FQ {K:PySem.W.Frag} (hu:X.A.units+64 < cLine) (hK:X.K=K:=by rfl):OpR X (compareOp .NotEq) (RS K):=by
 subst hK
 intro pins s σ H x y v u Q I rx ry h
 obtain ⟨d,e,hx,hy,s1,s2,q⟩:=h
 obtain ⟨as,r1⟩:=I.reads hx rx
 obtain ⟨bs,r2⟩:=I.reads hy ry
 exact ne_dataH r1 r2 s1 s2 hu ⟨.bl _,H,I,rfl,q⟩
end
end L2
namespace L2
open PySem PySem.W PySem.Spec PyProof.Rows
section
variable {O:KeyOrd} {ky:Nat->O.α} {n:Nat} {cmp:Nat->Nat->(Bool->Shared->Prop)->Shared->Prop} {J:Shared->Prop}
noncomputable def kk (ky:Nat->O.α) (p:Array Nat) (i:Nat):O.α:=ky (p.getD i 0)
def Srt (ky:Nat->O.α) (p:Array Nat) (m:Nat):Prop:=∀i j,i<=j->j < m->O.kle (kk ky p i) (kk ky p j)
def Fal (ky:Nat->O.α) (p:Array Nat) (m:Nat):Prop:=∀i j,i<=j->j < m->O.kle (kk ky p j) (kk ky p i)
def Prm (n:Nat) (p:Array Nat):Prop:=p.toList.Perm (List.range n)
def Jn (O:KeyOrd) (ky:Nat->O.α) (n:Nat) (cmp:Nat->Nat->(Bool->Shared->Prop)->Shared->Prop) (J:Shared->Prop):Prop :=
 ∀i j (C:Bool->Shared->Prop) s,i < n->j < n->J s->(∀s',J s'->C (O.blt (ky i) (ky j)) s')->cmp i j C s
theorem Prm.size {p:Array Nat} (h:Prm n p):p.size=n:=by
 have:=h.length_eq
 rw [length_range] at this
 exact this
theorem Prm.lt {p:Array Nat} (h:Prm n p) {k:Nat} (hk:k < n):p.getD k 0 < n:=by
 have hz:=h.size
 have e:p.getD k 0=p[k]'(by omega):=by simp [Array.getD,hz,hk]
 rw [e]
 exact mem_range.mp (h.mem_iff.mp (by simp))
theorem Prm.rev {p:Array Nat} (h:Prm n p) (i j:Nat):Prm n (kas_rev p i j):=(mirror_perm p i j _).toList.trans h
theorem Prm.bub {p:Array Nat} (h:Prm n p) (k d:Nat):Prm n (bubble p k d):=(bubble_perm p k d).toList.trans h
theorem Fa {p q:Array Nat} {i j:Nat} (e:p[i]?=q[j]?):p.getD i 0=q.getD j 0:=by
 rw [Array.getD_eq_getD_getElem?,Array.getD_eq_getD_getElem?,e]
theorem FU {p:Array Nat} {i j:Nat} (hj:j<=p.size) (k:Nat):kk ky (kas_rev p i j) k=if i<=k/\k < j then kk ky p (i+j - 1 - k) else kk ky p k:=by
 have e:=getElem?_mirror_all (xs:=p) (i:=i) hj k
 unfold kk kas_rev
 by_cases c:i<=k/\k < j
 ·rw [if_pos c] at e ⊢
  rw [Fa e]
 ·rw [if_neg c] at e ⊢
  rw [Fa e]
theorem Ob {p:Array Nat} {src d:Nat} (hs:src < p.size) (hd:d<=src) (k:Nat) :
 kk ky (bubble p src d) k=if k=src - d then kk ky p src else if src - d < k/\k<=src then kk ky p (k - 1) else kk ky p k:=by
 have e:=getElem?_bubble hs d hd k
 unfold kk
 by_cases c:k=src - d
 ·rw [if_pos c] at e ⊢
  rw [Fa e]
 ·rw [if_neg c] at e ⊢
  by_cases c2:src - d < k/\k<=src
  ·rw [if_pos c2] at e ⊢
   rw [Fa e]
  ·rw [if_neg c2] at e ⊢
   rw [Fa e]
theorem Srt.succ {p:Array Nat} {m:Nat} (h:Srt ky p m) (h1:1<=m) (c:O.kle (kk ky p (m - 1)) (kk ky p m)):Srt ky p (m+1):=fun i j hij hj=>by
 by_cases e:j=m
 ·subst e
  by_cases e2:i=j
  ·subst e2
   exact KeyOrd.kle_refl _
  ·exact KeyOrd.kle_trans (h i (j - 1) (by omega) (by omega)) c
 ·exact h i j hij (by omega)
theorem Fal.succ {p:Array Nat} {m:Nat} (h:Fal ky p m) (h1:1<=m) (c:O.kle (kk ky p m) (kk ky p (m - 1))):Fal ky p (m+1):=fun i j hij hj=>by
 by_cases e:j=m
 ·subst e
  by_cases e2:i=j
  ·subst e2
   exact KeyOrd.kle_refl _
  ·exact KeyOrd.kle_trans c (h i (j - 1) (by omega) (by omega))
 ·exact h i j hij (by omega)
theorem Srt.one {p:Array Nat}:Srt ky p 1:=fun i j hij hj=>by
 have:i=j:=by omega
 subst this
 exact KeyOrd.kle_refl _
theorem Fal.rev {p:Array Nat} {m:Nat} (hz:m<=p.size) (h:Fal ky p m):Srt ky (kas_rev p 0 m) m:=fun i j hij hj=>by
 rw [FU hz,FU hz,if_pos ⟨Nat.zero_le _,by omega⟩,if_pos ⟨Nat.zero_le _,hj⟩]
 exact h _ _ (by omega) (by omega)
theorem Fal.revEq {p:Array Nat} {i j m:Nat} (hz:j<=p.size) (hm:j<=m) (h:Fal ky p m) (eq:∀a b,i<=a->a < j->i<=b->b < j->O.kle (kk ky p a) (kk ky p b)):Fal ky (kas_rev p i j) m:=fun a b hab hb=>by
 rw [FU hz,FU hz]
 by_cases c1:i<=a/\a < j
 ·rw [if_pos c1]
  by_cases c2:i<=b/\b < j
  ·rw [if_pos c2]
   exact eq _ _ (by omega) (by omega) (by omega) (by omega)
  ·rw [if_neg c2]
   exact h _ _ (by omega) hb
 ·rw [if_neg c1]
  by_cases c2:i<=b/\b < j
  ·rw [if_pos c2]
   exact h _ _ (by omega) (by omega)
  ·rw [if_neg c2]
   exact h _ _ hab hb
theorem L7 (ac:Jn O ky n cmp J) {p:Array Nat} (hp:Prm n p) {R:Nat->Shared->Prop}:∀(f a:Nat) (s:Shared),1<=a->a+f<=n->Srt ky p a->J s ->
 (∀m s',a<=m->m<=a+f->Srt ky p m->(m < a+f->O.klt (kk ky p m) (kk ky p (m - 1)))->J s'->R m s')->(kas_asc p f a).kasWp cmp R s
 | 0,a,s,h1,hz,hs,hJ,k=>k a s (Nat.le_refl _) (Nat.le_refl _) hs (fun h=>absurd h (Nat.lt_irrefl _)) hJ
 | f+1,a,s,h1,hz,hs,hJ,k=>by
   refine ac _ _ _ s (hp.lt (by omega)) (hp.lt (by omega)) hJ fun s' hJ'=>?_
   cases e:O.blt (ky (p.getD a 0)) (ky (p.getD (a - 1) 0)) with
   | true =>
     dsimp only
     rw [if_pos rfl]
     exact k a s' (Nat.le_refl _) (by omega) hs (fun _=>e) hJ'
   | false =>
     dsimp only
     rw [if_neg Bool.false_ne_true]
     refine L7 ac hp f (a+1) s' (by omega) (by omega) (hs.succ h1 e) hJ' fun m s2 l1 l2 q1 q2 q3=>?_
     exact k m s2 (by omega) (by omega) q1 (fun h=>q2 (by omega)) q3
theorem G5 (ac:Jn O ky n cmp J) {R:Array Nat × Nat × Nat->Shared->Prop}:∀(f:Nat) (p:Array Nat) (m q:Nat) (s:Shared),Prm n p->q+1<=m->m+f<=n->Fal ky p m ->
 (∀a b,m - (q+1)<=a->a < m->m - (q+1)<=b->b < m->O.kle (kk ky p a) (kk ky p b))->J s ->
 (∀p' m' q' s',Prm n p'->q'+1<=m'->m<=m'->m'<=m+f->Fal ky p' m'->(∀a b,m' - (q'+1)<=a->a < m'->m' - (q'+1)<=b->b < m'->O.kle (kk ky p' a) (kk ky p' b))->J s'->R (p',m',q') s') ->
 (kas_desc f p m q).kasWp cmp R s
 | 0,p,m,q,s,hp,hq,hz,hf,he,hJ,k=>k p m q s hp hq (Nat.le_refl _) (Nat.le_refl _) hf he hJ
 | f+1,p,m,q,s,hp,hq,hz,hf,he,hJ,k=>by
   have hsz:=hp.size
   refine ac _ _ _ s (hp.lt (by omega)) (hp.lt (by omega)) hJ fun s' hJ'=>?_
   cases e:O.blt (ky (p.getD m 0)) (ky (p.getD (m - 1) 0)) with
   | true =>
     dsimp only
     rw [if_pos rfl]
     have hf':Fal ky p (m+1):=hf.succ (by omega) (KeyOrd.kle_of_klt e)
     have one:∀p':Array Nat,∀a b,m+1 - (0+1)<=a->a < m+1->m+1 - (0+1)<=b->b < m+1->O.kle (kk ky p' a) (kk ky p' b):=fun p' a b _ _ _ _=>by
      have:a=b:=by omega
      subst this
      exact KeyOrd.kle_refl _
     by_cases c:q > 0
     ·rw [if_pos c]
      refine G5 ac f (kas_rev p (m - (q+1)) m) (m+1) 0 s' (hp.rev _ _) (by omega) (by omega) (hf'.revEq (by omega) (by omega) he) (one _) hJ' fun p' m' q' s2 a1 a2 a3 a4 a5 a6 a7=>?_
      exact k p' m' q' s2 a1 a2 (by omega) (by omega) a5 a6 a7
     ·rw [if_neg c]
      refine G5 ac f p (m+1) 0 s' hp (by omega) (by omega) hf' (one _) hJ' fun p' m' q' s2 a1 a2 a3 a4 a5 a6 a7=>?_
      exact k p' m' q' s2 a1 a2 (by omega) (by omega) a5 a6 a7
   | false =>
     dsimp only
     rw [if_neg Bool.false_ne_true]
     refine ac _ _ _ s' (hp.lt (by omega)) (hp.lt (by omega)) hJ' fun s2 hJ2=>?_
     cases e2:O.blt (ky (p.getD (m - 1) 0)) (ky (p.getD m 0)) with
     | true =>
       dsimp only
       rw [if_pos rfl]
       exact k p m q s2 hp hq (Nat.le_refl _) (by omega) hf he hJ2
     | false =>
       dsimp only
       rw [if_neg Bool.false_ne_true]
       have g1:O.kle (kk ky p (m - 1)) (kk ky p m):=e
       have g2:O.kle (kk ky p m) (kk ky p (m - 1)):=e2
       refine G5 ac f p (m+1) (q+1) s2 hp (by omega) (by omega) (hf.succ (by omega) g2) (fun a b a1 a2 b1 b2=>?_) hJ2 fun p' m' q' s3 c1 c2 c3 c4 c5 c6 c7=>?_
       ·by_cases ea:a=m
        ·by_cases eb:b=m
         ·rw [ea,eb]
          exact KeyOrd.kle_refl _
         ·rw [ea]
          exact KeyOrd.kle_trans g2 (he (m - 1) b (by omega) (by omega) (by omega) (by omega))
        ·by_cases eb:b=m
         ·rw [eb]
          exact KeyOrd.kle_trans (he a (m - 1) (by omega) (by omega) (by omega) (by omega)) g1
         ·exact he a b (by omega) (by omega) (by omega) (by omega)
       ·exact k p' m' q' s3 c1 c2 (by omega) (by omega) c5 c6 c7
theorem Jq (ac:Jn O ky n cmp J) {p:Array Nat} (hp:Prm n p) {m nrem:Nat} {R:Nat × Array Nat->Shared->Prop} {s:Shared} (h1:1<=m) (h2:m<=nrem) (h3:nrem<=n) (hf:Fal ky p m) (hJ:J s)
 (k:∀m' p' s',1<=m'->m'<=nrem->Prm n p'->Srt ky p' m'->J s'->R (m',p') s'):(kas_tail3 m nrem p).kasWp cmp R s:=by
 have hsz:=hp.size
 unfold kas_tail3
 rw [KasT.kasWp_bind]
 refine L7 ac (hp.rev 0 m) (nrem - m) m s h1 (by omega) (hf.rev (by omega)) hJ fun m' s' a1 a2 a3 _ a5=>?_
 exact k m' _ s' (by omega) (by omega) (hp.rev _ _) a3 a5
theorem Gn (ac:Jn O ky n cmp J) {p:Array Nat} (hp:Prm n p) {m nrem:Nat} {R:Nat × Array Nat->Shared->Prop} {s:Shared} (h2:m+1<=nrem) (h3:nrem<=n) (hf:Fal ky p (m+1)) (hJ:J s)
 (k:∀m' p' s',1<=m'->m'<=nrem->Prm n p'->Srt ky p' m'->J s'->R (m',p') s'):(kas_descPart m nrem p).kasWp cmp R s:=by
 unfold kas_descPart
 rw [KasT.kasWp_bind]
 refine G5 ac (nrem - (m+1)) p (m+1) 0 s hp (by omega) (by omega) hf (fun a b _ _ _ _=>?_) hJ fun p' m' q' s' a1 a2 a3 a4 a5 a6 a7=>?_
 ·have:a=b:=by omega
  subst this
  exact KeyOrd.kle_refl _
 ·have hsz:=a1.size
  dsimp only
  by_cases c:q' > 0
  ·rw [if_pos c]
   exact Jq ac (a1.rev _ _) (by omega) (by omega) h3 (a5.revEq (by omega) (Nat.le_refl _) a6) a7 k
  ·rw [if_neg c]
   exact Jq ac a1 (by omega) (by omega) h3 a5 a7 k
theorem NB (ac:Jn O ky n cmp J) {p:Array Nat} (hp:Prm n p) {R:Nat × Array Nat->Shared->Prop} {s:Shared} (h1:1<=n) (hJ:J s)
 (k:∀m' p' s',1<=m'->m'<=n->Prm n p'->Srt ky p' m'->J s'->R (m',p') s'):(kas_count n p).kasWp cmp R s:=by
 have hsz:=hp.size
 unfold kas_count
 rw [KasT.kasWp_bind]
 refine L7 ac hp (n - 1) 1 s (Nat.le_refl _) (by omega) Srt.one hJ fun m s' a1 a2 a3 a4 a5=>?_
 by_cases c:m=n
 ·rw [if_pos (by simpa using c)]
  exact k m p s' a1 (by omega) hp a3 a5
 ·rw [if_neg (by simpa using c)]
  have lt:=a4 (by omega)
  by_cases c1:m > 1
  ·rw [if_pos c1]
   refine ac _ _ _ s' (hp.lt (by omega)) (hp.lt (by omega)) a5 fun s2 hJ2=>?_
   cases e:O.blt (ky (p.getD 0 0)) (ky (p.getD (m - 1) 0)) with
   | true =>
     dsimp only
     rw [if_pos rfl]
     exact k m p s2 a1 (by omega) hp a3 hJ2
   | false =>
     dsimp only
     rw [if_neg Bool.false_ne_true]
     have g:O.kle (kk ky p (m - 1)) (kk ky p 0):=e
     have eq:∀a b,a < m->b < m->O.kle (kk ky p a) (kk ky p b):=fun a b ha hb =>
      KeyOrd.kle_trans (a3 a (m - 1) (by omega) (by omega)) (KeyOrd.kle_trans g (a3 0 b (by omega) hb))
     refine Gn ac (hp.rev 0 m) (by omega) (Nat.le_refl _) ?_ hJ2 k
     intro i j hij hj
     rw [FU (by omega),FU (by omega)]
     by_cases cj:j < m
     ·rw [if_pos ⟨Nat.zero_le _,cj⟩,if_pos ⟨Nat.zero_le _,by omega⟩]
      exact eq _ _ (by omega) (by omega)
     ·have ej:j=m:=by omega
      subst ej
      rw [if_neg (by omega)]
      by_cases ci:i < j
      ·rw [if_pos ⟨Nat.zero_le _,ci⟩]
       exact KeyOrd.kle_trans (KeyOrd.kle_of_klt lt) (eq _ _ (by omega) (by omega))
      ·rw [if_neg (by omega)]
       have:i=j:=by omega
       subst this
       exact KeyOrd.kle_refl _
  ·rw [if_neg c1]
   have em:m=1:=by omega
   subst em
   refine Gn ac hp (by omega) (Nat.le_refl _) ?_ a5 k
   have f1:Fal ky p 1:=fun i j hij hj=>by
    have:i=j:=by omega
    subst this
    exact KeyOrd.kle_refl _
   exact f1.succ (Nat.le_refl _) (KeyOrd.kle_of_klt lt)
theorem GU (ac:Jn O ky n cmp J) {p:Array Nat} (hp:Prm n p) {t:Nat} (ht:t < n) {R:Nat->Shared->Prop}:∀(f l r:Nat) (s:Shared),l<=r->r<=t->r - l<=f->(∀i,i < l->O.kle (kk ky p i) (kk ky p t))->(∀i,r<=i->i < t->O.klt (kk ky p t) (kk ky p i)) ->
 Srt ky p t->J s->(∀l' s',l'<=t->(∀i,i < l'->O.kle (kk ky p i) (kk ky p t))->(∀i,l'<=i->i < t->O.klt (kk ky p t) (kk ky p i))->J s'->R l' s')->(kas_place p t f l r).kasWp cmp R s
 | 0,l,r,s,h1,h2,h3,h4,h5,_,hJ,k=>k l s (by omega) h4 (fun i a b=>h5 i (by omega) b) hJ
 | f+1,l,r,s,h1,h2,h3,h4,h5,hs,hJ,k=>by
   unfold kas_place
   by_cases c:l>=r
   ·rw [if_pos c]
    exact k l s (by omega) h4 (fun i a b=>h5 i (by omega) b) hJ
   ·rw [if_neg c]
    refine ac _ _ _ s (hp.lt ht) (hp.lt (by omega)) hJ fun s' hJ'=>?_
    cases e:O.blt (ky (p.getD t 0)) (ky (p.getD ((l+r) / 2) 0)) with
    | true =>
      dsimp only
      rw [if_pos rfl]
      have g:O.klt (kk ky p t) (kk ky p ((l+r) / 2)):=e
      exact GU ac hp ht f l ((l+r) / 2) s' (by omega) (by omega) (by omega) h4 (fun i a b=>KeyOrd.klt_of_klt_of_kle g (hs _ _ a b)) hs hJ' k
    | false =>
      dsimp only
      rw [if_neg Bool.false_ne_true]
      have g:O.kle (kk ky p ((l+r) / 2)) (kk ky p t):=e
      exact GU ac hp ht f ((l+r) / 2+1) r s' (by omega) h2 (by omega) (fun i a=>KeyOrd.kle_trans (hs i ((l+r) / 2) (by omega) (by omega)) g) h5 hs hJ' k
theorem Ny (ac:Jn O ky n cmp J) {R:Array Nat->Shared->Prop}:∀(f:Nat) (p:Array Nat) (t:Nat) (s:Shared),Prm n p->t+f=n->Srt ky p t->J s->(∀p' s',Prm n p'->Srt ky p' n->J s'->R p' s')->(kas_bin f p t).kasWp cmp R s
 | 0,p,t,s,hp,hz,hs,hJ,k=>k p s hp (by have:t=n:=by omega
                                       subst this;exact hs) hJ
 | f+1,p,t,s,hp,hz,hs,hJ,k=>by
   have hsz:=hp.size
   unfold kas_bin
   rw [KasT.kasWp_bind]
   refine GU ac hp (by omega) t 0 t s (Nat.zero_le _) (Nat.le_refl _) (by omega) (fun i h=>absurd h (Nat.not_lt_zero _)) (fun i a b=>absurd b (by omega)) hs hJ fun l s' a1 a2 a3 hJ'=>?_
   refine Ny ac f (bubble p t (t - l)) (t+1) s' (hp.bub _ _) (by omega) ?_ hJ' k
   intro i j hij hj
   have el:t - (t - l)=l:=by omega
   rw [Ob (by omega) (by omega),Ob (by omega) (by omega),el]
   by_cases ci:i=l
   ·rw [if_pos ci]
    by_cases cj:j=l
    ·rw [if_pos cj]
     exact KeyOrd.kle_refl _
    ·rw [if_neg cj,if_pos ⟨by omega,by omega⟩]
     exact KeyOrd.kle_of_klt (a3 _ (by omega) (by omega))
   ·rw [if_neg ci]
    by_cases ci2:l < i/\i<=t
    ·rw [if_pos ci2,if_neg (by omega),if_pos ⟨by omega,by omega⟩]
     exact hs _ _ (by omega) (by omega)
    ·rw [if_neg ci2]
     by_cases cj:j=l
     ·rw [if_pos cj]
      exact a2 _ (by omega)
     ·rw [if_neg cj]
      by_cases cj2:l < j/\j<=t
      ·rw [if_pos cj2]
       exact hs _ _ (by omega) (by omega)
      ·rw [if_neg cj2]
       exact hs _ _ hij (by omega)
theorem PB (ac:Jn O ky n cmp J) {R:Array Nat->Shared->Prop} {s:Shared} (h1:1<=n) (hJ:J s) (k:∀p s',Prm n p->Srt ky p n->J s'->R p s'):(kas_sort n).kasWp cmp R s:=by
 unfold kas_sort
 rw [KasT.kasWp_bind]
 refine NB ac (List.Perm.refl _) h1 hJ fun m p s' a1 a2 a3 a4 a5=>?_
 dsimp only
 by_cases c:m < n
 ·rw [if_pos c]
  have e:max m 1=m:=by omega
  rw [e]
  exact Ny ac (n - m) p m s' a3 (by omega) a4 a5 k
 ·rw [if_neg c]
  have e:m=n:=by omega
  subst e
  exact k p s' a3 a4 a5
end
end L2
namespace L2
open PySem PySem.W PySem.Spec PyProof.Rows
theorem Eb:∀a b:List Int,HT.lexLt a b=decide (a < b)
 | [],[]=>by simp [HT.lexLt]
 | [],_ :: _=>by simp [HT.lexLt]
 | _ :: _,[]=>by simp [HT.lexLt]
 | x :: xs,y :: ys=>by
   rw [HT.lexLt_cons,Eb xs ys]
   by_cases e:x=y
   ·subst e
    rw [if_pos rfl]
    simp [cons_lt_cons_iff]
   ·rw [if_neg e]
    simp [cons_lt_cons_iff,e]
noncomputable def P4:KeyOrd where
 α:=List Int
 blt a b:=HT.lexLt a b
 irrefl a:=by rw [Eb];simpa using List.lt_irrefl a
 trans a b c h1 h2:=by
  rw [Eb] at *
  simp only [decide_eq_true_eq] at *
  exact List.lt_trans h1 h2
 negTrans a b c h:=by
  rw [Eb] at h
  rw [Eb,Eb]
  simp only [decide_eq_true_eq] at *
  by_cases hab:a < b
  ·exact .inl hab
  ·exact .inr (List.lt_of_le_of_lt (List.not_lt.mp hab) h)
 total a b h1 h2:=by
  rw [Eb] at *
  simp only [decide_eq_false_iff_not] at *
  exact List.le_antisymm (List.not_lt.mp h2) (List.not_lt.mp h1)
def Ej (h:Heap) (v:Value) (ns:List Int):Prop:=∃a its,v=.ref a/\IsTup h a its/\IntsAre its.toList ns
section
variable {prog:Program} {w:World} {A:Around} {E:Value->Shared->Prop} {s:Shared} {Q:Bool->Shared->Prop}
theorem LK {fin bb:Bool}:∀{vs us:List Value} {ns ms:List Int} (i:Nat),IntsAre vs ns->IntsAre us ms->Q (HT.lexLt ns ms) s->fin=decide (vs.length < us.length)->KatLex prog w A bb fin Q (vs.zip us) i s
 | _,_,_,_,i,.nil,.nil,h,e=>by
   refine kat_nil ?_
   rw [e]
   exact h
 | _,_,_,_,i,.nil,.cons _ _ _,h,e=>by
   refine kat_nil ?_
   rw [e]
   simpa [HT.lexLt] using h
 | _,_,_,_,i,.cons _ _ _,.nil,h,e=>by
   refine kat_nil ?_
   rw [e]
   simpa [HT.lexLt] using h
 | _,_,_,_,i,.cons (vs:=vs) (ns:=ns) x t hv,.cons (vs:=us) (ns:=ms) y u hu,h,e=>by
   refine kat_cons (wpAny_eqBool_int (kat_go (fun c=>?_) (fun c=>?_)))
   ·have xy:x=y:=by simpa using c
    subst xy
    refine kat_yes (LK (i+1) hv hu ?_ ?_)
    ·simpa [HT.lexLt] using h
    ·rw [e]
     simp
   ·have xy:¬ x=y:=by simpa using c
    refine kat_no ?_
    have h':Q (decide (x < y)) s:=by simpa [HT.lexLt,xy] using h
    cases (bb && i == 0) with
    | true=>exact oneLt_int h'
    | false=>exact kat_one _ _ (lt_int h')
def Ml (κ:SortKind):Prop:=(∃b,κ=tuples' b)\/κ=general'\/κ=oneType'
theorem Q3 {κ:SortKind} {x y:Value} {ns ms:List Int} (hk:Ml κ) (hx:Ej s.heap x ns) (hy:Ej s.heap y ms) (hu:A.units < cLine) (h:Q (HT.lexLt ns ms) s):wpAny (model prog w) A (keyLt' κ x y) Q E s:=by
 obtain ⟨a,its,rfl,ta,ia⟩:=hx
 obtain ⟨b,jts,rfl,tb,ib⟩:=hy
 rcases hk with ⟨bb,rfl⟩ | rfl | rfl
 ·obtain ⟨o,ho,hc,n,hd⟩:=ta
  obtain ⟨o2,ho2,hc2,n2,hd2⟩:=tb
  exact kat_lt ho hd ho2 hd2 (LK 0 ia ib h (by simp))
 ·exact kat_one _ _ (HT.lt_tupInts ta tb ia ib hu h)
 ·rw [keyLt'_oneType,oneLt'_eq]
  simp only [if_true]
  refine wpAny_bind (wpAny_cRoomFor hu ?_)
  obtain ⟨⟨cls,dd,data,sl⟩,ho,hc,n,hd⟩:=id ta
  obtain ⟨⟨cls2,dd2,data2,sl2⟩,ho2,hc2,n2,hd2⟩:=id tb
  simp only at hc hd hc2 hd2
  subst hc hd hc2 hd2
  refine wpAny_bind (wpAny_callSpecialIfBound?_slot (T:="tuple") ⟨_,ho,rfl⟩ PySem.F.slot_tuple_lt (call_meets PySem.F.slot_tuple_lt ⟨_,ho,rfl⟩ PySem.F.entry_tuple_lt (PySem.F.args_tuple_lt_2 _ _) (HT.tuple_lt_ints a b its jts n n2 dd dd2 sl sl2 ns ms ia ib) ⟨ho,ho2,?_⟩))
  exact wpAny_truthy_bool h
theorem LA:∀{l:List Value} {ns:List Int},IntsAre l ns->∀{v:Value},l[0]?=some v->∃n t,v=Value.int n t
 | _,_,.nil,v,e=>by simp at e
 | _,_,.cons n t _,v,e=>⟨n,t,by simpa using e.symm⟩
theorem JE {α β:Type} {f:α->Sem β}:∀(l:List α) {R:List β->Shared->Prop},(∀v∈l,∀(Q':β->Shared->Prop),(∀r,Q' r s)->wpAny (model prog w) A (f v) Q' E s)->(∀rs,R rs s)->wpAny (model prog w) A (l.mapM f) R E s
 | [],_,_,h=>by
   rw [mapM_nil]
   exact wpAny_pure (h [])
 | x :: l,R,hf,h=>by
   rw [mapM_cons]
   exact wpAny_bind (hf x (.head _) _ fun r=>wpAny_bind (JE l (R:=fun bs s'=>wpAny (model prog w) A (pure (r :: bs)) R E s') (fun v hv=>hf v (.tail _ hv)) fun rs=>wpAny_pure (h _)))
theorem KM {l:List Value} {R:Option Value->Shared->Prop} (hf:∀v∈l,∀(Q':Value->Shared->Prop),(∀r,Q' r s)->wpAny (model prog w) A (typeOf v) Q' E s) (h:∀r,R r s):wpAny (model prog w) A (oneTypeOnly' l.toArray) R E s:=by
 rw [oneTypeOnly'_eq,mapM_toArray,map_eq_pure_bind]
 refine wpAny_bind (wpAny_bind (JE l hf fun rs=>wpAny_pure ?_))
 cases rs.toArray[0]? with
 | none=>exact wpAny_pure (h _)
 | some t=>exact wpAny_pure (h _)
theorem Lv {rows:List (List Int)}:∀{vs:List Value},Paired (Ej s.heap) vs rows->∀{R:List (Option Value)->Shared->Prop},(∀fs,fs.length=vs.length->(∀f∈fs,∀v,f=some v->∃n t,v=Value.int n t)->R fs s) ->
 wpAny (model prog w) A (vs.mapM firstOfTuple') R E s:=by
 intro vs hp
 induction hp with
 | nil =>
   intro R h
   rw [mapM_nil]
   exact wpAny_pure (h [] rfl (fun f m=>nomatch m))
 | cons hx hr ih =>
   intro R h
   obtain ⟨a,its,rfl,⟨o,ho,hc,n,hd⟩,ia⟩:=hx
   rw [mapM_cons]
   refine wpAny_bind ?_
   rw [kas_first_eq]
   refine wpAny_bind (Looks.here (show Looks (model prog w) s.heap (typeOf (.ref a)) o.cls from (Looks.ld ho).andThen .now) ?_)
   rw [hc,if_neg (by first | decide | simp)]
   refine wpAny_bind (listItems_at ho hd (wpAny_pure ?_))
   refine wpAny_bind (ih fun fs l1 l2=>wpAny_pure (h _ (by rw [length_cons,length_cons,l1]) fun f m v e=>?_))
   rcases mem_cons.mp m with m | m
   ·subst m
    have e':its.toList[0]?=some v:=by simpa using e
    exact LA ia e'
   ·exact l2 f m v e
theorem O6 {vs:List Value} {rows:List (List Int)} (hp:Paired (Ej s.heap) vs rows) {R:SortKind->Shared->Prop} (h:∀κ,Ml κ->R κ s):wpAny (model prog w) A (keyKind' vs.toArray) R E s:=by
 rw [kat_kind_eq,mapM_toArray,map_eq_pure_bind]
 refine wpAny_bind (wpAny_bind (Lv hp fun fs l1 l2=>wpAny_pure ?_))
 by_cases c:(fs.toArray.all fun x=>x.isSome)=true
 ·rw [if_pos c]
  refine wpAny_bind (wpAny_rule ?_)
  have e:fs.toArray.filterMap id=(fs.filterMap id).toArray:=by simp
  rw [e]
  refine wpAny_bind (KM (fun v hv Q' hq=>?_) fun r=>wpAny_pure (h _ (.inl ⟨_,rfl⟩)))
  obtain ⟨f,fm,fe⟩:=mem_filterMap.mp hv
  obtain ⟨n,t,rfl⟩:=l2 f fm v fe
  exact wpAny_of_eq (a:=Value.type "int") rfl (hq _)
 ·rw [if_neg c]
  by_cases c2:(fs.toArray[0]?.bind id).isSome=true
  ·rw [if_pos c2]
   exact wpAny_pure (h _ (.inr (.inl rfl)))
  ·rw [if_neg c2]
   refine wpAny_bind (KM (fun v hv Q' hq=>?_) fun r=>?_)
   ·obtain ⟨ns,hr⟩:∃ns,Ej s.heap v ns:=by
     clear l1 l2 c c2
     induction hp with
     | nil=>cases hv
     | cons hx _ ih =>
       rcases mem_cons.mp hv with m | m
       ·exact ⟨_,m ▸ hx⟩
       ·exact ih m
    obtain ⟨a,its,rfl,⟨o,ho,hc,n,hd⟩,ia⟩:=hr
    exact Looks.here (show Looks (model prog w) s.heap (typeOf (.ref a)) o.cls from (Looks.ld ho).andThen .now) (hq _)
   ·cases r with
    | none=>exact wpAny_pure (h _ (.inr (.inl rfl)))
    | some t=>exact wpAny_pure (h _ (.inr (.inr rfl)))
theorem FP {α β:Type} {R:α->β->Prop} (d:α) (e:β):∀{xs:List α} {ys:List β},Paired R xs ys->∀i,i < xs.length->R (xs.getD i d) (ys.getD i e)
 | _,_,.nil,i,h=>absurd h (Nat.not_lt_zero _)
 | _,_,.cons r _,0,_=>r
 | _,_,.cons _ t,i+1,h=>FP d e t i (by simpa using h)
theorem GA (vs:List Value):(List.range vs.length).map (fun i=>vs.getD i Value.none)=vs:=by
 apply ext_getElem
 ·simp
 ·intro i h1 h2
  simp [h2]
theorem Ej.keep {h h':Heap} {v:Value} {ns:List Int} (x:Ej h v ns) (k:∀b o,o.cls=.type "tuple"->h.get? b=some o->h'.get? b=some o):Ej h' v ns:=by
 obtain ⟨a,its,rfl,⟨o,ho,hc,n,hd⟩,ia⟩:=x
 exact ⟨a,its,rfl,⟨o,k a o hc ho,hc,n,hd⟩,ia⟩
theorem Oh {a:Addr} {vs:List Value} {rows:List (List Int)} {n:Nat} {P:PySem.Fin->Shared->Prop} (ho:s.heap.get? a=some (seqObj "list" vs.toArray n)) (hp:Paired (Ej s.heap) vs rows) (h64:vs.length < 64) (hu:A.units < cLine)
 (h:∀p:Array Nat,Prm vs.length p->Srt (O:=P4) (fun i=>rows.getD i []) p vs.length->P (.done (.ret .none)) { s with heap:=sortedHeap s.heap a vs (List.toArray (p.toList.map fun i=>vs.getD i Value.none)) }) :
 wpAny (model prog w) A (Builtin.«list.sort» ⟨[.ref a],[]⟩) P E s:=by
 rw [list_sort_plain]
 have ha:a < s.heap.objs.size:=Heap.lt_size ho
 refine wpAny_bind (listItems_at ho rfl ?_)
 refine wpAny_bind (listUpdate_at ho rfl ?_)
 obtain ⟨e1,ho1⟩:∃e1,(s.heap.update a (Obj.mapSeq fun _=>#[])).get? a=some (seqObj "list" #[] e1):=⟨_,get?_update_seq ho (fun _=>#[])⟩
 refine wpAny_bind (seqEpoch_at ho1 rfl ?_)
 refine wpAny_bind (wpAny_newTuple ?_)
 refine wpAny_bind (wpAny_newList ?_)
 refine wpAny_holding ?_
 have ho6:(((s.heap.update a (Obj.mapSeq fun _=>#[])).push (seqObj "tuple" vs.toArray 0)).push (seqObj "list" #[] 0)).get? a=some (seqObj "list" #[] e1):=by
  rw [Heap.get?_push_ne _ _ _ (by rw [size_push',Heap.size_update];exact Nat.ne_of_lt (Nat.lt_succ_of_lt ha)),Heap.get?_push_ne _ _ _ (by rw [Heap.size_update];exact Nat.ne_of_lt ha)]
  exact ho1
 have hp6:Paired (Ej (((s.heap.update a (Obj.mapSeq fun _=>#[])).push (seqObj "tuple" vs.toArray 0)).push (seqObj "list" #[] 0))) vs rows:=Paired.mapP hp fun v ns x=>x.keep fun b o hc e=>by
  have hb:b≠a:=fun z=>by
   rw [z,ho] at e
   cases e
   exact absurd (show Value.type "list"=Value.type "tuple" from hc) (by decide)
  exact Heap.get?_push_of_some _ (Heap.get?_push_of_some _ ((Heap.get?_update_other _ _ (Ne.symm hb)).trans e))
 show wpAny (model prog w) A _ P E { s with heap:=((s.heap.update a (Obj.mapSeq fun _=>#[])).push (seqObj "tuple" vs.toArray 0)).push (seqObj "list" #[] 0) }
 dsimp only
 have hsz:vs.toArray.size=vs.length:=by simp
 by_cases h2:vs.toArray.size < 2
 ·rw [if_pos h2,if_pos h2]
  refine wpAny_bind (wpAny_pure ?_)
  rw [StateT.run_pure]
  refine wpAny_bind (wpAny_pure ?_)
  dsimp only
  refine wpAny_bind (seqEpoch_at ho6 rfl ?_)
  refine wpAny_bind (listUpdate_at ho6 rfl ?_ (hsz2:=by rw [Array.size_map];show (pairsOf vs).size<=_;rw [pairsOf_size,sizeLine_eq];omega))
  simp only [bne_self_eq_false,Bool.false_eq_true,if_false]
  have hh:=h (List.range vs.length).toArray (List.Perm.refl _) (fun i j hij hj=>by
   have:i=j:=by omega
   subst this
   exact KeyOrd.kle_refl _)
  rw [show (List.range vs.length).toArray.toList.map (fun i=>vs.getD i Value.none)=vs from GA vs] at hh
  have e:(arrOf (SortSt.mk' general' (vs.toArray.zip vs.toArray) #[] 7 none)).map (·.2)=vs.toArray:=by
   show (vs.toArray.zip vs.toArray).map (·.2)=vs.toArray
   apply Array.ext
   ·simp
   ·intro i h1 h2
    simp
  refine wpAny_pure ?_
  have hh':=hh
  rw [<- e] at hh'
  exact hh'
 ·rw [if_neg h2,if_neg h2]
  refine wpAny_bind (O6 hp6 fun κ hκ=>?_)
  have ac:Jn P4 (fun i=>rows.getD i []) vs.length (kas_ask prog w A κ vs) (fun s'=>s'={ s with heap:=((s.heap.update a (Obj.mapSeq fun _=>#[])).push (seqObj "tuple" vs.toArray 0)).push (seqObj "list" #[] 0) }):=by
   intro i j C s' hi hj e k
   subst e
   exact Q3 hκ (FP Value.none [] hp6 i hi) (FP Value.none [] hp6 j hj) hu (k _ rfl)
  refine wpAny_bind (wpAny_mono (kat_run (ks:=vs) (vs:=vs) (Q:=fun st' s'=>∃p:Array Nat,arrOf st'=p.map (kas_item (vs.toArray.zip vs.toArray))/\failedOf st'=none/\s'={ s with heap:=((s.heap.update a (Obj.mapSeq fun _=>#[])).push (seqObj "tuple" vs.toArray 0)).push (seqObj "list" #[] 0) }/\Prm vs.length p/\Srt (O:=P4) (fun i=>rows.getD i []) p vs.length)
   (G:=fun p s'=>s'={ s with heap:=((s.heap.update a (Obj.mapSeq fun _=>#[])).push (seqObj "tuple" vs.toArray 0)).push (seqObj "list" #[] 0) }/\Prm vs.length p/\Srt (O:=P4) (fun i=>rows.getD i []) p vs.length)
   rfl (by omega) h64 (fun p st' s' _ a2 a3 g=>⟨p,a2,a3,g⟩) (PB ac (by omega) rfl fun p s' q1 q2 e=>⟨e,q1,q2⟩)) ?_ fun _ _ e=>e)
  rintro ⟨⟨⟩,st'⟩ s' ⟨p,har,hf,rfl,q1,q2⟩
  dsimp only
  have hout:=kat_snds rfl har
  refine wpAny_bind (seqEpoch_at ho6 rfl ?_)
  rw [hout]
  refine wpAny_bind (listUpdate_at ho6 rfl ?_ (hsz2:=by rw [size_toArray,length_map,Array.length_toList,q1.size,sizeLine_eq];omega))
  rw [hf]
  simp only [bne_self_eq_false,Bool.false_eq_true,if_false]
  exact wpAny_pure (h p q1 q2)
end
section
variable {X:Cx}
theorem IC:Db X (.builtin "sorted") (fun xs H Q=>∃(a:Addr) (ns:List Int),xs=[.ref a]/\SqL X.K H a (ns.map V.int)/\ns.length < 64 /\
 ∀(l:Addr) (ms:List Int),ms.Perm ns->ms.Pairwise (·<=·)->H l=none->Q (.ref l) (upd H l (.lst (ms.map V.int)))):=by
 intro pins s σ H xs us Q I r h
 obtain ⟨a,ns,rfl,hq,h64,q⟩:=h
 obtain ⟨u,rfl,rx⟩:=E1 r
 cases rx
 obtain ⟨its,rv,pl,hz⟩:=I.list hq
 have hlen:=rv.length
 rw [length_map] at hlen
 refine sorted_ints pl.isList (Co rv) (by omega) fun out ms i1 i2 i3=>?_
 obtain ⟨e,he⟩:=sortedAll_at s.heap its out
 have hfr:H (s.heap.objs.size+1)=none:=I.hok.fresh (Nat.le_succ _)
 refine ⟨.ref _,_,I.laid (t':=s.toks) (fun b o hb=>sortedAll_old hb) (Nat.le_succ _) (show Bc X.prog X.w _ _ _ (.lst (ms.map V.int)) from ⟨?_,out.toList,e,EC i1,he⟩),rfl,q _ ms i2 i3 hfr⟩
 rw [length_map,i2.length_eq,sizeLine_eq]
 omega
theorem Ie:∀as:List Addr,A7 (as.map V.ref) (as.map Value.ref)
 | []=>.nil
 | a :: as=>.cons rfl (Ie as)
end
end L2
namespace L2
open PySem PySem.W PySem.Spec PyProof.Rows
def D0 (h:Heap) (d:Addr) (es:Array DictEntry) (ep:Nat):Prop:=∃o,h.get? d=some o/\o.ExactDict/\o.data=.dict es ep
theorem D0.at {h h':Heap} {d:Addr} {es:Array DictEntry} {ep:Nat} (x:D0 h d es ep) (e:∀o,h.get? d=some o->h'.get? d=some o):D0 h' d es ep:=let ⟨o,ho,r⟩:=x;⟨o,e _ ho,r⟩
theorem D0.lt {h:Heap} {d:Addr} {es:Array DictEntry} {ep:Nat} (x:D0 h d es ep):d < h.objs.size:=let ⟨_,ho,_⟩:=x;Heap.lt_size ho
theorem D0.typeIs {s:Shared} {d:Addr} {es:Array DictEntry} {ep:Nat} (x:D0 s.heap d es ep):s.TypeIs (.ref d) "dict":=let ⟨o,ho,hc,_⟩:=x;⟨o,ho,hc.1⟩
section
variable {prog:Program} {w:World} {A:Around} {E:Value->Shared->Prop} {s:Shared} {d:Addr} {es:Array DictEntry} {ep:Nat}
theorem NZ {Q:Value->Shared->Prop} (hd:(d == sysModules)=false) (hm:D0 s.heap d es ep)
 (hQ:Q (.ref s.heap.objs.size) { s with heap:=s.heap.push { cls:=.type "dict_keyiterator",data:=.fields #[.ref d,.int 0 0,.int es.size 0,.int ep 0] } }):wpAny (model prog w) A (pyIter (.ref d)) Q E s:=by
 have hT:=hm.typeIs
 obtain ⟨o,ho,hc,hdat⟩:=id hm
 refine wpAny_pyIter_slot hT F.slot_dict_iter (wpAny_call_entry F.slot_dict_iter hT F.entry_dict_iter ?_ (F.args_dict_iter_1 _))
 unfold Builtin.«dict.__iter__»
 refine wpAny_bind ?_
 unfold Builtin.Dict.dictSlotNone
 refine wpAny_bind (wpAny_notOrdered_dict hT ?_)
 show wpAny _ _ (pure (Value.ref d)) _ _ s
 refine wpAny_pure ?_
 show wpAny _ _ (Builtin.Dict.showsAll d >>= _) _ _ s
 unfold Builtin.Dict.showsAll
 rw [if_neg (by rw [hd];exact Bool.false_ne_true)]
 refine wpAny_bind (wpAny_pure ?_)
 refine wpAny_bind (wpAny_dictEntries ho hdat ?_)
 refine wpAny_bind (wpAny_dictEpoch ho hdat ?_)
 refine wpAny_bind (wpAny_newObj_type (wpAny_pure ⟨_,rfl,"dict_keyiterator",_,⟨_,Heap.get?_push_size _ rfl,rfl⟩,F.slot_dict_keyiterator_next.lookup,?_⟩))
 simpa [rawInt] using hQ
theorem NJ {it:Addr} {i:Nat} {e:DictEntry} {Q:Option Value->Shared->Prop} (hit:s.heap.IsKeyIter it d i es.size ep) (hm:D0 s.heap d es ep) (hx:es[i]?=some e)
 (hQ:∀h',h'.IsKeyIter it d (i+1) es.size ep->Heap.SameBut it s.heap h'->Q (some e.key) { s with heap:=h' }):wpAny (model prog w) A (pyNext (.ref it)) Q E s:=by
 obtain ⟨o,ho,hc,hd⟩:=id hit
 obtain ⟨od,hod,hcd,hdd⟩:=id hm
 unfold pyNext
 refine wpAny_bind (wpAny_attempt (wpAny_callSpecial?_slot (name:=Str.ofString "__next__") hit.typeIs F.slot_dict_keyiterator_next
  (wpAny_call_entry F.slot_dict_keyiterator_next hit.typeIs F.entry_dict_keyiterator_next ?_ (F.args_dict_keyiterator_next_1 _))))
 refine wpAny_bind (wpAny_pure ?_)
 refine wpAny_bind ?_
 refine wpAny_bind ?_
 first | refine wpAny_bind (wpAny_typeNameOfWhole_keyiter hit.typeIs (wpAny_pure ?_)) | refine wpAny_bind (wpAny_typeNameOf_keyiter hit.typeIs (wpAny_pure ?_))
 refine wpAny_bind (wpAny_fieldsOf ho hd ?_)
 have hown:Builtin.Dict_items.ownsTuple "dict_keyiterator"=false:=by decide
 simp only [hown,Bool.false_eq_true,if_false]
 show wpAny _ _ (if (Value.ref d == Value.none)=true then _ else _) _ _ s
 rw [if_neg (show ¬ ((Value.ref d == Value.none)=true) from Bool.false_ne_true)]
 refine wpAny_bind (wpAny_pure ?_)
 refine wpAny_bind (wpAny_dictEntries hod hdd ?_)
 rw [if_neg (by simp)]
 refine wpAny_bind (wpAny_pure ?_)
 refine wpAny_bind (wpAny_dictEpoch hod hdd ?_)
 rw [if_neg (by simp)]
 refine wpAny_pure ?_
 simp only [show ¬ ((i:Int) < 0) from by omega,if_false,Int.toNat_natCast,hx]
 refine wpAny_bind ?_
 first | refine wpAny_bind (wpAny_typeNameOfWhole_keyiter hit.typeIs (wpAny_pure ?_)) | refine wpAny_bind (wpAny_typeNameOf_keyiter hit.typeIs (wpAny_pure ?_))
 refine wpAny_bind (wpAny_isOneOf_keyiter hit.typeIs ?_)
 show wpAny _ _ (setField (.ref it) 1 (rawInt ((i:Int)+1)) >>= _) _ _ s
 refine wpAny_bind (wpAny_setField ho hd (by simp) ?_)
 have hit':(s.heap.update it (Obj.mapFields (·.setIfInBounds 1 (rawInt ((i:Int)+1))))).IsKeyIter it d (i+1) es.size ep :=
  ⟨_,Heap.get?_update_self _ ho (Obj.isFreed_of_fields (Obj.data_mapFields hd _)),(Obj.cls_mapFields ..).trans hc,by rw [Obj.data_mapFields hd];simp [rawInt]⟩
 refine wpAny_bind (wpAny_holding ?_)
 refine wpAny_bind (wpAny_isOneOf_keyiter (s:={ s with heap:=s.heap.update it (Obj.mapFields (·.setIfInBounds 1 (rawInt ((i:Int)+1)))) }) hit'.typeIs ?_)
 show wpAny _ _ (pure e.key) _ _ _
 exact wpAny_pure (wpAny_pure ⟨_,rfl,wpAny_pure (hQ _ hit' (Heap.SameBut.update ..))⟩)
theorem Pm {it:Addr} {i:Nat} {Q:Option Value->Shared->Prop} (hh:A.handled=none) (hit:s.heap.IsKeyIter it d i es.size ep) (hm:D0 s.heap d es ep) (hx:es.size<=i)
 (hQ:∀h',Heap.ExtBut it s.heap h'->Q none { s with heap:=h' }):wpAny (model prog w) A (pyNext (.ref it)) Q E s:=by
 obtain ⟨o,ho,hc,hd⟩:=id hit
 obtain ⟨od,hod,hcd,hdd⟩:=id hm
 unfold pyNext
 refine wpAny_bind (wpAny_attempt (wpAny_callSpecial?_slot (name:=Str.ofString "__next__") hit.typeIs F.slot_dict_keyiterator_next
  (wpAny_call_entry F.slot_dict_keyiterator_next hit.typeIs F.entry_dict_keyiterator_next ?_ (F.args_dict_keyiterator_next_1 _))))
 refine wpAny_bind (wpAny_pure ?_)
 refine wpAny_bind ?_
 refine wpAny_bind ?_
 first | refine wpAny_bind (wpAny_typeNameOfWhole_keyiter hit.typeIs (wpAny_pure ?_)) | refine wpAny_bind (wpAny_typeNameOf_keyiter hit.typeIs (wpAny_pure ?_))
 refine wpAny_bind (wpAny_fieldsOf ho hd ?_)
 have hown:Builtin.Dict_items.ownsTuple "dict_keyiterator"=false:=by decide
 simp only [hown,Bool.false_eq_true,if_false]
 show wpAny _ _ (if (Value.ref d == Value.none)=true then _ else _) _ _ s
 rw [if_neg (show ¬ ((Value.ref d == Value.none)=true) from Bool.false_ne_true)]
 refine wpAny_bind (wpAny_pure ?_)
 refine wpAny_bind (wpAny_dictEntries hod hdd ?_)
 rw [if_neg (by simp)]
 refine wpAny_bind (wpAny_pure ?_)
 refine wpAny_bind (wpAny_dictEpoch hod hdd ?_)
 rw [if_neg (by simp)]
 refine wpAny_pure ?_
 simp only [show ¬ ((i:Int) < 0) from by omega,if_false,Int.toNat_natCast,Array.getElem?_eq_none hx]
 refine wpAny_bind ?_
 first | refine wpAny_bind (wpAny_typeNameOfWhole_keyiter hit.typeIs (wpAny_pure ?_)) | refine wpAny_bind (wpAny_typeNameOf_keyiter hit.typeIs (wpAny_pure ?_))
 show wpAny _ _ (setField (.ref it) 0 .none >>= _) _ _ s
 refine wpAny_bind (wpAny_setField ho hd (by simp) ?_)
 show wpAny _ _ (newExc (.type "StopIteration") [] >>= _) _ _ _
 refine wpAny_bind ?_
 simp only [newExc,newTuple]
 refine wpAny_bind (wpAny_newObj_type ?_ (by size_fits))
 refine wpAny_bind (m:=firstArgMember _ _) (wpAny_of_eq (a:=Value.none) (by first | rfl | (simp only [firstArgMember];rfl)) ?_)
 refine wpAny_newObj_type ?_ (by size_fits)
 simp only [raiseNew]
 refine wpAny_bind (wpAny_handled ?_)
 rw [show A.in1.handled=none from hh]
 refine wpAny_bind (wpAny_pure (wpAny_throw ?_))
 refine wpAny_bind (wpAny_isInstance (T:="StopIteration") (b:=true) ⟨_,Heap.get?_push_size _ rfl,rfl⟩ isSubtype_stop ?_)
 exact wpAny_pure (hQ _ (((Heap.SameBut.update ..).extBut.push _).push _))
theorem MB (hh:A.handled=none) (I:Addr) (hne:d≠I):Walks prog w A I [I,d] [I] es.size (fun i v=>∃e,es[i]?=some e/\v=e.key) (fun i h=>h.IsKeyIter I d i es.size ep/\D0 h d es ep) where
 sub:=fun b hb=>by simp at hb;simp [hb]
 frame:=fun _ _ _ st hk=>⟨st.1.at fun o e=>hk I (by simp) o e,st.2.at fun o e=>hk d (by simp) o e⟩
 item:=fun i s Q E hi st hQ=>by
  obtain ⟨e,hx⟩:∃e,es[i]?=some e:=⟨es[i],by simp [hi]⟩
  refine NJ st.1 st.2 hx fun h' hit' hs'=>?_
  exact hQ e.key h' s.toks ⟨e,hx,rfl⟩ ⟨hit',st.2.at fun o q=>hs'.extBut d o hne q⟩ fun b o hb q=>hs'.extBut b o (fun h=>hb (by simp [h])) q
 done:=fun s Q E st hQ=>Pm hh st.1 st.2 (Nat.le_refl _) fun h' he'=>hQ h' s.toks fun b o hb q=>he' b o (fun h=>hb (by simp [h])) q
 self:=fun _ _ _ _ st hQ=>wpAny_pyIter_keyiter st.1 hQ
theorem P7 (lo:(d == sysModules)=false):KdlSrc prog w "dict" d d es.size (fun i v=>∃e,es[i]?=some e/\v=e.key) (fun h=>D0 h d es ep) where
 type:=fun _ hm=>hm.typeIs
 there:=fun _ hm=>⟨hm.lt,hm.lt⟩
 keep:=fun _ _ hm hk=>hm.at fun o e=>hk d (.inl rfl) o e
 notList:=by decide
 notTuple:=by decide
 hint:=fun _ _ _ _ hm hq=>kdl_hint_dict hm.typeIs hq
 iter:=fun _ s hh hm=>⟨_,_,(fun _ _ hq=>NZ lo hm hq),MB hh _ (Nat.ne_of_lt hm.lt),⟨⟨_,Heap.get?_push_size _ rfl,rfl,rfl⟩,hm.at fun o e=>Heap.get?_push_of_some _ e⟩⟩
theorem Of {acc:Array Value} (h:ItemsOf (fun i v=>∃e,es[i]?=some e/\v=e.key) acc es.size):acc=es.map (·.key):=by
 obtain ⟨h1,h2⟩:=h
 apply Array.ext
 ·simpa using h1
 ·intro i hi hj
  obtain ⟨e,he,hk⟩:=h2 i acc[i] (by simp [hi])
  have hi':i < es.size:=by omega
  rw [Array.getElem?_eq_getElem hi'] at he
  rw [hk,Array.getElem_map,Option.some.inj he]
theorem Kv {R:List Value->Shared->Prop} (lo:(d == sysModules)=false) (hm:D0 s.heap d es ep) (hh:A.handled=none) (hn:es.size<=sizeLine)
 (h:∀(h':Heap) (tk:Nat),(∀b o,s.heap.get? b=some o->h'.get? b=some o)->s.heap.objs.size < h'.objs.size->R (es.toList.map (·.key)) { s with heap:=h',toks:=tk }) :
 wpAny (model prog w) A (collect (.ref d)) R E s:=by
 have hlt:=hm.lt
 unfold collect
 refine wpAny_bind (wpAny_runValue (codeAny_builtin entry_proto_collect' ?_))
 rw [Around.under_plainId PySem.F.plain_proto_collect _]
 show wpAny _ A.in1 (newList [] >>= fun l=>again (.builtin "list.__iadd__" ⟨[l,.ref d],[]⟩)) _ _ s
 refine wpAny_bind (wpAny_newObj_type ?_)
 refine wpAny_pure ⟨plainId_quiet PySem.F.plain_list_iadd _,codeAny_builtin entry_list_iadd' ?_⟩
 rw [Around.under_plainId PySem.F.plain_list_iadd _]
 have hS₁:(s.heap.push { cls:=.type "list",data:=.seq ([]:List Value).toArray }).get? s.heap.objs.size=some { cls:=.type "list",data:=.seq #[] }:=Heap.get?_push_size _ rfl
 show wpAny _ A.in1 (Builtin.List.listExtendWith (.ref s.heap.objs.size) (.ref d) (.ref s.heap.objs.size)) _ _ _
 have key:=kdl_extend (A:=A) (s:={ s with heap:=s.heap.push { cls:=.type "list",data:=.seq ([]:List Value).toArray } })
  (R:=fun (q:Result) (s':Shared)=>∃(h':Heap) (tk c':Nat),q=.ok (.ret (.ref s.heap.objs.size))/\s'={ s with heap:=h',toks:=tk } /\
   (∀b o,s.heap.get? b=some o->h'.get? b=some o)/\h'.get? s.heap.objs.size=some { cls:=.type "list",dict:=none,data:=.seq (es.map (·.key)) c',slots:=#[] })
  (P7 (prog:=prog) (w:=w) (es:=es) (ep:=ep) lo) hh (hm.at fun o e=>Heap.get?_push_of_some _ e) s.heap.objs.size (Nat.ne_of_gt hlt) (Nat.ne_of_gt hlt) (.ref s.heap.objs.size) 0 hS₁
  (fun h' tk acc' c' hk hS' hacc=>⟨h',tk,c',rfl,rfl,fun b o e=>hk b o (Nat.ne_of_lt (Heap.lt_size e)) (Heap.get?_push_of_some _ e),by rw [<- Of hacc];exact hS'⟩) hn
 refine wpAny_mono key (fun fin s' x=>?_) fun e s' x=>?_
 ·cases fin with
  | done f =>
    obtain ⟨h',tk,c',e,rfl,hk,hS'⟩:=x
    cases e
    show wpAny _ A (load s.heap.objs.size >>= _) _ _ _
    refine wpAny_bind (wpAny_load hS' ?_)
    have:=h h' tk hk (Heap.lt_size hS')
    rw [<- Array.toList_map] at this
    exact wpAny_pure this
  | again c₁ =>
    refine ⟨x.1,codeAny_mono x.2 fun q s₂ y=>?_⟩
    obtain ⟨h',tk,c',rfl,rfl,hk,hS'⟩:=y
    show wpAny _ A (load s.heap.objs.size >>= _) _ _ _
    refine wpAny_bind (wpAny_load hS' ?_)
    have:=h h' tk hk (Heap.lt_size hS')
    rw [<- Array.toList_map] at this
    exact wpAny_pure this
 ·obtain ⟨_,_,_,e',_⟩:=x
  cases e'
theorem Gg {vs:List Value} (lo:(d == sysModules)=false) (hm:D0 s.heap d es ep) (hz:es.size < 64) (hh:A.handled=none) (hv:es.toList.map (·.key)=vs) {R:Value->Shared->Prop}
 (h:∀(h':Heap) (tk:Nat) (a:Addr),(∀b o,s.heap.get? b=some o->h'.get? b=some o/\b≠a)->s.heap.objs.size<=a->h'.get? a=some (seqObj "list" vs.toArray 0) ->
  wpAny (model prog w) A.in1.in1 (Builtin.«list.sort» ⟨[.ref a],[]⟩) (fun fin s'=>∃v,fin=.done (.ret v)/\R (.ref a) s') E { s with heap:=h',toks:=tk }) :
 wpAny (model prog w) A (call (.builtin "sorted") [.ref d]) R E s:=by
 refine Calls.call_function_entry kind_sorted plain_sorted entry_sorted (args_sorted1 _) ?_
 unfold Builtin.«sorted»
 refine wpAny_bind (m:=checkCount "sorted" 1 1 _) (wpAny_pure ?_)
 refine wpAny_bind (Kv (A:=A.in1) lo hm hh (by rw [sizeLine_eq];omega) fun h' tk hk ge=>?_)
 rw [hv]
 have hl:vs.length < 64:=by rw [<- hv,length_map,Array.length_toList];exact hz
 refine wpAny_bind (wpAny_newList ?_ (by rw [sizeLine_eq];omega))
 have ho:(h'.push (seqObj "list" vs.toArray 0)).get? h'.objs.size=some (seqObj "list" vs.toArray 0):=Heap.get?_push_size _ rfl
 refine wpAny_bind (wpAny_holding (wpAny_call_entry slot_list_sort ⟨_,ho,rfl⟩ entry_list_sort ?_ (args_list_sort _)))
 refine wpAny_mono (h _ tk h'.objs.size (fun b o e=>⟨Heap.get?_push_of_some _ (hk b o e),Nat.ne_of_lt (Heap.lt_size (hk b o e))⟩) (Nat.le_of_lt ge) ho) (fun fin s' x=>?_) fun _ _ x=>x
 obtain ⟨v,rfl,q⟩:=x
 exact ⟨_,rfl,wpAny_pure ⟨_,rfl,q⟩⟩
end
section
variable {X:Cx}
theorem PL {H:Hp}:∀{kvs:List (List Key × V)} {xs:List (List Key × Addr × Value)} {ks:List (List Int)},KT H kvs xs->kvs.map (·.1)=ks.map (List.map Sum.inl) ->
 ∃qs:List (Addr × List Int),xs.map (fun x=>Value.ref x.2.1)=(qs.map (·.1)).map Value.ref/\qs.map (·.2)=ks/\∀q∈qs,H q.1=some (.tup (q.2.map V.int)):=by
 intro kvs xs ks r
 induction r generalizing ks with
 | nil =>
   intro e
   cases ks with
   | nil=>exact ⟨[],rfl,rfl,fun _ m=>nomatch m⟩
   | cons _ _=>cases e
 | @cons p q ps qr hq t ih =>
   intro e
   cases ks with
   | nil=>cases e
   | cons k ks =>
     injection e with e1 e2
     obtain ⟨qs,a1,a2,a3⟩:=ih e2
     refine ⟨(q.2.1,k) :: qs,?_,?_,fun x m=>?_⟩
     ·rw [map_cons,a1]
      rfl
     ·rw [map_cons,a2]
     ·rcases mem_cons.mp m with m | m
      ·subst m
       have h:=hq.2.1
       have e1':p.1=k.map Sum.inl:=e1
       rw [e1',map_map] at h
       exact h
      ·exact a3 x m
theorem Ht (hc:X.calm=true) (hu:X.A.units+64 < cLine):Db X (.builtin "sorted") (fun xs H Q=>∃(d:Addr) (kvs:List (List Key × V)) (ks:List (List Int)),xs=[.ref d]/\Rd H d (.dT kvs)/\kvs.map (·.1)=ks.map (List.map Sum.inl)/\ks.length < 64 /\
 ∀(l:Addr) (rs:List (Addr × List Int)),(∀q∈rs,H q.1=some (.tup (q.2.map V.int)))->(rs.map (·.2)).Perm ks->rs.Pairwise (fun x y=>HT.lexLt y.2 x.2=false)->H l=none->Q (.ref l) (upd H l (.lst (rs.map fun q=>V.ref q.1)))):=by
 intro pins s σ H xs us Q I r h
 obtain ⟨d,kvs,ks,rfl,hd,hks,h64,q⟩:=h
 obtain ⟨u,rfl,rx⟩:=E1 r
 cases rx
 obtain ⟨_,lo,xs,kt,o,es,ep,h1,h2,h3,h4,_,_⟩:=Il I.hok hd
 obtain ⟨qs,b1,b2,b3⟩:=PL kt hks
 have hv:es.toList.map (·.key)=(qs.map (·.1)).map Value.ref:=by
  rw [h4,map_map,<- b1]
  rfl
 have hql:qs.length=ks.length:=by rw [<- b2,length_map]
 have hes:es.size=qs.length:=by
  have:=congrArg List.length hv
  simpa using this
 have hp:Paired (Ej s.heap) ((qs.map (·.1)).map Value.ref) (qs.map (·.2)):=by
  clear hv hql hes b1 b2
  induction qs with
  | nil=>exact .nil
  | cons q0 qr ih =>
    refine .cons ?_ (ih fun q m=>b3 q (mem_cons_of_mem _ m))
    obtain ⟨jts,rj,tj,_⟩:=I.tuple (SqT.of (b3 q0 (mem_cons_self ..)))
    exact ⟨q0.1,jts.toArray,rfl,tj,by simpa using Co rj⟩
 refine Gg lo ⟨o,h1,h2,h3⟩ (by omega) (I.ok.hd hc) hv fun h' tk a kp ge ho=>?_
 have hp':Paired (Ej h') ((qs.map (·.1)).map Value.ref) (qs.map (·.2)):=Paired.mapP hp fun v ns x=>x.keep fun b o _ e=>(kp b o e).1
 have ll:((qs.map (·.1)).map Value.ref).length=qs.length:=by rw [length_map,length_map]
 refine Oh (s:={ s with heap:=h',toks:=tk }) ho hp' (by omega) (by show X.A.units+1+1 < cLine;omega) fun p a1 a2=>⟨_,rfl,?_⟩
 obtain ⟨e,he⟩:=sortedHeap_at (out:=List.toArray (p.toList.map fun i=>((qs.map (·.1)).map Value.ref).getD i Value.none)) ho
 have hfr:H a=none:=I.hok.fresh ge
 have hps:=a1.size
 have lt:∀i∈p.toList,i < qs.length:=fun i m=>by
  have:=mem_range.mp (a1.mem_iff.mp m)
  omega
 let rs:=p.toList.map fun i=>qs.getD i (0,[])
 have eo:(p.toList.map fun i=>((qs.map (·.1)).map Value.ref).getD i Value.none)=(rs.map (·.1)).map Value.ref:=by
  show _=((p.toList.map fun i=>qs.getD i (0,[])).map (·.1)).map Value.ref
  simp only [map_map]
  refine map_congr_left fun i m=>?_
  have hi:=lt i m
  simp [hi]
 rw [eo] at he ⊢
 have pm:rs.Perm qs:=by
  have e1:(List.range ((qs.map (·.1)).map Value.ref).length).map (fun i=>qs.getD i ((0:Addr),([]:List Int)))=qs:=by
   rw [ll]
   apply ext_getElem
   ·simp
   ·intro i h1 h2
    simp [h2]
  have:=List.Perm.map (fun i=>qs.getD i ((0:Addr),([]:List Int))) a1
  rw [e1] at this
  exact this
 refine ⟨.ref _,_,I.laid (t':=tk) (fun b o hb=>?_) ge (show Bc X.prog X.w _ _ _ (.lst (rs.map fun q=>V.ref q.1)) from ⟨?_,(rs.map (·.1)).map Value.ref,e,?_,he⟩),rfl,q _ rs (fun q m=>b3 q (pm.mem_iff.mp m)) (by rw [<- b2];exact pm.map _) ?_ hfr⟩
 ·obtain ⟨k1,k2⟩:=kp b o hb
  rw [sortedHeap_old k2 (Heap.lt_size k1)]
  exact k1
 ·rw [length_map,pm.length_eq,sizeLine_eq]
  omega
 ·have:=Ie (rs.map (·.1))
  rw [map_map] at this
  exact this
 ·rw [pairwise_iff_getElem]
  intro i j hi hj hij
  have hi':i < p.size:=by simpa [rs] using hi
  have hj':j < p.size:=by simpa [rs] using hj
  have g:=a2 i j (by omega) (by omega)
  have gi:(qs.map (·.2)).getD (p.getD i 0) []=(rs[i]).2:=by
   have l1:=lt p[i] (by simp)
   simp [rs,Array.getD,hi',l1]
  have gj:(qs.map (·.2)).getD (p.getD j 0) []=(rs[j]).2:=by
   have l1:=lt p[j] (by simp)
   simp [rs,Array.getD,hj',l1]
  have g2:HT.lexLt ((qs.map (·.2)).getD (p.getD j 0) []) ((qs.map (·.2)).getD (p.getD i 0) [])=false:=g
  rw [gi,gj] at g2
  exact g2
theorem Nq {P:Program} {w:World} {kvs:List (Key × V)} {vs:List (Key × Value)} (r:KV kvs vs):∀{es:List DictEntry} {ns:List Int},Pairs (B8 P w) es vs->kvs.map (·.1)=ns.map Sum.inl->IntsAre (es.map (·.key)) ns:=by
 intro es ns hp e
 rw [r.keys] at e
 clear r
 induction hp generalizing ns with
 | nil =>
   cases ns with
   | nil=>exact .nil
   | cons _ _=>cases e
 | @cons ent kv es' vs' h _ t ih =>
   cases ns with
   | nil=>cases e
   | cons n ns =>
     injection e with e1 e2
     have e1':kv.1=Sum.inl n:=e1
     have hk:=h
     rw [e1'] at hk
     rcases Bq (show GQ (Sum.inl n) ent.key=true from hk) with ⟨i,t',a,b⟩ | ⟨x,t',a,_⟩
     ·cases a
      rw [map_cons,b]
      exact .cons n t' (ih e2)
     ·cases a
theorem HA (hc:X.calm=true):Db X (.builtin "sorted") (fun xs H Q=>∃(d:Addr) (kvs:List (Key × V)) (ns:List Int),xs=[.ref d]/\Rd H d (.dK kvs)/\kvs.map (·.1)=ns.map Sum.inl/\ns.length < 64 /\
 ∀(l:Addr) (ms:List Int),ms.Perm ns->ms.Pairwise (·<=·)->H l=none->Q (.ref l) (upd H l (.lst (ms.map V.int)))):=by
 intro pins s σ H xs us Q I r h
 obtain ⟨d,kvs,ns,rfl,hd,hks,h64,q⟩:=h
 obtain ⟨u,rfl,rx⟩:=E1 r
 cases rx
 obtain ⟨_,lo,vs,kv,o,es,ep,h1,h2,h3,h4,h5,_⟩:=Ib I.hok hd
 have hi:=Nq kv h5 hks
 have hl:=hi.length
 have hes:es.size=ns.length:=by simpa using hl
 refine Gg lo ⟨o,h1,h2,h3⟩ (by omega) (I.ok.hd hc) rfl fun h' tk a kp ge ho=>?_
 refine list_sort_tree (s:={ s with heap:=h',toks:=tk }) ho hi (by rw [hl];exact h64) fun out ms i1 i2 i3=>⟨_,rfl,?_⟩
 obtain ⟨e,he⟩:=sortedHeap_at (out:=out) ho
 have hfr:H a=none:=I.hok.fresh ge
 refine ⟨.ref _,_,I.laid (t':=tk) (fun b o hb=>?_) ge (show Bc X.prog X.w _ _ _ (.lst (ms.map V.int)) from ⟨?_,out.toList,e,EC i1,he⟩),rfl,q _ ms i2 i3 hfr⟩
 ·obtain ⟨k1,k2⟩:=kp b o hb
  rw [sortedHeap_old k2 (Heap.lt_size k1)]
  exact k1
 ·rw [length_map,i2.length_eq,sizeLine_eq]
  omega
theorem Fz (hc:X.calm=true):Db X (.builtin "min") (fun xs H Q=>∃(a:Addr) (ns:List Int),xs=[.ref a]/\SqL X.K H a (ns.map V.int)/\0 < ns.length/\∀M,M∈ns->(∀z∈ns,M<=z)->Q (.int M) H):=by
 intro pins s σ H xs us Q I r h
 obtain ⟨a,ns,rfl,hq,hne,q⟩:=h
 obtain ⟨u,rfl,rx⟩:=E1 r
 cases rx
 obtain ⟨its,rv,pl,hz⟩:=I.list hq
 have hi:=Co rv
 obtain ⟨xs,e⟩:=hi.allInts.items
 have hns:ns=xs.toList.map (·.1):=by
  rw [<- hi.numsOf,<- nums_intItems,<- e]
 have hsz:0 < xs.size:=by
  have h3:=hne;rw [hns,length_map,Array.length_toList] at h3;exact h3
 have hl:=pl.isList
 rw [e] at hl
 refine min_intList (I.ok.hd hc) hl hsz fun v h' tk hv hk=>?_
 obtain ⟨t,rfl⟩:=intItems_at hv
 obtain ⟨_,h2⟩:=argBest_lt (numAt xs) (xs.size - 1)
 refine ⟨.int _,H,I.kept hk,⟨t,rfl⟩,q _ ?_ fun z m=>?_⟩
 ·rw [hns,numAt_eq];exact getD_mem (by rw [length_map,Array.length_toList];omega)
 ·rw [hns] at m
  obtain ⟨j,hj,rfl⟩:=mem_getD m
  rw [length_map,Array.length_toList] at hj
  rw [<- numAt_eq];exact h2 j (by omega)
end
end L2
namespace L2
open PySem
def Ris (xs:Array Nat):Prop:=∀i j,i < j->j < xs.size->xs.getD i 0 < xs.getD j 0
theorem KL {xs:Array Nat} {i:Nat} (h:i < xs.size) (a b:Nat):xs.getD i a=xs.getD i b:=by
 simp [Array.getD,h]
theorem Hb {xs:Array Nat} (hr:Ris xs) (j:Nat):∀(f lo hi:Nat),lo<=hi->hi<=xs.size->hi - lo<=f->(∀i,i < lo->xs.getD i 0 < j)->(∀i,hi<=i->i < xs.size->j<=xs.getD i 0) ->
 SetTable.below.go xs j f lo hi<=xs.size/\(∀i,i < SetTable.below.go xs j f lo hi->xs.getD i 0 < j)/\∀i,SetTable.below.go xs j f lo hi<=i->i < xs.size->j<=xs.getD i 0
 | 0,lo,hi,h1,h2,h3,h4,h5=>by
   have:lo=hi:=by omega
   subst this
   exact ⟨h2,h4,h5⟩
 | f+1,lo,hi,h1,h2,h3,h4,h5=>by
   unfold SetTable.below.go
   by_cases c:lo < hi
   ·rw [if_pos c]
    dsimp only
    have hm:(lo+hi) / 2 < xs.size:=by omega
    by_cases c2:xs.getD ((lo+hi) / 2) j < j
    ·rw [if_pos c2]
     refine Hb hr j f _ hi (by omega) h2 (by omega) (fun i hi'=>?_) h5
     rw [KL hm j 0] at c2
     by_cases e:i=(lo+hi) / 2
     ·rw [e];exact c2
     ·exact Nat.lt_trans (hr i ((lo+hi) / 2) (by omega) hm) c2
    ·rw [if_neg c2]
     refine Hb hr j f lo _ (by omega) (by omega) (by omega) h4 (fun i a b=>?_)
     rw [KL hm j 0] at c2
     by_cases e:i=(lo+hi) / 2
     ·rw [e];omega
     ·have:=hr ((lo+hi) / 2) i (by omega) b
      omega
   ·rw [if_neg c]
    have:lo=hi:=by omega
    subst this
    exact ⟨h2,h4,h5⟩
theorem O3 {xs:Array Nat} (hr:Ris xs) (j:Nat):SetTable.below xs j<=xs.size/\(∀i,i < SetTable.below xs j->xs.getD i 0 < j)/\∀i,SetTable.below xs j<=i->i < xs.size->j<=xs.getD i 0 :=
 Hb hr j xs.size 0 xs.size (Nat.zero_le _) (Nat.le_refl _) (by omega) (fun i h=>absurd h (Nat.not_lt_zero _)) (fun i a b=>absurd a (by omega))
theorem Jr {α:Type} {xs:Array α} {p:Nat} (hp:p<=xs.size) (x:α):(SetTable.insertAt xs p x).size=xs.size+1:=by
 unfold SetTable.insertAt
 simp
 omega
theorem Ga {xs:Array Nat} {p:Nat} (hp:p<=xs.size) (x i:Nat):(SetTable.insertAt xs p x).getD i 0=if i < p then xs.getD i 0 else if i=p then x else xs.getD (i - 1) 0:=by
 unfold SetTable.insertAt
 rw [Array.getD_eq_getD_getElem?,Array.getElem?_append]
 by_cases c:i < p
 ·rw [if_pos c,if_pos (by simp;omega),Array.getElem?_push]
  rw [if_neg (by simp;omega),Array.getElem?_extract]
  rw [if_pos (by omega),Array.getD_eq_getD_getElem?]
  simp
 ·rw [if_neg c]
  by_cases c2:i=p
  ·subst c2
   rw [if_pos rfl,if_pos (by simp;omega),Array.getElem?_push,if_pos (by simp;omega)]
   rfl
  ·rw [if_neg c2,if_neg (by simp;omega),Array.getElem?_extract,Array.getD_eq_getD_getElem?]
   have e:((xs.extract 0 p).push x).size=p+1:=by simp;omega
   rw [e]
   by_cases c3:i - (p+1) < min xs.size xs.size - p
   ·rw [if_pos c3]
    congr 2
    omega
   ·rw [if_neg c3,Array.getElem?_eq_none (by omega)]
theorem Ris.put {xs:Array Nat} (hr:Ris xs) {j:Nat} (hj:xs[SetTable.below xs j]?≠some j):Ris (SetTable.insertAt xs (SetTable.below xs j) j):=by
 obtain ⟨h0,h1,h2⟩:=O3 hr j
 intro a b hab hb
 rw [Jr h0] at hb
 rw [Ga h0,Ga h0]
 generalize hp:SetTable.below xs j=p at *
 have gt:∀i,p<=i->i < xs.size->j < xs.getD i 0:=fun i a b=>by
  have l:=h2 i a b
  by_cases e:i=p
  ·subst e
   have:xs.getD i 0≠j:=fun z=>hj (by simp [Array.getD,b] at z;simp [b,z])
   omega
  ·have:=h2 p (Nat.le_refl _) (by omega)
   have:=hr p i (by omega) b
   omega
 by_cases ca:a < p
 ·rw [if_pos ca]
  by_cases cb:b < p
  ·rw [if_pos cb]
   exact hr a b hab (by omega)
  ·rw [if_neg cb]
   by_cases cb2:b=p
   ·rw [if_pos cb2]
    exact h1 a ca
   ·rw [if_neg cb2]
    exact hr a (b - 1) (by omega) (by omega)
 ·rw [if_neg ca]
  by_cases ca2:a=p
  ·rw [if_pos ca2,if_neg (show ¬ b < p by omega),if_neg (show ¬ b=p by omega)]
   exact gt (b - 1) (by omega) (by omega)
  ·rw [if_neg ca2,if_neg (show ¬ b < p by omega),if_neg (show ¬ b=p by omega)]
   exact hr (a - 1) (b - 1) (by omega) (by omega)
theorem M6 (n:Nat):Ris (Array.range n):=fun i j hij hj=>by
 have hj':j < n:=by simpa using hj
 have hi':i < n:=by omega
 simp [Array.getD,hj',hi']
 exact hij
theorem Gx {l:List Nat} (h:l.Pairwise (· < ·)):Ris l.toArray:=fun i j hij hj=>by
 have hj':j < l.length:=by simpa using hj
 have hi':i < l.length:=by omega
 have:=pairwise_iff_getElem.mp h i j hi' hj' hij
 simpa [Array.getD,hj',hi'] using this
theorem KN {owner:Array (Option Nat)} (n:Nat):(((List.range n).filterMap fun j=>(owner.getD j none).map (j,·)).map (·.1)).Pairwise (· < ·):=by
 rw [pairwise_map,pairwise_filterMap]
 refine List.Pairwise.imp ?_ pairwise_lt_range
 intro a b hab x hx y hy
 cases e1:owner.getD a none with
 | none=>rw [e1] at hx;cases hx
 | some u =>
   cases e2:owner.getD b none with
   | none=>rw [e2] at hy;cases hy
   | some v =>
     rw [e1] at hx
     rw [e2] at hy
     cases hx
     cases hy
     exact hab
theorem PK {mask finger moves:Nat} {led plain:Bool} {hashes:Array Int} {t:SetTable} {order:Array Nat} (h:SetTable.laid mask finger moves led plain hashes=some (t,order)):Ris t.place/\t.led=led:=by
 unfold SetTable.laid at h
 cases e:SetTable.layClean mask hashes with
 | none=>rw [e] at h;cases h
 | some owner =>
   rw [e] at h
   cases h
   exact ⟨Gx (KN _),rfl⟩
theorem EO {t:SetTable} {f:Nat->Int} {hv:Int}:∀(n:Nat) (p:SetTable.Probe) {j:Nat} {du:Option Nat},(∀d,p.dummy=some d->t.place[SetTable.below t.place d]?≠some d) ->
 SetTable.probe.go t f hv n p=some (.empty j du)->(∀d,du=some d->t.place[SetTable.below t.place d]?≠some d)/\t.place[SetTable.below t.place j]?≠some j
 | 0,p,j,du,hd,e=>by cases e
 | n+1,p,j,du,hd,e=>by
   unfold SetTable.probe.go at e
   by_cases c:t.place[SetTable.below t.place p.j]?=some p.j
   ·have es:t.slot p.j=.live (SetTable.below t.place p.j):=by
     unfold SetTable.slot
     simp [c]
    rw [es] at e
    dsimp only at e
    by_cases c2:(f (SetTable.below t.place p.j) == hv)=true
    ·rw [if_pos c2] at e;cases e
    ·rw [if_neg c2] at e
     refine EO n _ ?_ e
     unfold SetTable.advance
     by_cases c3:p.more > 0
     ·rw [if_pos c3];exact hd
     ·rw [if_neg c3];exact hd
   ·by_cases c4:SetTable.has t.dummies p.j=true
    ·have es:t.slot p.j=.dummy:=by
      unfold SetTable.slot
      simp [c,c4]
     rw [es] at e
     dsimp only at e
     refine EO n _ ?_ e
     have k:∀d,some p.j=some d->t.place[SetTable.below t.place d]?≠some d:=fun d z=>by
      cases z
      exact c
     unfold SetTable.advance
     by_cases c3:p.more > 0
     ·rw [if_pos c3];exact k
     ·rw [if_neg c3];exact k
    ·have es:t.slot p.j=.empty:=by
      unfold SetTable.slot
      simp [c,c4]
     rw [es] at e
     cases e
     exact ⟨hd,c⟩
theorem PN {t:SetTable} {hv:Int} {slot:Nat} {b:Bool} (h:t.freeSlot hv=some (slot,b)):t.place[SetTable.below t.place slot]?≠some slot:=by
 unfold SetTable.freeSlot SetTable.probe at h
 cases e:SetTable.probe.go t (fun _=>hv+1) hv (10*SetTable.turns t.mask) (t.probeStart hv) with
 | none=>rw [e] at h;cases h
 | some m =>
   rw [e] at h
   cases m with
   | candidate j i nx=>cases h
   | empty j du =>
     obtain ⟨a,b'⟩:=EO _ _ (fun d z=>by cases z) e
     cases du with
     | none =>
       cases h
       exact b'
     | some d =>
       cases h
       exact a d rfl
def Es (t:SetTable):Prop:=Ris t.place/\t.led=true
theorem Es.standIn {t:SetTable} (h:Es t) (n:Nat):Es (t.standIn n):=⟨M6 n,h.2⟩
theorem Es.orStandIn {t:SetTable} (h:Es t) (n:Nat):Es (t.orStandIn n):=by
 unfold SetTable.orStandIn
 split
 ·exact h
 ·exact h.standIn n
theorem Es.lay {t:SetTable} (h:Es t) (es:Array (Int × Value)) (hv:Int) (x:Value):Es (layNew t es hv x).2.1:=by
 unfold layNew
 cases e:t.freeSlot hv with
 | none=>exact h.standIn _
 | some q =>
   obtain ⟨slot,b⟩:=q
   have w:Es (t.put slot).1:=⟨h.1.put (PN e),h.2⟩
   exact w.orStandIn _
theorem Es.relay {t:SetTable} (h:Es t) (es:Array (Int × Value)) (n:Nat):Es (relayAll t es n).2.1:=by
 unfold relayAll SetTable.relaid
 cases e:SetTable.laid (SetTable.sizeAbove n - 1) t.finger (t.movedTo (SetTable.sizeAbove n - 1)) t.led t.plain (es.map (·.1)) with
 | none=>exact h.standIn _
 | some q =>
   obtain ⟨t',order⟩:=q
   obtain ⟨a,b⟩:=PK e
   dsimp only
   split
   ·exact ⟨a,b.trans h.2⟩
   ·exact h.standIn _
end L2
namespace L2
open PySem PySem.W PySem.Spec PyProof.Rows
def Fw (w:World):Bool:=w.params.followText "set-order"
def Gs (prog:Program) (w:World) (h:Heap) (a:Addr) (l:List Int):Prop :=
 ∃o es ep t ms,h.get? a=some o/\o.ExactSet/\o.data=.set es ep t/\ElemsOf (intKind prog w) es.toList/\IntsAre (es.toList.map (·.2)) ms/\ms.Perm l/\es.size < scanBound/\t.fits es.size=true/\(Fw w=true\/Es t)
theorem HR {vs vs':List Value} (p:vs'.Perm vs):∀{ns:List Int},IntsAre vs ns->∃ns',IntsAre vs' ns'/\ns'.Perm ns:=by
 induction p with
 | nil=>intro ns h;cases h;exact ⟨[],.nil,.refl _⟩
 | cons x _ ih =>
   intro ns h
   cases h with
   | cons n t h =>
     obtain ⟨ns',a,b⟩:=ih h
     exact ⟨n :: ns',.cons n t a,b.cons n⟩
 | swap x y l =>
   intro ns h
   cases h with
   | cons n t h =>
     cases h with
     | cons m u h=>exact ⟨m :: n :: _,.cons m u (.cons n t h),.swap _ _ _⟩
 | trans _ _ ih1 ih2 =>
   intro ns h
   obtain ⟨n1,a1,b1⟩:=ih2 h
   obtain ⟨n2,a2,b2⟩:=ih1 a1
   exact ⟨n2,a2,b2.trans b1⟩
theorem Gj:∀{vs us:List Value} {ns ms:List Int},IntsAre vs ns->IntsAre us ms->IntsAre (vs++us) (ns++ms)
 | _,_,_,_,.nil,h=>h
 | _,_,_,_,.cons n t a,h=>.cons n t (Gj a h)
theorem Fi:∀{vs:List Value} {ns:List Int},IntsAre vs ns->∀{n:Int},n∈ns↔∃t,Value.int n t∈vs
 | _,_,.nil,n=>⟨(fun h=>by cases h),(fun ⟨_,h⟩=>by cases h)⟩
 | _,_,.cons m u a,n=>by
   constructor
   ·intro h
    rcases mem_cons.mp h with e | h
    ·subst e
     exact ⟨u,mem_cons_self ..⟩
    ·obtain ⟨t,ht⟩:=(Fi a).mp h
     exact ⟨t,mem_cons_of_mem _ ht⟩
   ·rintro ⟨t,h⟩
    rcases mem_cons.mp h with e | h
    ·cases e
     exact mem_cons_self ..
    ·exact mem_cons_of_mem _ ((Fi a).mpr ⟨t,h⟩)
section
variable {prog:Program} {w:World} {A:Around} {E:Value->Shared->Prop} {s:Shared}
theorem HI {h:Heap} {a:Addr} {o:Obj} {es:Array (Int × Value)} {ep:Nat} {t:SetTable} (ho:h.get? a=some o) (hd:o.data=.set es ep t) (es':Array (Int × Value)) (t':SetTable) :
 (h.update a (Obj.putSet es' t')).get? a=some { o with data:=.set es' (ep+1) t' }:=by
 have:=Heap.get?_update_self (Obj.putSet es' t') ho (by rw [putSet_of es' t' hd];rfl)
 rw [putSet_of es' t' hd] at this
 exact this
theorem JX {g:Bool->Sem Unit} (hg:∀(b:Bool) (s₁:Shared) (Q':Unit->Shared->Prop),Q' () s₁->wpAny (model prog w) A (g b) Q' E s₁)
 {a:Addr} {o:Obj} {es:Array (Int × Value)} {ep:Nat} {t:SetTable} (ho:s.heap.get? a=some o) (hex:o.ExactSet) (hd:o.data=.set es ep t)
 {es1:Array (Int × Value)} {t2:SetTable} {ms l:List Int} (hel1:ElemsOf (intKind prog w) es1.toList) (hi:IntsAre (es1.toList.map (·.2)) ms) (hp:ms.Perm l)
 (hb1:es1.size < scanBound) (hf2:t2.fits es1.size=true) (hw:Fw w=true\/Es t2) {wasDummy:Bool} {R:Option Bool->Shared->Prop}
 (h:∀h',Heap.SameBut a s.heap h'->Gs prog w h' a l->R (some true) { s with heap:=h' }) :
 wpAny (model prog w) A (do
  storeSet a es1 t2
  if (!wasDummy && t2.tooFull)=true then do
      g (relayAll t2 es1 (SetTable.grown es1.size)).2.2
      storeSet a (relayAll t2 es1 (SetTable.grown es1.size)).1 (relayAll t2 es1 (SetTable.grown es1.size)).2.1
      pure (some true)
   else pure (some true)) R E s:=by
 refine wpAny_bind (wpAny_storeSet_of ho hd ?_ (fits_of_scanBound hb1))
 have ho1:=HI ho hd es1 t2
 have hsb1:=Heap.SameBut.update s.heap a (Obj.putSet es1 t2)
 split
 ·have pr:=relayAll_perm t2 es1 (SetTable.grown es1.size)
  have fr:=relayAll_fits t2 es1 (SetTable.grown es1.size)
  have wr:Fw w=true\/Es (relayAll t2 es1 (SetTable.grown es1.size)).2.1:=hw.imp id fun x=>x.relay _ _
  generalize relayAll t2 es1 (SetTable.grown es1.size)=Rl at pr fr wr ⊢
  obtain ⟨es2,t3,gave2⟩:=Rl
  dsimp only at pr fr wr ⊢
  have hsz:es2.size=es1.size:=by rw [<- Array.length_toList,pr.length_eq,Array.length_toList]
  obtain ⟨ms2,i2,p2⟩:=HR (pr.map (·.2)) hi
  refine wpAny_bind (hg _ _ _ ?_)
  refine wpAny_bind (wpAny_storeSet_of ho1 rfl ?_ (fits_of_scanBound (by rw [hsz];exact hb1)))
  exact wpAny_pure (h _ (hsb1.trans (Heap.SameBut.update _ a _)) ⟨_,es2,_,t3,ms2,HI ho1 rfl es2 t3,hex,rfl,hel1.perm pr,i2,p2.trans hp,by rw [hsz];exact hb1,fr,wr⟩)
 ·exact wpAny_pure (h _ hsb1 ⟨_,es1,_,t2,ms,ho1,hex,rfl,hel1,hi,hp,hb1,hf2,hw⟩)
theorem add_int {a:Addr} {l:List Int} {k:Int} {tk:Tok} {Q:Bool->Shared->Prop} (hS:Gs prog w s.heap a l) (hroom:l.length+1 < scanBound)
 (h:∀h' b,Heap.SameBut a s.heap h'->Gs prog w h' a (step_dedup l k)->Q b { s with heap:=h' }) :
 wpAny (model prog w) A (setAddHashed a (.int k tk) ((intKind prog w).hash k)) Q E s:=by
 obtain ⟨o,es,ep,t,ms,ho,hex,hd,hel,hi,hp,hb,hf,hw⟩:=hS
 have hkey:(intKind prog w).is k (.int k tk)=true:=intKind_is _ _ _ _
 have hsc:(Value.int k tk).scannable=true:=rfl
 have hlen:es.size=l.length:=by
  have:=hi.length
  rw [length_map,Array.length_toList] at this
  rw [this,hp.length_eq]
 unfold setAddHashed setAddHashedIn
 refine wpAny_holding (wpAny_bind (wpAny_setState_of ho hd hf ?_))
 dsimp only
 rw [byScan_of hsc hb hel]
 simp only [↓reduceIte]
 unfold setAddByScan
 refine wpAny_bind ?_
 refine wpAny_bind (wpAny_rule ?_)
 refine wpAny_bind (wpAny_setScan_of hkey ho hd hf hel ?_)
 cases hr:List.findIdx? (fun e=>(intKind prog w).is k e.2) es.toList with
 | some j =>
   dsimp only
   obtain ⟨hj,hpj,_⟩:=List.findIdx?_eq_some_iff_getElem.mp hr
   have mem:k∈l:=by
    refine hp.mem_iff.mp ((Fi hi).mpr ?_)
    obtain ⟨t',e⟩:=Value.isInt_shape (show Value.isInt k es.toList[j].2=true from hpj)
    exact ⟨t',mem_map.mpr ⟨_,getElem_mem hj,e⟩⟩
   have es':step_dedup l k=l:=by
    unfold step_dedup
    rw [if_pos (any_eq_true.mpr ⟨k,mem,by simp⟩)]
   refine wpAny_pure (wpAny_pure ?_)
   exact h s.heap _ (Heap.SameBut.refl a s.heap) ⟨o,es,ep,t,ms,ho,hex,hd,hel,hi,by rw [es'];exact hp,hb,hf,hw⟩
 | none =>
   dsimp only
   have nmem:¬ k∈l:=fun m=>by
    obtain ⟨t',ht⟩:=(Fi hi).mp (hp.mem_iff.mpr m)
    obtain ⟨e,he,hv⟩:=mem_map.mp ht
    have:=List.findIdx?_eq_none_iff.mp hr e he
    rw [hv,intKind_is] at this
    exact Bool.noConfusion this
   have es':step_dedup l k=l++[k]:=by
    unfold step_dedup
    rw [if_neg (by
     intro z
     obtain ⟨y,hy,ey⟩:=any_eq_true.mp z
     have:y=k:=by simpa using ey
     exact nmem (this ▸ hy))]
   have hgw:∀(b:Bool) {s₁:Shared} {Q':Unit->Shared->Prop},Q' () s₁->wpAny (model prog w) A (match b with | true=>rule "set.scan.the-table-gave-way" | false=>pure ()) Q' E s₁ :=
    fun b s₁ Q' hq=>by cases b <;> first | exact wpAny_pure hq | exact wpAny_rule hq
   have pr:=layNew_perm t es ((intKind prog w).hash k) (.int k tk)
   have fr:=layNew_fits t es ((intKind prog w).hash k) (.int k tk)
   have wr:Fw w=true\/Es (layNew t es ((intKind prog w).hash k) (.int k tk)).2.1:=hw.imp id fun x=>x.lay _ _ _
   generalize layNew t es ((intKind prog w).hash k) (.int k tk)=L at pr fr wr ⊢
   obtain ⟨es1,t1,wasDummy,gave⟩:=L
   dsimp only at pr fr wr ⊢
   rw [Array.toList_push] at pr
   have hel1:ElemsOf (intKind prog w) es1.toList:=(hel.push hkey hsc).perm pr
   have hi0:IntsAre ((es.toList++[((intKind prog w).hash k,Value.int k tk)]).map (·.2)) (ms++[k]):=by
    rw [map_append]
    exact Gj hi (.cons k tk .nil)
   obtain ⟨ms1,i1,p1⟩:=HR (pr.map (·.2)) hi0
   have hp1:ms1.Perm (step_dedup l k):=by rw [es'];exact p1.trans (hp.append_right [k])
   have hb1:es1.size < scanBound:=by rw [<- Array.length_toList,pr.length_eq,length_append,Array.length_toList,hlen];simpa using hroom
   refine wpAny_bind (hgw _ ?_)
   split
   ·refine wpAny_bind ?_
    rw [hashByValue_scannable 8 hsc]
    refine wpAny_pure ?_
    refine JX ?_ ho hex hd hel1 i1 hp1 hb1 ?_ ?_ ?_
    ·intro b s₁ Q' hq;cases b <;> first | exact wpAny_pure hq | exact wpAny_rule hq
    ·split
     ·exact fr
     ·exact SetTable.fits_plain_off fr
    ·split
     ·exact wr
     ·exact wr
    ·intro h' hsb hS';dsimp only;exact wpAny_pure (h h' _ hsb hS')
   ·refine wpAny_bind (wpAny_pure ?_)
    simp only [↓reduceIte]
    refine JX ?_ ho hex hd hel1 i1 hp1 hb1 fr wr ?_
    ·intro b s₁ Q' hq;cases b <;> first | exact wpAny_pure hq | exact wpAny_rule hq
    ·intro h' hsb hS';dsimp only;exact wpAny_pure (h h' _ hsb hS')
theorem Gs.at {h h':Heap} {a:Addr} {l:List Int} (x:Gs prog w h a l) (e:∀o,h.get? a=some o->h'.get? a=some o):Gs prog w h' a l:=by
 obtain ⟨o,es,ep,t,ms,ho,r⟩:=x
 exact ⟨o,es,ep,t,ms,e o ho,r⟩
end
section
variable {prog:Program} {w:World} {A:Around} {R:Result->Shared->Prop} {I:Addr} {fp wr:List Addr} {G:Array GenState->Array GenState->Prop} {n:Nat} {P:Nat->Value->Prop} {St:Nat->Shared->Prop}
theorem Oj (W:WalksS prog w A.in1 I fp wr G n P St) (S:Addr) (hSf:S ∉ fp) (val:Nat->Int) (hval:∀i v,P i v->∃t,v=.int (val i) t) (hb:n+1 < scanBound) :
 ∀(k i:Nat) (s:Shared),n - i=k->i<=n->St i s->Gs prog w s.heap S (firstMet val i)->(∀s',Moved (S :: wr) G s s'->Gs prog w s'.heap S (firstMet val n)->R (.ok (.ret .none)) s') ->
  codeAny (model prog w) A (.builtin "set.update.loop" ⟨[.ref S,.ref I],[]⟩) R s:=by
 have hSw:S ∉ wr:=fun h=>hSf (W.sub _ h)
 have hsub:∀b∈wr,b∈S :: wr:=fun b hb=>mem_cons_of_mem _ hb
 intro k
 induction k with
 | zero =>
   intro i s hk hi hst hS hR
   have hin:i=n:=by omega
   subst hin
   refine codeAny_builtin F.entry_set_update_loop ?_
   rw [Around.under_plainId F.plain_set_update_loop _]
   show wpAny _ A.in1 (pyNext (.ref I) >>= _) _ _ s
   refine wpAny_bind (W.done s _ _ hst fun s' hm=>?_)
   show wpAny _ A.in1 (ret Value.none) _ _ s'
   exact wpAny_pure (hR s' (hm.mono hsub) (hS.at fun o e=>hm.heap S o hSw e))
 | succ k ih =>
   intro i s hk hi hst hS hR
   have hlt:i < n:=by omega
   refine codeAny_builtin F.entry_set_update_loop ?_
   rw [Around.under_plainId F.plain_set_update_loop _]
   show wpAny _ A.in1 (pyNext (.ref I) >>= _) _ _ s
   refine wpAny_bind (W.item i s _ _ hlt hst fun v s' hP hst' hm=>?_)
   obtain ⟨t,rfl⟩:=hval i v hP
   have hS':=hS.at fun o e=>hm.heap S o hSw e
   show wpAny _ A.in1 (holding [Value.int (val i) t] (setAdd S (.int (val i) t)) >>= _) _ _ s'
   refine wpAny_bind (wpAny_holding ?_)
   unfold setAdd
   refine wpAny_holding ?_
   refine wpAny_bind ((intKind prog w).pyHash (k:=val i) (intKind_is _ _ _ _) ?_)
   have hroom:(firstMet val i).length+1 < scanBound:=by have:=firstMet_length_le val i;omega
   refine add_int (s:={ s' with toks:=s'.toks+1 }) hS' hroom fun h' b hsb hS2=>?_
   have hSi:Gs prog w h' S (firstMet val (i+1)):=by rw [firstMet_succ];exact hS2
   refine wpAny_pure ⟨plainId_quiet F.plain_set_update_loop _,ih (i+1) _ (by omega) hlt (W.frame _ s' _ _ hst' (Nat.le_succ _) fun b hb o e=>?_) hSi fun s'' hm'' hS''=>?_⟩
   ·rw [hsb.2 b (fun h:b=S=>hSf (by rw [<- h];exact hb))];exact e
   ·refine hR s'' (Moved.trans W.gtrans ((hm.mono hsub).then_heap (Nat.le_succ _) fun b o hb e=>?_) hm'') hS''
    rw [hsb.2 b (fun h:b=S=>hb (by rw [h];exact mem_cons_self))];exact e
end
section
variable {prog:Program} {w:World} {A:Around} {E:Value->Shared->Prop} {s:Shared}
abbrev BB (w:World):Obj:={ cls:=.type "set",dict:=none,data:=.set #[] 0 (.fresh 0 0 (!Fw w)) }
theorem PD (a:Value) {Q₁:Value->Shared->Prop} (h:Q₁ (.ref s.heap.objs.size) { s with heap:=s.heap.push (BB w) }) :
 codeAny (model prog w) A (.call (.builtin "set.__new__") ⟨[.type "set",a],[]⟩) (wants Q₁ E) s:=by
 refine codeAny_of_tree ?_
 show wpAny _ A.in1 (do checkBuiltinCall "set.__new__" ⟨[.type "set",a],[]⟩;again (.builtin "set.__new__" ⟨[.type "set",a],[]⟩)) _ _ s
 refine wpAny_bind (wpAny_of_eq (PySem.F.newCall_set_1 a) (wpAny_pure ⟨plainId_quiet PySem.F.plain_set_new _,codeAny_builtin PySem.F.entry_set_new ?_⟩))
 rw [Around.under_plainId PySem.F.plain_set_new _]
 unfold Builtin.«set.__new__» Builtin.Frozenset.newClass
 have hsub:=sub_set_self
 obtain ⟨hp,g,d,tk,os⟩:=s
 dsimp only
 wp_walk
 refine wpAny_askSetting (wpAny_pure ?_)
 dsimp only
 simp only [newObj]
 refine wpAny_bind (wpAny_alloc (wpAny_pure ?_))
 exact wpAny_pure h
theorem MO {h:Heap} {a:Addr} (ho:h.get? a=some (BB w)):Gs prog w h a [] :=
 ⟨_,#[],0,_,[],ho,⟨rfl,rfl,rfl⟩,rfl,fun e he=>by simp at he,.nil,.refl _,by decide,rfl,by
  cases e:Fw w with
  | true=>exact .inl rfl
  | false=>exact .inr ⟨fun i j _ hj=>absurd hj (by simp [SetTable.fresh]),by simp [SetTable.fresh]⟩⟩
set_option maxRecDepth 100000 in
set_option maxHeartbeats 3200000 in
theorem KE {l:Addr} {items:Array Value} {ns:List Int} {Q:Value->Shared->Prop} (hh:A.handled=none) (hl:s.heap.IsList l items) (hi:IntsAre items.toList ns) (hb:items.size+1 < scanBound)
 (h:∀(h':Heap) (tk:Nat),Gs prog w h' s.heap.objs.size (firstMet (fun i=>ns.getD i 0) items.size)->(∀b o,b < s.heap.objs.size->s.heap.get? b=some o->h'.get? b=some o)->Q (.ref s.heap.objs.size) { s with heap:=h',toks:=tk }) :
 wpAny (model prog w) A (call (.type "set") [.ref l]) Q E s:=by
 obtain ⟨c,tl,hmro⟩:=PySem.F.called_set.mro
 have hmade:=PySem.F.called_set.made
 have hsub:=PySem.F.called_set.sub
 refine wpAny_call (codeAny_of_tree ?_)
 show wpAny _ _ (callAny (.type "set") _) _ _ _
 refine wpAny_pure ⟨Code.quiet_builtin _ (by decide +kernel),codeAny_builtin PySem.F.entry_type_call ?_⟩
 rw [Around.under_plain (weight_type_call_type "set" [.ref l] []) rfl]
 have h1:=PySem.F.called_set.notType
 have h2:=PySem.F.called_set.canCreate
 have hct:=PySem.F.typeCall_set_1 (.ref l)
 repeat (any_goals (first | assumption | wp_step))
 refine codeAny_mono (PD (.ref l) (E:=E) (Q₁:=fun obj s₁=>obj=.ref s.heap.objs.size/\s₁={ s with heap:=s.heap.push (BB w) }) ⟨rfl,rfl⟩) fun r s₁ hr=>?_
 cases r with
 | error e=>exact hr
 | ok fl =>
   cases fl with
   | ret obj =>
     obtain ⟨rfl,rfl⟩:=hr
     have hS:(s.heap.push (BB w)).get? s.heap.objs.size=some (BB w):=Heap.get?_push_size _ rfl
     have hT:Shared.TypeIs { s with heap:=s.heap.push (BB w) } (.ref s.heap.objs.size) "set":=⟨_,hS,rfl⟩
     have hli:=PySem.F.called_set.init.lookup
     have hbi:=PySem.F.called_set.init.bind (.ref s.heap.objs.size)
     repeat (any_goals (first | assumption | wp_step))
     refine codeAny_mono (codeAny_call_builtin (R:=wants (fun r s₂=>r=.none/\∃h' tk,s₂={ s with heap:=h',toks:=tk }/\Gs prog w h' s.heap.objs.size (firstMet (fun i=>ns.getD i 0) items.size) /\
      (∀b o,b < s.heap.objs.size->s.heap.get? b=some o->h'.get? b=some o)) E) PySem.F.called_set.init.plain PySem.F.entry_set_init (check_set_init_1 hT ?_)) fun r₂ s₂ hr₂=>?_
     ·obtain ⟨ol,hol,hcl,nl,hdl⟩:=hl
      obtain ⟨ocls,odict,odata,oslots⟩:=ol
      simp only at hcl hdl
      subst hcl;subst hdl
      have hol':(s.heap.push (BB w)).get? l=some { cls:=.type "list",dict:=odict,data:=.seq items nl,slots:=oslots }:=Heap.get?_push_of_some _ hol
      have hsls:=PySem.F.sub_list_set
      have hslf:=PySem.F.sub_list_frozenset
      have hne:(Value.type "list" == Value.type "dict")=false:=by decide
      have hl1:(s.heap.push (BB w)).IsList l items:=⟨_,hol',rfl,nl,rfl⟩
      unfold Builtin.«set.__init__» noKeywords Builtin.Frozenset.updateFrom
      generalize hPI:pyIter=PI
      wp_walk
      subst hPI
      refine wpAny_pyIter_list hl1 ?_
      refine wpAny_bind (wpAny_runValue ?_)
      have hlS:l < s.heap.objs.size:=Heap.lt_size hol
      have hh3:A.in1.in1.in1.handled=none:=by simp [hh]
      have hneI:l≠(s.heap.push (BB w)).objs.size:=by
       rw [Heap.size_push];exact Nat.ne_of_lt (Nat.lt_succ_of_lt hlS)
      have hSf:s.heap.objs.size ∉ [(s.heap.push (BB w)).objs.size,l]:=by
       rw [Heap.size_push];simp only [mem_cons,mem_singleton,List.not_mem_nil,or_false,not_or]
       exact ⟨Nat.ne_of_lt (Nat.lt_succ_self _),Nat.ne_of_gt hlS⟩
      have hval:∀(i:Nat) (v:Value),items[i]?=some v->∃t,v=.int ((fun i=>ns.getD i 0) i) t:=fun i v hv =>
       IntsAre.int_at hi i v (by rw [Array.getElem?_toList];exact hv)
      refine Oj ((Walks.list hh3 _ l hneI items).toS) s.heap.objs.size hSf (fun i=>ns.getD i 0) hval hb (items.size - 0) 0 _ (by omega) (Nat.zero_le _)
       ⟨⟨_,Heap.get?_push_size _ rfl,rfl,rfl⟩,(hl1.push _)⟩ (MO (Heap.get?_push_of_some _ hS)) ?_
      intro s' hm hS'
      obtain ⟨h',g',d',tk',os'⟩:=s'
      have eg:g'=s.gens:=hm.gens
      have ed:d'=s.drawn:=hm.drawn
      have eo:os'=s.os:=hm.os
      subst eg;subst ed;subst eo
      show wpAny _ _ _ _ _ _
      refine wpAny_pure ?_
      show wpAny _ _ (ret Value.none) _ _ _
      refine wpAny_pure ⟨rfl,h',tk',rfl,hS',fun b o hb e=>?_⟩
      have hb1:b≠s.heap.objs.size:=Nat.ne_of_lt hb
      have hb2:b≠(s.heap.push (BB w)).objs.size:=by
       rw [Heap.size_push];exact Nat.ne_of_lt (Nat.lt_succ_of_lt hb)
      exact hm.heap b o (by simp only [mem_cons,mem_singleton,List.not_mem_nil,or_false,not_or];exact ⟨hb1,hb2⟩) (Heap.get?_push_of_some _ (Heap.get?_push_of_some _ e))
     ·cases r₂ with
      | error e=>exact hr₂
      | ok fl₂ =>
        cases fl₂ with
        | ret r =>
          obtain ⟨rfl,h',tk,rfl,hS',hk'⟩:=hr₂
          repeat (any_goals (first | assumption | wp_step))
          exact h _ _ hS' hk'
        | _=>exact hr₂.elim
   | _=>exact hr.elim
end
end L2
namespace L2
open PySem PySem.W PySem.Spec PyProof.Rows
section
variable {prog:Program} {w:World} {A:Around} {E:Value->Shared->Prop} {s:Shared}
end
section
variable {prog:Program} {w:World} {A:Around} {E:Value->Shared->Prop} {s:Shared} {a:Addr} {es:Array (Int × Value)} {ep:Nat} {t:SetTable}
end
end L2
namespace L2
open PySem PySem.W PySem.Spec PyProof.Rows
theorem JJ (val:Nat->Int):∀i,(firstMet val i).Nodup
 | 0=>by rw [firstMet_zero];exact nodup_nil
 | i+1=>by
   rw [firstMet_succ]
   unfold step_dedup
   have ih:=JJ val i
   split
   ·exact ih
   ·rename_i c
    refine nodup_append.mpr ⟨ih,by simp,fun a ha b hb e=>?_⟩
    have:b=val i:=by simpa using hb
    subst this
    exact c (any_eq_true.mpr ⟨a,ha,by simp [e]⟩)
theorem La (ns:List Int):(List.range ns.length).map (fun i=>ns.getD i 0)=ns:=by
 apply ext_getElem
 ·simp
 ·intro i h1 h2
  simp [h2]
theorem Qt {ns:List Int} {z:Int}:z∈firstMet (fun i=>ns.getD i 0) ns.length↔z∈ns:=by
 have e:=firstMet_any (fun i=>ns.getD i 0) ns.length z
 rw [La] at e
 constructor
 ·intro h
  have a:(firstMet (fun i=>ns.getD i 0) ns.length).any (· == z)=true:=any_eq_true.mpr ⟨z,h,by simp⟩
  rw [e] at a
  obtain ⟨y,hy,ey⟩:=any_eq_true.mp a
  have:y=z:=by simpa using ey
  exact this ▸ hy
 ·intro h
  have a:ns.any (· == z)=true:=any_eq_true.mpr ⟨z,h,by simp⟩
  rw [<- e] at a
  obtain ⟨y,hy,ey⟩:=any_eq_true.mp a
  have:y=z:=by simpa using ey
  exact this ▸ hy
section
variable {X:Cx} {e:Expr} {te:TE} {p p2 pos pos2:Pos}
end
end L2
namespace L2
open PySem PySem.Spec PyProof.Rows
section
variable {X:Cx} {pins:List (Addr × Obj)} {σ:St} {H:Hp} {s:Shared} {h':Heap}
theorem Inv.laidTurned {t':Nat} {fp:List Addr} {a:Addr} {o:HO} (I:Inv X pins σ H s) (k:∀b u,b ∉ fp->s.heap.get? b=some u->h'.get? b=some u) (hf:∀b∈fp,GN X pins H b) (hp:s.heap.objs.size<=a)
 (new:Bc X.prog X.w (upd H a o) h' a o):Inv X pins σ (upd H a o) { s with heap:=h',toks:=t' }:=by
 have nin:∀b u,H b=some u->b ∉ fp:=fun b u e z=>by rw [(hf b z).1] at e;cases e
 have hn:H a=none:=I.hok.fresh hp
 refine I.step (g':=s.gens) (d':=s.drawn) (ch:=fp) (fun b hb=>?_) (fun b o _ _ hc e _=>k b o hc e) (fun b o _ _ hc e _=>⟨o.slots,k b o hc e⟩)
  (fun b u _ q n=>by rw [Aj (Nat.ne_of_lt (Nat.lt_of_lt_of_le (Heap.lt_size q) hp))];exact n)
  (fun b o hc e=>⟨o,k b o hc e⟩) (fun b xs q=>by rw [Aj (AU q hn)];exact q) (fun b u xs q=>by rw [Aj (AU q hn)];exact q) (fun b ps q=>⟨#[],by rw [Aj (AU q hn),q];simp⟩) (fun m hm=>?_) (fun b u e=>?_) I.bare
 ·obtain ⟨_,f1,_,f3,f4,f5⟩:=hf b hb
  exact ⟨f3,f1,f4,f5⟩
 ·obtain ⟨o,es,ep,ho,r⟩:=hm
  exact ⟨o,es,ep,k _ o (fun z=>(hf _ z).2.1 rfl) ho,r⟩
 ·by_cases hb:b=a
  ·subst hb;rw [Ab] at e;cases e;exact new
  ·rw [Aj hb] at e
   refine (I.hok b u e).stay (fun c v hc q=>k c v ?_ q) (fun c q=>by rw [Aj (AU q hn)];exact q) fun c xs q=>by rw [Aj (AU q hn)];exact q
   rcases hc with z | z
   ·rw [z];exact nin b u e
   ·exact nin c _ z
end
noncomputable def Ite (K:PySem.W.Frag) (a:Addr):It :=
 ⟨fun i H=>∃xs x,SqL K H a xs/\xs[i]?=some x,fun i H x H'=>∃T y,x=.ref T/\H T=none/\H'=upd H T (.tup [.int (i:Int),y])/\∀xs,SqL K H a xs->xs[i]?=some y,fun i H=>∃xs,SqL K H a xs/\xs.length<=i⟩
theorem MY {P:Program} {w:World} {K:PySem.W.Frag} {es:List Expr} {k:Nat} {pos:Pos} (a e it:Addr) (hne:e≠it) :
 Lh P w K (.Tuple es k pos) (Ite K a) [e,it] e (fun i h=>(∃old,IsEnum h e it (i:Nat) old)/\h.IsListIter it a i) where
 mem:=by simp
 obj:=fun i h st b hb=>by
  obtain ⟨⟨old,he⟩,o,e1,c,d⟩:=st
  rcases mem_cons.mp hb with z | z
  ·subst z
   exact ⟨_,he,fun v z=>by cases (show Data.fields _=Data.cell v from z)⟩
  ·have z':b=it:=by simpa using z
   subst z'
   exact ⟨o,e1,fun v z=>by rw [d] at z;cases z⟩
 keep:=fun i h h' st kk=>by
  obtain ⟨⟨old,he⟩,st⟩:=st
  exact ⟨⟨old,kk e (by simp) _ he⟩,st.at fun o q=>kk it (by simp) o q⟩
 item:=by
  intro X hP hw hK hc i pins s σ H E I hf st hg
  subst hP hw hK
  obtain ⟨xs,x,hq,hx⟩:=hg
  obtain ⟨its,rv,p,hz⟩:=I.list hq
  obtain ⟨u,hu,ru⟩:=rv.get hx
  obtain ⟨⟨old,he⟩,hit⟩:=st
  refine wpAny_pyNext_enum_item he hit p.isList (x:=u) (by simpa using hu) hne fun h1 ho hit1 hT hsz hk=>⟨_,rfl,?_⟩
  refine wpAny_letOwnedTupleGo_enum ho fun h2 he2 sb=>?_
  have fr:H s.heap.objs.size=none:=I.hok.fresh (Nat.le_refl _)
  have lte:e < s.heap.objs.size:=Heap.lt_size he
  have lti:it < s.heap.objs.size:=by obtain ⟨o,q,_⟩:=id hit;exact Heap.lt_size q
  refine ⟨.ref s.heap.objs.size,upd H s.heap.objs.size (.tup [.int (i:Int),x]),?_,rfl,⟨_,x,rfl,fr,rfl,fun ys hy=>by rw [I.list_inj hy hq];exact hx⟩,⟨⟨_,by simpa using he2⟩,hit1.at fun o q=>(sb.2 it (Ne.symm hne)).trans q⟩,fun b hb=>?_⟩
  ·refine I.laidTurned (fp:=[e,it]) (t':=s.toks+1) (fun b o hb q=>(sb.2 b (fun z=>hb (by simp [z]))).trans (hk b o (fun z=>hb (by simp [z])) (fun z=>hb (by simp [z])) q)) hf (Nat.le_refl _) ?_
   refine ⟨by show 2<=sizeLine;decide,[.int i s.toks,u],.cons ⟨_,rfl⟩ (.cons ru .nil),⟨_,(sb.2 _ (Nat.ne_of_gt lte)).trans hT,rfl,_,rfl⟩⟩
  ·rw [Aj (fun z=>?_)]
   ·exact (hf b hb).1
   ·rcases mem_cons.mp hb with q | q
    ·rw [q] at z;exact absurd lte (by rw [z];exact Nat.lt_irrefl _)
    ·have q':b=it:=by simpa using q
     rw [q'] at z;exact absurd lti (by rw [z];exact Nat.lt_irrefl _)
 done:=by
  intro X hP hw hK hc i pins s σ H E I hf st hg
  subst hP hw hK
  obtain ⟨xs,hq,hx⟩:=hg
  obtain ⟨its,rv,p,hz⟩:=I.list hq
  obtain ⟨f0,f1,f2,f3,f4,f5⟩:=hf it (by simp)
  obtain ⟨⟨old,he⟩,hit⟩:=st
  have hl:=rv.length
  exact wpAny_pyNext_enum_end (I.ok.hd hc) he hit p.isList (by simp;omega) fun h' eb=>⟨rfl,I.turned (t':=s.toks) (fun b o hb e=>eb b o hb e) f0 f1 f3 f4 f5⟩
 self:=fun _ _ _ _ _ st h=>by
  obtain ⟨⟨old,he⟩,_⟩:=st
  exact wpAny_pyIter_enum he h
section
variable {X:Cx}
def Rv (K:PySem.W.Frag) (ta:TA):TI:=fun σ H R=>ta σ H fun vs H1=>∃a,vs=[.ref a]/\(∃xs,SqL K H1 a xs)/\R (Ite K a) H1
theorem IY {l:Expr} {ta:TA} {p pos pt:Pos} {es:List Expr} {k:Nat} (hg:Gl X "enumerate") (hm:X.mg "enumerate"=none) (ha:PA X [l] ta) (hs:starEach [l] X.env=[(false,eval l X.env)]:=by rfl) :
 PI X (.Tuple es k pt) (.Call (.Name "enumerate" p) [l] [] pos) (Rv X.K ta):=by
 intro pins s σ H R I h
 refine Call_ (DA I hg hm boot_enumerate (PyProof.Rows.callWith_type1 (thn (ha pos pins s σ H _ I h) fun us s1 ⟨vs,H1,I1,r1,q1⟩=>?_) hs rfl))
 obtain ⟨a,e,⟨xs,hq⟩,q⟩:=q1
 subst e
 cases r1 with
 | cons r rr =>
   cases rr
   cases r
   obtain ⟨its,rv,pl,hz⟩:=I1.list hq
   refine call_enumerate_list pl.isList fun h' he hit hsz hk=>?_
   refine wpAny_pyIter_enum (s:={ s1 with heap:=h' }) he ?_
   refine ⟨s1.heap.objs.size+1,[s1.heap.objs.size+1,s1.heap.objs.size],_,_,H1,rfl,I1.kept (t':=s1.toks) hk,MY a _ _ (Nat.succ_ne_self _),⟨⟨_,he⟩,hit⟩,fun b hb=>?_,q⟩
   have ge:s1.heap.objs.size<=b:=by
    rcases mem_cons.mp hb with z | z
    ·rw [z];exact Nat.le_succ _
    ·have z':b=s1.heap.objs.size:=by simpa using z
     rw [z'];exact Nat.le_refl _
   exact I1.fpOk ge (I1.hok.fresh ge)
end
theorem JD {K:PySem.W.Frag} {a:Addr} {xs:List V} {g:TG} {tb:TS} {D:FN} {σ:St} {H:Hp} (Pv:Nat->St->Hp->Prop) (h0:Pv 0 σ H) (hl:∀i σ H,i<=xs.length->Pv i σ H->SqL K H a xs)
 (hs:∀i x T σ H,xs[i]?=some x->Pv i σ H->H T=none->g (.ref T) σ (upd H T (.tup [.int (i:Int),x])) fun σ2 H2=>tb { D with nx:=Pv (i+1),ct:=Pv (i+1),bk:=D.nx } σ2 H2) (hd:∀σ H,Pv xs.length σ H->D.nx σ H) :
 ∃W:Nat->Nat->St->Hp->Prop,(∃m,W 0 m σ H)/\∀i m σ H,W i m σ H ->
  ((Ite K a).stop i H/\D.nx σ H)\/((Ite K a).go i H/\∃N:St->Hp->Prop,(∀σ' H',N σ' H'->∃m',m' < m/\W (i+1) m' σ' H')/\∀x H',(Ite K a).yld i H x H'->g x σ H' fun σ2 H2=>tb { D with nx:=N,ct:=N,bk:=D.nx } σ2 H2):=by
 refine ⟨fun i m σ H=>m=xs.length - i/\i<=xs.length/\Pv i σ H,⟨xs.length,by simp,Nat.zero_le _,h0⟩,?_⟩
 rintro i m σ H ⟨rfl,hi,p⟩
 have q:=hl i σ H hi p
 by_cases hlt:i < xs.length
 ·refine .inr ⟨⟨xs,xs[i],q,by simp [hlt]⟩,Pv (i+1),fun σ' H' p'=>⟨xs.length - (i+1),by omega,rfl,hlt,p'⟩,fun x H' y=>?_⟩
  obtain ⟨T,y,rfl,hT,rfl,hy⟩:=y
  exact hs i y T σ H (hy xs q) p hT
 ·have e:i=xs.length:=by omega
  subst e
  exact .inl ⟨⟨xs,q,Nat.le_refl _⟩,hd σ H p⟩
section
variable {X:Cx}
theorem EN:∀{bs:List Bool} {us:List Value},A7 (bs.map V.bl) us->us=bs.map Value.bool
 | [],_,.nil=>rfl
 | _ :: _,_,.cons r rr=>by
   cases r
   rw [EN rr]
   rfl
theorem MT (bs:List Bool):(List.range bs.length).all (fun i=>bs.getD i false)=bs.all id:=by
 rw [Bool.eq_iff_iff,all_eq_true,all_eq_true]
 constructor
 ·intro h b hb
  obtain ⟨i,hi,rfl⟩:=mem_iff_getElem.mp hb
  have:=h i (mem_range.mpr hi)
  simpa [getD_eq_getElem?_getD,hi] using this
 ·intro h i hi
  have hi':=mem_range.mp hi
  have:=h _ (getElem_mem hi')
  simpa [getD_eq_getElem?_getD,hi'] using this
theorem Ms (bs:List Bool):(List.range bs.length).any (fun i=>bs.getD i false)=bs.any id:=by
 rw [Bool.eq_iff_iff,any_eq_true,any_eq_true]
 constructor
 ·rintro ⟨i,hi,h⟩
  have hi':=mem_range.mp hi
  exact ⟨_,getElem_mem hi',by simpa [getD_eq_getElem?_getD,hi'] using h⟩
 ·rintro ⟨b,hb,h⟩
  obtain ⟨i,hi,rfl⟩:=mem_iff_getElem.mp hb
  exact ⟨i,mem_range.mpr hi,by simpa [getD_eq_getElem?_getD,hi] using h⟩
theorem Gr {P:Program} {w:World} {A:Around} {bs:List Bool}:TruthOf P w A (fun i v=>(bs.map Value.bool).toArray[i]?=some v) (fun i=>bs.getD i false):=by
 intro i v s Q E hP hQ
 have hP':(bs.map Value.bool)[i]?=some v:=by simpa using hP
 rw [List.getElem?_map] at hP'
 cases e:bs[i]? with
 | none=>rw [e] at hP';cases hP'
 | some b =>
   rw [e] at hP'
   have:Value.bool b=v:=Option.some.inj hP'
   subst this
   refine wpAny_truthy_bool ?_
   have e2:bs.getD i false=b:=by rw [getD_eq_getElem?_getD,e];rfl
   dsimp only at hQ
   rw [e2] at hQ
   exact hQ
theorem O9 (hc:X.calm=true) {K:PySem.W.Frag} (hK:X.K=K:=by rfl):Db X (.builtin "all") (fun xs H Q=>∃(a:Addr) (bs:List Bool),xs=[.ref a]/\SqL K H a (bs.map V.bl)/\Q (.bl (bs.all id)) H):=by
 subst hK
 intro pins s σ H xs us Q I r h
 obtain ⟨a,bs,rfl,hq,q⟩:=h
 obtain ⟨u,rfl,rx⟩:=E1 r
 cases rx
 obtain ⟨its,rv,pl,hz⟩:=I.list hq
 have ei:=EN rv
 subst ei
 have lt:a < s.heap.objs.size:=by obtain ⟨o,q,_⟩:=pl.isList;exact Heap.lt_size q
 refine call_all_walk (wpAny_pyIter_list pl.isList ?_)
 refine ⟨_,_,_,_,_,_,_,rfl,Walks.list (A:=X.A.in1) (I.ok.hd hc) s.heap.objs.size a (Nat.ne_of_lt lt) (bs.map Value.bool).toArray,⟨⟨_,Heap.get?_push_size _ rfl,rfl,rfl⟩,pl.isList.at fun o q=>Heap.get?_push_of_some _ q⟩,Gr,fun h' tk hk=>?_⟩
 rw [size_toArray,length_map,MT]
 exact ⟨.bl _,H,I.kept (t':=tk) fun b o q=>hk b o (by simpa using Nat.ne_of_lt (Heap.lt_size q)) (Heap.get?_push_of_some _ q),rfl,q⟩
theorem NI (hc:X.calm=true) {K:PySem.W.Frag} (hK:X.K=K:=by rfl):Db X (.builtin "any") (fun xs H Q=>∃(a:Addr) (bs:List Bool),xs=[.ref a]/\SqL K H a (bs.map V.bl)/\Q (.bl (bs.any id)) H):=by
 subst hK
 intro pins s σ H xs us Q I r h
 obtain ⟨a,bs,rfl,hq,q⟩:=h
 obtain ⟨u,rfl,rx⟩:=E1 r
 cases rx
 obtain ⟨its,rv,pl,hz⟩:=I.list hq
 have ei:=EN rv
 subst ei
 have lt:a < s.heap.objs.size:=by obtain ⟨o,q,_⟩:=pl.isList;exact Heap.lt_size q
 refine call_any_walk (wpAny_pyIter_list pl.isList ?_)
 refine ⟨_,_,_,_,_,_,_,rfl,Walks.list (A:=X.A.in1) (I.ok.hd hc) s.heap.objs.size a (Nat.ne_of_lt lt) (bs.map Value.bool).toArray,⟨⟨_,Heap.get?_push_size _ rfl,rfl,rfl⟩,pl.isList.at fun o q=>Heap.get?_push_of_some _ q⟩,Gr,fun h' tk hk=>?_⟩
 rw [size_toArray,length_map,Ms]
 exact ⟨.bl _,H,I.kept (t':=tk) fun b o q=>hk b o (by simpa using Nat.ne_of_lt (Heap.lt_size q)) (Heap.get?_push_of_some _ q),rfl,q⟩
end
end L2
namespace L2
open PySem PySem.Spec PyProof.Rows
def Jf (n:Nat) (wi:TI) (g:TG) (tt:TT) (te:TE):TE:=fun σ H Q=>wi σ H fun J H1=>∀D,H1 D=none->∃W:Nat->Nat->List V->Hp->Prop,(∃m,W 0 m [] (upd H1 D (.lst [])))/\∀i m ys H2,W i m ys H2 ->
 H2 D=some (.lst ys)/\((J.stop i H2/\Q (.ref D) H2)\/(J.go i H2/\ys.length < sizeLine/\∀x H3,J.yld i H2 x H3->∀os:St,os.length=n->g x (σ++os) H3 fun σ4 H4=>(∃os':St,σ4=σ++os'/\os'.length=n)/\tt σ4 H4 fun b H5=>if b=true then te σ4 H5 fun y H6=>H6 D=some (.lst ys)/\∃m',m' < m/\W (i+1) m' (ys++[y]) (upd H6 D (.lst (ys++[y])))
  else ∃m',m' < m/\W (i+1) m' ys H5))
structure D8 (N Nc:List Str) (xs:List Str) (sc fsc:Scope):Prop where
 kind:sc.kind=.function
 cell:∀y∈sc.names,y.2≠.cell
 nm:∀y∈sc.names,y.2=.local->sc.names.lookup y.1=some .local
 own:∀x∈xs,sc.names.lookup x=some .local
 fr:∀y∈sc.names,y.2=.free->fsc.names.lookup y.1=some .cell\/fsc.names.lookup y.1=some .free
 len:Nc.length=N.length+xs.length
 nd:Nc.Nodup
 last:Nc.drop N.length=xs
 slot:((List.range N.length).all fun i=>match Nc[i]? with
  | some y=>(match sc.names.lookup y with | some .free=>N[i]? == some y | some .local=>false | some .cell=>false | _=>true)
  | none=>true)=true
theorem D8.at {N Nc:List Str} {xs:List Str} {sc fsc:Scope} (C:D8 N Nc xs sc fsc) {i:Nat} {y:Str} (hi:i < N.length) (h:Nc[i]?=some y):sc.names.lookup y≠some .local/\sc.names.lookup y≠some .cell/\(sc.names.lookup y=some .free->N[i]?=some y):=by
 have q:=all_eq_true.mp C.slot i (mem_range.mpr hi)
 rw [h] at q
 dsimp only at q
 cases e:sc.names.lookup y with
 | none=>exact ⟨fun z=>(nomatch z),fun z=>(nomatch z),fun z=>(nomatch z)⟩
 | some k =>
   rw [e] at q
   cases k with
   | «local»=>exact absurd (show false=true from q) Bool.false_ne_true
   | cell=>exact absurd (show false=true from q) Bool.false_ne_true
   | free=>exact ⟨fun z=>(nomatch z),fun z=>(nomatch z),fun _=>by simpa using q⟩
   | _=>exact ⟨fun z=>(nomatch z),fun z=>(nomatch z),fun z=>(nomatch z)⟩
theorem C9 {X:Cx} {N Nc xs:List Str} {sc fsc:Scope} {cl:List (Str × Addr)} {s:Shared} {H:Hp} {ex:List Addr} {x:Str} {px:Pos} {j n:Nat} (cn:D8 N Nc xs sc fsc) (hj:xs[j]?=some x) (hn:n=N.length+j):PG (X.inComp Nc sc cl s H ex) (.Name x px) (BA n):=by
 have own:(relabel sc X.env).names.lookup x=some .local:=by
  have e:=C7 X.env sc.names x
  rw [cn.own x (mem_of_getElem? hj)] at e
  exact e
 refine A0 (X:=X.inComp Nc sc cl s H ex) cn.nd ?_ (.inl own) (.inr own)
 show Nc[n]?=some x
 rw [hn,<- List.getElem?_drop,cn.last]
 exact hj
theorem Ri {prog:Program} {w:World} {A:Around} {R:Result->Shared->Prop} {s:Shared} {elt tg iter:Expr} {ifs:List Expr} {scope:Scope} {pos:Pos} {it acc:Value} {env:Env} (I:Nat->Shared->Prop)
 (turn:∀n s,I n s->wpAny (model prog w) A (pyNext it) (fun r s₁=>match r with
  | none=>R (.ok .next) s₁
  | some v=>wpAny (model prog w) A (letOwnedTupleGo tg it v) (fun _ z=>wpAny (model prog w) A (assign tg env v) (fun _ s₂ =>
   wpAny (model prog w) A (forIn ifs true fun c r=>if r=true then do let ok <- isTrue c env (eval c env);pure (ForInStep.yield ok) else pure (ForInStep.yield r)) (fun ok s₃ =>
    if ok=true then wpAny (model prog w) A (eval elt env) (fun x s₄=>wpAny (model prog w) A (call (.builtin "list.append") [acc,x]) (fun _ s₅=>∃m,m < n/\I m s₅) (fun _ _=>False) s₄) (fun _ _=>False) s₃
    else ∃m,m < n/\I m s₃) (fun _ _=>False) s₂) (fun _ _=>False) z) (fun _ _=>False) s₁) (fun _ _=>False) s)
 (n:Nat) (h:I n s):codeAny (model prog w) A (.compLoop (.ListComp elt [⟨tg,iter,ifs,0⟩] scope pos) 0 it acc env) R s:=by
 refine codeAny_loop rfl I (fun k z y=>?_) n h
 show wpAny _ A ((compTurn (.ListComp elt [⟨tg,iter,ifs,0⟩] scope pos) 0 it acc env).onRaise fun x=>do noteFrame x env;theTreesLotGoes x) _ _ z
 refine wpAny_noted ?_
 rw [compTurn_list]
 refine wpAny_bind (wpAny_standAt (wpAny_bind (ES (turn k z y) fun r s₁ q1=>?_)))
 cases r with
 | none=>exact wpAny_pure q1
 | some v =>
   refine wpAny_bind (ES q1 fun _ z q2=>wpAny_bind (ES q2 fun _ s₂ q3=>wpAny_bind (ES q3 fun ok s₃ q4=>?_)))
   cases ok with
   | false=>exact wpAny_pure ⟨rfl,q4⟩
   | true=>exact wpAny_bind (wpAny_bind (ES q4 fun x s₄ q5=>wpAny_bind (ES q5 fun _ s₅ q6=>wpAny_pure (wpAny_pure ⟨rfl,q6⟩))))
section
variable {X:Cx} {elt iter:Expr} {xs:List Str} {tg:Expr} {g:TG} {pos:Pos} {ifs:List Expr} {sc fsc:Scope} {N Nc:List Str} {wi:TI} {tt:TT} {te:TE}
theorem Ee (hE:X.env.scope=fsc) (hXN:X.N=N) (cn:D8 N Nc xs sc fsc) (hc:X.calm=true)
 (hg:∀cl s H ex,PG (X.inComp Nc sc cl s H ex) tg g) (ht:∀cl s H ex,FB (X.inComp Nc sc cl s H ex) ifs tt) (he:∀cl s H ex,PE (X.inComp Nc sc cl s H ex) elt te)
 {cl:List (Str × Addr)} (clS:∀y c,cl.lookup y=some c->X.env.cells.lookup y=some c) (clH:∀y∈sc.names,y.2=.free->∃c,cl.lookup y.1=some c)
 {pins:List (Addr × Obj)} {σ:St} {H2:Hp} {s2:Shared} {it:Addr} {fp:List Addr} {tn:Nat->Heap->Prop} {J:It} {Q:VK} {E:Value->Shared->Prop}
 (I2:Inv X pins σ H2 s2) (T:Lh X.prog X.w X.K tg J fp it tn) (st2:tn 0 s2.heap) (f2:∀b∈fp,GN X pins H2 b)
 (h2:∀D,H2 D=none->∃W:Nat->Nat->List V->Hp->Prop,(∃m,W 0 m [] (upd H2 D (.lst [])))/\∀i m ys H2,W i m ys H2 ->
  H2 D=some (.lst ys)/\((J.stop i H2/\Q (.ref D) H2)\/(J.go i H2/\ys.length < sizeLine/\∀x H3,J.yld i H2 x H3->∀os:St,os.length=xs.length->g x (σ++os) H3 fun σ4 H4=>(∃os':St,σ4=σ++os'/\os'.length=xs.length)/\tt σ4 H4 fun b H5=>if b=true then te σ4 H5 fun y H6=>H6 D=some (.lst ys)/\∃m',m' < m/\W (i+1) m' (ys++[y]) (upd H6 D (.lst (ys++[y])))
   else ∃m',m' < m/\W (i+1) m' ys H5))) :
 wpAny (model X.prog X.w) X.A (newList []) (fun acc s₃=>wpAny (model X.prog X.w) X.A (newFunctionEnv sc X.env.globals cl [] X.env.qual none .none (some X.env)) (fun cenv s₄ =>
  codeAny (model X.prog X.w) X.A (.compStart (.ListComp elt [⟨tg,iter,ifs,0⟩] sc pos) 0 (.ref it) acc { cenv with scope:=relabel sc X.env })
   (fun r s'=>r=.ok .next/\∃D H',acc=.ref D/\Inv X pins σ H' s'/\Q (.ref D) H'/\Em X pins H' cenv.locals/\∃m,s'.heap.Ns cenv.locals m) s₄) E s₃) E s2:=by
 refine wpAny_newObj_type (wpAny_newFunctionEnv cn.cell (by intro y hy;simp at hy) (fun h₁ hns₁ hsb₁=>?_) cn.kind)
 dsimp only at hns₁ hsb₁ ⊢
 have hD:H2 s2.heap.objs.size=none:=I2.hok.fresh (Nat.le_refl _)
 obtain ⟨W,⟨m0,w0⟩,turn⟩:=h2 s2.heap.objs.size hD
 have I3:Inv X pins σ (upd H2 s2.heap.objs.size (.lst [])) { s2 with heap:=s2.heap.push { cls:=.type "list",dict:=none,data:=.seq ([]:List Value).toArray } } :=
  I2.laid (t':=s2.toks) (fun b u e=>Heap.get?_push_of_some _ e) (Nat.le_refl _) ⟨Nat.zero_le _,[],0,.nil,Heap.get?_push_size _ rfl⟩
 generalize hs3:({ s2 with heap:=s2.heap.push { cls:=.type "list",dict:=none,data:=.seq ([]:List Value).toArray } }:Shared)=s3 at I3
 have eh:s3.heap=s2.heap.push { cls:=.type "list",dict:=none,data:=.seq ([]:List Value).toArray }:=by rw [<- hs3]
 have e2:({ s2 with heap:=h₁,toks:=s2.toks+([]:List (Str × Value)).length }:Shared)={ s3 with heap:=h₁,toks:=s3.toks }:=by rw [<- hs3];rfl
 generalize hH3:upd H2 s2.heap.objs.size (.lst [])=H3 at I3 w0
 rw [<- eh] at hns₁ hsb₁ ⊢
 rw [e2]
 have below2:∀b,b∈fp->b < s3.heap.objs.size:=fun b hb=>by
  obtain ⟨o,e,_⟩:=T.obj _ _ st2 b hb
  have:s2.heap.objs.size<=s3.heap.objs.size:=by rw [eh,Heap.size_push];exact Nat.le_succ _
  exact Nat.lt_of_lt_of_le (Heap.lt_size e) this
 have old:∀b o,s3.heap.get? b=some o->h₁.get? b=some o:=fun b o e=>(hsb₁.2 b (Nat.ne_of_lt (Heap.lt_size e))).trans (Heap.get?_push_of_some _ e)
 have old2:∀b o,s2.heap.get? b=some o->s3.heap.get? b=some o:=fun b o e=>by rw [eh];exact Heap.get?_push_of_some _ e
 have hsz3:s2.heap.objs.size < s3.heap.objs.size:=by rw [eh,Heap.size_push];exact Nat.lt_succ_self _
 have fpFree:∀b∈fp,H3 b=none:=fun b hb=>by
  rw [<- hH3,Aj (fun z=>?_)]
  ·exact (f2 b hb).1
  ·obtain ⟨o,e,_⟩:=T.obj _ _ st2 b hb
   have:=Heap.lt_size e
   rw [z] at this
   exact Nat.lt_irrefl _ this
 have rl:∀y,(relabel sc X.env).names.lookup y=(sc.names.lookup y).map fun k=>if (k == NameKind.free && X.env.scope.kind == .function && X.env.kindOf y == some .cell) then NameKind.cell else k:=fun y=>C7 X.env sc.names y
 have freeOf:∀y,sc.names.lookup y=some .free->∃c,cl.lookup y=some c:=fun y e=>clH (y,.free) (PySem.mem_of_lookup e) rfl
 have noCell:∀y,sc.names.lookup y≠some .cell:=fun y e=>cn.cell (y,.cell) (PySem.mem_of_lookup e) rfl
 have isFree:∀y,((relabel sc X.env).names.lookup y=some .cell\/(relabel sc X.env).names.lookup y=some .free)->sc.names.lookup y=some .free:=fun y h=>by
  rw [rl y] at h
  cases e:sc.names.lookup y with
  | none=>rw [e] at h;rcases h with z | z <;> exact absurd z (by simp)
  | some k =>
    rw [e] at h
    cases k with
    | free=>rfl
    | cell=>exact absurd e (noCell y)
    | «local»=>rcases h with z | z <;> exact absurd z (by simp)
    | _=>rcases h with z | z <;> exact absurd z (by simp)
 have exOk:∀b∈fp,b≠s3.heap.objs.size/\(∀y c,X.env.cells.lookup y=some c->c≠b)/\b ∉ frs X.stack:=fun b hb=>by
  obtain ⟨g0,g1,g2,g3,g4,g5⟩:=f2 b hb
  refine ⟨Nat.ne_of_lt (below2 b hb),g4,fun z=>?_⟩
  rcases mem_cons.mp (I2.stkSub b z) with z | z
  ·exact g1 z
  ·exact g2 z
 have hCnew:X.s₀.heap.objs.size<=s3.heap.objs.size:=I3.sz
 have hCcell:∀y c,X.env.cells.lookup y=some c->c≠s3.heap.objs.size:=fun y c e z=>by
  obtain ⟨v,q⟩:=I3.cell y c e
  have:=q.lt
  rw [z] at this
  exact Nat.lt_irrefl _ this
 have hCpin:∀p∈X.pn++pins,p.1≠s3.heap.objs.size:=fun p hp z=>by
  have:=Heap.lt_size (I3.pin p hp).1
  rw [z] at this
  exact Nat.lt_irrefl _ this
 have okc:(X.inComp Nc sc cl s3 H3 fp).Ok:=by
  refine ⟨I3.ok.mod,cn.kind,I3.ok.glob,I3.ok.blt,Nat.le_refl _,fun y z c h1 h2=>I3.ok.inj y z c (clS y c h1) (clS z c h2),fun y hy=>freeOf y (isFree y hy),fun y c hf=>absurd (show false=true from hf) Bool.false_ne_true,I3.ok.hd,I3.ok.frames,.inl rfl,
   fun b hb=>⟨(exOk b hb).1,fun y c e=>(exOk b hb).2.1 y c (clS y c e)⟩,fun b o e=>I3.bs b o e,Nat.le_trans I3.ok.bsz I3.sz,fun b o e hb=>?_,fun b hb=>(exOk b hb).2.2,I3.stack,I3.stkFree⟩
  obtain ⟨g0,g1,g2,g3,g4,g5⟩:=f2 b hb
  rcases g3 with z | z
  ·exact I3.ok.noex b o e z
  ·exact absurd (Heap.lt_size (I3.ok.bs b o e).1) (Nat.not_lt.mpr z)
 have hlen:σ.length=N.length:=by rw [I3.len,hXN]
 have Ic:Inv (X.inComp Nc sc cl s3 H3 fp) [] (σ++List.replicate xs.length none) H3 { s3 with heap:=h₁,toks:=s3.toks }:=by
  refine ⟨okc,rfl,I3.bare,Un.kept old,⟨_,hns₁,fun i y v h1 h2 h3=>?_⟩,fun y c e=>?_,I3.hok.fresh (Nat.le_refl _),fun y c e=>I3.freeC y c (clS y c e),fun p hp=>absurd (show p∈([]:List (Addr × Obj)) from hp) (by simp),I3.hok.kept old,?_⟩
  ·have hi:i < σ.length:=by
    by_cases hi:i < σ.length
    ·exact hi
    ·rw [List.getElem?_append_right (Nat.not_lt.mp hi)] at h2
     rw [List.getElem?_replicate] at h2
     split at h2 <;> cases h2
   rw [List.getElem?_append_left hi] at h2
   have hi':i < N.length:=by rw [<- hlen];exact hi
   obtain ⟨n1,n2,n3⟩:=cn.at hi' h1
   have hf:sc.names.lookup y=some .free:=by
    rcases h3 with z | z
    ·exfalso
     have z':(relabel sc X.env).names.lookup y=some .local:=z
     rw [rl y] at z'
     cases e:sc.names.lookup y with
     | none=>rw [e] at z';simp at z'
     | some k =>
       rw [e] at z'
       cases k with
       | «local»=>exact n1 e
       | cell=>exact n2 e
       | free =>
         simp only [Option.map_some,Option.some.injEq] at z'
         split at z' <;> cases z'
       | _=>simp at z'
    ·exact isFree y z
   have hN:X.N[i]?=some y:=by rw [hXN];exact n3 hf
   obtain ⟨m,hn,hl⟩:=I3.loc
   have hv:fsc.names.lookup y=some .cell\/fsc.names.lookup y=some .free:=cn.fr (y,.free) (PySem.mem_of_lookup hf) rfl
   have hv':X.env.scope.names.lookup y=some .cell\/X.env.scope.names.lookup y=some .free:=by rw [hE];exact hv
   obtain ⟨u,ru,lk⟩:=hl i y v hN h2 (.inr hv')
   refine ⟨u,ru,.inr ⟨?_,?_⟩⟩
   ·show (relabel sc X.env).names.lookup y=some .cell\/(relabel sc X.env).names.lookup y=some .free
    rw [rl y,hf]
    simp only [Option.map_some,Option.some.injEq]
    split
    ·exact .inl rfl
    ·exact .inr rfl
   ·rcases lk with ⟨kl,_⟩ | ⟨_,c,hc,hcell⟩
    ·exfalso
     have kl':X.env.scope.names.lookup y=some .local:=kl
     rw [kl'] at hv'
     rcases hv' with z | z <;> cases z
    ·obtain ⟨d,hd⟩:=freeOf y hf
     have ed:=clS y d hd
     rw [hc] at ed
     cases ed
     exact ⟨c,hd,hcell.keeps old⟩
  ·obtain ⟨v,q⟩:=I3.cell y c (clS y c e)
   exact ⟨v,q.keeps old⟩
  ·show (σ++List.replicate xs.length none).length=Nc.length
   rw [length_append,hlen,cn.len,length_replicate]
 have stc:tn 0 ({ s3 with heap:=h₁,toks:=s3.toks }:Shared).heap:=T.keep _ _ _ st2 fun b _ o e=>old b o (old2 b o e)
 have hDf:s2.heap.objs.size ∉ fp:=fun hm=>by
  obtain ⟨o,e,_⟩:=T.obj _ _ st2 _ hm
  exact Nat.lt_irrefl _ (Heap.lt_size e)
 have fpc:∀{pins':List (Addr × Obj)} {H':Hp},pins'=[]->(∀b∈fp,H' b=none)->∀b∈fp,GN (X.inComp Nc sc cl s3 H3 fp) pins' H' b:=fun {pins' H'} hp hn b hb=>by
  subst hp
  exact ⟨hn b hb,(exOk b hb).1,(exOk b hb).2.2,.inl hb,fun y c e=>(exOk b hb).2.1 y c (clS y c e),fun p hp=>absurd (show p∈([]:List (Addr × Obj)) from hp) (by simp)⟩
 have loop:∀s₄:Shared,s₄={ s3 with heap:=h₁,toks:=s3.toks } ->
  codeAny (model X.prog X.w) X.A (.compLoop (.ListComp elt [⟨tg,iter,ifs,0⟩] sc pos) 0 (.ref it) (.ref s2.heap.objs.size) (compEnvC sc cl s3.heap.objs.size X.env))
   (fun r s'=>r=.ok .next/\∃D H',(Value.ref s2.heap.objs.size)=.ref D/\Inv X pins σ H' s'/\Q (.ref D) H'/\Em X pins H' s3.heap.objs.size/\∃m,s'.heap.Ns s3.heap.objs.size m) s₄:=by
  rintro s₄ rfl
  refine Ri (fun n s'=>∃(i:Nat) (o:St) (H':Hp) (ys:List V),o.length=xs.length/\Inv (X.inComp Nc sc cl s3 H3 fp) [] (σ++o) H' s'/\tn i s'.heap/\(∀b∈fp,H' b=none)/\W i n ys H') ?_ m0 ⟨0,_,H3,[],length_replicate ..,Ic,stc,fpFree,w0⟩
  rintro n s' ⟨i,o,H',ys,lo,I',st',fr',w'⟩
  obtain ⟨hDl,tw⟩:=turn i n ys H' w'
  rcases tw with ⟨stop,q⟩ | ⟨go,hz,step⟩
  ·
   refine thn (T.done (X.inComp Nc sc cl s3 H3 fp) rfl rfl rfl hc i [] s' _ H' _ I' (fpc rfl fr') st' stop) fun r s5 ⟨hr,I5⟩=>?_
   subst hr
   have Ix:Inv X pins σ H' s5:=I3.call' (ch:=fp) I5.os I5.base I5.hok I5.bare fun b hb=>by
    obtain ⟨g0,g1,g2,g3,g4,g5⟩:=f2 b hb
    exact ⟨g3,g1,g4,g5⟩
   have hCf:H' s3.heap.objs.size=none:=I5.free
   obtain ⟨m,hn,_⟩:=I5.loc
   exact ⟨rfl,s2.heap.objs.size,H',rfl,Ix,q,⟨hCf,fun z=>Nat.lt_irrefl _ (by have:=I3.lt;rw [<- z] at this;exact this),hCnew,hCcell,hCpin⟩,m,hn⟩
  ·
   refine thn (T.item (X.inComp Nc sc cl s3 H3 fp) rfl rfl rfl hc i [] s' _ H' _ I' (fpc rfl fr') st' go) fun r s5 ⟨u,hr,h4⟩=>?_
   subst hr
   dsimp only
   refine ES h4 fun _ s6 ⟨xv,H5,I5,r5,y5,st5,fr5⟩=>?_
   have I5':=I5.pinned (fpc rfl fr5) (T.obj _ _ st5)
   have again:∀{o':St} {H7:Hp} {s7:Shared} {m':Nat} {ys':List V},o'.length=xs.length->Inv (X.inComp Nc sc cl s3 H3 fp) ([]++FF fp s6.heap) (σ++o') H7 s7->m' < n->W (i+1) m' ys' H7 ->
    ∃m,m < n/\∃(i:Nat) (o:St) (H':Hp) (ys:List V),o.length=xs.length/\Inv (X.inComp Nc sc cl s3 H3 fp) [] (σ++o) H' s7/\tn i s7.heap/\(∀b∈fp,H' b=none)/\W i m ys H':=fun {o' H7 s7 m' ys'} lo' I7 hm w7=>by
    refine ⟨m',hm,i+1,o',H7,ys',lo',I7.unpinned,T.keep _ _ _ st5 fun b hb o e=>(I7.pin (b,o) (mem_append_right _ (mem_append_right _ (CJ hb e)))).1,fun b hb=>?_,w7⟩
    obtain ⟨o',e,d⟩:=T.obj _ _ st5 b hb
    exact (I7.pin (b,o') (mem_append_right _ (mem_append_right _ (CJ hb e)))).2.1
   refine ES (hg cl s3 H3 fp _ s6 _ H5 xv u _ I5' r5 (step xv _ y5 o lo)) fun _ s7 ⟨σ7,H7,I7,⟨o7,e7,lo7⟩,q7⟩=>?_
   subst e7
   refine ES (ht cl s3 H3 fp _ s7 _ _ _ I7 q7) fun b s8 ⟨H8,I8,q8⟩=>?_
   cases b with
   | false =>
     rw [if_neg Bool.false_ne_true] at q8 ⊢
     obtain ⟨m',hm,w8⟩:=q8
     exact again lo7 I8 hm w8
   | true =>
     rw [if_pos rfl] at q8 ⊢
     refine ES (he cl s3 H3 fp _ s8 _ H8 _ I8 q8) fun y s9 ⟨yv,H9,I9,r9,hD9,m',hm,w9⟩=>?_
     refine ES (Cw _ s9 _ H9 (.ref s2.heap.objs.size) [yv] (.ref s2.heap.objs.size) [y] (fun v H=>v=.non/\H=upd H9 s2.heap.objs.size (.lst (ys++[yv]))) I9 rfl (.cons r9 .nil) ⟨_,ys,yv,rfl,rfl,hD9,hz,rfl,rfl⟩) fun _ s10 ⟨v10,H10,I10,r10,e10,e11⟩=>?_
     subst e11
     exact again lo7 I10 hm w9
 exact codeAny_compStart_list (loop _ rfl) (T.self _ 0 _ _ _ stc (loop _ rfl))
theorem E9 (I:∀y,(X.env.kindOf y=some .cell\/X.env.kindOf y=some .free)->∃c,X.env.cells.lookup y=some c) (hE:X.env.scope=fsc) (cn:D8 N Nc xs sc fsc):∀y∈sc.names,y.2=.free->∃c,X.env.cells.lookup y.1=some c:=fun y hy hf=>by
 refine I y.1 ?_
 show X.env.scope.names.lookup y.1=some .cell\/X.env.scope.names.lookup y.1=some .free
 rw [hE]
 exact cn.fr y hy hf
theorem Oz (hE:X.env.scope=fsc) (hXN:X.N=N) (cn:D8 N Nc xs sc fsc) (hc:X.calm=true) (hi:PI X tg iter wi)
 (hg:∀cl s H ex,PG (X.inComp Nc sc cl s H ex) tg g) (ht:∀cl s H ex,FB (X.inComp Nc sc cl s H ex) ifs tt) (he:∀cl s H ex,PE (X.inComp Nc sc cl s H ex) elt te)
 (hs:∀v,foldedSetIterable iter X.env v=pure v:=by intro _;rfl):PE X (.ListComp elt [⟨tg,iter,ifs,0⟩] sc pos) (Jf xs.length wi g tt te):=by
 intro pins s σ H Q I h
 obtain ⟨cl,hcl,clS,clH⟩:=CN (env:=X.env) (sc:=sc) (E9 I.ok.has hE cn)
 rw [eval_ListComp]
 refine wpAny_comprehension_free (use:=none) rfl hs hcl cn.kind cn.nm (thn (hi pins s σ H _ I h) fun v s1 h1=>thn h1 fun itv s2 h2=>?_)
 obtain ⟨it,fp,tn,J,H2,rfl,I2,T,st2,f2,h2⟩:=h2
 refine thn (Ee (pos:=pos) (iter:=iter) hE hXN cn hc hg ht he clS clH I2 T st2 f2 h2) fun acc s3 h3=>thn h3 fun cenv s4 h4=>codeAny_mono h4 fun r s' h5=>?_
 obtain ⟨rfl,D,H',rfl,I',q,cloc,m,hn⟩:=h5
 exact ⟨m,hn,fun h' k=>⟨.ref D,H',I'.sameBut cloc k,rfl,q⟩⟩
theorem Ov {j:Nat} {y:Str} {py spos:Pos} (hE:X.env.scope=fsc) (hXN:X.N=N) (cn:D8 N Nc xs sc fsc) (hc:X.calm=true) (hnd:X.N.Nodup) (hj:X.N[j]?=some y) (hy:X.env.scope.names.lookup y=some .local) (hi:PI X tg iter wi)
 (hg:∀cl s H ex,PG (X.inComp Nc sc cl s H ex) tg g) (ht:∀cl s H ex,FB (X.inComp Nc sc cl s H ex) ifs tt) (he:∀cl s H ex,PE (X.inComp Nc sc cl s H ex) elt te)
 (hsw:swapsWith (.ListComp elt [⟨tg,iter,ifs,0⟩] sc pos) (some (.Name y py)) spos.line X.env=pure true)
 (hs:∀v,foldedSetIterable iter X.env v=pure v:=by intro _;rfl):PS X (.Assign [.Name y py] (.ListComp elt [⟨tg,iter,ifs,0⟩] sc pos) spos) (OD (Jf xs.length wi g tt te) (BA j)):=by
 intro pins s σ H D I h
 obtain ⟨cl,hcl,clS,clH⟩:=CN (env:=X.env) (sc:=sc) (E9 I.ok.has hE cn)
 rw [exec_Assign_Name_used _ _ _ _ hsw]
 refine wpAny_bind (wpAny_standAt (wpAny_bind ?_))
 show wpAny _ X.A (do let _ <- comprehension (.ListComp elt [⟨tg,iter,ifs,0⟩] sc pos) sc X.env _ (newList []) false (eval iter X.env) (some (assign (.Name y py) X.env))) _ _ s
 refine wpAny_bind (thn (wpAny_comprehension_free (Q:=fun _ s'=>SP X pins D .next s') rfl hs hcl cn.kind cn.nm (thn (hi pins s σ H _ I h) fun v s1 h1=>thn h1 fun itv s2 h2=>?_)) fun _ s' hq=>wpAny_pure (wpAny_pure hq))
 obtain ⟨it,fp,tn,J,H2,rfl,I2,T,st2,f2,h2⟩:=h2
 refine thn (Ee (pos:=pos) (iter:=iter) (Q:=fun x H1=>BA j x σ H1 D.nx) hE hXN cn hc hg ht he clS clH I2 T st2 f2 h2) fun acc s3 h3=>thn h3 fun cenv s4 h4=>codeAny_mono h4 fun r s' h5=>?_
 obtain ⟨rfl,D',H',rfl,I',q,cloc,m,hn⟩:=h5
 refine wpAny_assign_Name (FT (v:=.ref D') I' hnd hj (.inl hy) rfl (fun s6 I6 sb=>?_) (.inr hy))
 obtain ⟨a,k,ha⟩:=sb
 refine ⟨m,hn.sameBut k (fun z=>?_),fun h' k'=>⟨_,H',I6.sameBut cloc k',q⟩⟩
 rcases ha with ha | ha
 ·exact cloc.ne (z.trans ha)
 ·exact cloc.cells _ _ ha z.symm
end
theorem Lb {K:PySem.W.Frag} {a:Addr} {zs:List V} {tt:TT} {te:TE} {σ:St} {H1:Hp} {Q:Addr->Hp->Prop} {n m:Nat} (hn:n=σ.length) (hm:m=σ.length+1) (hz:zs.length<=sizeLine) (Pv:Addr->Nat->List V->Hp->Prop)
 (h0:∀D,H1 D=none->Pv D 0 [] (upd H1 D (.lst []))) (hD:∀D i ys H,Pv D i ys H->H D=some (.lst ys)/\ys.length<=i) (hl:∀D i ys H,H1 D=none->Pv D i ys H->SqL K H a zs)
 (hs:∀D i x ys H (K1:VK) (K2:Hp->Prop),H1 D=none->zs[i]?=some x->Pv D i ys H->(∀y H5,H5 D=some (.lst ys)->Pv D (i+1) (ys++[y]) (upd H5 D (.lst (ys++[y])))->K1 y H5)->(∀H4,Pv D (i+1) ys H4->K2 H4) ->
  ∃t v w,x=.ref t/\SqT K H t [v,w]/\tt (σ++[some v,some w]) H fun b H4=>if b=true then te (σ++[some v,some w]) H4 K1 else K2 H4)
 (hd:∀D ys H,H1 D=none->Pv D zs.length ys H->Q D H) :
 ∀D,H1 D=none->∃W:Nat->Nat->List V->Hp->Prop,(∃m,W 0 m [] (upd H1 D (.lst [])))/\∀i k ys H2,W i k ys H2 ->
  H2 D=some (.lst ys)/\(((Itl K a).stop i H2/\Q D H2)\/((Itl K a).go i H2/\ys.length < sizeLine/\∀x H3,(Itl K a).yld i H2 x H3->∀os:St,os.length=2->M3 K 2 (Dc (BA n) (Dc (BA m) MF)) x (σ++os) H3 fun σ4 H4=>(∃os':St,σ4=σ++os'/\os'.length=2)/\tt σ4 H4 fun b H5=>if b=true then te σ4 H5 fun y H6=>H6 D=some (.lst ys)/\∃m',m' < k/\W (i+1) m' (ys++[y]) (upd H6 D (.lst (ys++[y])))
   else ∃m',m' < k/\W (i+1) m' ys H5)):=by
 intro D hDn
 subst hn hm
 refine ⟨fun i m ys H=>m=zs.length - i/\i<=zs.length/\Pv D i ys H,⟨zs.length,rfl,Nat.zero_le _,h0 D hDn⟩,?_⟩
 rintro i m ys H2 ⟨rfl,hi,p⟩
 obtain ⟨e,l⟩:=hD D i ys H2 p
 have q:=hl D i ys H2 hDn p
 refine ⟨e,?_⟩
 by_cases hlt:i < zs.length
 ·refine .inr ⟨⟨zs,zs[i],q,by simp [hlt]⟩,Nat.lt_of_le_of_lt l (Nat.lt_of_lt_of_le hlt hz),fun x H3 y os ho=>?_⟩
  obtain ⟨e1,y⟩:=y
  subst e1
  obtain ⟨t,v,w,rfl,ht,q5⟩:=hs D i x ys _ (fun y H6=>H6 D=some (.lst ys)/\∃m',m' < zs.length - i/\m'=zs.length - (i+1)/\i+1<=zs.length/\Pv D (i+1) (ys++[y]) (upd H6 D (.lst (ys++[y])))) (fun H5=>∃m',m' < zs.length - i/\m'=zs.length - (i+1)/\i+1<=zs.length/\Pv D (i+1) ys H5) hDn (y zs q) p (fun y H5 h5 p5=>⟨h5,zs.length - (i+1),by omega,rfl,hlt,p5⟩) fun H4 p4=>⟨zs.length - (i+1),by omega,rfl,hlt,p4⟩
  match os,ho with
  | [o1,o2],_ =>
    have e2:((σ++[o1,o2]).set σ.length (some v)).set (σ.length+1) (some w)=σ++[some v,some w]:=by
     rw [set_append_right _ _ (Nat.le_refl _),Nat.sub_self,set_append_right _ _ (Nat.le_succ _)]
     rw [show (List.length σ+1) - List.length σ=1 by omega]
     rfl
    refine ⟨t,[v,w],rfl,ht,rfl,v,[w],rfl,w,[],rfl,rfl,?_⟩
    refine ⟨⟨[some v,some w],e2,rfl⟩,?_⟩
    rw [e2]
    exact q5
 ·have ei:i=zs.length:=by omega
  subst ei
  exact .inl ⟨⟨zs,q,Nat.le_refl _⟩,hd D ys H2 hDn p⟩
section
variable {X:Cx} {elt iter:Expr} {x1 x2 x3:Str} {p1 p2 p3 pt pos:Pos} {k:Nat} {ifs:List Expr} {sc fsc:Scope} {N Nc:List Str} {wi:TI} {tt:TT} {te:TE}
theorem KJ (hE:X.env.scope=fsc) (hXN:X.N=N) (cn:D8 N Nc [x1,x2] sc fsc) (hc:X.calm=true) (hi:PI X (.Tuple [.Name x1 p1,.Name x2 p2] k pt) iter wi)
 (ht:∀cl s H ex,FB (X.inComp Nc sc cl s H ex) ifs tt) (he:∀cl s H ex,PE (X.inComp Nc sc cl s H ex) elt te) (hs:∀v,foldedSetIterable iter X.env v=pure v:=by intro _;rfl) :
 PE X (.ListComp elt [⟨.Tuple [.Name x1 p1,.Name x2 p2] k pt,iter,ifs,0⟩] sc pos) (Jf 2 wi (M3 X.K 2 (Dc (BA N.length) (Dc (BA (N.length+1)) MF))) tt te) :=
 Oz hE hXN cn hc hi (fun cl s H ex=>DY (X:=X.inComp Nc sc cl s H ex) hc (AC (C9 (j:=0) cn rfl rfl) (AC (C9 (j:=1) cn rfl rfl) Dn))) ht he hs
end
end L2
namespace L2
open PySem PySem.Spec PyProof.Rows
theorem Ei.ns {N Nc:List Str} {x:Str} {sc fsc:Scope} (c:Ei N Nc x sc fsc):D8 N Nc [x] sc fsc:=⟨c.kind,c.cell,c.nm,fun y m=>by rw [mem_singleton.mp m];exact c.own,c.fr,c.len,c.nd,by
 have l:=c.len
 refine ext_getElem? fun i=>?_
 rw [List.getElem?_drop]
 cases i with
 | zero=>exact c.last
 | succ i=>rw [List.getElem?_eq_none (by omega),List.getElem?_eq_none (by show 1<=i+1;omega)],c.slot⟩
section
variable {X:Cx} {elt iter:Expr} {x:Str} {px pos:Pos} {ifs:List Expr} {sc fsc:Scope} {N Nc:List Str} {wi:TI} {tt:TT} {te:TE}
theorem HC {J:It} {σ:St} {H1:Hp} {Q:VK} {n:Nat} (hn:n=σ.length) (h:∀D,H1 D=none->∃W:Nat->Nat->List V->Hp->Prop,(∃m,W 0 m [] (upd H1 D (.lst [])))/\∀i m ys H2,W i m ys H2 ->
 H2 D=some (.lst ys)/\((J.stop i H2/\Q (.ref D) H2)\/(J.go i H2/\ys.length < sizeLine/\∀x H3,J.yld i H2 x H3->tt (σ++[some x]) H3 fun b H4=>if b=true then te (σ++[some x]) H4 fun y H5=>H5 D=some (.lst ys)/\∃m',m' < m/\W (i+1) m' (ys++[y]) (upd H5 D (.lst (ys++[y])))
  else ∃m',m' < m/\W (i+1) m' ys H4))) :
 ∀D,H1 D=none->∃W:Nat->Nat->List V->Hp->Prop,(∃m,W 0 m [] (upd H1 D (.lst [])))/\∀i m ys H2,W i m ys H2 ->
  H2 D=some (.lst ys)/\((J.stop i H2/\Q (.ref D) H2)\/(J.go i H2/\ys.length < sizeLine/\∀x H3,J.yld i H2 x H3->∀os:St,os.length=1->BA n x (σ++os) H3 fun σ4 H4=>(∃os':St,σ4=σ++os'/\os'.length=1)/\tt σ4 H4 fun b H5=>if b=true then te σ4 H5 fun y H6=>H6 D=some (.lst ys)/\∃m',m' < m/\W (i+1) m' (ys++[y]) (upd H6 D (.lst (ys++[y])))
   else ∃m',m' < m/\W (i+1) m' ys H5)):=by
 intro D hD
 obtain ⟨W,w0,w1⟩:=h D hD
 refine ⟨W,w0,fun i m ys H2 w=>?_⟩
 obtain ⟨a,b⟩:=w1 i m ys H2 w
 refine ⟨a,b.imp id fun ⟨c,d,e⟩=>⟨c,d,fun x H3 y os ho=>?_⟩⟩
 match os,ho with
 | [o],_ =>
   have e2:(σ++[o]).set n (some x)=σ++[some x]:=by rw [hn];exact Kb
   show (∃os':St,(σ++[o]).set n (some x)=σ++os'/\os'.length=1)/\_
   rw [e2]
   exact ⟨⟨[some x],rfl,rfl⟩,e x H3 y⟩
theorem B7 (hE:X.env.scope=fsc) (hXN:X.N=N) (cn:Ei N Nc x sc fsc) (hc:X.calm=true) (hi:PI X (.Name x px) iter wi)
 (ht:∀cl s H ex,FB (X.inComp Nc sc cl s H ex) ifs tt) (he:∀cl s H ex,PE (X.inComp Nc sc cl s H ex) elt te)
 (hs:∀v,foldedSetIterable iter X.env v=pure v:=by intro _;rfl):PE X (.ListComp elt [⟨.Name x px,iter,ifs,0⟩] sc pos) (JO wi tt te):=by
 intro pins s σ H Q I h
 obtain ⟨cl,hcl,clS,clH⟩:=CN (env:=X.env) (sc:=sc) (E9 I.ok.has hE cn.ns)
 rw [eval_ListComp]
 refine wpAny_comprehension_free (use:=none) rfl hs hcl cn.kind cn.nm (thn (hi pins s σ H _ I h) fun v s1 h1=>thn h1 fun itv s2 h2=>?_)
 obtain ⟨it,fp,tn,J,H2,rfl,I2,T,st2,f2,h2⟩:=h2
 refine thn (Ee (pos:=pos) (iter:=iter) hE hXN cn.ns hc (fun cl s H ex=>C9 (j:=0) cn.ns rfl rfl) ht he clS clH I2 T st2 f2 (HC (by rw [I2.len,hXN];rfl) h2)) fun acc s3 h3=>thn h3 fun cenv s4 h4=>codeAny_mono h4 fun r s' h5=>?_
 obtain ⟨rfl,D,H',rfl,I',q,cloc,m,hn⟩:=h5
 exact ⟨m,hn,fun h' k=>⟨.ref D,H',I'.sameBut cloc k,rfl,q⟩⟩
theorem Di {j:Nat} {y:Str} {py spos:Pos} (hE:X.env.scope=fsc) (hXN:X.N=N) (cn:Ei N Nc x sc fsc) (hc:X.calm=true) (hnd:X.N.Nodup) (hj:X.N[j]?=some y) (hy:X.env.scope.names.lookup y=some .local) (hi:PI X (.Name x px) iter wi)
 (ht:∀cl s H ex,FB (X.inComp Nc sc cl s H ex) ifs tt) (he:∀cl s H ex,PE (X.inComp Nc sc cl s H ex) elt te)
 (hsw:swapsWith (.ListComp elt [⟨.Name x px,iter,ifs,0⟩] sc pos) (some (.Name y py)) spos.line X.env=pure true)
 (hs:∀v,foldedSetIterable iter X.env v=pure v:=by intro _;rfl):PS X (.Assign [.Name y py] (.ListComp elt [⟨.Name x px,iter,ifs,0⟩] sc pos) spos) (OD (JO wi tt te) (BA j)):=by
 intro pins s σ H D I h
 obtain ⟨cl,hcl,clS,clH⟩:=CN (env:=X.env) (sc:=sc) (E9 I.ok.has hE cn.ns)
 rw [exec_Assign_Name_used _ _ _ _ hsw]
 refine wpAny_bind (wpAny_standAt (wpAny_bind ?_))
 show wpAny _ X.A (do let _ <- comprehension (.ListComp elt [⟨.Name x px,iter,ifs,0⟩] sc pos) sc X.env _ (newList []) false (eval iter X.env) (some (assign (.Name y py) X.env))) _ _ s
 refine wpAny_bind (thn (wpAny_comprehension_free (Q:=fun _ s'=>SP X pins D .next s') rfl hs hcl cn.kind cn.nm (thn (hi pins s σ H _ I h) fun v s1 h1=>thn h1 fun itv s2 h2=>?_)) fun _ s' hq=>wpAny_pure (wpAny_pure hq))
 obtain ⟨it,fp,tn,J,H2,rfl,I2,T,st2,f2,h2⟩:=h2
 refine thn (Ee (pos:=pos) (iter:=iter) (Q:=fun x H1=>BA j x σ H1 D.nx) hE hXN cn.ns hc (fun cl s H ex=>C9 (j:=0) cn.ns rfl rfl) ht he clS clH I2 T st2 f2 (HC (Q:=fun x H1=>BA j x σ H1 D.nx) (by rw [I2.len,hXN];rfl) h2)) fun acc s3 h3=>thn h3 fun cenv s4 h4=>codeAny_mono h4 fun r s' h5=>?_
 obtain ⟨rfl,D',H',rfl,I',q,cloc,m,hn⟩:=h5
 refine wpAny_assign_Name (FT (v:=.ref D') I' hnd hj (.inl hy) rfl (fun s6 I6 sb=>?_) (.inr hy))
 obtain ⟨a,k,ha⟩:=sb
 refine ⟨m,hn.sameBut k (fun z=>?_),fun h' k'=>⟨_,H',I6.sameBut cloc k',q⟩⟩
 rcases ha with ha | ha
 ·exact cloc.ne (z.trans ha)
 ·exact cloc.cells _ _ ha z.symm
end
end L2
namespace L2
open PySem PySem.Spec PyProof.Rows
section
variable {X:Cx}
end
section
variable {X:Cx}
theorem Fh {K:PySem.W.Frag} (hK:X.K=K:=by rfl):MtR X "list.index" (fun x vs H Q=>∃(a:Addr) (ns:List Int) (k:Int),x=.ref a/\vs=[.int k]/\SqL K H a (ns.map V.int)/\k∈ns/\Q (.int (ns.idxOf k:Nat)) H):=by
 subst hK
 intro pins s σ H x vs v us Q I rx rv h
 obtain ⟨a,ns,k,rfl,rfl,hq,hk,q⟩:=h
 cases rx
 obtain ⟨u,rfl,t,rfl⟩:=E1 rv
 obtain ⟨its,rv,pl,hz⟩:=I.list hq
 have hi:=Co rv
 have hl:=hi.length
 have hj:ns.idxOf k < ns.length:=idxOf_lt_length_iff.mpr hk
 have hb:ns.length<=sizeLine:=by rw [length_map] at hz;exact hz
 rw [sizeLine_eq] at hb
 obtain ⟨⟨cls,dd,data,sl⟩,ho,hc,n,hd⟩:=pl.isList
 replace hc:cls=.type "list":=hc
 replace hd:data=.seq its.toArray n:=hd
 subst hc hd
 refine call_meets PySem.F.slot_list_index ⟨_,ho,rfl⟩ PySem.F.entry_list_index (PySem.F.args_list_index_2 _ _) (PySem.SeqAt.list_indexAt a its.toArray n dd sl (.int k t) (isInt k) (ns.idxOf k) (by rw [size_toArray];omega) (by omega) ?_ ?_) ⟨ho,fun y hy=>(eq_isInt k t hi y (by simpa using hy)).at _ _,?_⟩
 ·have:isInt k its[ns.idxOf k]=true:=by rw [isInt_at k hi _ (by omega) hj];simpa using getElem_idxOf hj
  exact this
 ·intro j hjs hlt
  have:isInt k its[j]=false:=by rw [isInt_at k hi j (by simpa using hjs) (by omega)];exact ne_of_lt_idxOf hlt _
  exact this
 ·exact ⟨.int _,H,I.tok _,⟨_,rfl⟩,q⟩
end
theorem DL:∀ns ms:List Int,PyData.eqvAll (ns.map .int) (ms.map .int)=decide (ns=ms)
 | [],[]=>rfl
 | [],_ :: _=>rfl
 | _ :: _,[]=>rfl
 | n :: ns,m :: ms=>by
   show ((n == m) && PyData.eqvAll (ns.map .int) (ms.map .int))=_
   rw [DL ns ms]
   by_cases h:n=m
   ·by_cases k:ns=ms
    ·subst h;subst k;simp
    ·simp [h,k]
   ·simp [h]
theorem lay_ints:∀ns:List Int,PyData.canLayAll0 (ns.map .int)=true/\PyData.depthAll (ns.map .int)<=0
 | []=>⟨rfl,Nat.le_refl _⟩
 | n :: ns=>by
   obtain ⟨h1,h2⟩:=lay_ints ns
   refine ⟨?_,?_⟩
   ·show (true && PyData.canLayAll0 (ns.map .int))=true
    rw [h1];rfl
   ·show max 0 (PyData.depthAll (ns.map .int))<=0
    omega
theorem B6 (ns:List Int):SeqAt.shaped (.tuple (ns.map .int))=true/\SeqAt.shaped (.list (ns.map .int))=true:=by
 obtain ⟨h1,h2⟩:=lay_ints ns
 constructor
 ·unfold SeqAt.shaped
  rw [Bool.and_eq_true]
  refine ⟨h1,decide_eq_true ?_⟩
  show PyData.depthAll (ns.map .int)+1<=64
  omega
 ·unfold SeqAt.shaped
  rw [Bool.and_eq_true]
  refine ⟨h1,decide_eq_true ?_⟩
  show PyData.depthAll (ns.map .int)+1<=64
  omega
section
variable {X:Cx}
theorem Qx {K:PySem.W.Frag} (hu:X.A.units+64 < cLine) (hK:X.K=K:=by rfl):OpR X (compareOp .NotEq) (fun x y H Q=>∃(a b:Addr) (ns ms:List Int),x=.ref a/\y=.ref b/\SqT K H a (ns.map V.int)/\SqT K H b (ms.map V.int)/\Q (.bl (!decide (ns=ms))) H):=by
 intro pins s σ H x y v u Q I rx ry h
 obtain ⟨a,b,ns,ms,rfl,rfl,ha,hb,q⟩:=h
 refine FQ hu hK pins s σ H _ _ v u Q I rx ry ⟨.tuple (ns.map .int),.tuple (ms.map .int),.tup ha (.ints ns),.tup hb (.ints ms),(B6 ns).1,(B6 ms).1,?_⟩
 rw [show PyData.eqv (.tuple (ns.map .int)) (.tuple (ms.map .int))=decide (ns=ms) from DL ns ms]
 exact q
end
end L2
namespace L2
open PySem PySem.Spec PyProof.Rows
namespace CutT
open HT
section
variable {prog:Program} {w:World} {A:Around} {E:Value->Shared->Prop} {s:Shared}
end
end CutT
end L2
namespace L2
open PySem PySem.Spec PyProof.Rows
section
variable {prog:Program} {w:World} {A:Around} {E:Value->Shared->Prop} {s:Shared}
end
section
variable {M:Model} {A:Around} {E:Value->Shared->Prop} {s:Shared} {env:Env}
end
section
variable {X:Cx}
end
end L2
namespace L2
open PySem PySem.Spec PyProof.Rows
theorem map_erase {α β:Type} (f:α->β):∀(xs:List α) (j:Nat),(xs.map f).eraseIdx j=(xs.eraseIdx j).map f
 | [],_=>rfl
 | _ :: _,0=>rfl
 | x :: xs,j+1=>congrArg (f x :: ·) (map_erase f xs j)
section
variable {X:Cx}
def P1:V->List V->Hp->VK->Prop:=fun x vs H Q=>∃(l:Addr) (ns:List Int) (k:Int),x=.ref l/\vs=[.int k]/\H l=some (.lst (ns.map V.int))/\k∈ns/\Q .non (upd H l (.lst ((ns.eraseIdx (ns.idxOf k)).map V.int)))
theorem Iq:MtM X "list.remove" P1:=by
 intro pins s σ H x vs v us Q I rx rv h
 obtain ⟨l,ns,k,rfl,rfl,hH,hk,q⟩:=h
 cases rx
 obtain ⟨u,rfl,ru⟩:=rv.one
 obtain ⟨t,rfl⟩:=ru
 obtain ⟨z,its,n,r,hl,e⟩:=I.lstM hH
 have hi:=Co r
 have hn:=hi.length
 have hj:ns.idxOf k < ns.length:=idxOf_lt_length_iff.mpr hk
 have ml:(ns.map V.int).length=ns.length:=length_map ..
 refine call_meets PySem.F.slot_list_remove ⟨_,e,rfl⟩ PySem.F.entry_list_remove (PySem.F.args_list_remove_2 _ _) (MeetsSeq.list_remove l its.toArray n (.int k t) (isInt k) (fun y hy=>eq_isInt k t hi y (by simpa using hy)) (ns.idxOf k) (by rw [size_toArray];omega) ?_ ?_ (by rw [size_toArray];omega)) ⟨e,?_⟩
 ·have:isInt k its[ns.idxOf k]=true:=by rw [isInt_at k hi _ (by omega) hj];simpa using getElem_idxOf hj
  exact this
 ·intro j hjs hlt
  have:isInt k its[j]=false:=by rw [isInt_at k hi j (by simpa using hjs) (by omega)];exact ne_of_lt_idxOf hlt _
  exact this
 ·rw [<- map_erase] at q
  refine ⟨.non,_,I.lset (its':=its.eraseIdx (ns.idxOf k)) hH e ?_ (r.eraseIdx (ns.idxOf k)) ?_,rfl,q⟩
  ·show its.toArray.eraseIdxIfInBounds (ns.idxOf k)=(its.eraseIdx (ns.idxOf k)).toArray
   rw [eraseIdxIfInBounds_toArray]
  ·have:=FK (ns.map V.int) (ns.idxOf k)
   omega
end
theorem Kx:∀{xs:List V} {us:List Value},xs.length=us.length->(∀(i:Nat) x u,xs[i]?=some x->us[i]?=some u->A8 x u)->A7 xs us
 | [],[],_,_=>.nil
 | [],_ :: _,h,_=>by cases h
 | _ :: _,[],h,_=>by cases h
 | x :: xs,u :: us,h,k=>.cons (k 0 x u rfl rfl) (Kx (Nat.succ.inj h) fun i y v h1 h2=>k (i+1) y v h1 h2)
section
variable {X:Cx} {e:Expr} {te:TE} {p p2 pos pos2:Pos}
def Pe (te:TE):TE:=fun σ H Q=>te σ H fun x H1=>∃n:Nat,x=.int (n:Int)/\n < 1000/\∀l,H1 l=none->Q (.ref l) (upd H1 l (.lst ((List.range n).map fun i:Nat=>V.int (i:Int))))
theorem C3 (hc:X.calm=true) (hg:Gl X "list") (hm:X.mg "list"=none) (hg2:Gl X "range") (hm2:X.mg "range"=none) (he:PE X e te)
 (hs:starEach [e] X.env=[(false,eval e X.env)]:=by rfl)
 (hs2:starEach [(.Call (.Name "range" p2) [e] [] pos2:Expr)] X.env=[(false,eval (.Call (.Name "range" p2) [e] [] pos2) X.env)]:=by rfl) :
 PE X (.Call (.Name "list" p) [.Call (.Name "range" p2) [e] [] pos2] [] pos) (Pe te):=by
 intro pins s σ H Q I h
 refine wpAny_Call_Name_kw (DA I hg hm boot_list ?_ (by decide) (by decide))
 refine callWith_type1 ?_ hs2 rfl
 rw [hs2]
 refine Calls.spliced_cons ?_
 refine wpAny_Call_Name_kw (DA I hg2 hm2 boot_range ?_ (by decide) (by decide))
 refine callWith_type1 ?_ hs rfl
 rw [hs]
 refine Calls.spliced_cons (thn (he pins s σ H _ I h) fun u s1 ⟨x,H1,I1,r1,n,hx,hn,q⟩=>?_)
 subst hx
 obtain ⟨t,rfl⟩:=r1
 refine Calls.spliced_nil ?_
 refine call_range_1 ?_
 refine Calls.spliced_nil ?_
 refine call_list_range (n:=n) (I1.ok.hd hc) (IsRange.new ..) (small_one (by omega) (by omega) (by omega) (by omega)) (by rw [rangeSize_one];split <;> omega) (by omega) fun h' tk acc c' kp eS it=>?_
 have kp':∀b o,s1.heap.get? b=some o->h'.get? b=some o:=fun b o e=>kp b o (Heap.get?_push_of_some _ e)
 have hp:s1.heap.objs.size<=(s1.heap.push { cls:=.type "range",data:=.fields #[.int 0 s1.toks,.int (n:Int) t,.int 1 (s1.toks+1)] }).objs.size:=by simp [Heap.push]
 have rv:A7 ((List.range n).map fun i:Nat=>V.int (i:Int)) acc.toList:=by
  refine Kx (by simp [it.1]) fun i x u hx hu=>?_
  rw [List.getElem?_map] at hx
  obtain ⟨t',e⟩:=it.2 i u (by simpa using hu)
  have hi:i < n:=by
   have:=(List.getElem?_eq_some_iff.mp hu).1
   rw [Array.length_toList,it.1] at this
   exact this
  rw [List.getElem?_range hi] at hx
  have hx':x=V.int (i:Int):=(Option.some.inj hx).symm
  subst hx'
  exact ⟨t',by rw [e];simp⟩
 have hz:((List.range n).map fun i:Nat=>V.int (i:Int)).length<=sizeLine:=by rw [length_map,length_range];exact Nat.le_of_lt (A9 (by omega))
 exact ⟨.ref _,_,I1.laid (t':=tk) kp' hp (show Bc X.prog X.w _ h' _ (.lst ((List.range n).map fun i:Nat=>V.int (i:Int))) from ⟨hz,acc.toList,c',rv,by simpa using eS⟩),rfl,q _ (I1.hok.fresh hp)⟩
end
section
variable {prog:Program} {w:World} {A:Around} {E:Value->Shared->Prop} {s:Shared}
end
section
variable {X:Cx}
end
end L2
namespace L2
open PySem PySem.Spec PyProof.Rows
section
variable {P:Program} {w:World} {K:PySem.W.Frag} {mg:Str->Option Value} {base:Heap}
end
section
variable {X:Cx} {k:Nat} {f:Addr} {fd:FuncData} {ps:List Str} {sp:Sp} {x:Str} {p pos:Pos} {e:Expr} {es:List Expr} {t:TA}
end
section
variable {X:Cx}
end
end L2
namespace L2
open PySem PySem.Spec PyProof.Rows
section
variable {prog:Program} {w:World} {A:Around} {E:Value->Shared->Prop} {s:Shared}
end
section
variable {X:Cx} {pins:List (Addr × Obj)} {σ:St} {H:Hp}
end
end L2
namespace L2
open PySem PySem.Spec PyProof.Rows
section
variable {prog:Program} {w:World} {A:Around} {E:Value->Shared->Prop} {s:Shared}
end
section
variable {X:Cx}
end
end L2
namespace L2
open PySem PySem.Spec PyProof.Rows
structure P0 (K:PySem.W.Frag) (x qual:Str) (st:Stmt) (f:Addr) (fd:FuncData):Prop where
 ex:∃(oc:Value) (od:Option Addr) (dV kV doc pm:Value) (an:Option Addr) (cdv ct:Value) (osl:Array (Option Value)),
  fd=PySem.W.fnOf x qual (Ap st) (An st) (Ad st) dV kV doc pm an cdv ct/\K.lookup f=some ⟨oc,od,.func fd,osl⟩/\PySem.W.codeIn K cdv qual=true
 kp:PySem.W.keepIn K (.ref f)=true
section
variable {P:Program} {w:World} {K:PySem.W.Frag} {mg:Str->Option Value} {base:Heap}
theorem P0.ok {x qual:Str} {st:Stmt} {f:Addr} {fd:FuncData} {N ps:List Str} {k:Nat} {sp:Sp} (F:P0 K x qual st f fd) (S:Ar N ps (Ad st)) (len:∀vs H Q E,sp vs H Q E->vs.length=ps.length)
 (hbody:∀(cdv:Value) (A:Around) (outer:List Env) (s:Shared) (H:Hp) (vs:List V) (Q:VK) (E:XK),CY k (A.deeper (envOfC qual (Ad st) s.heap.objs.size f cdv))->sp vs H Q E ->
  ∃t,PSs (JI CX0 P w K mg base N qual (Ad st) f cdv A outer s H E).nox (An st) t/\t { nx:=fun _ H'=>Q .non H',rt:=Q } (start N vs) H):AI P w K mg base CX0 (k+1) f fd ps sp:=by
 obtain ⟨oc,od,dV,kV,doc,pm,an,cdv,ct,osl,rfl,lk,hcd⟩:=F.ex
 refine NF lk hcd S len fun A outer s H vs Q E hr hsp=>?_
 obtain ⟨t,h,q⟩:=hbody cdv A outer s H vs Q E hr hsp
 exact ⟨t,h.nox,q⟩
theorem OW {x qual:Str} {st:Stmt} {f:Addr} {oc:Value} {od an:Option Addr} {osl:Array (Option Value)} {dV kV doc pm cdv ct:Value} (l:K.lookup f=some ⟨oc,od,.func (PySem.W.fnOf x qual (Ap st) (An st) (Ad st) dV kV doc pm an cdv ct),osl⟩)
 (c:PySem.W.codeIn K cdv qual=true) (k:PySem.W.keepIn K (.ref f)=true):P0 K x qual st f (PySem.W.fnOf x qual (Ap st) (An st) (Ad st) dV kV doc pm an cdv ct):=⟨⟨oc,od,dV,kV,doc,pm,an,cdv,ct,osl,rfl,l,c⟩,k⟩
end
section
variable {X:Cx} {CX:CXT} {W:St->XK} {k:Nat} {f C:Addr} {fd:FuncData} {ps:List Str} {sp:Sp} {dvs:List V} {ds:List Value} {E:XK} {x m:Str} {p pos apos:Pos} {e o:Expr} {es:List Expr} {ta:TE} {t:TA}
end
end L2
namespace L2
open PySem PySem.Spec PyProof.Rows
noncomputable def Cx.inCompC (X:Cx) (Nc:List Str) (sc:Scope) (x:Str) (cl:List (Str × Addr)) (s:Shared) (H:Hp) (ex:List Addr):Cx :=
 { X with N:=Nc,s₀:=s,H₀:=H,env:=compEnvC sc ((x,s.heap.objs.size+1) :: cl) s.heap.objs.size X.env,outer:=X.stack,stack:=X.stack,ex:=ex,fn:=fun y=>decide (y=x),pn:=[],xe:=fun _ _=>False }
structure Hm (N Nc:List Str) (x:Str) (sc fsc:Scope):Prop where
 kind:sc.kind=.function
 one:(sc.names.filter fun y=>y.2 == .cell)=[(x,.cell)]
 nm:∀y∈sc.names,y.2=.local->sc.names.lookup y.1=some .local
 own:sc.names.lookup x=some .cell
 fr:∀y∈sc.names,y.2=.free->fsc.names.lookup y.1=some .cell\/fsc.names.lookup y.1=some .free
 len:Nc.length=N.length+1
 nd:Nc.Nodup
 last:Nc[N.length]?=some x
 slot:((List.range N.length).all fun i=>match Nc[i]? with
  | some y=>(match sc.names.lookup y with | some .free=>N[i]? == some y | some .local=>false | some .cell=>false | _=>true)
  | none=>true)=true
theorem Hm.at {N Nc:List Str} {x:Str} {sc fsc:Scope} (C:Hm N Nc x sc fsc) {i:Nat} {y:Str} (hi:i < N.length) (h:Nc[i]?=some y):sc.names.lookup y≠some .local/\sc.names.lookup y≠some .cell/\(sc.names.lookup y=some .free->N[i]?=some y):=by
 have q:=all_eq_true.mp C.slot i (mem_range.mpr hi)
 rw [h] at q
 dsimp only at q
 cases e:sc.names.lookup y with
 | none=>exact ⟨fun z=>(nomatch z),fun z=>(nomatch z),fun z=>(nomatch z)⟩
 | some k =>
   rw [e] at q
   cases k with
   | «local»=>exact absurd (show false=true from q) Bool.false_ne_true
   | cell=>exact absurd (show false=true from q) Bool.false_ne_true
   | free=>exact ⟨fun z=>(nomatch z),fun z=>(nomatch z),fun _=>by simpa using q⟩
   | _=>exact ⟨fun z=>(nomatch z),fun z=>(nomatch z),fun z=>(nomatch z)⟩
theorem CM:∀(names:List (Str × NameKind)) (n:Nat) (acc:List (Str × Addr)),cellsFrom n names acc=cellsFrom n (names.filter fun y=>y.2 == .cell) acc
 | [],_,_=>rfl
 | (y,k) :: r,n,acc=>by
   rw [filter_cons]
   cases e:k == NameKind.cell with
   | true=>simp only [if_true,cellsFrom,e];exact CM r _ _
   | false=>simp only [Bool.false_eq_true,if_false,cellsFrom,e];exact CM r _ _
theorem CU:∀(names:List (Str × NameKind)) (h:Heap),pushCells h names=pushCells h (names.filter fun y=>y.2 == .cell)
 | [],_=>rfl
 | (y,k) :: r,h=>by
   rw [filter_cons]
   cases e:k == NameKind.cell with
   | true=>simp only [if_true,pushCells,e];exact CU r _
   | false=>simp only [Bool.false_eq_true,if_false,pushCells,e];exact CU r _
theorem Hy {M:Model} {A:Around} {E:Value->Shared->Prop} {s:Shared} {scope:Scope} {globals:Addr} {closure:List (Str × Addr)} {qual:Str} {outer:Env} {x:Str} {Q:Env->Shared->Prop}
 (one:(scope.names.filter fun y=>y.2 == .cell)=[(x,.cell)])
 (hQ:Q (newEnv scope s.heap.objs.size globals ((x,s.heap.objs.size+1) :: closure) qual none .none (some outer) builtinsNs) { s with heap:=(s.heap.push { cls:=.type "dict",data:=.dict #[] }).push { cls:=.type "cell",data:=.cell none } }) :
 wpAny M A (newFunctionEnv scope globals closure [] qual none .none (some outer)) Q E s:=by
 simp only [newFunctionEnv,Option.isSome_some,if_true]
 refine wpAny_bind (wpAny_alloc ?_)
 refine wpAny_bind (wpAny_layCells _ (fun name kind cells=>by cases hkc:kind == NameKind.cell <;> simp [hkc]) _ _ _ _ ?_)
 rw [CM,CU,one]
 rw [show ({ s with heap:=s.heap.push { cls:=.type "dict",data:=.dict #[] } }:Shared).heap.objs.size=s.heap.objs.size+1 from Heap.size_push ..]
 rw [forIn_nil]
 exact wpAny_bind (wpAny_pure (wpAny_pure hQ))
section
variable {X:Cx} {elt iter:Expr} {x:Str} {px pos:Pos} {ifs:List Expr} {sc fsc:Scope} {N Nc:List Str} {wi:TI} {tt:TT} {te:TE}
theorem L0 (hE:X.env.scope=fsc) (hXN:X.N=N) (cn:Hm N Nc x sc fsc) (hc:X.calm=true)
 (ht:∀cl s H ex,FB (X.inCompC Nc sc x cl s H ex) ifs tt) (he:∀cl s H ex,PE (X.inCompC Nc sc x cl s H ex) elt te)
 {cl:List (Str × Addr)} (clS:∀y c,cl.lookup y=some c->X.env.cells.lookup y=some c) (clH:∀y∈sc.names,y.2=.free->∃c,cl.lookup y.1=some c)
 {pins:List (Addr × Obj)} {σ:St} {H2:Hp} {s2:Shared} {it:Addr} {fp:List Addr} {tn:Nat->Heap->Prop} {J:It} {Q:VK} {E:Value->Shared->Prop}
 (I2:Inv X pins σ H2 s2) (T:Lh X.prog X.w X.K (.Name x px) J fp it tn) (st2:tn 0 s2.heap) (f2:∀b∈fp,GN X pins H2 b)
 (h2:∀D,H2 D=none->∃W:Nat->Nat->List V->Hp->Prop,(∃m,W 0 m [] (upd H2 D (.lst [])))/\∀i m ys H2,W i m ys H2 ->
  H2 D=some (.lst ys)/\((J.stop i H2/\Q (.ref D) H2)\/(J.go i H2/\ys.length < sizeLine/\∀x H3,J.yld i H2 x H3->tt (σ++[some x]) H3 fun b H4=>if b=true then te (σ++[some x]) H4 fun y H5=>H5 D=some (.lst ys)/\∃m',m' < m/\W (i+1) m' (ys++[y]) (upd H5 D (.lst (ys++[y])))
   else ∃m',m' < m/\W (i+1) m' ys H4))) :
 wpAny (model X.prog X.w) X.A (newList []) (fun acc s₃=>wpAny (model X.prog X.w) X.A (newFunctionEnv sc X.env.globals cl [] X.env.qual none .none (some X.env)) (fun cenv s₄ =>
  codeAny (model X.prog X.w) X.A (.compStart (.ListComp elt [⟨.Name x px,iter,ifs,0⟩] sc pos) 0 (.ref it) acc { cenv with scope:=relabel sc X.env })
   (fun r s'=>r=.ok .next/\∃D H',acc=.ref D/\Inv X pins σ H' s'/\Q (.ref D) H'/\Em X pins H' cenv.locals/\∃m,s'.heap.Ns cenv.locals m) s₄) E s₃) E s2:=by
 refine wpAny_newObj_type (Hy cn.one ?_)
 dsimp only
 have hD:H2 s2.heap.objs.size=none:=I2.hok.fresh (Nat.le_refl _)
 obtain ⟨W,⟨m0,w0⟩,turn⟩:=h2 s2.heap.objs.size hD
 have I3:Inv X pins σ (upd H2 s2.heap.objs.size (.lst [])) { s2 with heap:=s2.heap.push { cls:=.type "list",dict:=none,data:=.seq ([]:List Value).toArray } } :=
  I2.laid (t':=s2.toks) (fun b u e=>Heap.get?_push_of_some _ e) (Nat.le_refl _) ⟨Nat.zero_le _,[],0,.nil,Heap.get?_push_size _ rfl⟩
 generalize hs3:({ s2 with heap:=s2.heap.push { cls:=.type "list",dict:=none,data:=.seq ([]:List Value).toArray } }:Shared)=s3 at I3
 have eh:s3.heap=s2.heap.push { cls:=.type "list",dict:=none,data:=.seq ([]:List Value).toArray }:=by rw [<- hs3]
 generalize hH3:upd H2 s2.heap.objs.size (.lst [])=H3 at I3 w0
 rw [<- eh]
 have hns₁:((s3.heap.push { cls:=.type "dict",data:=.dict #[] }).push { cls:=.type "cell",data:=.cell none }).Ns s3.heap.objs.size (fun _=>none):=(Heap.Ns.new s3.heap (.type "dict")).keeps fun b o e=>Heap.get?_push_of_some _ e
 have hcell₁:((s3.heap.push { cls:=.type "dict",data:=.dict #[] }).push { cls:=.type "cell",data:=.cell none }).IsCell (s3.heap.objs.size+1) none:=by
  refine ⟨{ cls:=.type "cell",data:=.cell none },?_,rfl⟩
  have:=Heap.get?_push_size (s3.heap.push { cls:=.type "dict",data:=.dict #[] }) (o:={ cls:=.type "cell",data:=.cell none }) rfl
  rw [Heap.size_push] at this
  exact this
 have old:∀b o,s3.heap.get? b=some o->((s3.heap.push { cls:=.type "dict",data:=.dict #[] }).push { cls:=.type "cell",data:=.cell none }).get? b=some o:=fun b o e=>Heap.get?_push_of_some _ (Heap.get?_push_of_some _ e)
 have e2:({ s2 with heap:=(s3.heap.push { cls:=.type "dict",data:=.dict #[] }).push { cls:=.type "cell",data:=.cell none } }:Shared)={ s3 with heap:=(s3.heap.push { cls:=.type "dict",data:=.dict #[] }).push { cls:=.type "cell",data:=.cell none },toks:=s3.toks }:=by rw [<- hs3]
 rw [e2]
 generalize (s3.heap.push { cls:=.type "dict",data:=.dict #[] }).push { cls:=.type "cell",data:=.cell none }=h₁ at hns₁ hcell₁ old ⊢
 have below2:∀b,b∈fp->b < s3.heap.objs.size:=fun b hb=>by
  obtain ⟨o,e,_⟩:=T.obj _ _ st2 b hb
  have:s2.heap.objs.size<=s3.heap.objs.size:=by rw [eh,Heap.size_push];exact Nat.le_succ _
  exact Nat.lt_of_lt_of_le (Heap.lt_size e) this
 have old2:∀b o,s2.heap.get? b=some o->s3.heap.get? b=some o:=fun b o e=>by rw [eh];exact Heap.get?_push_of_some _ e
 have hsz3:s2.heap.objs.size < s3.heap.objs.size:=by rw [eh,Heap.size_push];exact Nat.lt_succ_self _
 have fpFree:∀b∈fp,H3 b=none:=fun b hb=>by
  rw [<- hH3,Aj (fun z=>?_)]
  ·exact (f2 b hb).1
  ·obtain ⟨o,e,_⟩:=T.obj _ _ st2 b hb
   have:=Heap.lt_size e
   rw [z] at this
   exact Nat.lt_irrefl _ this
 have rl:∀y,(relabel sc X.env).names.lookup y=(sc.names.lookup y).map fun k=>if (k == NameKind.free && X.env.scope.kind == .function && X.env.kindOf y == some .cell) then NameKind.cell else k:=fun y=>C7 X.env sc.names y
 have freeOf:∀y,sc.names.lookup y=some .free->∃c,cl.lookup y=some c:=fun y e=>clH (y,.free) (PySem.mem_of_lookup e) rfl
 have onlyX:∀y,sc.names.lookup y=some .cell->y=x:=fun y e=>by
  have m:(y,NameKind.cell)∈sc.names.filter fun y=>y.2 == .cell:=mem_filter.mpr ⟨PySem.mem_of_lookup e,rfl⟩
  rw [cn.one] at m
  exact (Prod.mk.inj (mem_singleton.mp m)).1
 have clD:∀y c,((x,s3.heap.objs.size+1) :: cl).lookup y=some c->(y=x/\c=s3.heap.objs.size+1)\/(y≠x/\cl.lookup y=some c):=fun y c e=>by
  rw [lookup_cons] at e
  cases hb:y == x with
  | true=>rw [hb] at e;exact .inl ⟨by simpa using hb,(Option.some.inj e).symm⟩
  | false=>rw [hb] at e;exact .inr ⟨by simpa using hb,e⟩
 have clN:∀y c,y≠x->cl.lookup y=some c->((x,s3.heap.objs.size+1) :: cl).lookup y=some c:=fun y c n e=>by
  rw [lookup_cons,show (y == x)=false by simpa using n]
  exact e
 have clX:((x,s3.heap.objs.size+1) :: cl).lookup x=some (s3.heap.objs.size+1):=by rw [lookup_cons,show (x == x)=true by simp]
 have isFree:∀y,((relabel sc X.env).names.lookup y=some .cell\/(relabel sc X.env).names.lookup y=some .free)->(sc.names.lookup y=some .free\/y=x):=fun y h=>by
  rw [rl y] at h
  cases e:sc.names.lookup y with
  | none=>rw [e] at h;rcases h with z | z <;> exact absurd z (by simp)
  | some k =>
    rw [e] at h
    cases k with
    | free=>exact .inl rfl
    | cell=>exact .inr (onlyX y e)
    | «local»=>rcases h with z | z <;> exact absurd z (by simp)
    | _=>rcases h with z | z <;> exact absurd z (by simp)
 have ownC:(relabel sc X.env).names.lookup x=some .cell:=by rw [rl x,cn.own];rfl
 have exOk:∀b∈fp,b≠s3.heap.objs.size/\(∀y c,X.env.cells.lookup y=some c->c≠b)/\b ∉ frs X.stack:=fun b hb=>by
  obtain ⟨g0,g1,g2,g3,g4,g5⟩:=f2 b hb
  refine ⟨Nat.ne_of_lt (below2 b hb),g4,fun z=>?_⟩
  rcases mem_cons.mp (I2.stkSub b z) with z | z
  ·exact g1 z
  ·exact g2 z
 have hCnew:X.s₀.heap.objs.size<=s3.heap.objs.size:=I3.sz
 have hCcell:∀y c,X.env.cells.lookup y=some c->c≠s3.heap.objs.size:=fun y c e z=>by
  obtain ⟨v,q⟩:=I3.cell y c e
  have:=q.lt
  rw [z] at this
  exact Nat.lt_irrefl _ this
 have hCpin:∀p∈X.pn++pins,p.1≠s3.heap.objs.size:=fun p hp z=>by
  have:=Heap.lt_size (I3.pin p hp).1
  rw [z] at this
  exact Nat.lt_irrefl _ this
 have ltC:∀y c,X.env.cells.lookup y=some c->c < s3.heap.objs.size:=fun y c e=>by
  obtain ⟨v,q⟩:=I3.cell y c e
  exact q.lt
 have injC:∀y z c,((x,s3.heap.objs.size+1) :: cl).lookup y=some c->((x,s3.heap.objs.size+1) :: cl).lookup z=some c->y=z:=fun y z c h1 h2=>by
  rcases clD y c h1 with ⟨e1,e2⟩ | ⟨_,e2⟩ <;> rcases clD z c h2 with ⟨f1,f2'⟩ | ⟨_,f2'⟩
  ·rw [e1,f1]
  ·exact absurd (ltC z c (clS z c f2')) (by rw [e2];exact Nat.not_lt.mpr (Nat.le_succ _))
  ·exact absurd (ltC y c (clS y c e2)) (by rw [f2'];exact Nat.not_lt.mpr (Nat.le_succ _))
  ·exact I3.ok.inj y z c (clS y c e2) (clS z c f2')
 have hasC:∀y,((relabel sc X.env).names.lookup y=some .cell\/(relabel sc X.env).names.lookup y=some .free)->∃c,((x,s3.heap.objs.size+1) :: cl).lookup y=some c:=fun y hy=>by
  by_cases e:y=x
  ·exact ⟨_,by rw [e];exact clX⟩
  ·rcases isFree y hy with f | f
   ·obtain ⟨c,hc⟩:=freeOf y f
    exact ⟨c,clN y c e hc⟩
   ·exact absurd f e
 have exC:∀b∈fp,∀y c,((x,s3.heap.objs.size+1) :: cl).lookup y=some c->c≠b:=fun b hb y c h=>by
  rcases clD y c h with ⟨_,e2⟩ | ⟨_,e2⟩
  ·exact fun z=>absurd (below2 b hb) (by rw [<- z,e2];exact Nat.not_lt.mpr (Nat.le_succ _))
  ·exact (exOk b hb).2.1 y c (clS y c e2)
 have okc:(X.inCompC Nc sc x cl s3 H3 fp).Ok:=by
  refine ⟨I3.ok.mod,cn.kind,I3.ok.glob,I3.ok.blt,Nat.le_refl _,injC,hasC,fun y c hf e=>?_,I3.ok.hd,I3.ok.frames,.inl rfl,
   fun b hb=>⟨(exOk b hb).1,exC b hb⟩,fun b o e=>I3.bs b o e,Nat.le_trans I3.ok.bsz I3.sz,fun b o e hb=>?_,fun b hb=>(exOk b hb).2.2,I3.stack,I3.stkFree⟩
  ·have ey:y=x:=of_decide_eq_true hf
   rcases clD y c e with ⟨_,e2⟩ | ⟨n,_⟩
   ·show s3.heap.objs.size<=c
    omega
   ·exact absurd ey n
  obtain ⟨g0,g1,g2,g3,g4,g5⟩:=f2 b hb
  rcases g3 with z | z
  ·exact I3.ok.noex b o e z
  ·exact absurd (Heap.lt_size (I3.ok.bs b o e).1) (Nat.not_lt.mpr z)
 have hlen:σ.length=N.length:=by rw [I3.len,hXN]
 have Ic:Inv (X.inCompC Nc sc x cl s3 H3 fp) [] (σ++[none]) H3 { s3 with heap:=h₁,toks:=s3.toks }:=by
  refine ⟨okc,rfl,I3.bare,Un.kept old,⟨_,hns₁,fun i y v h1 h2 h3=>?_⟩,fun y c e=>?_,I3.hok.fresh (Nat.le_refl _),fun y c e=>?_,fun p hp=>absurd (show p∈([]:List (Addr × Obj)) from hp) (by simp),I3.hok.kept old,?_⟩
  ·have hi:i < σ.length:=by
    by_cases hi:i < σ.length
    ·exact hi
    ·rw [List.getElem?_append_right (Nat.not_lt.mp hi)] at h2
     cases e:i - σ.length with
     | zero=>rw [e] at h2;cases h2
     | succ k=>rw [e] at h2;simp at h2
   rw [List.getElem?_append_left hi] at h2
   have hi':i < N.length:=by rw [<- hlen];exact hi
   obtain ⟨n1,n2,n3⟩:=cn.at hi' h1
   have hf:sc.names.lookup y=some .free:=by
    rcases h3 with z | z
    ·exfalso
     have z':(relabel sc X.env).names.lookup y=some .local:=z
     rw [rl y] at z'
     cases e:sc.names.lookup y with
     | none=>rw [e] at z';simp at z'
     | some k =>
       rw [e] at z'
       cases k with
       | «local»=>exact n1 e
       | cell=>exact n2 e
       | free =>
         simp only [Option.map_some,Option.some.injEq] at z'
         split at z' <;> cases z'
       | _=>simp at z'
    ·rcases isFree y z with f | f
     ·exact f
     ·exact absurd (by rw [f];exact cn.own) n2
   have hN:X.N[i]?=some y:=by rw [hXN];exact n3 hf
   obtain ⟨m,hn,hl⟩:=I3.loc
   have hv:fsc.names.lookup y=some .cell\/fsc.names.lookup y=some .free:=cn.fr (y,.free) (PySem.mem_of_lookup hf) rfl
   have hv':X.env.scope.names.lookup y=some .cell\/X.env.scope.names.lookup y=some .free:=by rw [hE];exact hv
   obtain ⟨u,ru,lk⟩:=hl i y v hN h2 (.inr hv')
   refine ⟨u,ru,.inr ⟨?_,?_⟩⟩
   ·show (relabel sc X.env).names.lookup y=some .cell\/(relabel sc X.env).names.lookup y=some .free
    rw [rl y,hf]
    simp only [Option.map_some,Option.some.injEq]
    split
    ·exact .inl rfl
    ·exact .inr rfl
   ·rcases lk with ⟨kl,_⟩ | ⟨_,c,hc,hcell⟩
    ·exfalso
     have kl':X.env.scope.names.lookup y=some .local:=kl
     rw [kl'] at hv'
     rcases hv' with z | z <;> cases z
    ·obtain ⟨d,hd⟩:=freeOf y hf
     have ed:=clS y d hd
     rw [hc] at ed
     cases ed
     exact ⟨c,clN y c (fun z=>n2 (by rw [z];exact cn.own)) hd,hcell.keeps old⟩
  ·rcases clD y c e with ⟨_,e2⟩ | ⟨_,e2⟩
   ·exact ⟨none,by rw [e2];exact hcell₁⟩
   ·obtain ⟨v,q⟩:=I3.cell y c (clS y c e2)
    exact ⟨v,q.keeps old⟩
  ·rcases clD y c e with ⟨_,e2⟩ | ⟨_,e2⟩
   ·exact I3.hok.fresh (by omega)
   ·exact I3.freeC y c (clS y c e2)
  ·show (σ++[none]).length=Nc.length
   rw [length_append,hlen,cn.len]
   rfl
 have stc:tn 0 ({ s3 with heap:=h₁,toks:=s3.toks }:Shared).heap:=T.keep _ _ _ st2 fun b _ o e=>old b o (old2 b o e)
 have hDf:s2.heap.objs.size ∉ fp:=fun hm=>by
  obtain ⟨o,e,_⟩:=T.obj _ _ st2 _ hm
  exact Nat.lt_irrefl _ (Heap.lt_size e)
 have fpc:∀{pins':List (Addr × Obj)} {H':Hp},pins'=[]->(∀b∈fp,H' b=none)->∀b∈fp,GN (X.inCompC Nc sc x cl s3 H3 fp) pins' H' b:=fun {pins' H'} hp hn b hb=>by
  subst hp
  exact ⟨hn b hb,(exOk b hb).1,(exOk b hb).2.2,.inl hb,exC b hb,fun p hp=>absurd (show p∈([]:List (Addr × Obj)) from hp) (by simp)⟩
 have hg:PG (X.inCompC Nc sc x cl s3 H3 fp) (.Name x px) (BA σ.length):=A0 (X:=X.inCompC Nc sc x cl s3 H3 fp) cn.nd (by show Nc[σ.length]?=some x;rw [hlen];exact cn.last) (.inr ownC) (.inl (decide_eq_true rfl))
 have loop:∀s₄:Shared,s₄={ s3 with heap:=h₁,toks:=s3.toks } ->
  codeAny (model X.prog X.w) X.A (.compLoop (.ListComp elt [⟨.Name x px,iter,ifs,0⟩] sc pos) 0 (.ref it) (.ref s2.heap.objs.size) (compEnvC sc ((x,s3.heap.objs.size+1) :: cl) s3.heap.objs.size X.env))
   (fun r s'=>r=.ok .next/\∃D H',(Value.ref s2.heap.objs.size)=.ref D/\Inv X pins σ H' s'/\Q (.ref D) H'/\Em X pins H' s3.heap.objs.size/\∃m,s'.heap.Ns s3.heap.objs.size m) s₄:=by
  rintro s₄ rfl
  refine codeAny_compLoop_tests (fun n s'=>∃(i:Nat) (o:Option V) (H':Hp) (ys:List V),Inv (X.inCompC Nc sc x cl s3 H3 fp) [] (σ++[o]) H' s'/\tn i s'.heap/\(∀b∈fp,H' b=none)/\W i n ys H') ?_ m0 ⟨0,none,H3,[],Ic,stc,fpFree,w0⟩
  rintro n s' ⟨i,o,H',ys,I',st',fr',w'⟩
  obtain ⟨hDl,tw⟩:=turn i n ys H' w'
  rcases tw with ⟨stop,q⟩ | ⟨go,hz,step⟩
  ·
   refine thn (T.done (X.inCompC Nc sc x cl s3 H3 fp) rfl rfl rfl hc i [] s' _ H' _ I' (fpc rfl fr') st' stop) fun r s5 ⟨hr,I5⟩=>?_
   subst hr
   have Ix:Inv X pins σ H' s5:=I3.call' (ch:=fp) I5.os I5.base I5.hok I5.bare fun b hb=>by
    obtain ⟨g0,g1,g2,g3,g4,g5⟩:=f2 b hb
    exact ⟨g3,g1,g4,g5⟩
   have hCf:H' s3.heap.objs.size=none:=I5.free
   obtain ⟨m,hn,_⟩:=I5.loc
   exact ⟨rfl,s2.heap.objs.size,H',rfl,Ix,q,⟨hCf,fun z=>Nat.lt_irrefl _ (by have:=I3.lt;rw [<- z] at this;exact this),hCnew,hCcell,hCpin⟩,m,hn⟩
  ·
   refine thn (T.item (X.inCompC Nc sc x cl s3 H3 fp) rfl rfl rfl hc i [] s' _ H' _ I' (fpc rfl fr') st' go) fun r s5 ⟨u,hr,h4⟩=>?_
   subst hr
   dsimp only
   have e0:letOwnedTupleGo (.Name x px) (.ref it) u=pure ():=rfl
   have e1:(letOwnedTupleGo (.Name x px) (.ref it) u >>= fun _=>assign (.Name x px) (compEnvC sc ((x,s3.heap.objs.size+1) :: cl) s3.heap.objs.size X.env) u)=assign (.Name x px) (compEnvC sc ((x,s3.heap.objs.size+1) :: cl) s3.heap.objs.size X.env) u:=by rw [e0,pure_bind]
   rw [<- e1]
   refine wpAny_bind (thn h4 fun _ s6 ⟨xv,H5,I5,r5,y5,st5,fr5⟩=>?_)
   have I5':=I5.pinned (fpc rfl fr5) (T.obj _ _ st5)
   have again:∀{H7:Hp} {s7:Shared} {m':Nat} {ys':List V},Inv (X.inCompC Nc sc x cl s3 H3 fp) ([]++FF fp s6.heap) (σ++[some xv]) H7 s7->m' < n->W (i+1) m' ys' H7 ->
    ∃m,m < n/\∃(i:Nat) (o:Option V) (H':Hp) (ys:List V),Inv (X.inCompC Nc sc x cl s3 H3 fp) [] (σ++[o]) H' s7/\tn i s7.heap/\(∀b∈fp,H' b=none)/\W i m ys H':=fun {H7 s7 m' ys'} I7 hm w7=>by
    refine ⟨m',hm,i+1,some xv,H7,ys',I7.unpinned,T.keep _ _ _ st5 fun b hb o e=>(I7.pin (b,o) (mem_append_right _ (mem_append_right _ (CJ hb e)))).1,fun b hb=>?_,w7⟩
    obtain ⟨o',e,d⟩:=T.obj _ _ st5 b hb
    exact (I7.pin (b,o') (mem_append_right _ (mem_append_right _ (CJ hb e)))).2.1
   refine ES (hg _ s6 _ H5 xv u (fun σ' H''=>σ'=σ++[some xv]/\H''=H5) I5' r5 ⟨Kb,rfl⟩) fun _ s7 ⟨σ7,H7,I7,e7,e7'⟩=>?_
   subst e7
   subst e7'
   refine ES (ht cl s3 H3 fp _ s7 _ _ _ I7 (step xv _ y5)) fun b s8 ⟨H8,I8,q8⟩=>?_
   cases b with
   | false =>
     rw [if_neg Bool.false_ne_true] at q8 ⊢
     obtain ⟨m',hm,w8⟩:=q8
     exact again I8 hm w8
   | true =>
     rw [if_pos rfl] at q8 ⊢
     refine ES (he cl s3 H3 fp _ s8 _ H8 _ I8 q8) fun y s9 ⟨yv,H9,I9,r9,hD9,m',hm,w9⟩=>?_
     refine ES (Cw _ s9 _ H9 (.ref s2.heap.objs.size) [yv] (.ref s2.heap.objs.size) [y] (fun v H=>v=.non/\H=upd H9 s2.heap.objs.size (.lst (ys++[yv]))) I9 rfl (.cons r9 .nil) ⟨_,ys,yv,rfl,rfl,hD9,hz,rfl,rfl⟩) fun _ s10 ⟨v10,H10,I10,r10,e10,e11⟩=>?_
     subst e11
     exact again I10 hm w9
 exact codeAny_compStart_list (loop _ rfl) (T.self _ 0 _ _ _ stc (loop _ rfl))
theorem Nn (I:∀y,(X.env.kindOf y=some .cell\/X.env.kindOf y=some .free)->∃c,X.env.cells.lookup y=some c) (hE:X.env.scope=fsc) (cn:Hm N Nc x sc fsc):∀y∈sc.names,y.2=.free->∃c,X.env.cells.lookup y.1=some c:=fun y hy hf=>by
 refine I y.1 ?_
 show X.env.scope.names.lookup y.1=some .cell\/X.env.scope.names.lookup y.1=some .free
 rw [hE]
 exact cn.fr y hy hf
theorem NH (hE:X.env.scope=fsc) (hXN:X.N=N) (cn:Hm N Nc x sc fsc) (hc:X.calm=true) (hi:PI X (.Name x px) iter wi)
 (ht:∀cl s H ex,FB (X.inCompC Nc sc x cl s H ex) ifs tt) (he:∀cl s H ex,PE (X.inCompC Nc sc x cl s H ex) elt te)
 (hs:∀v,foldedSetIterable iter X.env v=pure v:=by intro _;rfl):PE X (.ListComp elt [⟨.Name x px,iter,ifs,0⟩] sc pos) (JO wi tt te):=by
 intro pins s σ H Q I h
 obtain ⟨cl,hcl,clS,clH⟩:=CN (env:=X.env) (sc:=sc) (Nn I.ok.has hE cn)
 rw [eval_ListComp]
 refine wpAny_comprehension_free (use:=none) rfl hs hcl cn.kind cn.nm (thn (hi pins s σ H _ I h) fun v s1 h1=>thn h1 fun itv s2 h2=>?_)
 obtain ⟨it,fp,tn,J,H2,rfl,I2,T,st2,f2,h2⟩:=h2
 refine thn (L0 (pos:=pos) (iter:=iter) hE hXN cn hc ht he clS clH I2 T st2 f2 h2) fun acc s3 h3=>thn h3 fun cenv s4 h4=>codeAny_mono h4 fun r s' h5=>?_
 obtain ⟨rfl,D,H',rfl,I',q,cloc,m,hn⟩:=h5
 exact ⟨m,hn,fun h' k=>⟨.ref D,H',I'.sameBut cloc k,rfl,q⟩⟩
end
noncomputable def J7 (sc fsc:Scope):Scope:={ sc with names:=sc.names.map fun (n,k)=>if (k == .free && fsc.kind == .function && fsc.names.lookup n == some .cell) then (n,.cell) else (n,k) }
theorem Kh {X:Cx} {sc fsc:Scope} (h:X.env.scope=fsc):relabel sc X.env=J7 sc fsc:=by
 subst h
 rfl
section
variable {X:Cx} {elt iter:Expr} {x y:Str} {py pos:Pos} {ifs:List Expr} {sc sc2 fsc:Scope} {Nc Nd:List Str} {wi:TI} {tt:TT} {te:TE} {cl:List (Str × Addr)} {s:Shared} {H:Hp} {ex:List Addr}
theorem MD (hE:X.env.scope=fsc) (cn:Ei Nc Nd y sc2 (J7 sc fsc)) (hc:X.calm=true) (hi:PI (X.inCompC Nc sc x cl s H ex) (.Name y py) iter wi)
 (ht:∀cl' s' H' ex',FB ((X.inCompC Nc sc x cl s H ex).inComp Nd sc2 cl' s' H' ex') ifs tt) (he:∀cl' s' H' ex',PE ((X.inCompC Nc sc x cl s H ex).inComp Nd sc2 cl' s' H' ex') elt te)
 (hs:∀v,foldedSetIterable iter (X.inCompC Nc sc x cl s H ex).env v=pure v:=by intro _;rfl):PE (X.inCompC Nc sc x cl s H ex) (.ListComp elt [⟨.Name y py,iter,ifs,0⟩] sc2 pos) (JO wi tt te) :=
 B7 (X:=X.inCompC Nc sc x cl s H ex) (fsc:=J7 sc fsc) (N:=Nc) (Kh hE) rfl cn hc hi ht he hs
theorem Ln (hE:X.env.scope=fsc) (cn:Ei Nc Nd y sc2 (J7 sc fsc)) (hc:X.calm=true) (hi:PI (X.inComp Nc sc cl s H ex) (.Name y py) iter wi)
 (ht:∀cl' s' H' ex',FB ((X.inComp Nc sc cl s H ex).inComp Nd sc2 cl' s' H' ex') ifs tt) (he:∀cl' s' H' ex',PE ((X.inComp Nc sc cl s H ex).inComp Nd sc2 cl' s' H' ex') elt te)
 (hs:∀v,foldedSetIterable iter (X.inComp Nc sc cl s H ex).env v=pure v:=by intro _;rfl):PE (X.inComp Nc sc cl s H ex) (.ListComp elt [⟨.Name y py,iter,ifs,0⟩] sc2 pos) (JO wi tt te) :=
 B7 (X:=X.inComp Nc sc cl s H ex) (fsc:=J7 sc fsc) (N:=Nc) (Kh hE) rfl cn hc hi ht he hs
end
theorem NS {X:Cx} {tg e:Expr} {te:TE} (K:PySem.W.Frag) (he:PE X e te) (h:X.K=K:=by rfl):PI X tg e (PQ K te):=by
 subst h
 exact AJ he
end L2
namespace L2
open PySem PySem.W PySem.Spec PyProof.Rows
noncomputable def Hf (c:Addr) (q:Str):HO:=.ext fun h=>h.CodeRec (.ref c) q
structure GF (base:Heap) (mg:Str->Option Value) (c P:Addr):Prop where
 hd:CodeHd base c P
 bm:∃bm ob,mg "__builtins__"=some (.ref bm)/\bm≠builtinsNs/\base.get? bm=some ob/\ob.cls=.type "module"/\ob.dict=some builtinsNs/\ob.data=.plain
 out:base.get? P=none
def EE (P:Addr) (pos:Pos) (q:Str) (H:Hp):Prop:=∃c,H P=some (.tbl #[rawInt pos.line,rawInt pos.col,.ref c])/\H c=some (Hf c q)
def Hh (P:Addr) (pos:Pos) (q:Str) (H:Hp):Prop:=H P=some (.tbl #[])\/EE P pos q H
def SmL (P:Addr) (H H':Hp):Prop:=∀b u,b≠P->H b=some u->H' b=some u
theorem EE.same {P:Addr} {pos:Pos} {q:Str} {H H':Hp} (x:EE P pos q H) (e:Av H H'):EE P pos q H':=let ⟨c,h1,h2⟩:=x;⟨c,e _ _ h1,e _ _ h2⟩
theorem EE.put {P l:Addr} {pos:Pos} {q:Str} {H:Hp} {xs:List V} {o:HO} (t:EE P pos q H) (e:H l=some (.lst xs)):EE P pos q (upd H l o):=by
 obtain ⟨c,h1,h2⟩:=t
 exact ⟨c,by rw [Aj (fun z=>by rw [z,e] at h1;cases h1)];exact h1,by rw [Aj (fun z=>by rw [z,e] at h2;cases h2)];exact h2⟩
theorem Hh.put {P l:Addr} {pos:Pos} {q:Str} {H:Hp} {xs:List V} {o:HO} (t:Hh P pos q H) (e:H l=some (.lst xs)):Hh P pos q (upd H l o):=by
 rcases t with t | t
 ·exact .inl (by rw [Aj (fun z=>by rw [z,e] at t;cases t)];exact t)
 ·exact .inr (t.put e)
theorem Hh.same {P:Addr} {pos:Pos} {q:Str} {H H':Hp} (t:Hh P pos q H) (s:Av H H'):Hh P pos q H':=t.elim (fun t=>.inl (s _ _ t)) fun t=>.inr (t.same s)
theorem Nf (pos:Pos):codeAmong pos (#[]:Array Value).toList=none:=rfl
theorem MN (pos:Pos) (c:Addr):codeAmong pos (#[rawInt pos.line,rawInt pos.col,.ref c]:Array Value).toList=some (.ref c):=by
 simp [codeAmong,rawInt]
theorem NC {P:Program} {w:World} {H:Hp} {h:Heap} {c:Addr} {q:Str} (x:h.CodeRec (.ref c) q):Bc P w H h c (Hf c q):=by
 refine ⟨x,?_,fun h1 h2 y k=>?_⟩
 ·obtain ⟨c',o,vs,t,e,g,_⟩:=x
  cases e
  exact ⟨o,g⟩
 ·obtain ⟨c',o,vs,t,e,g,r⟩:=y
  cases e
  exact ⟨c,o,vs,t,rfl,k o g,r⟩
theorem MU {P:Program} {w:World} {H:Hp} {h:Heap} {c:Addr} {q:Str} (x:Bc P w H h c (Hf c q)):h.CodeRec (.ref c) q:=x.1
section
variable {X:Cx} {pins:List (Addr × Obj)} {σ:St} {H:Hp} {s:Shared} {c P:Addr} {pos:Pos} {params:Arguments} {body:Expr} {sc:Scope} {cl:List (Str × Addr)} {q:Str} {M:Model} {A:Around} {E:Value->Shared->Prop} {Q:Value->Shared->Prop}
theorem GF.at (LB:GF X.base X.mg c P) (I:Inv X pins σ H s) (hp:∃ps,H P=some (.tbl ps)):s.heap.Ns mainGlobals X.mg/\CodeHd s.heap c P/\mainGlobals≠P/\s.heap.BuiltinsAt X.mg P:=by
 have G:s.heap.Ns mainGlobals X.mg:=I.mod.glob.keeps I.bk
 have gP:mainGlobals≠P:=fun z=>by
  obtain ⟨o,_,_,e,_⟩:=I.mod.glob
  rw [z,LB.out] at e;cases e
 obtain ⟨bm,ob,b1,b2,b3,b4,b5,b6⟩:=LB.bm
 refine ⟨G,LB.hd.keeps I.bk,gP,bm,ob,b1,b2,fun z=>?_,fun z=>?_,I.bk _ _ b3,b4,b5,b6⟩
 ·obtain ⟨o,es,ep,e,hd,_⟩:=I.mod.glob
  rw [<- z,b3] at e;cases e;rw [b6] at hd;cases hd
 ·rw [z,LB.out] at b3;cases b3
theorem Inv.pin1 {f:Addr} {o:Obj} (I:Inv X pins σ H s) (c:Em X pins H f) (e:s.heap.get? f=some o) (hf:f ∉ X.fs) (d:∀v,o.data≠.cell v):Inv X ((f,o) :: pins) σ H s :=
 I.pins_of fun p hp=>by
  rcases mem_cons.mp hp with rfl | hp
  ·exact ⟨e,c.free,c.ne,hf,d⟩
  ·exact I.pin p (mem_append_right _ hp)
theorem Inv.cloc {f:Addr} (I:Inv X pins σ H s) (h:s.heap.objs.size<=f):Em X pins H f:=by
 obtain ⟨g0,g1,g2,g3,g4,g5⟩:=I.fpOk h (I.hok.fresh h)
 exact ⟨g0,g1,Nat.le_trans I.sz h,g4,g5⟩
theorem Oa (LB:GF X.base X.mg c P) (hcode:X.env.code=.ref c) (hcl:closureFor sc X.env=pure cl) (I:Inv X pins σ H s) (t:Hh P pos q H)
 (h:∀(f c':Addr) (pm ctv:Value) (H':Hp) (s':Shared),Inv X ((f,kla_obj "<lambda>" q params body sc cl pm c' ctv) :: pins) σ H' s'->H' c'=some (Hf c' q)->Em X pins H' f->EE P pos q H'->SmL P H H'->(EE P pos q H->H=H')->(∀b,H' b=none->H b=none)->Q (.ref f) s') :
 wpAny M A (makeFunction "<lambda>" q params (.expr body) sc X.env [] [] [] pos pos.line) Q E s:=by
 rcases t with t | ⟨c',t1,t2⟩
 ·obtain ⟨G,C,gP,B⟩:=LB.at I ⟨_,t⟩
  have hP:s.heap.get? P=some (tabObj #[]):=I.hok P _ t
  refine kla_makeFunction (mg:=X.mg) hcl I.ok.glob G hcode C hP trivial (Nf pos) gP B fun c' ctv h' tk hx hge hlt hrec htb=>?_
  have hc':H c'=none:=I.hok.fresh hge
  have cP:c'≠P:=fun z=>by rw [z,t] at hc';cases hc'
  have nP:∀{b:Addr},H b=none->b≠P:=fun e z=>by rw [z,t] at e;cases e
  have htb':h'.get? P=some (tabObj (#[]++#[rawInt pos.line,rawInt pos.col,.ref c'])):=htb
  have ht0:((#[]:Array Value)++#[rawInt pos.line,rawInt pos.col,.ref c'])=#[rawInt pos.line,rawInt pos.col,.ref c']:=rfl
  generalize eH:upd (upd H P (.tbl #[rawInt pos.line,rawInt pos.col,.ref c'])) c' (Hf c' q)=H'
  have hb:∀{b:Addr},b≠P->b≠c'->H' b=H b:=fun n1 n2=>by rw [<- eH,Aj n2,Aj n1]
  have hPH:H' P=some (.tbl #[rawInt pos.line,rawInt pos.col,.ref c']):=by rw [<- eH,Aj (Ne.symm cP),Ab]
  have hcH:H' c'=some (Hf c' q):=by rw [<- eH,Ab]
  have ne':∀{b:Addr} {o:Obj},s.heap.get? b=some o->b≠c':=fun e=>Nat.ne_of_lt (Nat.lt_of_lt_of_le (Heap.lt_size e) hge)
  have neH:∀{b:Addr} {u:HO},H b=some u->b≠c':=fun e z=>by rw [z,hc'] at e;cases e
  have U:Un X.fs [] H H' s.heap h':=⟨fun b o e n _ _=>hx b o (nP n) e,fun b o e n _ _=>⟨o.slots,hx b o (nP n) e⟩,fun b o e n _=>by rw [hb (nP n) (ne' e)];exact n,fun b o e _=>by
   by_cases z:b=P
   ·rw [z];exact ⟨_,htb⟩
   ·exact ⟨o,hx b o z e⟩,fun b xs e=>by
   rw [hb (fun z=>by rw [z,t] at e;cases e) (neH e)];exact e,fun b o u e=>by
   rw [hb (fun z=>by rw [z,t] at e;cases e) (neH e)];exact e,fun b ps e=>by
   by_cases z:b=P
   ·rw [z,t] at e
    cases e
    exact ⟨#[rawInt pos.line,rawInt pos.col,.ref c'],by rw [z,hPH];rfl⟩
   ·exact ⟨#[],by rw [hb z (neH e),e];simp⟩⟩
  have hok:HOk X.prog X.w H' h':=fun a o e=>by
   by_cases z:a=P
   ·subst z
    rw [hPH] at e
    cases e
    exact htb
   ·by_cases z2:a=c'
    ·subst z2
     rw [hcH] at e
     cases e
     exact NC hrec
    ·rw [hb z z2] at e
     refine (I.hok a o e).stay (fun b u hbu g=>?_) (fun b g=>?_) fun b xs g=>?_
     ·refine hx b u (fun y=>?_) g
      rcases hbu with rfl | hbu
      ·exact z y
      ·rw [y,t] at hbu;cases hbu
     ·rw [hb (fun y=>by rw [y,t] at g;cases g) (neH g)];exact g
     ·rw [hb (fun y=>by rw [y,t] at g;cases g) (neH g)];exact g
  have I1:Inv X pins σ H' { s with heap:=h',toks:=tk }:=I.un U hok
  have I2:=I1.kept (t':=tk) (h':=h'.push (kla_obj "<lambda>" q params body sc cl ((X.mg "__name__").getD .none) c' ctv)) fun b u e=>Heap.get?_push_of_some _ e
  have cf:Em X pins H' h'.objs.size:=I1.cloc (Nat.le_refl _)
  refine h _ c' _ ctv H' _ (I2.pin1 cf (Heap.get?_push_size _ rfl) (I1.nofs (Nat.le_refl _)) (fun v z=>by cases z)) hcH cf ⟨c',hPH,hcH⟩ (fun b u n e=>by rw [hb n (neH e)];exact e) (fun ⟨_,y,_⟩=>by rw [t] at y;cases y) fun b e=>?_
  rw [hb (fun z=>by rw [z,hPH] at e;cases e) (fun z=>by rw [z,hcH] at e;cases e)] at e
  exact e
 ·obtain ⟨G,C,gP,B⟩:=LB.at I ⟨_,t1⟩
  have hP:s.heap.get? P=some (tabObj #[rawInt pos.line,rawInt pos.col,.ref c']):=I.hok P _ t1
  refine kla_makeFunctionHit (mg:=X.mg) hcl I.ok.glob G hcode C hP trivial (MN pos c') B fun ctv h' tk hk hsz=>?_
  have I1:Inv X pins σ H { s with heap:=h',toks:=tk }:=I.kept hk
  have I2:=I1.kept (t':=tk) (h':=h'.push (kla_obj "<lambda>" q params body sc cl ((X.mg "__name__").getD .none) c' ctv)) fun b u e=>Heap.get?_push_of_some _ e
  have cf:Em X pins H h'.objs.size:=I1.cloc (Nat.le_refl _)
  exact h _ c' _ ctv H _ (I2.pin1 cf (Heap.get?_push_size _ rfl) (I1.nofs (Nat.le_refl _)) (fun v z=>by cases z)) t2 cf ⟨c',t1,t2⟩ (fun _ _ _ e=>e) (fun _=>rfl) fun _ e=>e
end
noncomputable def Cx.inLam (X:Cx) (A:Around) (Nc:List Str) (q:Str) (sc:Scope) (cl:List (Str × Addr)) (f c':Addr) (s:Shared) (H:Hp):Cx :=
 { X with A:=A.deeper (envX q sc s.heap.objs.size f (.ref c') cl),N:=Nc,s₀:=s,H₀:=H,env:=envX q sc s.heap.objs.size f (.ref c') cl,outer:=X.stack,stack:=envX q sc s.heap.objs.size f (.ref c') cl :: X.stack,ex:=[],fn:=fun _=>false,calm:=true,pn:=[],xe:=fun _ _=>False }
section
variable {X:Cx} {pins:List (Addr × Obj)} {σ:St} {H:Hp} {s:Shared} {params:Arguments} {body:Expr} {sc fsc:Scope} {cl:List (Str × Addr)} {q x:Str} {A:Around} {N Nc:List Str} {f c':Addr} {te:TE} {E:Value->Shared->Prop}
theorem OV (hE:X.env.scope=fsc) (hXN:X.N=N) (cn:Ei N Nc x sc fsc)
 (clS:∀y c,cl.lookup y=some c->X.env.cells.lookup y=some c) (clH:∀y∈sc.names,y.2=.free->∃c,cl.lookup y.1=some c) (hA:A.frames=X.A.frames) (hh:A.handled=none)
 (I:Inv X pins σ H s) {v:V} {u:Value} (rv:A8 v u) {h₁:Heap} {tk:Nat} (hns:h₁.Ns s.heap.objs.size fun y=>[(x,u)].reverse.lookup y) (old:∀b o,s.heap.get? b=some o->h₁.get? b=some o) :
 Inv (X.inLam A Nc q sc cl f c' s H) [] (σ++[some v]) H { s with heap:=h₁,toks:=tk }:=by
 have hlen:σ.length=N.length:=by rw [I.len,hXN]
 have noE:∀b:Addr,b ∉ (X.inLam A Nc q sc cl f c' s H).ex:=fun b z=>absurd (show b∈([]:List Addr) from z) (by simp)
 have freeOf:∀y,sc.names.lookup y=some .free->∃c,cl.lookup y=some c:=fun y e=>clH (y,.free) (PySem.mem_of_lookup e) rfl
 have noCell:∀y,sc.names.lookup y≠some .cell:=fun y e=>cn.cell (y,.cell) (PySem.mem_of_lookup e) rfl
 refine ⟨⟨I.ok.mod,cn.kind,rfl,rfl,Nat.le_refl _,fun y z c e1 e2=>I.ok.inj y z c (clS _ _ e1) (clS _ _ e2),fun y hy=>?_,fun y c z=>absurd (show false=true from z) Bool.false_ne_true,fun _=>hh,Around.frames_deeper (hA.trans I.ok.frames),.inr ⟨rfl,rfl⟩,fun b z=>absurd z (noE b),I.bs,Nat.le_trans I.ok.bsz I.sz,fun b _ _=>noE b,fun b z=>absurd z (noE b),I.stack,I.stkFree⟩,
  rfl,I.bare,Un.kept old,⟨_,hns,fun i y v' h1 h2 h3=>?_⟩,fun y c e=>?_,I.hok.fresh (Nat.le_refl _),fun y c e=>I.freeC y c (clS y c e),fun p hp=>absurd (show p∈([]:List (Addr × Obj)) from hp) (by simp),I.hok.kept old,?_⟩
 ·have hy:sc.names.lookup y=some .cell\/sc.names.lookup y=some .free:=hy
  rcases hy with hy | hy
  ·exact absurd hy (noCell y)
  ·exact freeOf y hy
 ·have h1:Nc[i]?=some y:=h1
  have h3:sc.names.lookup y=some .local\/sc.names.lookup y=some .cell\/sc.names.lookup y=some .free:=h3
  by_cases hi:i < N.length
  ·obtain ⟨n1,n2,n3⟩:=cn.at hi h1
   have hf:sc.names.lookup y=some .free:=by
    rcases h3 with z | z | z
    ·exact absurd z n1
    ·exact absurd z n2
    ·exact z
   rw [List.getElem?_append_left (by omega)] at h2
   have hN:X.N[i]?=some y:=by rw [hXN];exact n3 hf
   obtain ⟨m,hn,hl⟩:=I.loc
   have hv:fsc.names.lookup y=some .cell\/fsc.names.lookup y=some .free:=cn.fr (y,.free) (PySem.mem_of_lookup hf) rfl
   have hv':X.env.scope.names.lookup y=some .cell\/X.env.scope.names.lookup y=some .free:=by rw [hE];exact hv
   obtain ⟨u',ru,lk⟩:=hl i y v' hN h2 (.inr hv')
   refine ⟨u',ru,.inr ⟨.inr hf,?_⟩⟩
   rcases lk with ⟨kl,_⟩ | ⟨_,c,hc,hcell⟩
   ·exfalso
    have kl':X.env.scope.names.lookup y=some .local:=kl
    rw [kl'] at hv'
    rcases hv' with z | z <;> cases z
   ·obtain ⟨d,hd⟩:=freeOf y hf
    have ed:=clS y d hd
    rw [hc] at ed
    cases ed
    exact ⟨c,hd,hcell.keeps old⟩
  ·have hi':i < (σ++[some v]).length:=(List.getElem?_eq_some_iff.mp h2).1
   rw [length_append,length_singleton] at hi'
   have ei:i=N.length:=by omega
   subst ei
   rw [cn.last] at h1
   cases h1
   rw [List.getElem?_append_right (by omega),hlen,Nat.sub_self] at h2
   cases h2
   exact ⟨u,rv,.inl ⟨cn.own,by simp⟩⟩
 ·obtain ⟨w,z⟩:=I.cell y c (clS y c e)
  exact ⟨w,z.keeps old⟩
 ·show (σ++[some v]).length=Nc.length
  rw [length_append,hlen,cn.len]
  rfl
theorem N0 (hE:X.env.scope=fsc) (hXN:X.N=N) (cn:Ei N Nc x sc fsc) (hco:sc.isCoroutine=false) (hgen:sc.isGenerator=false)
 (clS:∀y c,cl.lookup y=some c->X.env.cells.lookup y=some c) (clH:∀y∈sc.names,y.2=.free->∃c,cl.lookup y.1=some c) (hA:A.frames=X.A.frames) (hh:A.handled=none) (hroom:A.depth < recursionLimit)
 (he:∀s H,PE (X.inLam A Nc q sc cl f c' s H) body te)
 (hbind:∀pm ctv u,bindArgs (kla_fn "<lambda>" q params body sc cl pm (.ref c') ctv) ⟨[u],[]⟩=pure [(x,u)])
 (I:Inv X pins σ H s) {pm ctv:Value} (hf:(f,kla_obj "<lambda>" q params body sc cl pm c' ctv)∈pins) (hc:H c'=some (Hf c' q)) {v:V} {u:Value} (rv:A8 v u) {R:VK} (h:te (σ++[some v]) H R) :
 wpAny (model X.prog X.w) A (call (.ref f) [u]) (fun u' s'=>∃y H',Inv X pins σ H' s'/\A8 y u'/\R y H') E s:=by
 have lim:s.heap.NoLimit:=I.nolimit
 refine wpAny_call (kla_callFunE hroom (I.pin _ (mem_append_right _ hf)).1 rfl hco hgen rfl (MU (I.hok _ _ hc)) ?_)
 rw [hbind]
 refine wpAny_pure (wpAny_newFunctionEnv cn.cell (fun y hy=>?_) (fun h₁ hns hsb=>⟨lim.fresh _ hsb,?_⟩) cn.kind)
 ·rw [mem_singleton.mp hy]
  exact cn.own
 ·show codeAny _ _ (.expr body (envX q sc s.heap.objs.size f (.ref c') cl)) _ _
  have old:∀b o,s.heap.get? b=some o->h₁.get? b=some o:=fun b o e=>hsb.extBut b o (Nat.ne_of_lt (Heap.lt_size e)) (Heap.get?_push_of_some _ e)
  have Ic:=OV (q:=q) (f:=f) (c':=c') (tk:=s.toks+[(x,u)].length) hE hXN cn clS clH hA hh I rv hns old
  refine kla_codeExpr (wpAny_mono (he s H [] _ (σ++[some v]) H R Ic h) (fun u' s' ⟨y,H',I',r',q'⟩=>?_) fun _ _ z=>z.elim)
  exact ⟨y,H',I.call' (ch:=[]) I'.os I'.base I'.hok I'.bare (fun b hb=>absurd hb (by simp)),r',q'⟩
end
section
variable {X:Cx} {pins:List (Addr × Obj)} {σ:St} {H:Hp}
theorem Inv.sub {ps:List (Addr × Obj)} {s:Shared} (I:Inv X pins σ H s) (h:∀p∈ps,p∈pins):Inv X ps σ H s:=I.pins_of fun p hp=>I.pin p (mem_append_right _ (h p hp))
theorem Em.cons {C S:Addr} {o:Obj} (c:Em X pins H C) (n:S≠C):Em X ((S,o) :: pins) H C:=⟨c.free,c.ne,c.new,c.cells,fun p hp=>by
 rcases mem_append.mp hp with hp | hp
 ·exact c.pins p (mem_append_left _ hp)
 ·rcases mem_cons.mp hp with rfl | hp
  ·exact n
  ·exact c.pins p (mem_append_right _ hp)⟩
theorem Inv.repin {s:Shared} {C:Addr} {o o':Obj} {h':Heap} {t':Nat} (I:Inv X ((C,o) :: pins) σ H s) (c:Em X pins H C) (k:∀b u,b≠C->s.heap.get? b=some u->h'.get? b=some u) (e:h'.get? C=some o') (d:∀v,o'.data≠.cell v) :
 Inv X ((C,o') :: pins) σ H { s with heap:=h',toks:=t' }:=by
 obtain ⟨_,_,_,nf,_⟩:=I.pin (C,o) (mem_append_right _ (mem_cons_self ..))
 have I0:Inv X pins σ H s:=I.sub fun p hp=>mem_cons_of_mem _ hp
 exact (I0.turned (t':=t') k c.free c.ne (.inr c.new) c.cells c.pins).pin1 c e nf d
variable {xs:List V} {l f I S:Addr}
theorem Op (hc:X.calm=true) (kf:Nat->Int) {R:Result->Shared->Prop} (hq:SqL X.K H l xs) (hlI:l≠I) (hSI:S≠I) (cI:Em X pins H I) (cS:Em X pins H S)
 (turn:∀(i:Nat) (x:V) (u:Value) (ps:List (Addr × Obj)) (s:Shared),xs[i]?=some x->A8 x u->(∀p∈pins,p∈ps)->Inv X ps σ H s->wpAny (model X.prog X.w) X.A.in1 (call (.ref f) [u]) (fun v s'=>Inv X ps σ H s'/\∃t,v=.int (kf i) t) (fun _ _=>False) s)
 (hR:∀(i:Nat) (x:V) (v:Value) (s:Shared),xs[i]?=some x->A8 x v->(∀j,j < xs.length->kf j<=kf i/\(j < i->kf j < kf i))->Inv X pins σ H s->R (.ok (.ret v)) s) :
 ∀(r j i:Nat) (s:Shared) (vb:Value) (x:V) (tb:Tok) (c:Nat) (oI:Obj),xs.length - (j+1)=r->j+1<=xs.length->Inv X ((S,seqObj "list" #[vb,.int (kf i) tb] c) :: (I,oI) :: pins) σ H s->s.heap.IsListIter I l (j+1)->xs[i]?=some x->A8 x vb->i<=j ->
  (∀j',j'<=j->kf j'<=kf i/\(j' < i->kf j' < kf i))->codeAny (model X.prog X.w) X.A (.builtin "max.loop" ⟨[.ref I,.ref f,.ref S],[]⟩) R s:=by
 have hname:(toString "max"++toString ".loop":String)="max.loop":=by decide
 intro r
 induction r with
 | zero =>
   intro j i s vb x tb c oI hr hj Iv hit hx rx hij hbest
   obtain ⟨its,rv,pl,hz⟩:=Iv.list hq
   have hlen:xs.length=its.length:=rv.length
   have W:=Walks.list (prog:=X.prog) (w:=X.w) (A:=X.A.in1) (Iv.ok.hd hc) I l hlI its.toArray
   have hsz:its.toArray.size=its.length:=size_toArray ..
   have hin:j+1=its.length:=by omega
   have gS:=(Iv.pin _ (mem_append_right _ (mem_cons_self ..))).1
   refine codeAny_builtin PySem.F.entry_max_loop ?_
   rw [Around.under_plainId PySem.F.plain_max_loop _]
   show wpAny _ X.A.in1 (seqItems? (.ref S) >>= _) _ _ _
   refine wpAny_bind (wpAny_seqItems gS rfl ?_)
   show wpAny _ X.A.in1 (tryCatch (pyNext (.ref I)) _ >>= _) _ _ _
   refine wpAny_bind (wpAny_tryCatch (W.done _ _ _ ⟨by rw [hsz,<- hin];exact hit,pl.isList⟩ fun h' tk' hk'=>?_))
   have I0:Inv X pins σ H s:=Iv.sub fun p hp=>mem_cons_of_mem _ (mem_cons_of_mem _ hp)
   have I1:=I0.turned (t':=tk') (it:=I) (h':=h') (fun b o n e=>hk' b o (by simpa using n) e) cI.free cI.ne (.inr cI.new) cI.cells cI.pins
   have hS':=hk' S _ (by simpa using hSI) gS
   have s1:=Heap.SameBut.update h' S (Obj.mapSeq fun _=>(#[]:Array Value))
   show wpAny _ X.A.in1 (updateSeq S (fun _=>#[]) >>= _) _ _ _
   refine wpAny_bind ?_
   refine wpAny_updateSeq hS' rfl (wpAny_bind (wpAny_letGo (wpAny_pure ?_)))
   exact hR i x vb _ hx rx (fun j' hj'=>hbest j' (by omega)) (I1.turned (t':=tk') (it:=S) (fun b o n e=>(s1.2 b n).trans e) cS.free cS.ne (.inr cS.new) cS.cells cS.pins)
 | succ r ih =>
   intro j i s vb x tb c oI hr hj Iv hit hx rx hij hbest
   obtain ⟨its,rv,pl,hz⟩:=Iv.list hq
   have hlen:xs.length=its.length:=rv.length
   have W:=Walks.list (prog:=X.prog) (w:=X.w) (A:=X.A.in1) (Iv.ok.hd hc) I l hlI its.toArray
   have hsz:its.toArray.size=its.length:=size_toArray ..
   have hlt:j+1 < its.length:=by omega
   have gS:=(Iv.pin _ (mem_append_right _ (mem_cons_self ..))).1
   refine codeAny_builtin PySem.F.entry_max_loop ?_
   rw [Around.under_plainId PySem.F.plain_max_loop _]
   show wpAny _ X.A.in1 (seqItems? (.ref S) >>= _) _ _ _
   refine wpAny_bind (wpAny_seqItems gS rfl ?_)
   show wpAny _ X.A.in1 (tryCatch (pyNext (.ref I)) _ >>= _) _ _ _
   refine wpAny_bind (wpAny_tryCatch (W.item (j+1) _ _ _ (by rw [hsz];exact hlt) ⟨hit,pl.isList⟩ fun v h' tk' hP hst' hk'=>?_))
   have hv:its[j+1]?=some v:=by simpa using hP
   obtain ⟨oI',hoI',hoc,hod⟩:=id hst'.1
   obtain ⟨x2,hx2⟩:∃x2,xs[j+1]?=some x2:=⟨_,List.getElem?_eq_getElem (by omega)⟩
   obtain ⟨v2,hv2,rx2⟩:=rv.get hx2
   rw [hv] at hv2
   cases hv2
   have Ia:Inv X ((I,oI) :: (S,seqObj "list" #[vb,.int (kf i) tb] c) :: pins) σ H s:=Iv.sub fun p hp=>by
    rcases mem_cons.mp hp with rfl | hp
    ·exact mem_cons_of_mem _ (mem_cons_self ..)
    ·rcases mem_cons.mp hp with rfl | hp
     ·exact mem_cons_self ..
     ·exact mem_cons_of_mem _ (mem_cons_of_mem _ hp)
   have I1:=Ia.repin (t':=tk') (h':=h') (o':=oI') (cI.cons hSI) (fun b o n e=>hk' b o (by simpa using n) e) hoI' (fun z y=>by rw [hod] at y;cases y)
   show wpAny _ X.A.in1 (tryCatch (holding [v] (call (.ref f) [v])) _ >>= _) _ _ _
   refine wpAny_bind (wpAny_tryCatch (wpAny_holding (wpAny_mono (turn (j+1) x2 v _ _ hx2 rx2 (fun p hp=>mem_cons_of_mem _ (mem_cons_of_mem _ hp)) I1) (fun y s2 he=>?_) fun _ _ hF=>hF.elim)))
   obtain ⟨I2,t2,rfl⟩:=he
   have gI2:=(I2.pin _ (mem_append_right _ (mem_cons_self ..))).1
   have gS2:=(I2.pin _ (mem_append_right _ (mem_cons_of_mem _ (mem_cons_self ..)))).1
   have hit2:s2.heap.IsListIter I l (j+1+1):=⟨oI',gI2,hoc,hod⟩
   have I2':Inv X ((S,seqObj "list" #[vb,.int (kf i) tb] c) :: (I,oI') :: pins) σ H s2:=I2.sub fun p hp=>by
    rcases mem_cons.mp hp with rfl | hp
    ·exact mem_cons_of_mem _ (mem_cons_self ..)
    ·rcases mem_cons.mp hp with rfl | hp
     ·exact mem_cons_self ..
     ·exact mem_cons_of_mem _ (mem_cons_of_mem _ hp)
   show wpAny _ X.A.in1 (tryCatch (holding [v,.int (kf (j+1)) t2] (richCompare .Gt (.int (kf (j+1)) t2) (.int (kf i) tb) >>= _)) _ >>= _) _ _ _
   refine wpAny_bind (wpAny_tryCatch (wpAny_holding (wpAny_bind (CmpOf.ints_gt (prog:=X.prog) (w:=X.w) (A:=X.A.in1) (P:=fun i v=>∃t,v=.int (kf i) t) kf (fun i v h=>h) (j+1) i _ _ _ _ _ ⟨t2,rfl⟩ ⟨tb,rfl⟩ ?_))))
   refine wpAny_bind (wpAny_holding (wpAny_truthy_bool ?_))
   refine wpAny_bind (wpAny_letGo (wpAny_pure ?_))
   by_cases hb':kf (j+1) > kf i
   ·have s1:=Heap.SameBut.update s2.heap S (Obj.mapSeq fun _=>#[v,.int (kf (j+1)) t2])
    obtain ⟨c2,hc2⟩:∃c2,(s2.heap.update S (Obj.mapSeq fun _=>#[v,.int (kf (j+1)) t2])).get? S=some (seqObj "list" #[v,.int (kf (j+1)) t2] c2):=⟨_,get?_update_seq gS2 fun _=>#[v,.int (kf (j+1)) t2]⟩
    simp only [hb',decide_true,if_true]
    refine wpAny_bind ?_
    refine wpAny_updateSeq gS2 rfl (wpAny_bind (wpAny_letGo ?_))
    rw [hname]
    have I3:=I2'.repin (t':=s2.toks) (o':=seqObj "list" #[v,.int (kf (j+1)) t2] c2) (cS.cons (Ne.symm hSI)) (fun b o n e=>(s1.2 b n).trans e) hc2 (fun z y=>by cases y)
    refine wpAny_pure ⟨plainId_quiet PySem.F.plain_max_loop _,ih (j+1) (j+1) _ v x2 t2 c2 oI' (by omega) (by omega) I3 ⟨oI',(s1.2 I hSI.symm).trans gI2,hoc,hod⟩ hx2 rx2 (Nat.le_refl _) fun j' hj'=>?_⟩
    by_cases e:j'=j+1
    ·subst e
     exact ⟨by omega,fun z=>by omega⟩
    ·have hb1:=(hbest j' (by omega)).1
     exact ⟨by omega,fun _=>by omega⟩
   ·simp only [hb',decide_false,Bool.false_eq_true,if_false]
    refine wpAny_bind (wpAny_letGo ?_)
    rw [hname]
    refine wpAny_pure ⟨plainId_quiet PySem.F.plain_max_loop _,ih (j+1) i _ vb x tb c oI' (by omega) (by omega) I2' hit2 hx rx (by omega) fun j' hj'=>?_⟩
    by_cases e:j'=j+1
    ·subst e
     exact ⟨by omega,fun z=>by omega⟩
    ·exact hbest j' (by omega)
theorem OQ (hc:X.calm=true) (kf:Nat->Int) {s:Shared} {Q:Value->Shared->Prop} {E:Value->Shared->Prop} (hq:SqL X.K H l xs) (hne:0 < xs.length) (Iv:Inv X pins σ H s)
 (turn:∀(i:Nat) (x:V) (u:Value) (ps:List (Addr × Obj)) (s:Shared),xs[i]?=some x->A8 x u->(∀p∈pins,p∈ps)->Inv X ps σ H s->wpAny (model X.prog X.w) X.A.in1 (call (.ref f) [u]) (fun v s'=>Inv X ps σ H s'/\∃t,v=.int (kf i) t) (fun _ _=>False) s)
 (hQ:∀(i:Nat) (x:V) (v:Value) (s:Shared),xs[i]?=some x->A8 x v->(∀j,j < xs.length->kf j<=kf i/\(j < i->kf j < kf i))->Inv X pins σ H s->Q v s) :
 wpAny (model X.prog X.w) X.A (call (.builtin "max") [.ref l] [(Str.ofString "key",.ref f)]) Q E s:=by
 have hname:(toString "max"++toString ".loop":String)="max.loop":=by decide
 obtain ⟨its,rv,pl,hz⟩:=Iv.list hq
 have hlen:xs.length=its.length:=rv.length
 have hls:=pl.isList
 obtain ⟨ol,hol,_⟩:=id hls
 have hll:l < s.heap.objs.size:=Heap.lt_size hol
 refine kmk_tree PySem.F.kind_max PySem.F.plain_max PySem.F.entry_max (kmk_max_key _ _) ?_
 show wpAny _ X.A.in1 (Builtin.Builtins.bindParams "max" ["key","default"] 0 ⟨[],[(Str.ofString "key",.ref f)]⟩ >>= _) _ _ s
 refine wpAny_bind (wpAny_of_eq (show Builtin.Builtins.bindParams "max" ["key","default"] 0 ⟨[],[(Str.ofString "key",.ref f)]⟩=pure [some (.ref f),none] from rfl) ?_)
 refine wpAny_bind (wpAny_pure ?_)
 refine wpAny_bind (wpAny_pyIter_list hls ?_)
 refine wpAny_bind (wpAny_newList ?_ (Nat.zero_le _))
 rw [hname]
 have hS:(s.heap.push { cls:=.type "list_iterator",data:=.fields #[.ref l,.int 0 0] }).objs.size=s.heap.objs.size+1:=size_push' ..
 have hlI:l≠s.heap.objs.size:=Nat.ne_of_lt hll
 have hSI:(s.heap.push { cls:=.type "list_iterator",data:=.fields #[.ref l,.int 0 0] }).objs.size≠s.heap.objs.size:=by rw [hS];exact Nat.ne_of_gt (Nat.lt_succ_self _)
 have I1:=Iv.kept (t':=s.toks) (h':=s.heap.push { cls:=.type "list_iterator",data:=.fields #[.ref l,.int 0 0] }) fun b u e=>Heap.get?_push_of_some _ e
 have cI:Em X pins H s.heap.objs.size:=Iv.cloc (Nat.le_refl _)
 have cS:Em X pins H (s.heap.push { cls:=.type "list_iterator",data:=.fields #[.ref l,.int 0 0] }).objs.size:=I1.cloc (Nat.le_refl _)
 have nfI:=Iv.nofs (Nat.le_refl _)
 have nfS:=I1.nofs (Nat.le_refl _)
 have I2:=I1.kept (t':=s.toks) (h':=(s.heap.push { cls:=.type "list_iterator",data:=.fields #[.ref l,.int 0 0] }).push (seqObj "list" #[] 0)) fun b u e=>Heap.get?_push_of_some _ e
 have gI:((s.heap.push { cls:=.type "list_iterator",data:=.fields #[.ref l,.int 0 0] }).push (seqObj "list" #[] 0)).get? s.heap.objs.size=some { cls:=.type "list_iterator",data:=.fields #[.ref l,.int 0 0] } :=
  Heap.get?_push_of_some _ (Heap.get?_push_size _ rfl)
 have gS:((s.heap.push { cls:=.type "list_iterator",data:=.fields #[.ref l,.int 0 0] }).push (seqObj "list" #[] 0)).get? (s.heap.push { cls:=.type "list_iterator",data:=.fields #[.ref l,.int 0 0] }).objs.size=some (seqObj "list" #[] 0):=Heap.get?_push_size _ rfl
 generalize (s.heap.push { cls:=.type "list_iterator",data:=.fields #[.ref l,.int 0 0] }).objs.size=S at hSI cS nfS gS ⊢
 generalize hI:s.heap.objs.size=I at hSI cI nfI gI hlI ⊢
 have I3:=(I2.pin1 cS gS nfS (fun z y=>by cases y)).pin1 (cI.cons hSI) gI nfI (fun z y=>by cases y)
 refine wpAny_pure ⟨plainId_quiet PySem.F.plain_max_loop _,?_⟩
 obtain ⟨its,rv,pl,hz⟩:=I3.list hq
 have hlen:xs.length=its.length:=rv.length
 have W:=Walks.list (prog:=X.prog) (w:=X.w) (A:=X.A.in1) (I3.ok.hd hc) I l hlI its.toArray
 have hsz:its.toArray.size=its.length:=size_toArray ..
 refine codeAny_builtin PySem.F.entry_max_loop ?_
 rw [Around.under_plainId PySem.F.plain_max_loop _]
 show wpAny _ X.A.in1 (seqItems? (.ref _) >>= _) _ _ _
 refine wpAny_bind (wpAny_seqItems gS rfl ?_)
 show wpAny _ X.A.in1 (tryCatch (pyNext (.ref I)) _ >>= _) _ _ _
 refine wpAny_bind (wpAny_tryCatch (W.item 0 _ _ _ (by rw [hsz,<- hlen];exact hne) ⟨⟨_,gI,rfl,rfl⟩,pl.isList⟩ fun v h' tk' hP hst' hk'=>?_))
 have hv:its[0]?=some v:=by simpa using hP
 obtain ⟨oI',hoI',hoc,hod⟩:=id hst'.1
 obtain ⟨x2,hx2⟩:∃x2,xs[0]?=some x2:=⟨_,List.getElem?_eq_getElem hne⟩
 obtain ⟨v2,hv2,rx2⟩:=rv.get hx2
 rw [hv] at hv2
 cases hv2
 have I4:=I3.repin (t':=tk') (h':=h') (o':=oI') (cI.cons hSI) (fun b o n e=>hk' b o (by simpa using n) e) hoI' (fun z y=>by rw [hod] at y;cases y)
 show wpAny _ X.A.in1 (tryCatch (holding [v] (call (.ref f) [v])) _ >>= _) _ _ _
 refine wpAny_bind (wpAny_tryCatch (wpAny_holding (wpAny_mono (turn 0 x2 v _ _ hx2 rx2 (fun p hp=>mem_cons_of_mem _ (mem_cons_of_mem _ hp)) I4) (fun y s2 he=>?_) fun _ _ hF=>hF.elim)))
 obtain ⟨I5,t2,rfl⟩:=he
 have gI2:=(I5.pin _ (mem_append_right _ (mem_cons_self ..))).1
 have gS2:=(I5.pin _ (mem_append_right _ (mem_cons_of_mem _ (mem_cons_self ..)))).1
 have I5':Inv X ((S,seqObj "list" #[] 0) :: (I,oI') :: pins) σ H s2:=I5.sub fun p hp=>by
  rcases mem_cons.mp hp with rfl | hp
  ·exact mem_cons_of_mem _ (mem_cons_self ..)
  ·rcases mem_cons.mp hp with rfl | hp
   ·exact mem_cons_self ..
   ·exact mem_cons_of_mem _ (mem_cons_of_mem _ hp)
 have s1:=Heap.SameBut.update s2.heap S (Obj.mapSeq fun _=>#[v,.int (kf 0) t2])
 obtain ⟨c2,hc2⟩:∃c2,(s2.heap.update S (Obj.mapSeq fun _=>#[v,.int (kf 0) t2])).get? S=some (seqObj "list" #[v,.int (kf 0) t2] c2):=⟨_,get?_update_seq gS2 fun _=>#[v,.int (kf 0) t2]⟩
 show wpAny _ X.A.in1 (updateSeq S (fun _=>#[v,.int (kf 0) t2]) >>= _) _ _ _
 refine wpAny_bind ?_
 refine wpAny_updateSeq gS2 rfl ?_
 rw [hname]
 have I6:=I5'.repin (t':=s2.toks) (o':=seqObj "list" #[v,.int (kf 0) t2] c2) (cS.cons (Ne.symm hSI)) (fun b o n e=>(s1.2 b n).trans e) hc2 (fun z y=>by cases y)
 refine wpAny_pure ⟨plainId_quiet PySem.F.plain_max_loop _,Op hc kf hq hlI hSI cI cS turn hQ _ 0 0 _ v x2 t2 c2 oI' rfl hne I6 ⟨oI',(s1.2 I hSI.symm).trans gI2,hoc,hod⟩ hx2 rx2 (Nat.le_refl _) fun j' hj'=>?_⟩
 have e:j'=0:=by omega
 subst e
 exact ⟨by omega,fun z=>absurd z (Nat.lt_irrefl _)⟩
end
theorem Fun.okC {P:Program} {w:World} {K:PySem.W.Frag} {mg:Str->Option Value} {base:Heap} {x qual:Str} {st:Stmt} {f:Addr} {fd:FuncData} {N ps:List Str} {k:Nat} {sp:Sp} (F:Fun K x qual st f fd) (S:Ar N ps (Ad st)) (len:∀vs H Q E,sp vs H Q E->vs.length=ps.length)
 (hbody:∀(cdv:Value),fd.code=cdv->∀(A:Around) (outer:List Env) (s:Shared) (H:Hp) (vs:List V) (Q:VK) (E:XK),CY k (A.deeper (envOfC qual (Ad st) s.heap.objs.size f cdv))->sp vs H Q E ->
  ∃t,PSs (JI CX0 P w K mg base N qual (Ad st) f cdv A outer s H E).nox (An st) t/\t { nx:=fun _ H'=>Q .non H',rt:=Q } (start N vs) H):AI P w K mg base CX0 (k+1) f fd ps sp:=by
 obtain ⟨oc,od,kV,doc,pm,an,cdv,ct,osl,rfl,lk,hcd⟩:=F.ex
 refine NF lk hcd S len fun A outer s H vs Q E hr hsp=>?_
 obtain ⟨t,h,q⟩:=hbody cdv rfl A outer s H vs Q E hr hsp
 exact ⟨t,h.nox,q⟩
section
variable {M:Model} {A:Around} {E:Value->Shared->Prop} {s:Shared} {env:Env}
theorem N7 {pos:Pos} {T:String} {e:Expr} {kws:List Keyword} {Q:Value->Shared->Prop}
 (h:wpAny M A (spliced (backTo pos (starEach [e] env))) (fun vs z=>wpAny M A (evalAll ((backToKw pos (keywordEach kws env)).map (·.2))) (fun us y=>wpAny M A (call (.builtin T) vs (((backToKw pos (keywordEach kws env)).filterMap (·.1)).zip us)) Q E y) E z) E s)
 (he:backTo pos (starEach [e] env)=(false,eval e env) :: backTo pos (starEach [] env)) (hp:(backTo pos (starEach [e] env)).any (·.1)=false)
 (ha:(backToKw pos (keywordEach kws env)).all (·.1.isSome)=true) (hk:(backToKw pos (keywordEach kws env)).any (·.1.isNone)=false) :
 wpAny M A (callWith pos (.builtin T) [] (backTo pos (starEach [e] env)) (backToKw pos (keywordEach kws env))) Q E s:=by
 unfold callWith
 have y:wpAny M A (evalArgs (.builtin T) true (backTo pos (starEach [e] env)) (backToKw pos (keywordEach kws env))) (fun a z=>wpAny M A (call (.builtin T) ([]++a.pos) a.kw) Q E z) E s:=by
  rw [he] at h ⊢
  exact evalArgs_kwB ha h
 refine wpAny_bind (wpAny_holding (wpAny_mono y (fun a z q=>wpAny_bind (wpAny_standAt ?_)) fun _ _ x=>x))
 simp only [hp,hk,Bool.or_false]
 refine wpAny_bind (wpAny_pure (wpAny_bind ?_))
 exact wpAny_mono q (fun r z hr=>wpAny_bind (wpAny_holding (wpAny_point (wpAny_pure hr)))) fun _ _ x=>x
end
def Ph (K:PySem.W.Frag) (P:Addr) (lpos:Pos) (q:Str) (tl tb:TE):TE:=fun σ H Q=>tl σ H fun x H1=>∃(a:Addr) (xs:List V) (kf:Nat->Int),x=.ref a/\0 < xs.length/\Hh P lpos q H1 /\
 ∀H2,EE P lpos q H2->SmL P H1 H2->(EE P lpos q H1->H1=H2)->(∀b,H2 b=none->H1 b=none) ->
  SqL K H2 a xs/\(∀i x,xs[i]?=some x->tb (σ++[some x]) H2 fun y H3=>y=.int (kf i)/\H3=H2)/\∀i x,xs[i]?=some x->(∀j,j < xs.length->kf j<=kf i/\(j < i->kf j < kf i))->Q x H2
section
variable {X:Cx} {c P:Addr} {e body:Expr} {tl tb:TE} {sc fsc:Scope} {N Nc:List Str} {x:Str} {params:Arguments} {lpos kp p pos:Pos}
theorem Ni (hc:X.calm=true) (LB:GF X.base X.mg c P) (hcode:X.env.code=.ref c) (hr:CY 1 X.A) (hg:Gl X "max") (hm:X.mg "max"=none) (hE:X.env.scope=fsc) (hXN:X.N=N) (cn:Ei N Nc x sc fsc) (hco:sc.isCoroutine=false) (hgen:sc.isGenerator=false) (he:PE X e tl)
 (hb:∀cl f c' s H,PE (X.inLam X.A.in1 Nc (X.env.qual++"<lambda>") sc cl f c' s H) body tb)
 (hbind:∀cl c' pm ctv u,bindArgs (kla_fn "<lambda>" (X.env.qual++"<lambda>") params body sc cl pm (.ref c') ctv) ⟨[u],[]⟩=pure [(x,u)]:=by intros;rfl) (hdef:defaultsOf params X.env=([],[]):=by rfl)
 (h1:backTo pos (starEach [e] X.env)=(false,eval e X.env) :: backTo pos (starEach [] X.env):=by rfl) (h2:(backTo pos (starEach [e] X.env)).any (·.1)=false:=by rfl)
 (h3:(backToKw pos (keywordEach [⟨some "key",.Lambda params body sc lpos,kp⟩] X.env)).all (·.1.isSome)=true:=by rfl) (h4:(backToKw pos (keywordEach [⟨some "key",.Lambda params body sc lpos,kp⟩] X.env)).any (·.1.isNone)=false:=by rfl)
 (h5:(backToKw pos (keywordEach [⟨some "key",.Lambda params body sc lpos,kp⟩] X.env)).filterMap (·.1)=[("key":Str)]:=by rfl) :
 PE X (.Call (.Name "max" p) [e] [⟨some "key",.Lambda params body sc lpos,kp⟩] pos) (Ph X.K P lpos (X.env.qual++"<lambda>") tl tb):=by
 intro pins s σ H Q I h
 obtain ⟨cl,hcl,clS,clH⟩:=CN (env:=X.env) (sc:=sc) (NM I.ok.has hE cn)
 refine wpAny_Call_Name_kw (DA I hg hm boot_max ?_ (by decide) (by decide))
 refine N7 ?_ h1 h2 h3 h4
 rw [h1]
 refine Calls.spliced_cons (thn (he pins s σ H _ I h) fun u s1 ⟨y,H1,I1,r1,a,xs,kf,hx,hne,lt,q⟩=>?_)
 subst hx
 cases r1
 refine Calls.spliced_nil ?_
 refine kws_cons (kla_eval hdef (Oa LB hcode hcl I1 lt fun f c' pm ctv H2 s2 I2 hc2 cf l2 sm l12 fr=>kws_nil ?_))
 rw [h5]
 show wpAny (model X.prog X.w) X.A (call (.builtin "max") [.ref a] [(Str.ofString "key",.ref f)]) _ _ s2
 obtain ⟨hq,keys,fin⟩:=q H2 l2 sm l12 fr
 refine OQ hc kf hq hne I2 (fun i z u ps s3 hz rz hps I3=>?_) fun i z v s3 hz rz best I3=>?_
 ·refine thn (N0 hE hXN cn hco hgen clS clH (A:=X.A.in1) rfl hr.hd (by have:=hr.dp;show X.A.depth < _;omega) (fun s H=>hb cl f c' s H) (fun pm ctv u=>hbind cl c' pm ctv u) I3 (hps _ (mem_cons_self ..)) hc2 rz (keys i z hz)) fun v s4 ⟨y,H4,I4,r4,e1,e2⟩=>?_
  subst e1 e2
  exact ⟨I4,r4⟩
 ·exact ⟨z,H2,I3.sub fun p hp=>mem_cons_of_mem _ hp,rz,fin i z hz best⟩
end
noncomputable def Mj (K:PySem.W.Frag):Bool:=K.all fun p=>match p.2.data with
 | .fields v=>!(v.isEmpty && p.2.cls == Value.none)
 | _=>true
theorem KH {α:Type} {a:Addr} {v:α}:∀{l:List (Addr × α)},l.lookup a=some v->(a,v)∈l
 | (k,u) :: r,h=>by
   rw [lookup_cons] at h
   cases hx:(a == k) with
   | true =>
     rw [hx] at h
     have e:a=k:=by simpa using hx
     cases h
     rw [e]
     exact mem_cons_self ..
   | false =>
     rw [hx] at h
     exact mem_cons_of_mem _ (KH h)
theorem KY {K:PySem.W.Frag} (h:Mj K=true) {P:Addr}:K.lookup P≠some (tabObj #[]):=fun e=>by
 have:=all_eq_true.mp h _ (KH e)
 exact absurd (show (!((#[]:Array Value).isEmpty && (Value.none == Value.none)))=true from this) (by decide)
theorem MV {P:Program} {w:World} {K:PySem.W.Frag} {mg mb:Str->Option Value} {CX:CXT} {k:Nat} {fa a c Pt:Addr} {fd:FuncData} {x:Str} {sp:Sp} {s₁:Shared} {vs:List Value} {ns:List Int}
 (KX:K.In s₁.heap) (hnt:Mj K=true) (hns:s₁.heap.Ns mainGlobals mg) (hb:s₁.heap.Ns builtinsNs mb) (hbb:∀x:Str,x≠"__name__"->mb x=bootBuiltins x) (hlim:s₁.heap.NoLimit) (hg:s₁.gens=#[])
 (ha:s₁.heap.get? a=some { cls:=.type "list",data:=.seq vs.toArray }) (hi:IntsAre vs ns) (hl:ns.length<=sizeLine) (hr:CY k callerA)
 (hco:s₁.heap.IsCode c Pt #[]) (hta:s₁.heap.TableAt c Pt #[]) (hbm:∃bm ob,mg "__builtins__"=some (.ref bm)/\bm≠builtinsNs/\s₁.heap.get? bm=some ob/\ob.cls=.type "module"/\ob.dict=some builtinsNs/\ob.data=.plain)
 (F:∀base:Heap,K.In base->base.Ns mainGlobals mg->GF base mg c Pt->AI P w K mg base CX k fa fd [x] sp) (hbind:∀(s:Shared) (u:Value),BindsTo s fd ⟨[u],[]⟩ [(x,u)])
 (hsp:∀H:Hp,H Pt=some (.tbl #[])->SqL K H a (ns.map V.int)->sp [.ref a] H (fun v _=>v=.bl true) fun _ _ _=>False)
 (hCX:∀H e s',CX [] H s₁ (fun _ _ _=>False) e s'->False) :
 codeAny (model P w) callerA (.call (.ref fa) ⟨[.ref a],[]⟩) (fun r s'=>r=.ok (.ret (.bool true))/\OldK s₁.heap s'.heap/\s'.os=s₁.os/\AllBare s'.gens) s₁:=by
 have rv:=EC hi
 have lenV:=hi.length
 have hPt:s₁.heap.get? Pt=some (tabObj #[]):=hta.2
 have aP:a≠Pt:=fun z=>by rw [z,hPt] at ha;cases ha
 have kP:K.lookup Pt=none:=by
  cases e:K.lookup Pt with
  | none=>rfl
  | some o =>
    have:=KX _ _ e
    rw [hPt] at this
    rw [<- Option.some.inj this] at e
    exact absurd e (KY hnt)
 have core:∀H:Hp,(∀b,H b=none\/(b=Pt/\H b=some (.tbl #[]))\/(b=a/\∃o xs,H b=some (.frz o (.lst xs))))->H Pt=some (.tbl #[])->SqL K H a (ns.map V.int)->HOk P w H s₁.heap->(H a≠none->K.lookup a=none) ->
  codeAny (model P w) callerA (.call (.ref fa) ⟨[.ref a],[]⟩) (fun r s'=>r=.ok (.ret (.bool true))/\OldK s₁.heap s'.heap/\s'.os=s₁.os/\AllBare s'.gens) s₁:=by
  intro H hO hP hS hok hK
  have base_of:∀{b:Addr} {o:Obj},s₁.heap.get? b=some o->H b=none->(Hi s₁.heap H).get? b=some o:=fun e n=>NX e n
  have other:∀{b:Addr} {o:Obj},s₁.heap.get? b=some o->o.cls≠.type "list"->(o.cls≠.none\/∀v,o.data≠.fields v)->H b=none:=fun {b o} e n1 n2=>by
   rcases hO b with z | ⟨z,_⟩ | ⟨z,_⟩
   ·exact z
   ·subst z
    rw [hPt] at e;cases e
    rcases n2 with n2 | n2
    ·exact absurd rfl n2
    ·exact absurd rfl (n2 _)
   ·subst z
    rw [ha] at e;cases e
    exact absurd rfl n1
  have noA:∀{b:Addr} {o:Obj} {es:Array DictEntry} {ep:Nat},s₁.heap.get? b=some o->o.data=.dict es ep->H b=none:=fun {b o es ep} e d=>by
   rcases hO b with z | ⟨z,_⟩ | ⟨z,_⟩
   ·exact z
   ·subst z;rw [hPt] at e;cases e;cases d
   ·subst z;rw [ha] at e;cases e;cases d
  have nsK:∀{b:Addr} {m:Str->Option Value},s₁.heap.Ns b m->(Hi s₁.heap H).Ns b m:=fun {b m} ⟨o,es,ep,e,d,r⟩=>⟨o,es,ep,base_of e (noA e d),d,r⟩
  have hKb:K.In (Hi s₁.heap H):=fun b o e=>base_of (KX b o e) (by
   rcases hO b with z | ⟨z,_⟩ | ⟨z,y⟩
   ·exact z
   ·subst z;rw [kP] at e;cases e
   ·subst z
    cases q:H b with
    | none=>rfl
    | some u=>rw [hK (by rw [q];simp)] at e;cases e)
  have hM:Mod K mg (Hi s₁.heap H):=⟨hKb,nsK hns,⟨mb,nsK hb,hbb⟩,let ⟨mc,h1,h2⟩:=hlim;⟨mc,nsK h1,h2⟩⟩
  have LB:GF (Hi s₁.heap H) mg c Pt:=by
   refine ⟨?_,?_,?_⟩
   ·obtain ⟨o,vs',file,tf,flags,tg,inF,text,tt,e,ec,r⟩:=CodeHd.of hco hta
    exact ⟨o,vs',file,tf,flags,tg,inF,text,tt,base_of e (other e (by rw [ec];decide) (.inl (by rw [ec];decide))),ec,r⟩
   ·obtain ⟨bm,ob,b1,b2,b3,b4,r⟩:=hbm
    exact ⟨bm,ob,b1,b2,base_of b3 (other b3 (by rw [b4];decide) (.inl (by rw [b4];decide))),b4,r⟩
   ·cases e:(Hi s₁.heap H).get? Pt with
    | none=>rfl
    | some o=>rw [(LH e).2] at hP;cases hP
  have e0:L6 P w K mg (Hi s₁.heap H) callerA [] s₁ H:=⟨rfl,hM,fun b o e=>LH e,Nat.le_of_eq (M8 _ _),trivial,fun b hb=>absurd (show b∈([]:List Addr) from hb) (by simp),hok,.of_eq hg⟩
  refine codeAny_mono ((F _ hKb (nsK hns) LB).run callerA [] s₁ H ⟨[.ref a],[]⟩ [.ref a] [.ref a] _ _ hr e0 (hbind s₁ (.ref a)) (.cons rfl .nil) (hsp H hP hS)) fun r s' h=>?_
  cases r with
  | error e=>exact (hCX H e s' h).elim
  | ok fl =>
    cases fl with
    | next=>exact False.elim h
    | brk=>exact False.elim h
    | cont=>exact False.elim h
    | ret u =>
      obtain ⟨v,H',os,bare,un,hok',r',q⟩:=h
      have q':v=.bl true:=q
      subst q'
      obtain rfl:u=Value.bool true:=r'
      refine ⟨rfl,⟨fun b o e=>?_,fun b o e=>un.there b o e (by simp)⟩,os,bare⟩
      rcases hO b with z | ⟨z,y⟩ | ⟨z,ob,xs,y⟩
      ·exact .inl (un.keep b o e z (by intro z;exact absurd (show b∈([]:List Addr) from z) (by simp)) (by simp))
      ·subst z
       rw [hPt] at e;cases e
       obtain ⟨more,z2⟩:=un.tbls b _ y
       exact .inr (.inl ⟨hta.isCodeTable,rfl,#[],more,rfl,hok' b _ z2⟩)
      ·have z2:=un.frzs b ob _ y
       obtain ⟨e1,_⟩:=hok b _ y
       obtain ⟨e2,_⟩:=hok' b _ z2
       rw [e] at e1;cases e1
       exact .inl e2
 cases hk:K.lookup a with
 | some o =>
   have e:=KX a o hk
   rw [ha] at e
   cases e
   refine core (fun b=>if b=Pt then some (.tbl #[]) else none) (fun b=>?_) (if_pos rfl) (.inr ⟨_,vs.toArray,_,hk,rfl,rfl,rfl,by rw [size_toArray,lenV];exact hl,by simpa using rv⟩) (fun b u z=>?_) fun z=>absurd (if_neg aP) z
   ·by_cases hb:b=Pt
    ·exact .inr (.inl ⟨hb,if_pos hb⟩)
    ·exact .inl (if_neg hb)
   ·by_cases hb:b=Pt
    ·have z':=(if_pos hb).symm.trans z
     cases z'
     subst hb
     exact hPt
    ·have z':=(if_neg hb).symm.trans z
     cases z'
 | none =>
   refine core (fun b=>if b=Pt then some (.tbl #[]) else if b=a then some (.frz { cls:=.type "list",data:=.seq vs.toArray } (.lst (ns.map V.int))) else none) (fun b=>?_) (if_pos rfl) (.inl (.inr ⟨{ cls:=.type "list",data:=.seq vs.toArray },(if_neg aP).trans (if_pos rfl)⟩)) (fun b u z=>?_) fun _=>hk
   ·by_cases hb:b=Pt
    ·exact .inr (.inl ⟨hb,if_pos hb⟩)
    ·by_cases hb2:b=a
     ·exact .inr (.inr ⟨hb2,_,_,(if_neg hb).trans (if_pos hb2)⟩)
     ·exact .inl ((if_neg hb).trans (if_neg hb2))
   ·by_cases hb:b=Pt
    ·have z':=(if_pos hb).symm.trans z
     cases z'
     subst hb
     exact hPt
    ·have z:=(if_neg hb).symm.trans z
     by_cases hb2:b=a
     ·have z':=(if_pos hb2).symm.trans z
      cases z'
      subst hb2
      exact ⟨ha,by rw [length_map];exact hl,vs,_,rv,ha⟩
     ·have z':=(if_neg hb2).symm.trans z
      cases z'
theorem walk_of1 {l:PySem.W.OpenLaw} {n k:Nat} {q:Program} {loose:List Str} {XP:(Str->Option Value)->Heap->Prop} {YP:World->Heap->Prop} {d dn:DefRec} {K:Params->PySem.W.Frag} {CX:World->CXT} {sp:World->Addr->Sp} {x:Str}
 (hn:l.most=some n) (hn2:n<=sizeLine) (hdf:d.params.defaults=[]) (hr:CY k callerA)
 (hY:∀(w:World) (h:Heap),YP w h->(K w.params).In h) (hnt:∀p,Mj (K p)=true) (hdn:dn∈recsOf q)
 (F:∀(w:World) (mg:Str->Option Value) (fa f c Pt:Addr) (h:Heap),(K w.params).In h->h.Ns mainGlobals mg->mg d.name=some (.ref fa)->mg dn.name=some (.ref f)->(∃o fd,h.get? f=some o/\o.data=.func fd/\fd.code=.ref c) ->
  ∃fd:FuncData,(∀(s:Shared) (u:Value),BindsTo s fd ⟨[u],[]⟩ [(x,u)]) /\
   ∀base:Heap,(K w.params).In base->base.Ns mainGlobals mg->GF base mg c Pt->AI l.prog w (K w.params) mg base (CX w) k fa fd [x] (sp w Pt))
 (hsp:∀(w:World) (Pt:Addr) (H:Hp) (a:Addr) (ns:List Int),ns.length<=n->H Pt=some (.tbl #[])->SqL (K w.params) H a (ns.map V.int)->sp w Pt [.ref a] H (fun v _=>v=.bl true) fun _ _ _=>False)
 (hCX:∀(w:World) (H:Hp) (s:Shared) (e:Value) (s':Shared),CX w [] H s (fun _ _ _=>False) e s'->False) :
 PySem.W.WalkO q loose XP YP l.row.toRowW d [] (fun f vs=>PySem.call f vs):=by
 refine Att.attach_call hn hdf fun w s₀ s₁ mg mb fa o pm cd doc a vs ns G Y ho hd hcd hmg hobj hints hlen hg=>?_
 have KX:=hY w _ Y
 obtain ⟨f,o',fd',c,Pt,t1,t2,t3,t4,t5,t6⟩:=G.T.tab dn hdn
 obtain ⟨fd,hb,hF⟩:=F w mg fa f c Pt _ KX G.T.g hmg t1 ⟨o',fd',t2,t3,t4⟩
 exact MV KX (hnt _) G.T.g G.T.b G.T.builtins G.T.nolimit hg hobj hints (Nat.le_trans hlen hn2) hr t5 t6 G.T.bmain hF hb (fun H hP hS=>hsp w Pt H a ns hlen hP hS) fun H e s'=>hCX w H s₁ e s'
end L2
namespace L2
open PySem PySem.W PySem.Spec PyProof.Rows
section
variable {X:Cx}
def OJ:V->List V->Hp->VK->Prop:=fun x vs H Q=>∃(l:Addr) (xs:List V) (k:Nat) (y:V),x=.ref l/\vs=[.int (k:Int),y]/\H l=some (.lst xs)/\k<=xs.length/\xs.length < sizeLine/\Q .non (upd H l (.lst (xs.take k++y :: xs.drop k)))
theorem Mx:MtM X "list.insert" OJ:=by
 intro pins s σ H x vs v us Q I rx rv h
 obtain ⟨l,xs,k,y,rfl,rfl,hH,hk,hz1,q⟩:=h
 cases rx
 obtain ⟨u1,u2,rfl,ru1,ru2⟩:∃u1 u2,us=[u1,u2]/\A8 (.int (k:Int)) u1/\A8 y u2:=by
  cases rv with
  | cons r1 t=>cases t with
    | cons r2 t2=>cases t2;exact ⟨_,_,rfl,r1,r2⟩
 obtain ⟨t,rfl⟩:=ru1
 obtain ⟨z,its,n,r,hl,e⟩:=I.lstM hH
 have hs:sizeLine=16777216:=sizeLine_eq
 obtain ⟨i,hi⟩:∃i:Int,i=(k:Int):=⟨_,rfl⟩
 rw [<- hi]
 have fi:Builtin.List.listFitsIndex i=true:=fitsIndex_both (by omega) (by omega)
 have zi:its.toArray.size<=sizeLine:=by rw [size_toArray];omega
 refine call_meets PySem.F.slot_list_insert ⟨_,e,rfl⟩ PySem.F.entry_list_insert (PySem.F.args_list_insert_3 _ _ _) (PySem.AutoSeq1.list_insert_list_int_val_1 l its.toArray n i t u2 (by simp [fi]) zi) ⟨e,?_⟩
 refine ⟨.non,_,I.lset (its':=its.take k++u2 :: its.drop k) hH e ?_ ((r.take k).append (.cons ru2 (r.drop k))) ?_,rfl,q⟩
 ·have kk:(if i < 0 then (i+(its.toArray.size:Int)).toNat else min i.toNat its.toArray.size)=k:=by
   rw [if_neg (by omega),hi,Int.toNat_natCast,size_toArray]
   omega
  show (its.toArray.extract 0 (if i < 0 then (i+(its.toArray.size:Int)).toNat else min i.toNat its.toArray.size)).push u2++its.toArray.extract (if i < 0 then (i+(its.toArray.size:Int)).toNat else min i.toNat its.toArray.size)=_
  rw [kk]
  apply Array.ext'
  simp
  exact take_of_length_le (by rw [length_drop];exact Nat.le_refl _)
 ·rw [length_append,length_cons,length_take,length_drop]
  omega
end
section
variable {X:Cx} {e:Expr} {te:TE} {p p2 pos pos2:Pos}
def Pj (K:PySem.W.Frag) (te:TE):TE:=fun σ H Q=>te σ H fun x H1=>∃(a:Addr) (ns:List Int),x=.ref a/\SqL K H1 a (ns.map V.int)/\ns.length < 64 /\
 ∀ms:List Int,ms.Nodup->(∀z,z∈ms↔z∈ns)->Q (.int (ms.length:Int)) H1
theorem M4 (hc:X.calm=true) (hg:Gl X "len") (hm:X.mg "len"=none) (hg2:Gl X "set") (hm2:X.mg "set"=none) (he:PE X e te)
 (hs:starEach [e] X.env=[(false,eval e X.env)]:=by rfl)
 (hs2:starEach [(.Call (.Name "set" p2) [e] [] pos2:Expr)] X.env=[(false,eval (.Call (.Name "set" p2) [e] [] pos2) X.env)]:=by rfl) :
 PE X (.Call (.Name "len" p) [.Call (.Name "set" p2) [e] [] pos2] [] pos) (Pj X.K te):=by
 intro pins s σ H Q I h
 refine wpAny_Call_Name_kw (DA I hg hm boot_len ?_ (by decide) (by decide))
 refine callWith_builtin1 ?_ hs2 rfl
 rw [hs2]
 refine Calls.spliced_cons ?_
 refine wpAny_Call_Name_kw (DA I hg2 hm2 boot_set ?_ (by decide) (by decide))
 refine callWith_type1 ?_ hs rfl
 rw [hs]
 refine Calls.spliced_cons (thn (he pins s σ H _ I h) fun u s1 ⟨x,H1,I1,r1,a,ns,hx,hq,h64,q⟩=>?_)
 subst hx
 cases r1
 refine Calls.spliced_nil ?_
 obtain ⟨its,rv,pl,hz⟩:=I1.list hq
 have hi:=Co rv
 have hlen:its.length=ns.length:=hi.length
 refine KE (items:=its.toArray) (ns:=ns) (I1.ok.hd hc) pl.isList (by simpa using hi) (by rw [size_toArray,hlen];unfold scanBound;omega) fun h2 tk2 hS k2=>?_
 refine Calls.spliced_nil ?_
 have ez:its.toArray.size=ns.length:=by rw [size_toArray];exact hlen
 rw [ez] at hS
 have l64:(firstMet (fun i=>ns.getD i 0) ns.length).length < 64:=by
  have:=firstMet_length_le (fun i=>ns.getD i 0) ns.length
  omega
 obtain ⟨o,es,ep,t,ms,ho,hc',hd,_,i1,i2,hsz,hf,_⟩:=hS
 have el:es.size=(firstMet (fun i=>ns.getD i 0) ns.length).length:=by
  have a1:=i1.length
  rw [length_map,Array.length_toList] at a1
  rw [a1,i2.length_eq]
 have kp:∀b o,s1.heap.get? b=some o->h2.get? b=some o:=fun b o q=>k2 b o (Heap.lt_size q) q
 have I2:=I1.kept (t':=tk2) kp
 refine call_len_set (s:={ s1 with heap:=h2,toks:=tk2 }) ho hc' hd hf (by omega) ?_
 refine ⟨.int _,H1,I2.tok _,⟨_,by rw [el]⟩,q _ (JJ _ _) fun z=>Qt⟩
end
end L2
namespace L2
open PySem PySem.W PySem.Spec PyProof.Rows
section
variable {prog:Program} {w:World} {A:Around} {E:Value->Shared->Prop} {s:Shared}
end
section
variable {prog:Program} {w:World} {A:Around} {E:Value->Shared->Prop} {s:Shared}
end
section
variable {X:Cx} {e e2:Expr} {te te2:TE} {p p2 p3 pos pos2 pos3 pos4:Pos}
end
end L2
namespace L2
open PySem PySem.Spec PyProof.Rows
section
variable {X:Cx} {W:St->XK} {k:Nat} {f C:Addr} {fd:FuncData} {ps:List Str} {sp:Sp} {dvs:List V} {ds:List Value} {x m:Str} {p pos apos:Pos} {e o:Expr} {es:List Expr} {ta:TE} {t:TA}
structure PZ (K:PySem.W.Frag) (C B:Addr):Prop where
 ha:PySem.W.findIn K (.ref C) "__class__"=some (some (.builtin "object.__class__"))
 hn:PySem.W.specialIn K (.builtin "object.__class__") "__get__"=some (some (.builtin "getset_descriptor.__get__"))
 htk:PySem.W.takesIn K (.builtin "object.__class__")=some true
 hm:PySem.W.mroIn K C (.type "object")=some true
 kt:PySem.W.kitOne K (.ref C) (.ref B)=some true
theorem OF {K:PySem.W.Frag} (hK:X.K=K:=by rfl):Db X (.builtin "isinstance") (fun xs H Q=>∃a C dx fs B,xs=[.ref a,.ref B]/\H a=some (.ins C dx fs)/\Cls K C/\PZ K C B/\Q (.bl true) H):=by
 subst hK
 intro pins s σ H xs us Q I rv h
 obtain ⟨a,C,dx,fs,B,rfl,ha,cl,i,q⟩:=h
 obtain ⟨u,u',rfl,r1,r2⟩:=LG rv
 cases (show u'=Value.ref B from r2)
 exact Ig I r1 (.ins ha cl i.ha i.hn i.htk i.hm) i.kt fun tk=>⟨.bl true,H,I.tok tk,rfl,q⟩
end
end L2
namespace L2
open PySem PySem.W PySem.Spec PyProof.Rows
section
variable {prog:Program} {w:World} {A:Around} {E:Value->Shared->Prop} {s:Shared} {Q:Bool->Shared->Prop}
end
section
variable {X:Cx}
theorem OK:OpR X (compareOp .IsNot) (fun x y H Q=>∃b:Bool,y=.bl b/\Q (.bl (!decide (x=.bl b))) H):=by
 intro pins s σ H x y v u Q I rx ry h
 obtain ⟨b,rfl,q⟩:=h
 cases ry
 cases x with
 | bl a =>
   cases rx
   have e:(Value.bool a == Value.bool b)=decide (V.bl a=V.bl b):=by cases a <;> cases b <;> rfl
   refine wpAny_pure ⟨.bl (!decide (V.bl a=V.bl b)),H,I,?_,q⟩
   show Value.bool (!(Value.bool a == Value.bool b))=Value.bool _
   rw [e]
 | _ =>
   first
    | (cases rx;exact wpAny_pure ⟨.bl true,H,I,rfl,q⟩)
    | (obtain ⟨t,rfl⟩:=rx;exact wpAny_pure ⟨.bl true,H,I,rfl,q⟩)
end
end L2
namespace L2
open PySem PySem.Spec PyProof.Rows
section
variable {prog:Program} {w:World} {A:Around} {E:Value->Shared->Prop} {s:Shared} {d:Addr} {es:Array DictEntry} {ep:Nat}
end
section
variable {X:Cx}
end
section
variable {prog:Program} {w:World} {A:Around} {E:Value->Shared->Prop} {s:Shared}
end
section
variable {X:Cx}
end
end L2
namespace PySem
open Sem (wp)
section
variable {prog:Program} {w:World} {K:Type} [DecidableEq K] (knd:KeyKind prog w K)
variable {knd}
variable {A:Around} {E:Value->Shared->Prop} {s:Shared}
end
end PySem
namespace L2
open PySem PySem.Spec PyProof.Rows
section
variable {P:Program} {w:World} {H:Hp} {h:Heap} {a:Addr}
end
section
variable {X:Cx} {o i e value:Expr} {pos pos' tpos:Pos} {td ty tv:TE}
end
end L2
namespace L2
open PySem PySem.Spec PyProof.Rows
section
variable {X:Cx}
end
section
variable {prog:Program} {w:World} {A:Around} {E:Value->Shared->Prop} {s:Shared}
end
end L2
namespace L2
open PySem PySem.Spec PyProof.Rows
section
variable {prog:Program} {w:World} {A:Around} {E:Value->Shared->Prop} {s:Shared}
end
section
variable {prog:Program} {w:World} {A:Around} {E:Value->Shared->Prop} {s:Shared}
end
section
variable {X:Cx} {pins:List (Addr × Obj)} {σ:St} {H:Hp}
end
section
variable {X:Cx} {e:Expr} {te:TE} {p p2 pos pos2:Pos}
end
end L2
namespace L2
open PySem PySem.Spec PyProof.Rows
section
variable {X:Cx} {pins:List (Addr × Obj)} {σ:St} {H:Hp}
end
end L2
namespace L2
open PySem PySem.Spec PyProof.Rows
end L2
namespace L2
open PySem PySem.Spec PyProof.Rows
theorem Kd {K:PySem.W.Frag} {a:Addr} {zs:List V} {tt:TT} {te:TE} {σ:St} {H1:Hp} {Q:Addr->Hp->Prop} {n m o n4 n5:Nat} (hn:n=σ.length) (hm:m=σ.length+1) (ho:o=σ.length+2) (h4:n4=σ.length+3) (h5:n5=σ.length+4) (hz:zs.length<=sizeLine) (Pv:Addr->Nat->List V->Hp->Prop)
 (h0:∀D,H1 D=none->Pv D 0 [] (upd H1 D (.lst []))) (hD:∀D i ys H,Pv D i ys H->H D=some (.lst ys)/\ys.length<=i) (hl:∀D i ys H,H1 D=none->Pv D i ys H->SqL K H a zs)
 (hs:∀D i x ys H (K1:VK) (K2:Hp->Prop),H1 D=none->zs[i]?=some x->Pv D i ys H->(∀y H5,H5 D=some (.lst ys)->Pv D (i+1) (ys++[y]) (upd H5 D (.lst (ys++[y])))->K1 y H5)->(∀H4,Pv D (i+1) ys H4->K2 H4) ->
  ∃t v w z u5 u6,x=.ref t/\SqT K H t [v,w,z,u5,u6]/\tt (σ++[some v,some w,some z,some u5,some u6]) H fun b H4=>if b=true then te (σ++[some v,some w,some z,some u5,some u6]) H4 K1 else K2 H4)
 (hd:∀D ys H,H1 D=none->Pv D zs.length ys H->Q D H) :
 ∀D,H1 D=none->∃W:Nat->Nat->List V->Hp->Prop,(∃m,W 0 m [] (upd H1 D (.lst [])))/\∀i k ys H2,W i k ys H2 ->
  H2 D=some (.lst ys)/\(((Itl K a).stop i H2/\Q D H2)\/((Itl K a).go i H2/\ys.length < sizeLine/\∀x H3,(Itl K a).yld i H2 x H3->∀os:St,os.length=5->M3 K 5 (Dc (BA n) (Dc (BA m) (Dc (BA o) (Dc (BA n4) (Dc (BA n5) MF))))) x (σ++os) H3 fun σ4 H4=>(∃os':St,σ4=σ++os'/\os'.length=5)/\tt σ4 H4 fun b H5=>if b=true then te σ4 H5 fun y H6=>H6 D=some (.lst ys)/\∃m',m' < k/\W (i+1) m' (ys++[y]) (upd H6 D (.lst (ys++[y])))
   else ∃m',m' < k/\W (i+1) m' ys H5)):=by
 intro D hDn
 subst hn hm ho h4 h5
 refine ⟨fun i m ys H=>m=zs.length - i/\i<=zs.length/\Pv D i ys H,⟨zs.length,rfl,Nat.zero_le _,h0 D hDn⟩,?_⟩
 rintro i m ys H2 ⟨rfl,hi,p⟩
 obtain ⟨e,l⟩:=hD D i ys H2 p
 have q:=hl D i ys H2 hDn p
 refine ⟨e,?_⟩
 by_cases hlt:i < zs.length
 ·refine .inr ⟨⟨zs,zs[i],q,by simp [hlt]⟩,Nat.lt_of_le_of_lt l (Nat.lt_of_lt_of_le hlt hz),fun x H3 y os ho'=>?_⟩
  obtain ⟨e1,y⟩:=y
  subst e1
  obtain ⟨t,v,w,z,u5,u6,rfl,ht,q5⟩:=hs D i x ys _ (fun y H6=>H6 D=some (.lst ys)/\∃m',m' < zs.length - i/\m'=zs.length - (i+1)/\i+1<=zs.length/\Pv D (i+1) (ys++[y]) (upd H6 D (.lst (ys++[y])))) (fun H5=>∃m',m' < zs.length - i/\m'=zs.length - (i+1)/\i+1<=zs.length/\Pv D (i+1) ys H5) hDn (y zs q) p (fun y H5 h5 p5=>⟨h5,zs.length - (i+1),by omega,rfl,hlt,p5⟩) fun H4 p4=>⟨zs.length - (i+1),by omega,rfl,hlt,p4⟩
  match os,ho' with
  | [o1,o2,o3,o4,o5],_ =>
    have e2:(((((σ++[o1,o2,o3,o4,o5]).set σ.length (some v)).set (σ.length+1) (some w)).set (σ.length+2) (some z)).set (σ.length+3) (some u5)).set (σ.length+4) (some u6)=σ++[some v,some w,some z,some u5,some u6]:=by
     rw [set_append_right _ _ (Nat.le_refl _),Nat.sub_self,set_append_right _ _ (Nat.le_add_right _ 1),set_append_right _ _ (Nat.le_add_right _ 2),set_append_right _ _ (Nat.le_add_right _ 3),set_append_right _ _ (Nat.le_add_right _ 4)]
     rw [show (List.length σ+1) - List.length σ=1 by omega,show (List.length σ+2) - List.length σ=2 by omega,show (List.length σ+3) - List.length σ=3 by omega,show (List.length σ+4) - List.length σ=4 by omega]
     rfl
    refine ⟨t,[v,w,z,u5,u6],rfl,ht,rfl,v,[w,z,u5,u6],rfl,w,[z,u5,u6],rfl,z,[u5,u6],rfl,u5,[u6],rfl,u6,[],rfl,rfl,?_⟩
    refine ⟨⟨[some v,some w,some z,some u5,some u6],e2,rfl⟩,?_⟩
    rw [e2]
    exact q5
 ·have ei:i=zs.length:=by omega
  subst ei
  exact .inl ⟨⟨zs,q,Nat.le_refl _⟩,hd D ys H2 hDn p⟩
section
variable {X:Cx} {elt iter:Expr} {x1 x2 x3 x4 x5:Str} {p1 p2 p3 p4 p5 pt pos:Pos} {k:Nat} {ifs:List Expr} {sc fsc:Scope} {N Nc:List Str} {wi:TI} {tt:TT} {te:TE}
theorem NP {j:Nat} {y:Str} {py spos:Pos} (hE:X.env.scope=fsc) (hXN:X.N=N) (cn:D8 N Nc [x1,x2,x3,x4,x5] sc fsc) (hc:X.calm=true) (hnd:X.N.Nodup) (hj:X.N[j]?=some y) (hy:X.env.scope.names.lookup y=some .local) (hi:PI X (.Tuple [.Name x1 p1,.Name x2 p2,.Name x3 p3,.Name x4 p4,.Name x5 p5] k pt) iter wi)
 (ht:∀cl s H ex,FB (X.inComp Nc sc cl s H ex) ifs tt) (he:∀cl s H ex,PE (X.inComp Nc sc cl s H ex) elt te)
 (hsw:swapsWith (.ListComp elt [⟨.Tuple [.Name x1 p1,.Name x2 p2,.Name x3 p3,.Name x4 p4,.Name x5 p5] k pt,iter,ifs,0⟩] sc pos) (some (.Name y py)) spos.line X.env=pure true)
 (hs:∀v,foldedSetIterable iter X.env v=pure v:=by intro _;rfl) :
 PS X (.Assign [.Name y py] (.ListComp elt [⟨.Tuple [.Name x1 p1,.Name x2 p2,.Name x3 p3,.Name x4 p4,.Name x5 p5] k pt,iter,ifs,0⟩] sc pos) spos) (OD (Jf 5 wi (M3 X.K 5 (Dc (BA N.length) (Dc (BA (N.length+1)) (Dc (BA (N.length+2)) (Dc (BA (N.length+3)) (Dc (BA (N.length+4)) MF)))))) tt te) (BA j)) :=
 Ov hE hXN cn hc hnd hj hy hi (fun cl s H ex=>DY (X:=X.inComp Nc sc cl s H ex) hc (AC (C9 (j:=0) cn rfl rfl) (AC (C9 (j:=1) cn rfl rfl) (AC (C9 (j:=2) cn rfl rfl) (AC (C9 (j:=3) cn rfl rfl) (AC (C9 (j:=4) cn rfl rfl) Dn)))))) ht he hsw hs
end
end L2
namespace L2
open PySem PySem.W PySem.Spec PyProof.Rows
section
variable {O:KeyOrd} {ky:Nat->O.α} {n:Nat} {cmp:Nat->Nat->(Bool->Shared->Prop)->Shared->Prop} {J:Shared->Prop}
end
end L2
namespace L2
open PySem PySem.W PySem.Spec PyProof.Rows
section
variable {X:Cx} {pins:List (Addr × Obj)} {σ:St} {H:Hp} {xs:List V} {l f a kS:Addr} {E:Value->Shared->Prop} {P:PySem.Fin->Shared->Prop}
end
section
variable {X:Cx} {c P:Addr} {e body:Expr} {tl tb:TE} {sc fsc:Scope} {N Nc:List Str} {x:Str} {params:Arguments} {lpos kp p pos:Pos}
end
end L2
set_option maxHeartbeats 4000000
namespace Law
open PySem L2
def LI (K:PySem.W.Frag) (P:Addr):Sp:=fun vs H Q _=>∃(p:Addr) (ns:List Int),vs=[.ref p]/\SqL K H p (ns.map V.int)/\ns.length<=63/\H P=some (.tbl #[])/\∀H',Q (.bl true) H'
def LM:Sp:=fun vs H Q _=>∃c:Int,vs=[.int c]/\Q (.bl true) H
theorem Af {H:Hp} {p:Addr} (h:H p=none) (o:HO):Av H (upd H p o):=fun b u q=>by rw [Aj (AU q h)];exact q
theorem Bp (x:Int) {y:Int} (h:0 < y):0<=x.fmod y/\x.fmod y < y:=⟨Int.fmod_nonneg_of_pos x h,Int.fmod_lt_of_pos x h⟩
theorem P3 (x:Int) {y:Int} {n:Nat} (h:0 < y) (k:Sz n y):Sz n (x.fmod y):=by
 have e:=Bp x h
 unfold Sz at k ⊢
 omega
def Q7:Sp:=fun vs H Q _=>∃t b:Int,vs=[.int t,.int b]/\0 < b/\Sz 9000 b/\Q (.int (t.fdiv b)) H
def Sb:Sp:=fun vs H Q _=>∃t b:Int,vs=[.int t,.int b]/\0 < b/\Sz 9000 b/\Q (.int (-((-t).fdiv b))) H
def NQ:Pos:=⟨91,32,91,55⟩
def Rz:Str:=("reached_from":Str)++".<locals>."++"<lambda>"
def Hid (u v:TS):Prop:=u=v
theorem Kk {t u:TS} {D:FN} {σ:St} {H:Hp} (h:∀v,Hid v u->t { D with nx:=v D } σ H):Ra t u D σ H:=h u rfl
theorem Jj {u v:TS} {D:FN} {σ:St} {H:Hp} (h:Hid u v) (g:v D σ H):u D σ H:=by rw [show u=v from h];exact g
theorem LL {u v:TS} {D:FN} {r:VK} {b c:St->Hp->Prop} {σ:St} {H:Hp} (h:Hid u v) (g:v D σ H):(FN.mk (u D) r b c).nx σ H:=by show u D σ H;exact Jj h g
noncomputable def bit (m:Int) (i:Nat):Bool:=decide (m / 2 ^ i % 2=1)
noncomputable def A4:Nat->(Nat->Bool)->Int
 | 0,_=>0
 | n+1,f=>(if f 0=true then 1 else 0)+2*A4 n (fun i=>f (i+1))
theorem E4 (s:Int) (i:Nat):bit (s / 2) i=bit s (i+1):=by
 unfold bit
 rw [Int.ediv_ediv_of_nonneg (by decide:(0:Int)<=2)]
 have e:(2:Int)*2 ^ i=2 ^ (i+1):=by rw [Int.pow_succ,Int.mul_comm]
 rw [e]
theorem Ez (s:Int):bit s 0=decide (s % 2=1):=by
 unfold bit
 rw [Int.pow_zero,Int.ediv_one]
theorem Ey:∀n f,0<=A4 n f
 | 0,_=>Int.le_refl _
 | n+1,f=>by
   have:=Ey n (fun i=>f (i+1))
   show 0<=(if f 0=true then (1:Int) else 0)+2*A4 n (fun i=>f (i+1))
   split <;> omega
theorem G4:∀n f,A4 n f < 2 ^ n
 | 0,_=>by show (0:Int) < 1;decide
 | n+1,f=>by
   have:=G4 n (fun i=>f (i+1))
   show (if f 0=true then (1:Int) else 0)+2*A4 n (fun i=>f (i+1)) < 2 ^ (n+1)
   rw [Int.pow_succ]
   split <;> omega
theorem HD (n f):A4 (n+1) f / 2=A4 n (fun i=>f (i+1)):=by
 show ((if f 0=true then (1:Int) else 0)+2*A4 n (fun i=>f (i+1))) / 2=_
 split <;> omega
theorem GD (n f):(A4 (n+1) f % 2=1)↔f 0=true:=by
 show (((if f 0=true then (1:Int) else 0)+2*A4 n (fun i=>f (i+1))) % 2=1)↔_
 split <;> rename_i h
 ·exact ⟨fun _=>h,fun _=>by omega⟩
 ·exact ⟨fun e=>by omega,fun e=>absurd e h⟩
theorem AT:∀n {f g:Nat->Bool},(∀i,i < n->f i=g i)->A4 n f=A4 n g
 | 0,_,_,_=>rfl
 | n+1,f,g,h=>by
   show (if f 0=true then (1:Int) else 0)+2*A4 n (fun i=>f (i+1))=(if g 0=true then (1:Int) else 0)+2*A4 n (fun i=>g (i+1))
   rw [h 0 (by omega),AT n (f:=fun i=>f (i+1)) (g:=fun i=>g (i+1)) fun i hi=>h (i+1) (by omega)]
theorem CO:∀n f,A4 (n+1) f=A4 n f+(if f n=true then 2 ^ n else 0)
 | 0,f=>by
   show (if f 0=true then (1:Int) else 0)+2*0=0+(if f 0=true then (1:Int) else 0)
   split <;> decide
 | n+1,f=>by
   show (if f 0=true then (1:Int) else 0)+2*A4 (n+1) (fun i=>f (i+1))=(if f 0=true then (1:Int) else 0)+2*A4 n (fun i=>f (i+1))+(if f (n+1)=true then 2 ^ (n+1) else 0)
   rw [CO n (fun i=>f (i+1)),Int.pow_succ]
   split <;> split <;> omega
theorem Cf:∀n f i,bit (A4 n f) i=(decide (i < n) && f i)
 | 0,f,i=>by
   unfold bit
   show decide ((0:Int) / 2 ^ i % 2=1)=_
   rw [Int.zero_ediv]
   rfl
 | n+1,f,0=>by
   rw [Ez]
   by_cases h:f 0=true
   ·rw [decide_eq_true ((GD n f).mpr h),h];rfl
   ·rw [decide_eq_false (fun e=>h ((GD n f).mp e)),Bool.eq_false_iff.mpr h];rfl
 | n+1,f,i+1=>by
   rw [<- E4,HD,Cf n]
   have:decide (i < n)=decide (i+1 < n+1):=by
    by_cases h:i < n
    ·rw [decide_eq_true h,decide_eq_true (by omega)]
    ·rw [decide_eq_false h,decide_eq_false (by omega)]
   rw [this]
theorem JM:∀n f s,Builtin.bitAnd (A4 n f) s=A4 n (fun i=>f i && bit s i)
 | 0,f,s=>by
   show Builtin.bitAnd 0 s=0
   rw [PyProof.Rows.bitAnd_comm,PyProof.Rows.bitAnd_zero]
 | n+1,f,s=>by
   rw [PySem.W.kbt_halves,HD,JM n]
   show _=(if (f 0 && bit s 0)=true then (1:Int) else 0)+2*A4 n (fun i=>f (i+1) && bit s (i+1))
   have e:A4 n (fun i=>f (i+1) && bit (s / 2) i)=A4 n (fun i=>f (i+1) && bit s (i+1)):=AT n fun i _=>by rw [E4]
   rw [e]
   have c:(A4 (n+1) f % 2=1/\s % 2=1)↔(f 0 && bit s 0)=true:=by
    rw [Bool.and_eq_true,GD,Ez,decide_eq_true_eq]
   by_cases h:(f 0 && bit s 0)=true
   ·rw [if_pos h,if_pos (c.mpr h)];omega
   ·rw [if_neg h,if_neg (fun z=>h (c.mp z))];omega
theorem FR {n:Nat} {f:Nat->Bool} (h:∀i,i < n->f i=false):A4 n f=0:=by
 induction n with
 | zero=>rfl
 | succ n ih =>
   rw [CO,h n (by omega),ih fun i hi=>h i (by omega)]
   rfl
noncomputable def hands (n:Nat) (f:Nat->Bool):List Int:=((List.range n).filter f).map fun i:Nat=>(i:Int)
theorem GP (n:Nat) (f:Nat->Bool):hands (n+1) f=if f n=true then hands n f++[(n:Int)] else hands n f:=by
 unfold hands
 rw [range_succ,filter_append,map_append]
 by_cases h:f n=true
 ·rw [if_pos h];simp [h]
 ·rw [if_neg h]
  have h':f n=false:=by simpa using h
  simp [h']
theorem MQ (n:Nat) (f:Nat->Bool):(hands n f).length<=n:=by
 unfold hands
 rw [length_map]
 exact Nat.le_trans (length_filter_le _ _) (by simp)
theorem M5 {n:Nat} {f:Nat->Bool} {z:Int}:z∈hands n f↔∃i:Nat,i < n/\f i=true/\z=(i:Int):=by
 unfold hands
 rw [mem_map]
 constructor
 ·rintro ⟨i,hi,rfl⟩
  obtain ⟨h1,h2⟩:=mem_filter.mp hi
  exact ⟨i,mem_range.mp h1,h2,rfl⟩
 ·rintro ⟨i,h1,h2,rfl⟩
  exact ⟨i,mem_filter.mpr ⟨mem_range.mpr h1,h2⟩,rfl⟩
noncomputable def ins (x:Int):List Int->List Int
 | []=>[x]
 | y :: r=>if x < y then x :: y :: r else if x=y then y :: r else y :: ins x r
noncomputable def Lx:List Int->List Int
 | []=>[]
 | x :: r=>ins x (Lx r)
theorem Je {x z:Int}:∀{l:List Int},z∈ins x l↔z=x\/z∈l
 | []=>by unfold ins;simp
 | y :: r=>by
   unfold ins
   split
   ·simp
   ·split
    ·rename_i h;subst h;simp
    ·rw [mem_cons,Je (l:=r),mem_cons]
     constructor
     ·rintro (h | h | h)
      ·exact .inr (.inl h)
      ·exact .inl h
      ·exact .inr (.inr h)
     ·rintro (h | h | h)
      ·exact .inr (.inl h)
      ·exact .inl h
      ·exact .inr (.inr h)
theorem KA {x:Int}:∀{l:List Int},l.Pairwise (· < ·)->(ins x l).Pairwise (· < ·)
 | [],_=>by unfold ins;simp
 | y :: r,h=>by
   unfold ins
   rw [pairwise_cons] at h
   split
   ·rename_i c
    rw [pairwise_cons]
    refine ⟨fun z hz=>?_,pairwise_cons.mpr h⟩
    rcases mem_cons.mp hz with e | e
    ·omega
    ·have:=h.1 z e;omega
   ·split
    ·exact pairwise_cons.mpr h
    ·rename_i c d
     rw [pairwise_cons]
     refine ⟨fun z hz=>?_,KA h.2⟩
     rcases Je.mp hz with e | e
     ·omega
     ·exact h.1 z e
theorem GB {z:Int}:∀{l:List Int},z∈Lx l↔z∈l
 | []=>Iff.rfl
 | x :: r=>by
   show z∈ins x (Lx r)↔_
   rw [Je,GB,mem_cons]
theorem FH:∀l:List Int,(Lx l).Pairwise (· < ·)
 | []=>.nil
 | x :: r=>KA (FH r)
theorem HU:∀{a b:List Int},a.Pairwise (· < ·)->b.Pairwise (· < ·)->(∀z,z∈a↔z∈b)->a=b
 | [],[],_,_,_=>rfl
 | [],y :: b,_,_,h=>nomatch (h y).mpr (mem_cons_self ..)
 | x :: a,[],_,_,h=>nomatch (h x).mp (mem_cons_self ..)
 | x :: a,y :: b,ha,hb,h=>by
   rw [pairwise_cons] at ha hb
   have e:x=y:=by
    rcases mem_cons.mp ((h x).mp (mem_cons_self ..)) with e | e
    ·exact e
    ·rcases mem_cons.mp ((h y).mpr (mem_cons_self ..)) with f | f
     ·exact f.symm
     ·have:=ha.1 y f
      have:=hb.1 x e
      omega
   subst e
   rw [HU ha.2 hb.2 fun z=>?_]
   constructor
   ·intro hz
    rcases mem_cons.mp ((h z).mp (mem_cons_of_mem _ hz)) with e | e
    ·have:=ha.1 z hz;omega
    ·exact e
   ·intro hz
    rcases mem_cons.mp ((h z).mpr (mem_cons_of_mem _ hz)) with e | e
    ·have:=hb.1 z hz;omega
    ·exact e
noncomputable def isR (rs:List Int) (r:Int) (i:Nat):Bool:=decide (rs[i]?=some r)
noncomputable def ET (rs:List Int) (r:Int):Int:=A4 rs.length (isR rs r)
noncomputable def Dz (rs:List Int):List Int:=((Lx rs).filter fun r=>decide (0 < r)).map (ET rs)
def Rs (K:PySem.W.Frag):Sp:=fun vs H Q _=>∃(p:Addr) (ns:List Int) (k:Int),vs=[.ref p,.int k]/\SqL K H p (ns.map V.int)/\ns.length<=63/\0<=k/\k<=1000/\∀z:Int,0<=z->z < 10 ^ 40->Q (.int z) H
theorem Gw {c:Int} (h0:0<=c) (h:c < 10 ^ 40):Sz 200 c:=Go (by omega) (by omega)
theorem A3 {H H':Hp} {l:Addr} {o:HO} (s:Av H H') (n:H l=none):Av H (upd H' l o):=fun b u e=>by
 rw [Aj (AU e n)]
 exact s b u e
theorem ifT {c:Bool} {A B:Prop} (e:c=true) (h:A):if c=true then A else B:=by rw [if_pos e];exact h
theorem ifF {c:Bool} {A B:Prop} (e:c=false) (h:B):if c=true then A else B:=by rw [if_neg (by rw [e];decide)];exact h
theorem L4 {a b:Int} (h:a≠b):(!decide (V.int a=V.int b))=true:=by rw [decide_eq_false (fun e=>h (V.int.inj e))];rfl
theorem FI {a b:Int} (h:a=b):(!decide (V.int a=V.int b))=false:=by rw [h,decide_eq_true rfl];rfl
theorem Hv {a b:Int} (h:a=b):decide (V.int a=V.int b)=true:=by rw [h];exact decide_eq_true rfl
theorem Lw {a b:Int} (h:a≠b):decide (V.int a=V.int b)=false:=decide_eq_false fun e=>h (V.int.inj e)
theorem int_at {ns:List Int} {i:Nat} {x:V} (h:(ns.map V.int)[i]?=some x):∃z,ns[i]?=some z/\x=.int z:=by
 rw [List.getElem?_map] at h
 cases e:ns[i]? with
 | none=>rw [e] at h;cases h
 | some z=>rw [e] at h;exact ⟨z,rfl,(Option.some.inj h).symm⟩
theorem atN {ns:List Int} {i:Nat} {z:Int} (h:ns[i]?=some z):atI (ns.map V.int) (i:Int)=some (.int z):=C6 (by rw [List.getElem?_map,h];rfl)
theorem CL {h:Nat} (hh:h < 64):NY 1 (h:Int):=⟨by omega,by omega,by decide⟩
theorem Rq (x:Int):Builtin.bitAnd x 1=x % 2:=PySem.W.kbt_mask x 1
theorem DR (m:Int) (h:Int):decide (V.int (Builtin.bitAnd (m / 2 ^ h.toNat) 1)=V.int 1)=bit m h.toNat:=by
 unfold bit
 rw [Rq]
 by_cases c:m / 2 ^ h.toNat % 2=1
 ·rw [decide_eq_true c,decide_eq_true (congrArg V.int c)]
 ·rw [decide_eq_false c,decide_eq_false fun e=>c (V.int.inj e)]
theorem LO (m:Int) (i:Nat):m / 2 ^ i % 2=if bit m i=true then 1 else 0:=by
 have e:m / 2 ^ i % 2=0\/m / 2 ^ i % 2=1:=by omega
 unfold bit
 rcases e with e | e
 ·rw [e];rfl
 ·rw [e];rfl
theorem Pi (m:Int) (h:Nat):Builtin.bitOr m (1*2 ^ h)=m+2 ^ h*(if (!bit m h)=true then 1 else 0):=by
 rw [Int.one_mul,PyProof.Rows.bitOr_and,PySem.W.kbt_bit,LO]
 cases bit m h <;> simp
def Rg:Sp:=fun vs H Q _=>∃h:Int,vs=[.int h]/\0<=h/\h<=12/\Q (.int (1*2 ^ h.toNat - 1)) H
def QH:Sp:=fun vs H Q _=>∃m h:Int,vs=[.int m,.int h]/\0<=h/\h < 12/\Q (.int (Builtin.bitOr m (1*2 ^ h.toNat))) H
def Mq:Sp:=fun vs H Q _=>∃m h:Int,vs=[.int m,.int h]/\0<=h/\h < 12/\Q (.int (Builtin.bitAnd m (Builtin.bitNot (1*2 ^ h.toNat)))) H
def Nl:Sp:=fun vs H Q _=>∃m:Int,vs=[.int m]/\0<=m/\m < 4096/\∀(p:Addr) (H':Hp),H p=none->Av H H'->H' p=some (.lst ((hands 12 (bit m)).map V.int))->Q (.ref p) H'
abbrev Tb:=List (Addr × List Int)
noncomputable def vtb (t:Tb):List V:=t.map fun r=>.ref r.1
def R9 (H:Hp) (t:Tb) (h:Nat):Prop:=t.length=h/\∀r∈t,H r.1=some (.lst (r.2.map V.int))/\r.2.length=h
noncomputable def ups (n:Nat):List Int:=(List.range n).map fun i:Nat=>(i:Int)
def MP:Sp:=fun vs H Q _=>∃(a:Addr) (t:Tb) (h:Nat),vs=[.ref a]/\H a=some (.lst (vtb t))/\t.length=h/\h<=12/\∀(l:Addr) (H':Hp),H l=none->Av H H'->H' l=some (.lst ((ups h).map V.int))->Q (.ref l) H'
theorem atG {xs:List Int} {n:Nat} (h:n < xs.length):atI (xs.map V.int) (n:Int)=some (.int (xs.getD n 0)):=by
 refine atN ?_
 rw [getD_eq_getElem?_getD,List.getElem?_eq_getElem h]
 rfl
theorem KU {n i:Nat} {z:Int} (h:(ups n)[i]?=some z):z=(i:Int)/\i < n:=by
 unfold ups at h
 rw [List.getElem?_map] at h
 obtain ⟨j,hj,rfl⟩:=Option.map_eq_some_iff.mp h
 have hi:i < n:=by
  have:=(List.getElem?_eq_some_iff.mp hj).1
  rwa [length_range] at this
 rw [List.getElem?_range hi] at hj
 exact ⟨by rw [<- Option.some.inj hj],hi⟩
theorem D7 (n:Nat):(ups n).length=n:=by unfold ups;rw [length_map,length_range]
noncomputable def Ec (rs:List Int) (i:Nat):Int:=if rs.getD i 0=0 then 1000000000 else rs.getD i 0
theorem PX {n j:Nat} (h:j < n):seqIndex? (j:Int) n=some j:=(IE (i:=(j:Int)) (by unfold ixN;rw [if_pos (by omega)];simp [h])).1
theorem map_erase {α β:Type} (f:α->β):∀(l:List α) (k:Nat),(l.map f).eraseIdx k=(l.eraseIdx k).map f
 | [],_=>rfl
 | _ :: _,0=>rfl
 | x :: l,k+1=>by
   show f x :: (l.map f).eraseIdx k=f x :: (l.eraseIdx k).map f
   rw [map_erase f l k]
theorem K3:∀{b:List Int} {k:Nat} {y:Int},b[k]?=some y->(y :: b.eraseIdx k).Perm b
 | x :: b,0,y,h=>by
   have:x=y:=Option.some.inj h
   rw [this]
   exact List.Perm.refl _
 | x :: b,k+1,y,h=>by
   show (y :: x :: b.eraseIdx k).Perm (x :: b)
   exact (List.Perm.swap x y _).trans ((K3 (b:=b) (k:=k) h).cons x)
theorem none_of {H H':Hp} {a:Addr} (s:Av H H') (h:H' a=none):H a=none:=by
 cases e:H a with
 | none=>rfl
 | some u=>rw [s _ _ e] at h;cases h
theorem u1 {n:Nat} (h:n+64 < cLine):n+1 < cLine:=by omega
theorem Hd {m:Int} {i:Nat} (h0:0<=m) (h:m < 2 ^ i):bit m i=false:=by
 unfold bit
 rw [Int.ediv_eq_zero_of_lt h0 h]
 decide
theorem GW {m:Int} {k:Nat} (h0:0<=m) (h:m < 2 ^ k):∀d:Nat,hands (k+d) (bit m)=hands k (bit m)
 | 0=>rfl
 | d+1=>by
   have p:(2:Int) ^ k<=2 ^ (k+d):=by
    have q:2 ^ k<=2 ^ (k+d):=Nat.pow_le_pow_right (by decide) (by omega)
    have e1:((2 ^ k:Nat):Int)=(2:Int) ^ k:=by simp
    have e2:((2 ^ (k+d):Nat):Int)=(2:Int) ^ (k+d):=by simp
    omega
   show hands ((k+d)+1) (bit m)=hands k (bit m)
   rw [GP,Hd h0 (by omega),if_neg (by decide),GW h0 h d]
theorem N4 {m:Int} (h0:0<=m) (h:m < 4096):hands (Builtin.Int.intBits m) (bit m)=hands 12 (bit m):=by
 have b:Builtin.Int.intBits m<=12:=intBits_le_iff.mpr (by show m.natAbs < 4096;omega)
 have l:m.natAbs < 2 ^ Builtin.Int.intBits m:=intBits_le_iff.mp (Nat.le_refl _)
 have l':m < (2:Int) ^ Builtin.Int.intBits m:=by
  have e:((2 ^ Builtin.Int.intBits m:Nat):Int)=(2:Int) ^ Builtin.Int.intBits m:=by simp
  omega
 obtain ⟨d,hd⟩:∃d,12=Builtin.Int.intBits m+d:=⟨12 - Builtin.Int.intBits m,by omega⟩
 rw [hd,GW h0 l' d]
abbrev Ls:=List (Addr × Addr × List Int × Int)
noncomputable def vls (ls:Ls):List V:=ls.map fun q=>.ref q.1
def LX (h:Nat) (ts:List Int):Prop:=∃rs:List Int,rs.length=h/\(∀r∈rs,0<=r/\r<=1000)/\ts=Dz rs
def DO (h:Nat) (H:Hp) (ls:Ls):Prop:=∀q∈ls,H q.1=some (.tup [.ref q.2.1,.int q.2.2.2])/\H q.2.1=some (.tup (q.2.2.1.map V.int))/\LX h q.2.2.1
theorem DO.same {h:Nat} {H H':Hp} {ls:Ls} (s:Av H H') (g:DO h H ls):DO h H' ls:=fun q m=>⟨s _ _ (g q m).1,s _ _ (g q m).2.1,(g q m).2.2⟩
theorem IX {ls:Ls} {i:Nat} {x:V} (h:(vls ls)[i]?=some x):∃q,ls[i]?=some q/\x=.ref q.1/\q∈ls/\ls.take (i+1)=ls.take i++[q]:=by
 unfold vls at h
 rw [List.getElem?_map] at h
 cases e:ls[i]? with
 | none=>rw [e] at h;cases h
 | some q =>
   rw [e] at h
   refine ⟨q,rfl,(Option.some.inj h).symm,mem_of_getElem? e,?_⟩
   rw [take_succ,e]
   rfl
theorem Fb (ls:Ls):(vls ls).length=ls.length:=length_map ..
theorem GO (ts:List Int):(ts.map Sum.inl:List Key).map kV=ts.map V.int:=by rw [map_map];rfl
noncomputable def EF (f:List Int->Bool) (ds:List (List Int × Int)):Int:=(ds.map fun q=>if f q.1 then q.2 else 0).sum
noncomputable def dsL (ls:Ls):List (List Int × Int):=ls.map fun q=>(q.2.2.1,q.2.2.2)
theorem FE (f:List Int->Bool) (q:List Int × Int) (r:List (List Int × Int)):EF f (q :: r)=(if f q.1 then q.2 else 0)+EF f r:=by unfold EF;rw [map_cons,sum_cons]
noncomputable def hv:V->Int
 | .int n=>n
 | _=>0
theorem JG (f:List Int->Bool) (a b:List (List Int × Int)):EF f (a++b)=EF f a+EF f b:=by
 unfold EF;rw [map_append,sum_append]
theorem Pw (t:Int):∀i:Nat,bit (Builtin.bitNot t) i=!bit t i:=by
 have key:∀(i:Nat) (t:Int),bit (-t - 1) i=!bit t i:=by
  intro i
  induction i with
  | zero =>
    intro t
    rw [Ez,Ez]
    by_cases c:t % 2=1
    ·rw [decide_eq_true c,decide_eq_false (by omega)];rfl
    ·rw [decide_eq_false c,decide_eq_true (by omega)];rfl
  | succ i ih =>
    intro t
    rw [<- E4,<- E4,show (-t - 1) / 2=-(t / 2) - 1 from by omega]
    exact ih _
 intro i
 rw [show Builtin.bitNot t=-t - 1 from by unfold Builtin.bitNot;omega]
 exact key i t
theorem HX:∀h:Nat,(1:Int)*2 ^ h - 1=A4 h fun _=>true
 | 0=>rfl
 | h+1=>by
   rw [CO,<- HX h,if_pos rfl,Int.pow_succ]
   omega
theorem HW {h:Nat} (h12:h<=12) (f:Nat->Bool):0<=A4 h f/\A4 h f < 4096:=by
 have a:=Ey h f
 have b:=G4 h f
 have q:2 ^ h<=2 ^ 12:=Nat.pow_le_pow_right (by decide) h12
 have e1:((2 ^ h:Nat):Int)=(2:Int) ^ h:=by simp
 omega
noncomputable def stp (s:(Nat->Bool) × (Nat->Nat->Int)) (t:Int):(Nat->Bool) × (Nat->Nat->Int):=(fun y=>s.1 y && !bit t y,fun x y=>s.2 x y+if (bit t x && (s.1 y && !bit t y))=true then 1 else 0)
noncomputable def stT (ts:List Int):(Nat->Bool) × (Nat->Nat->Int):=ts.foldl stp (fun _=>true,fun _ _=>0)
theorem NA (ts:List Int) (t:Int):stT (ts++[t])=stp (stT ts) t:=by unfold stT;rw [foldl_append];rfl
theorem JA {rs:List Int} {i:Nat} {c u:Int} (h:rs[i]?=some c):bit (ET rs u) i=decide (c=u):=by
 obtain ⟨hi,_⟩:=List.getElem?_eq_some_iff.mp h
 unfold ET
 rw [Cf,decide_eq_true hi,Bool.true_and]
 unfold isR
 rw [h]
 by_cases e:c=u
 ·rw [decide_eq_true e,decide_eq_true (by rw [e])]
 ·rw [decide_eq_false e,decide_eq_false (fun z=>e (Option.some.inj z))]
theorem Ju {rs:List Int} {x y:Nat} {a b:Int} (hx:rs[x]?=some a) (hy:rs[y]?=some b):∀(us:List Int) (s:(Nat->Bool) × (Nat->Nat->Int)),us.Pairwise (· < ·) ->
 ((us.map (ET rs)).foldl stp s).2 x y=s.2 x y+if s.1 y=true/\a∈us/\¬ (b∈us/\b<=a) then 1 else 0
 | [],s,_=>by
   rw [if_neg (fun z=>nomatch z.2.1)]
   exact (Int.add_zero _).symm
 | u :: us,s,pw=>by
   rw [pairwise_cons] at pw
   rw [map_cons,foldl_cons,Ju hx hy us _ pw.2]
   unfold stp
   simp only [JA hx,JA hy,mem_cons]
   cases s.1 y with
   | false=>simp
   | true =>
     by_cases c1:a=u
     ·have na:a ∉ us:=fun m=>by have:=pw.1 a m;omega
      by_cases c2:b=u
      ·subst c1;subst c2;simp
      ·have nb:¬ (b∈us/\b<=a):=fun m=>by have:=pw.1 b m.1;omega
       subst c1
       simp [c2,na]
       intro mb
       have:=pw.1 b mb
       omega
     ·by_cases c2:b=u
      ·subst c2
       by_cases m:a∈us
       ·have:=pw.1 a m
        simp [c1,m]
        omega
       ·simp [c1,m]
      ·simp [c1,c2]
theorem FZ {rs:List Int} (hR:∀r∈rs,0<=r/\r<=1000) {x y:Nat} (hx:x < rs.length) (hy:y < rs.length):(stT (Dz rs)).2 x y=if Ec rs x < Ec rs y then 1 else 0:=by
 have ex:=List.getElem?_eq_getElem hx
 have ey:=List.getElem?_eq_getElem hy
 unfold stT Dz Ec
 rw [Ju ex ey _ _ ((FH rs).filter _),getD_eq_getElem?_getD,getD_eq_getElem?_getD,ex,ey]
 have ma:=getElem_mem hx
 have mb:=getElem_mem hy
 obtain ⟨a0,a1⟩:=hR _ ma
 obtain ⟨b0,b1⟩:=hR _ mb
 have e:∀{c:Int},c∈rs->(c∈(Lx rs).filter (fun r=>decide (0 < r))↔0 < c):=fun {c} m=>by
  rw [mem_filter,GB,decide_eq_true_eq]
  exact ⟨fun z=>z.2,fun z=>⟨m,z⟩⟩
 simp only [e ma,e mb]
 show (0:Int)+_=_
 rw [Int.zero_add]
 show (if True/\0 < rs[x]/\¬ (0 < rs[y]/\rs[y]<=rs[x]) then (1:Int) else 0)=if (if rs[x]=0 then (1000000000:Int) else rs[x]) < (if rs[y]=0 then 1000000000 else rs[y]) then 1 else 0
 generalize rs[x]=a at *
 generalize rs[y]=b at *
 by_cases c1:a=0
 ·rw [if_pos c1,if_neg (by omega)]
  by_cases c2:b=0
  ·rw [if_pos c2,if_neg (by omega)]
  ·rw [if_neg c2,if_neg (by omega)]
 ·rw [if_neg c1]
  by_cases c2:b=0
  ·rw [if_pos c2,if_pos ⟨trivial,by omega,by omega⟩,if_pos (by omega)]
  ·rw [if_neg c2]
   by_cases c3:a < b
   ·rw [if_pos c3,if_pos ⟨trivial,by omega,by omega⟩]
   ·rw [if_neg c3,if_neg (fun z=>z.2.2 ⟨by omega,by omega⟩)]
noncomputable def Df (x y:Nat) (ts:List Int):Bool:=decide ((stT ts).2 x y=1)
theorem MZ {h x y:Nat} {ts:List Int} (f:LX h ts) (hx:x < h) (hy:y < h) (n:Int):n*(stT ts).2 x y=if Df x y ts=true then n else 0:=by
 obtain ⟨rs,rl,hR,rfl⟩:=f
 unfold Df
 rw [FZ hR (by omega) (by omega)]
 by_cases c:Ec rs x < Ec rs y
 ·rw [if_pos c,if_pos (by decide),Int.mul_one]
 ·rw [if_neg c,if_neg (by decide),Int.mul_zero]
def Ba (H:Hp) (as:List Addr) (h:Nat) (F:Nat->Nat->Int):Prop:=as.length=h/\as.Nodup/\∀x a,as[x]?=some a->H a=some (.lst (((List.range h).map fun y=>F x y).map V.int))
noncomputable def EZ (F:Nat->Nat->Int) (x y:Nat) (n:Int):Nat->Nat->Int:=fun x' y'=>F x' y'+if x'=x/\y'=y then n else 0
theorem Ba.congr {H:Hp} {as:List Addr} {h:Nat} {F G:Nat->Nat->Int} (g:Ba H as h F) (e:∀x y,x < h->y < h->F x y=G x y):Ba H as h G:=by
 refine ⟨g.1,g.2.1,fun x a ha=>?_⟩
 have hx:x < h:=by have:=(List.getElem?_eq_some_iff.mp ha).1;have:=g.1;omega
 rw [g.2.2 x a ha,show ((List.range h).map fun y=>F x y)=(List.range h).map fun y=>G x y from map_congr_left fun y m=>e x y hx (mem_range.mp m)]
theorem Ba.put {H:Hp} {as:List Addr} {h:Nat} {F:Nat->Nat->Int} (g:Ba H as h F) {x y:Nat} {a:Addr} (ha:as[x]?=some a) (n:Int):Ba (upd H a (.lst ((((List.range h).map fun y=>F x y).map V.int).set y (.int (F x y+n))))) as h (EZ F x y n):=by
 refine ⟨g.1,g.2.1,fun x' a' ha'=>?_⟩
 by_cases c:x'=x
 ·subst c
  rw [ha] at ha'
  cases Option.some.inj ha'
  rw [Ab]
  refine congrArg (fun z=>some (HO.lst z)) (ext_getElem? fun k=>?_)
  rw [List.getElem?_set,length_map,length_map,length_range,List.getElem?_map,List.getElem?_map,List.getElem?_map,List.getElem?_map]
  by_cases ck:k < h
  ·rw [List.getElem?_range ck]
   by_cases cy:y=k
   ·subst cy
    rw [if_pos rfl,if_pos ck]
    show some (V.int (F x' y+n))=some (V.int (EZ F x' y n x' y))
    unfold EZ
    rw [if_pos ⟨rfl,rfl⟩]
   ·rw [if_neg cy]
    show some (V.int (F x' k))=some (V.int (EZ F x' y n x' k))
    unfold EZ
    rw [if_neg (fun z=>cy z.2.symm),Int.add_zero]
  ·rw [List.getElem?_eq_none (l:=List.range h) (by rw [length_range];omega)]
   by_cases cy:y=k
   ·subst cy
    rw [if_pos rfl,if_neg ck];rfl
   ·rw [if_neg cy]
    rfl
 ·have ne:a'≠a:=fun z=>by
   subst z
   obtain ⟨l1,e1⟩:=List.getElem?_eq_some_iff.mp ha
   obtain ⟨l2,e2⟩:=List.getElem?_eq_some_iff.mp ha'
   exact c ((getElem_inj g.2.1).mp (e2.trans e1.symm))
  rw [Aj ne,g.2.2 x' a' ha',show ((List.range h).map fun y'=>EZ F x y n x' y')=(List.range h).map fun y'=>F x' y' from map_congr_left fun y' _=>by unfold EZ;rw [if_neg (fun z=>c z.1),Int.add_zero]]
def CC (as:List Addr) (H H':Hp):Prop:=∀b o,b ∉ as->H b=some o->H' b=some o
theorem CC.trans {as:List Addr} {H H' H2:Hp} (a:CC as H H') (b:CC as H' H2):CC as H H2:=fun c o m e=>b c o m (a c o m e)
theorem CC.of {as:List Addr} {H H':Hp} (s:Av H H'):CC as H H':=fun c o _ e=>s c o e
theorem CC.put {as:List Addr} {H H':Hp} {a:Addr} {o:HO} (k:CC as H H') (m:a∈as):CC as H (upd H' a o):=fun c u n e=>by
 rw [Aj (show c≠a from fun z=>n (by rw [z];exact m))]
 exact k c u n e
theorem CC.same {as:List Addr} {H H1 H':Hp} (k:CC as H1 H') (s:Av H H1) (n:∀a∈as,H a=none):Av H H':=fun b o e=>k b o (fun m=>by rw [n b m] at e;cases e) (s b o e)
theorem Ba.same {H H':Hp} {as:List Addr} {h:Nat} {F:Nat->Nat->Int} (g:Ba H as h F) (s:Av H H'):Ba H' as h F:=⟨g.1,g.2.1,fun x a ha=>s _ _ (g.2.2 x a ha)⟩
theorem Ba.row {H:Hp} {as:List Addr} {h:Nat} {F:Nat->Nat->Int} (g:Ba H as h F) {x:Nat} (hx:x < h):∃a,as[x]?=some a/\a∈as/\atI (as.map V.ref) (x:Int)=some (.ref a)/\H a=some (.lst (((List.range h).map fun y=>F x y).map V.int)):=by
 have hl:x < as.length:=by rw [g.1];exact hx
 refine ⟨as[x],List.getElem?_eq_getElem hl,getElem_mem hl,C6 (by rw [List.getElem?_map,List.getElem?_eq_getElem hl];rfl),g.2.2 x _ (List.getElem?_eq_getElem hl)⟩
theorem AQ {h:Nat} (F:Nat->Int) {y:Nat} (hy:y < h):atI (((List.range h).map fun y=>F y).map V.int) (y:Int)=some (.int (F y)):=atN (by rw [List.getElem?_map,List.getElem?_range hy];rfl)
theorem GM {h:Nat} (h12:h<=12) (f:Nat->Bool) {z:Int}:z∈hands 12 (bit (A4 h f))↔∃i:Nat,i < h/\f i=true/\z=(i:Int):=by
 rw [M5]
 refine ⟨fun ⟨i,_,b,e⟩=>?_,fun ⟨i,a,b,e⟩=>⟨i,by omega,by rw [Cf,decide_eq_true a,b];rfl,e⟩⟩
 rw [Cf,Bool.and_eq_true,decide_eq_true_eq] at b
 exact ⟨i,b.1,b.2,e⟩
theorem Gp (n:Nat) (f:Nat->Bool):(hands n f).Nodup:=by
 unfold hands
 exact List.Pairwise.map _ (fun a b (ne:a≠b) e=>ne (Int.ofNat.inj e)) (List.Pairwise.filter _ nodup_range)
theorem EB {n i:Nat} (h:i < n):ixN n (i:Int)=some i:=by
 unfold ixN
 rw [if_pos (by omega)]
 simp [h]
theorem Ba.not {H:Hp} {as:List Addr} {h:Nat} {F:Nat->Nat->Int} (g:Ba H as h F) {a:Addr} (e:H a=none):a ∉ as:=fun m=>by
 obtain ⟨x,hx⟩:=List.getElem?_of_mem m
 rw [g.2.2 x a hx] at e
 cases e
theorem IR {xs:List Int} (nd:xs.Nodup) {k:Nat} {z:Int} (hz:xs[k]?=some z):xs.take (k+1)=xs.take k++[z]/\z ∉ xs.take k:=by
 have e:xs.take (k+1)=xs.take k++[z]:=by rw [take_add_one,hz];rfl
 refine ⟨e,fun m=>?_⟩
 have n2:=(take_sublist (k+1) xs).nodup nd
 rw [e,nodup_append] at n2
 exact n2.2.2 z m z (mem_singleton.mpr rfl) rfl
theorem FL (f:List Int->Bool) (a:Ls) (q:Addr × Addr × List Int × Int):EF f (dsL (a++[q]))=EF f (dsL a)+if f q.2.2.1=true then q.2.2.2 else 0:=by
 unfold dsL
 rw [map_append,JG]
 show _+EF f [(_,_)]=_
 rw [FE]
 show _+(_+0)=_
 rw [Int.add_zero]
theorem L8 {h:Nat} {ts:List Int} {t:Int} (h12:h<=12) (f:LX h ts) (m:t∈ts):∃g:Nat->Bool,t=A4 h g:=by
 obtain ⟨rs,rl,_,rfl⟩:=f
 unfold Dz at m
 obtain ⟨r,_,rfl⟩:=mem_map.mp m
 exact ⟨isR rs r,by unfold ET;rw [rl]⟩
theorem PU {p q r:Prop} [Decidable p] [Decidable q] [Decidable r] (n z:Int) (e:r↔p\/q) (d:¬ (p/\q)):z+(if p then n else 0)+(if q then n else 0)=z+if r then n else 0:=by
 by_cases c1:p
 ·rw [if_pos c1,if_neg (fun c2=>d ⟨c1,c2⟩),if_pos (e.mpr (.inl c1)),Int.add_zero]
 ·rw [if_neg c1,Int.add_zero]
  by_cases c2:q
  ·rw [if_pos c2,if_pos (e.mpr (.inr c2))]
  ·rw [if_neg c2,if_neg (fun c3=>(e.mp c3).elim c1 c2)]
theorem KC {xs:List Int} {x x':Nat}:(x':Int)∈xs++[(x:Int)]↔(x':Int)∈xs\/x'=x:=by
 rw [mem_append,mem_singleton]
 exact or_congr Iff.rfl ⟨fun e=>Int.ofNat.inj e,fun e=>by rw [e]⟩
noncomputable def Mr:Sp:=fun vs H Q _=>∃(l:Addr) (ls:Ls) (h:Nat),vs=[.ref l,.int (h:Int)]/\H l=some (.lst (vls ls))/\DO h H ls/\ls.length<=60/\1<=h/\h<=12/\∀(b:Addr) (as:List Addr) (H':Hp),H b=none->Av H H'->b ∉ as->(∀a∈as,H a=none)->H' b=some (.lst (as.map V.ref))->Ba H' as h (fun x y=>EF (Df x y) (dsL ls))->Q (.ref b) H'
theorem R3:∀n:Nat,(List.replicate n [V.int 0]).flatten=((List.range n).map fun _=>(0:Int)).map V.int:=by
 intro n
 have e:∀n:Nat,((List.range n).map fun _=>(0:Int))=List.replicate n 0:=by
  intro n
  rw [map_const',length_range]
 rw [e]
 induction n with
 | zero=>rfl
 | succ n ih=>rw [replicate_succ,flatten_cons,ih,replicate_succ,map_cons];rfl
noncomputable def K7 (h:Nat) (F:Nat->Nat->Int):List (List Int):=(List.range h).map fun x=>(List.range h).map fun y=>F x y
theorem P2 {h x:Nat} {F:Nat->Nat->Int} (hx:x < h):(K7 h F)[x]?=some ((List.range h).map fun y=>F x y):=by
 unfold K7
 rw [List.getElem?_map,List.getElem?_range hx]
 rfl
theorem K4 (h:Nat) (F:Nat->Nat->Int):(K7 h F).length=h:=by unfold K7;rw [length_map,length_range]
noncomputable def Lq (as:List Addr) (h:Nat) (F:Nat->Nat->Int):Tb:=as.zip (K7 h F)
theorem Ba.vtb {H:Hp} {as:List Addr} {h:Nat} {F:Nat->Nat->Int} (g:Ba H as h F):vtb (Lq as h F)=as.map V.ref:=by
 unfold Law.vtb Lq
 rw [show (fun r:Addr × List Int=>V.ref r.1)=V.ref ∘ Prod.fst from rfl,<- map_map,map_fst_zip (by rw [g.1,K4];exact Nat.le_refl _)]
theorem Ba.good {H:Hp} {as:List Addr} {h:Nat} {F:Nat->Nat->Int} (g:Ba H as h F):R9 H (Lq as h F) h:=by
 refine ⟨by unfold Lq;rw [length_zip,g.1,K4,Nat.min_self],fun r m=>?_⟩
 obtain ⟨i,hi⟩:=List.getElem?_of_mem m
 unfold Lq at hi
 rw [List.getElem?_zip_eq_some] at hi
 have hx:i < h:=by have:=(List.getElem?_eq_some_iff.mp hi.1).1;have:=g.1;omega
 rw [P2 hx] at hi
 rw [<- Option.some.inj hi.2]
 exact ⟨g.2.2 i _ hi.1,by rw [length_map,length_range]⟩
theorem EG {X:Cx} (K:PySem.W.Frag) (hK:X.K=K:=by rfl):Db X (.type "list") (fun xs H Q=>∃p ys,xs=[.ref p]/\(SqL K H p ys\/SqT K H p ys)/\∀l,H l=none->Q (.ref l) (upd H l (.lst ys))):=by
 subst hK
 exact BD
structure Dg (h x:Nat) (L:Nat->Nat->Int) (be bf:List Int):Prop where
 lenb:be.length=h
 lenf:bf.length=h
 own:be.getD x 0=L x x
 low:∀y,y < h->y≠x->L x y<=be.getD y 0
 stab:∀d y,d < h->y < h->d≠x->y≠x->d≠y->min (be.getD d 0) (L d y)<=be.getD y 0
 par:∃rk:Nat->Nat,∀y,y < h->y≠x->∃p:Nat,p < h/\bf.getD y 0=(p:Int)/\rk p < rk y/\(p=x->be.getD y 0=L x y)/\(p≠x->be.getD y 0=min (be.getD p 0) (L p y))
structure Dij (h x:Nat) (L:Nat->Nat->Int) (be bf left:List Int) (rk:Nat->Nat):Prop where
 lenb:be.length=h
 lenf:bf.length=h
 nd:left.Nodup
 sub:∀z∈left,∃y:Nat,y < h/\y≠x/\z=(y:Int)
 own:be.getD x 0=L x x
 low:∀y,y < h->y≠x->L x y<=be.getD y 0
 ord:∀d y:Nat,d < h->d≠x->(d:Int) ∉ left->(y:Int)∈left->be.getD y 0<=be.getD d 0
 stab:∀d y:Nat,d < h->y < h->d≠x->y≠x->d≠y->(d:Int) ∉ left->min (be.getD d 0) (L d y)<=be.getD y 0
 rkc:∀d:Nat,d < h->(d:Int) ∉ left->rk d+left.length < h
 par:∀y,y < h->y≠x->∃p:Nat,p < h/\bf.getD y 0=(p:Int)/\(p:Int) ∉ left/\((y:Int) ∉ left->rk p < rk y)/\(p=x->be.getD y 0=L x y)/\(p≠x->be.getD y 0=min (be.getD p 0) (L p y))
theorem Dij.done {h x:Nat} {L:Nat->Nat->Int} {be bf:List Int} {rk:Nat->Nat} (g:Dij h x L be bf [] rk):Dg h x L be bf :=
 ⟨g.lenb,g.lenf,g.own,g.low,fun d y h1 h2 h3 h4 h5=>g.stab d y h1 h2 h3 h4 h5 (by simp),rk,fun y h1 h2=>let ⟨p,a,b,_,c,d⟩:=g.par y h1 h2;⟨p,a,b,c (by simp),d⟩⟩
noncomputable def CI (h x:Nat):List Int:=((List.range h).filter fun y=>decide (y≠x)).map fun y:Nat=>(y:Int)
theorem DH {h x:Nat} {z:Int}:z∈CI h x↔∃y:Nat,y < h/\y≠x/\z=(y:Int):=by
 unfold CI
 simp only [mem_map,mem_filter,mem_range,decide_eq_true_eq]
 exact ⟨fun ⟨y,⟨a,b⟩,e⟩=>⟨y,a,b,e.symm⟩,fun ⟨y,a,b,e⟩=>⟨y,⟨a,b⟩,e.symm⟩⟩
theorem LR (h x:Nat):(CI h x).Nodup:=by
 unfold CI
 exact List.Pairwise.map _ (fun a b (ne:a≠b) e=>ne (Int.ofNat.inj e)) (List.Pairwise.filter _ nodup_range)
theorem Cz {xs ys:List Int} (n:xs.Nodup) (s:∀z∈xs,z∈ys):xs.length<=ys.length:=by
 induction xs generalizing ys with
 | nil=>exact Nat.zero_le _
 | cons a r ih =>
   rw [nodup_cons] at n
   have ma:=s a (mem_cons_self ..)
   have:=ih (ys:=ys.erase a) n.2 fun z mz=>(mem_erase_of_ne (fun e=>n.1 (by rw [<- e];exact mz))).mpr (s z (mem_cons_of_mem _ mz))
   rw [length_erase_of_mem ma] at this
   have:=length_pos_of_mem ma
   rw [length_cons]
   omega
theorem JW {h x:Nat} (hx:x < h):(CI h x).length < h:=by
 have a:=Cz (xs:=(x:Int) :: CI h x) (ys:=(List.range h).map fun y:Nat=>(y:Int)) (nodup_cons.mpr ⟨fun m=>by
  obtain ⟨y,_,n,e⟩:=DH.mp m
  exact n (Int.ofNat.inj e).symm,LR h x⟩) (fun z m=>by
  rcases mem_cons.mp m with m | m
  ·rw [m];exact mem_map.mpr ⟨x,mem_range.mpr hx,rfl⟩
  ·obtain ⟨y,a,_,e⟩:=DH.mp m
   rw [e];exact mem_map.mpr ⟨y,mem_range.mpr a,rfl⟩)
 rw [length_cons,length_map,length_range] at a
 omega
theorem Dij.start {h x:Nat} (hx:x < h) (L:Nat->Nat->Int):Dij h x L ((List.range h).map fun y=>L x y) (List.replicate h (x:Int)) (CI h x) fun _=>0:=by
 have g:∀y,y < h->((List.range h).map fun y=>L x y).getD y 0=L x y:=fun y hy=>by
  rw [getD_eq_getElem?_getD,List.getElem?_map,List.getElem?_range hy];rfl
 have inn:∀d:Nat,d < h->d≠x->(d:Int)∈CI h x:=fun d a b=>DH.mpr ⟨d,a,b,rfl⟩
 refine ⟨by simp,by simp,LR h x,fun z m=>DH.mp m,g x hx,fun y hy _=>by rw [g y hy];exact Int.le_refl _,fun d y a b c=>absurd (inn d a b) c,fun d y a _ b _ _ c=>absurd (inn d a b) c,fun d a _=>by have:=JW hx;omega,fun y hy ny=>⟨x,hx,?_,fun m=>?_,fun c=>absurd (inn y hy ny) c,fun _=>g y hy,fun c=>absurd rfl c⟩⟩
 ·rw [getD_eq_getElem?_getD,List.getElem?_replicate,if_pos hy];rfl
 ·obtain ⟨y,_,n,e⟩:=DH.mp m
  exact n (Int.ofNat.inj e).symm
def Upd (h t:Nat) (L:Nat->Nat->Int) (be bf zs be' bf':List Int):Prop:=be'.length=h/\bf'.length=h/\∀y:Nat,y < h ->
 ((y:Int)∈zs/\be.getD y 0 < min (be.getD t 0) (L t y)->be'.getD y 0=min (be.getD t 0) (L t y)/\bf'.getD y 0=(t:Int)) /\
 (¬ ((y:Int)∈zs/\be.getD y 0 < min (be.getD t 0) (L t y))->be'.getD y 0=be.getD y 0/\bf'.getD y 0=bf.getD y 0)
theorem Dij.step {h x t:Nat} {L:Nat->Nat->Int} {be bf left be' bf':List Int} {rk:Nat->Nat} (g:Dij h x L be bf left rk) (hx:x < h) (ht:(t:Int)∈left) (best:∀y:Nat,(y:Int)∈left->be.getD y 0<=be.getD t 0)
 (u:Upd h t L be bf (left.erase (t:Int)) be' bf'):Dij h x L be' bf' (left.erase (t:Int)) fun y=>if y=t then h - left.length else rk y:=by
 obtain ⟨u1,u2,u3⟩:=u
 obtain ⟨t',th,tx,et⟩:=g.sub _ ht
 have ett:t=t':=Int.ofNat.inj et
 subst ett
 have mem:∀{z:Int},z∈left.erase (t:Int)↔z≠(t:Int)/\z∈left:=fun {z}=>g.nd.mem_erase_iff
 have ge:∀y,y < h->be.getD y 0<=be'.getD y 0:=fun y hy=>by
  by_cases c:(y:Int)∈left.erase (t:Int)/\be.getD y 0 < min (be.getD t 0) (L t y)
  ·rw [((u3 y hy).1 c).1];omega
  ·rw [((u3 y hy).2 c).1];exact Int.le_refl _
 have out:∀y:Nat,y < h->(y:Int) ∉ left.erase (t:Int)->be'.getD y 0=be.getD y 0/\bf'.getD y 0=bf.getD y 0:=fun y hy n=>(u3 y hy).2 fun c=>n c.1
 have nx:(x:Int) ∉ left:=fun m=>by
  obtain ⟨y,_,n,e⟩:=g.sub _ m
  exact n (Int.ofNat.inj e).symm
 have nt:(t:Int) ∉ left.erase (t:Int):=fun m=>(mem.mp m).1 rfl
 have cut:∀{d:Nat},(d:Int) ∉ left.erase (t:Int)->d=t\/(d:Int) ∉ left:=fun {d} n=>by
  by_cases c:d=t
  ·exact .inl c
  ·exact .inr fun m=>n (mem.mpr ⟨fun e=>c (Int.ofNat.inj e),m⟩)
 have hxlt:∀{y:Nat},(y:Int)∈left->y < h/\y≠x:=fun {y} m=>by
  obtain ⟨y',a,b,e⟩:=g.sub _ m
  rw [show y=y' from Int.ofNat.inj e];exact ⟨a,b⟩
 have len:(left.erase (t:Int)).length=left.length - 1:=length_erase_of_mem ht
 have pos:=length_pos_of_mem ht
 refine ⟨u1,u2,g.nd.erase _,fun z m=>g.sub z (mem.mp m).2,?_,fun y hy ny=>Int.le_trans (g.low y hy ny) (ge y hy),fun d y hd dx dn ym=>?_,fun d y hd hy dx yx dy dn=>?_,fun d hd dn=>?_,fun y hy yx=>?_⟩
 ·rw [(out x hx fun m=>nx (mem.mp m).2).1];exact g.own
 ·have ym':=mem.mp ym
  have yh:=hxlt ym'.2
  rw [(out d hd dn).1]
  have bd:be.getD t 0<=be.getD d 0:=by
   rcases cut dn with e | n
   ·rw [e];exact Int.le_refl _
   ·exact g.ord d t hd dx n ht
  have by':=best y ym'.2
  by_cases c:(y:Int)∈left.erase (t:Int)/\be.getD y 0 < min (be.getD t 0) (L t y)
  ·rw [((u3 y yh.1).1 c).1];omega
  ·rw [((u3 y yh.1).2 c).1];omega
 ·rw [(out d hd dn).1]
  have gy:=ge y hy
  rcases cut dn with e | n
  ·subst e
   by_cases c:(y:Int)∈left.erase (d:Int)
   ·by_cases c2:be.getD y 0 < min (be.getD d 0) (L d y)
    ·rw [((u3 y hy).1 ⟨c,c2⟩).1];exact Int.le_refl _
    ·omega
   ·rcases cut c with e | n
    ·exact absurd e.symm dy
    ·have:=g.ord y d hy yx n ht
     omega
  ·have:=g.stab d y hd hy dx yx dy n
   omega
 ·rw [len]
  rcases cut dn with e | n
  ·show (if d=t then h - left.length else rk d)+_ < h
   rw [if_pos e]
   have:=g.rkc x hx nx
   omega
  ·show (if d=t then h - left.length else rk d)+_ < h
   rw [if_neg (fun e=>n (by rw [e];exact ht))]
   have:=g.rkc d hd n
   omega
 ·obtain ⟨p,hp,p1,p2,p3,p4,p5⟩:=g.par y hy yx
  by_cases c:(y:Int)∈left.erase (t:Int)/\be.getD y 0 < min (be.getD t 0) (L t y)
  ·obtain ⟨c1,c2⟩:=(u3 y hy).1 c
   exact ⟨t,th,c2,nt,fun n=>absurd c.1 n,fun e=>absurd e tx,fun _=>by rw [c1,(out t th nt).1]⟩
  ·obtain ⟨c1,c2⟩:=(u3 y hy).2 c
   have pn:(p:Int) ∉ left.erase (t:Int):=fun m=>p2 (mem.mp m).2
   have pt:p≠t:=fun e=>p2 (by rw [e];exact ht)
   refine ⟨p,hp,by rw [c2,p1],pn,fun n=>?_,fun e=>by rw [c1];exact p4 e,fun e=>by rw [c1,(out p hp pn).1];exact p5 e⟩
   show (if p=t then h - left.length else rk p) < if y=t then h - left.length else rk y
   rw [if_neg pt]
   rcases cut n with e | n
   ·rw [if_pos e]
    have:=g.rkc p hp p2
    omega
   ·rw [if_neg (fun e=>n (by rw [e];exact ht))]
    exact p3 n
theorem Dg.le {h x:Nat} {L:Nat->Nat->Int} {be bf be' bf':List Int} (g:Dg h x L be bf) (g':Dg h x L be' bf'):∀y,y < h->y≠x->be.getD y 0<=be'.getD y 0:=by
 obtain ⟨rk,par⟩:=g.par
 have key:∀n y,rk y<=n->y < h->y≠x->be.getD y 0<=be'.getD y 0:=by
  intro n
  induction n with
  | zero =>
    intro y r hy yx
    obtain ⟨p,_,_,p1,_⟩:=par y hy yx
    omega
  | succ n ih =>
    intro y r hy yx
    obtain ⟨p,hp,_,p1,p2,p3⟩:=par y hy yx
    by_cases c:p=x
    ·rw [p2 c];exact g'.low y hy yx
    ·rw [p3 c]
     have a:=ih p (by omega) hp c
     have b:=g'.stab p y hp hy c yx (fun e=>by rw [e] at p1;exact Nat.lt_irrefl _ p1)
     omega
 exact fun y=>key (rk y) y (Nat.le_refl _)
theorem Dg.uniq {h x:Nat} {L:Nat->Nat->Int} {be bf be' bf':List Int} (g:Dg h x L be bf) (g':Dg h x L be' bf'):be=be':=by
 apply ext_getElem
 ·rw [g.lenb,g'.lenb]
 ·intro y h1 h2
  have e1:be[y]=be.getD y 0:=by rw [getD_eq_getElem?_getD,List.getElem?_eq_getElem h1];rfl
  have e2:be'[y]=be'.getD y 0:=by rw [getD_eq_getElem?_getD,List.getElem?_eq_getElem h2];rfl
  rw [e1,e2]
  by_cases c:y=x
  ·rw [c,g.own,g'.own]
  ·have hy:y < h:=by rw [<- g.lenb];exact h1
   exact Int.le_antisymm (g.le g' y hy c) (g'.le g y hy c)
theorem Dg.cut {h x:Nat} {L:Nat->Nat->Int} {be bf:List Int} (g:Dg h x L be bf) {y u v:Nat} (hu:u < h) (hv:v < h) (cu:u=x\/be.getD y 0 < be.getD u 0) (cv:v≠x/\be.getD v 0<=be.getD y 0):L u v<=be.getD y 0:=by
 by_cases c:u=x
 ·subst c
  have:=g.low v hv cv.1
  omega
 ·have b:be.getD y 0 < be.getD u 0:=cu.resolve_left c
  have:=g.stab u v hu hv c cv.1 (fun e=>by rw [e] at b;omega)
  omega
noncomputable def lk (L:Nat->Nat->Int) (ws:List Nat):List Int:=(List.range (ws.length - 1)).map fun k=>L (ws.getD k 0) (ws.getD (k+1) 0)
theorem IZ (L:Nat->Nat->Int) (p w:Nat) (r:List Nat):lk L (p :: w :: r)=L p w :: lk L (w :: r):=by
 unfold lk
 rw [show (p :: w :: r).length - 1=((w :: r).length - 1)+1 from rfl,range_succ_eq_map,map_cons,map_map]
 rfl
structure Hs (h x y:Nat) (L:Nat->Nat->Int) (be:List Int) (rk:Nat->Nat) (w:Nat) (r:List Nat):Prop where
 all:∀z∈w :: r,z < h
 rise:(w :: r).Pairwise fun a b=>rk a < rk b
 last:(w :: r).getLast?=some y
 above:∀l∈lk L (w :: r),be.getD y 0<=l
 mid:w≠x->be.getD y 0<=be.getD w 0/\(be.getD y 0=be.getD w 0\/be.getD y 0∈lk L (w :: r))
 fin:w=x->be.getD y 0∈lk L (w :: r)/\r≠[]
theorem Hs.start {h x y:Nat} {L:Nat->Nat->Int} {be:List Int} (rk:Nat->Nat) (hy:y < h) (ne:y≠x):Hs h x y L be rk y [] :=
 ⟨fun z m=>by rw [mem_singleton.mp m];exact hy,pairwise_singleton ..,rfl,(fun l m=>by cases m),fun _=>⟨Int.le_refl _,.inl rfl⟩,fun e=>absurd e ne⟩
theorem Hs.step {h x y w p:Nat} {L:Nat->Nat->Int} {be:List Int} {rk:Nat->Nat} {r:List Nat} (g:Hs h x y L be rk w r) (wx:w≠x) (hp:p < h) (pr:rk p < rk w)
 (p1:p=x->be.getD w 0=L x w) (p2:p≠x->be.getD w 0=min (be.getD p 0) (L p w)):Hs h x y L be rk p (w :: r):=by
 obtain ⟨m1,m2⟩:=g.mid wx
 have key:be.getD y 0<=L p w:=by
  by_cases c:p=x
  ·have:=p1 c;rw [c];omega
  ·have:=p2 c;omega
 refine ⟨fun z m=>?_,pairwise_cons.mpr ⟨fun z m=>?_,g.rise⟩,?_,fun l m=>?_,fun c=>?_,fun c=>?_⟩
 ·rcases mem_cons.mp m with m | m
  ·rw [m];exact hp
  ·exact g.all z m
 ·rcases mem_cons.mp m with m | m
  ·rw [m];exact pr
  ·exact Nat.lt_trans pr ((pairwise_cons.mp g.rise).1 z m)
 ·rw [List.getLast?_cons_cons];exact g.last
 ·rw [IZ] at m
  rcases mem_cons.mp m with m | m
  ·rw [m];exact key
  ·exact g.above l m
 ·have:=p2 c
  refine ⟨by omega,?_⟩
  rw [IZ]
  rcases m2 with e | e
  ·by_cases z:be.getD p 0<=L p w
   ·exact .inl (by omega)
   ·exact .inr (by rw [show be.getD y 0=L p w by omega];exact mem_cons_self ..)
  ·exact .inr (mem_cons_of_mem _ e)
 ·rw [IZ]
  have:=p1 c
  refine ⟨?_,by simp⟩
  rcases m2 with e | e
  ·rw [e,this,c];exact mem_cons_self ..
  ·exact mem_cons_of_mem _ e
structure KB (h x y:Nat) (L:Nat->Nat->Int) (v:Int) (ws:List Nat):Prop where
 all:∀z∈ws,z < h
 nd:ws.Nodup
 first:ws.head?=some x
 last:ws.getLast?=some y
 two:2<=ws.length
 least:v∈lk L ws/\∀l∈lk L ws,v<=l
theorem Hs.way {h x y:Nat} {L:Nat->Nat->Int} {be:List Int} {rk:Nat->Nat} {r:List Nat} (g:Hs h x y L be rk x r):KB h x y L (be.getD y 0) (x :: r):=by
 obtain ⟨f1,f2⟩:=g.fin rfl
 refine ⟨g.all,g.rise.imp fun z e=>by rw [e] at z;exact Nat.lt_irrefl _ z,rfl,g.last,?_,f1,g.above⟩
 have:=length_pos_iff.mpr f2
 rw [length_cons]
 omega
theorem HV {h x:Nat} (hx:x < h):(CI h x).length+1=h:=by
 have a:=JW hx
 have b:=Cz (xs:=(List.range h).map fun y:Nat=>(y:Int)) (ys:=(x:Int) :: CI h x) (List.Pairwise.map _ (fun a b (ne:a≠b) e=>ne (Int.ofNat.inj e)) nodup_range) fun z m=>by
  obtain ⟨y,hy,e⟩:=mem_map.mp m
  by_cases c:y=x
  ·rw [<- e,c];exact mem_cons_self ..
  ·exact mem_cons_of_mem _ (DH.mpr ⟨y,mem_range.mp hy,c,e.symm⟩)
 rw [length_cons,length_map,length_range] at b
 omega
theorem E7 (i x:Nat):CI (i+1) x=CI i x++if i=x then [] else [(i:Int)]:=by
 unfold CI
 rw [range_succ,filter_append,map_append]
 by_cases c:i=x
 ·rw [if_pos c];simp [c]
 ·rw [if_neg c];simp [c]
theorem Kl {xs:List Int} {z:Nat} (hz:z < xs.length) (v:Int) (y:Nat):(xs.set z v).getD y 0=if y=z then v else xs.getD y 0:=by
 rw [getD_eq_getElem?_getD,List.getElem?_set,getD_eq_getElem?_getD]
 by_cases c:z=y
 ·subst c;rw [if_pos rfl,if_pos hz,if_pos rfl];rfl
 ·rw [if_neg c,if_neg (Ne.symm c)]
theorem Upd.nil {h t:Nat} {L:Nat->Nat->Int} {be bf:List Int} (l1:be.length=h) (l2:bf.length=h):Upd h t L be bf [] be bf:=⟨l1,l2,fun y _=>⟨fun c=>(nomatch c.1),fun _=>⟨rfl,rfl⟩⟩⟩
theorem Upd.put {h t z:Nat} {L:Nat->Nat->Int} {be bf zs be' bf':List Int} (u:Upd h t L be bf zs be' bf') (hz:z < h) (c:be.getD z 0 < min (be.getD t 0) (L t z)):Upd h t L be bf (zs++[(z:Int)]) (be'.set z (min (be.getD t 0) (L t z))) (bf'.set z (t:Int)):=by
 obtain ⟨u1,u2,u3⟩:=u
 refine ⟨by rw [length_set,u1],by rw [length_set,u2],fun y hy=>?_⟩
 rw [Kl (by omega),Kl (by omega)]
 by_cases e:y=z
 ·subst e
  rw [if_pos rfl,if_pos rfl]
  exact ⟨fun _=>⟨rfl,rfl⟩,fun n=>absurd ⟨mem_append_right _ (mem_singleton.mpr rfl),c⟩ n⟩
 ·rw [if_neg e,if_neg e]
  have m:(y:Int)∈zs++[(z:Int)]↔(y:Int)∈zs:=by
   rw [mem_append,mem_singleton]
   exact ⟨fun h=>h.elim id fun h=>absurd (Int.ofNat.inj h) e,.inl⟩
  rw [m]
  exact u3 y hy
theorem Upd.skip {h t z:Nat} {L:Nat->Nat->Int} {be bf zs be' bf':List Int} (u:Upd h t L be bf zs be' bf') (c:¬ be.getD z 0 < min (be.getD t 0) (L t z)):Upd h t L be bf (zs++[(z:Int)]) be' bf':=by
 obtain ⟨u1,u2,u3⟩:=u
 refine ⟨u1,u2,fun y hy=>?_⟩
 by_cases e:y=z
 ·subst e
  refine ⟨fun k=>absurd k.2 c,fun _=>(u3 y hy).2 fun k=>c k.2⟩
 ·have m:(y:Int)∈zs++[(z:Int)]↔(y:Int)∈zs:=by
   rw [mem_append,mem_singleton]
   exact ⟨fun h=>h.elim id fun h=>absurd (Int.ofNat.inj h) e,.inl⟩
  rw [m]
  exact u3 y hy
theorem Upd.at {h t y:Nat} {L:Nat->Nat->Int} {be bf zs be' bf':List Int} (u:Upd h t L be bf zs be' bf') (hy:y < h) (n:(y:Int) ∉ zs):be'.getD y 0=be.getD y 0:=((u.2.2 y hy).2 fun c=>n c.1).1
theorem FY {a:Int}:∀xs:List Int,xs.erase a=xs.eraseIdx (xs.idxOf a)
 | []=>rfl
 | b :: r=>by
   rw [erase_cons,idxOf_cons]
   by_cases c:b=a
   ·rw [if_pos (by simp [c])];simp [c]
   ·have n:(b == a)=false:=by simp [c]
    rw [if_neg (by rw [n];decide),n]
    show b :: r.erase a=_
    rw [FY r]
    rfl
noncomputable def Ja:HO->Bool
 | .tbl _=>false
 | _=>true
structure Sm (H H':Hp):Prop where
 keep:∀b u,H b=some u->Ja u=true->H' b=some u
 gone:∀b,H' b=none->H b=none
theorem Sm.of {H H':Hp} (s:Av H H'):Sm H H':=⟨fun b u e _=>s b u e,fun b e=>none_of s e⟩
theorem Sm.trans {H H1 H2:Hp} (a:Sm H H1) (b:Sm H1 H2):Sm H H2:=⟨fun c u e n=>b.keep c u (a.keep c u e n) n,fun c e=>a.gone c (b.gone c e)⟩
theorem Sm.put {H H':Hp} {l:Addr} {o:HO} (s:Sm H H') (n:H l=none):Sm H (upd H' l o):=⟨fun b u e k=>by
 rw [Aj (AU e n)]
 exact s.keep b u e k,fun b e=>by
 by_cases c:b=l
 ·rw [c];exact n
 ·rw [Aj c] at e;exact s.gone b e⟩
theorem Sm.lst {H H':Hp} (s:Sm H H') {b:Addr} {xs:List V} (e:H b=some (.lst xs)):H' b=some (.lst xs):=s.keep _ _ e rfl
theorem Sm.tup {H H':Hp} (s:Sm H H') {b:Addr} {xs:List V} (e:H b=some (.tup xs)):H' b=some (.tup xs):=s.keep _ _ e rfl
theorem Sm.seq {K:PySem.W.Frag} {H H':Hp} (s:Sm H H') {b:Addr} {xs:List V} (h:SqL K H b xs):SqL K H' b xs:=by
 rcases h with (h | ⟨o,h⟩) | h
 ·exact .inl (.inl (s.lst h))
 ·exact .inl (.inr ⟨o,s.keep _ _ h rfl⟩)
 ·exact .inr h
theorem Ba.sm {H H':Hp} {as:List Addr} {h:Nat} {F:Nat->Nat->Int} (g:Ba H as h F) (s:Sm H H'):Ba H' as h F:=⟨g.1,g.2.1,fun x a ha=>s.lst (g.2.2 x a ha)⟩
theorem QO {P:Addr} {pos:Pos} {q:Str} {H H':Hp} (t:Hh P pos q H) (s:SmL P H H') (g:∀b,H' b=none->H b=none):Sm H H':=⟨fun b u e n=>s b u (fun z=>by
 rw [z] at e
 rcases t with t | ⟨_,t,_⟩
 ·rw [t] at e;rw [<- Option.some.inj e] at n;cases n
 ·rw [t] at e;rw [<- Option.some.inj e] at n;cases n) e,g⟩
abbrev LT (P:Addr) (H:Hp):Prop:=Hh P NQ Rz H
abbrev L1 (P:Addr) (H:Hp):Prop:=EE P NQ Rz H
def Cd (P:Addr) (h:Nat) (H:Hp):Prop:=LT P H/\(h=1\/L1 P H)
theorem Cd.same {P:Addr} {h:Nat} {H H':Hp} (t:Cd P h H) (s:Av H H'):Cd P h H':=⟨t.1.same s,t.2.imp id fun t=>t.same s⟩
def ME (P:Addr):Sp:=fun vs H Q _=>∃(a:Addr) (as:List Addr) (h x:Nat) (L:Nat->Nat->Int),vs=[.ref a,.int (x:Int)]/\H a=some (.lst (as.map V.ref))/\Ba H as h L/\x < h/\h<=12/\LT P H /\
 ∀(t b f:Addr) (be bf:List Int) (H':Hp),Sm H H'->(Cd P h H->Av H H')->Cd P h H'->H t=none->H b=none->H f=none->b≠f->H' t=some (.tup [.ref b,.ref f])->H' b=some (.lst (be.map V.int))->H' f=some (.lst (bf.map V.int))->Dg h x L be bf->Q (.ref t) H'
theorem Q8 (a b:Int):(if b < a then b else a)=min a b:=by split <;> omega
theorem set_map (xs:List Int) (z:Nat) (v:Int):(xs.map V.int).set z (.int v)=(xs.set z v).map V.int:=by rw [map_set]
abbrev Us:=List (Addr × List Int)
noncomputable def fU (us:Us) (x y:Nat):Int:=(us.getD x (0,[])).2.getD y 0
theorem O5 {us:Us} {x h:Nat} {r:Addr × List Int} (e:us[x]?=some r) (l:r.2.length=h):((List.range h).map fun y=>fU us x y)=r.2:=by
 have e':us.getD x (0,[])=r:=by rw [getD_eq_getElem?_getD,e];rfl
 unfold fU
 rw [e']
 apply ext_getElem
 ·simp [l]
 ·intro i h1 h2
  simp [h2]
def AO (h:Nat) (L F:Nat->Nat->Int):Prop:=∀x,x < h->∃bf,Dg h x L ((List.range h).map fun y=>F x y) bf
theorem B9 {h y:Nat} (F:Nat->Int) (hy:y < h):((List.range h).map fun y=>F y).getD y 0=F y:=by rw [getD_eq_getElem?_getD,List.getElem?_map,List.getElem?_range hy];rfl
theorem AO.at {h x y:Nat} {L F:Nat->Nat->Int} {be bf:List Int} (g:AO h L F) (r:Dg h x L be bf) (hx:x < h) (hy:y < h):F x y=be.getD y 0:=by
 obtain ⟨bf',r'⟩:=g x hx
 rw [<- r'.uniq r,B9 (F x) hy]
structure Fr (H:Hp) (t:Addr) (h x:Nat) (L:Nat->Nat->Int) (be:List Int):Prop where
 is:∃(b f:Addr) (bf:List Int),H t=some (.tup [.ref b,.ref f])/\H b=some (.lst (be.map V.int))/\H f=some (.lst (bf.map V.int))/\Dg h x L be bf
theorem Fr.same {H H':Hp} {t:Addr} {h x:Nat} {L:Nat->Nat->Int} {be:List Int} (s:Av H H') (g:Fr H t h x L be):Fr H' t h x L be:=by
 obtain ⟨b,f,bf,h1,h2,h3,h4⟩:=g.is
 exact ⟨b,f,bf,s _ _ h1,s _ _ h2,s _ _ h3,h4⟩
noncomputable def Bx (ws:List Nat):List Int:=ws.map fun w:Nat=>(w:Int)
def PC:Sp:=fun vs H Q _=>∃(t:Addr) (h x y:Nat) (L:Nat->Nat->Int) (be:List Int),vs=[.ref t,.int (x:Int),.int (y:Int)]/\Fr H t h x L be/\y < h/\y≠x/\h<=12 /\
 ∀(r:Addr) (ws:List Nat) (H':Hp),H r=none->Av H H'->H' r=some (.lst ((Bx ws).map V.int))->KB h x y L (be.getD y 0) ws->Q (.ref r) H'
noncomputable def Ev (x y:Nat) (be:List Int) (i:Nat):Bool:=decide (i=x\/be.getD y 0 < be.getD i 0)
def P6:Sp:=fun vs H Q _=>∃(t:Addr) (h x y:Nat) (L:Nat->Nat->Int) (be:List Int),vs=[.ref t,.int (x:Int),.int (y:Int)]/\Fr H t h x L be/\x < h/\y < h/\h<=12/\∀H':Hp,Av H H'->Q (.int (A4 h (Ev x y be))) H'
theorem PV:∀{h k:Nat} (f:Nat->Bool),k < h->Builtin.bitOr (A4 h f) (1*2 ^ k)=A4 h fun i=>f i || decide (i=k):=by
 have key:∀(h k:Nat) (f:Nat->Bool),k < h->A4 h (fun i=>f i || decide (i=k))=A4 h f+2 ^ k*(if (!f k)=true then 1 else 0):=by
  intro h
  induction h with
  | zero=>intro k f hk;omega
  | succ h ih =>
    intro k f hk
    rw [CO,CO]
    by_cases c:k=h
    ·subst c
     rw [AT k (g:=f) (fun i hi=>by rw [decide_eq_false (by omega),Bool.or_false])]
     cases f k <;> simp
    ·rw [ih k f (by omega),decide_eq_false (show ¬ h=k from fun e=>c e.symm),Bool.or_false]
     omega
 intro h k f hk
 rw [Pi,Cf,decide_eq_true hk,Bool.true_and,key h k f hk]
theorem AO.tri {h:Nat} {L F:Nat->Nat->Int} (g:AO h L F) {x y w:Nat} (hx:x < h) (hy:y < h) (hw:w < h) (xy:y≠x) (xw:w≠x) (yw:w≠y):min (F x y) (F y w)<=F x w:=by
 obtain ⟨bf,r⟩:=g x hx
 obtain ⟨bf',r'⟩:=g y hy
 obtain ⟨rk,par⟩:=r'.par
 have key:∀n w,rk w<=n->w < h->w≠x->w≠y->min (F x y) (F y w)<=F x w:=by
  intro n
  induction n with
  | zero =>
    intro w rn hw wx wy
    obtain ⟨p,_,_,p1,_⟩:=par w hw wy
    omega
  | succ n ih =>
    intro w rn hw wx wy
    obtain ⟨p,hp,_,p1,p2,p3⟩:=par w hw wy
    rw [B9 (F y) hw] at p2 p3
    by_cases c:p=y
    ·rw [p2 c]
     have:=r.stab y w hy hw xy wx (Ne.symm wy)
     rwa [B9 (F x) hy,B9 (F x) hw] at this
    ·have e:=p3 c
     rw [B9 (F y) hp] at e
     rw [e]
     by_cases d:p=x
     ·have:=r.low w hw wx
      rw [B9 (F x) hw] at this
      rw [d]
      omega
     ·have a:=ih p (by omega) hp d c
      have b:=r.stab p w hp hw d wx (fun e=>by rw [e] at p1;exact Nat.lt_irrefl _ p1)
      rw [B9 (F x) hp,B9 (F x) hw] at b
      omega
 exact key (rk w) w (Nat.le_refl _) hw xw yw
theorem AO.low {h:Nat} {L F:Nat->Nat->Int} (g:AO h L F) {x y:Nat} (hx:x < h) (hy:y < h) (ne:y≠x):L x y<=F x y:=by
 obtain ⟨bf,r⟩:=g x hx
 have:=r.low y hy ne
 rwa [B9 (F x) hy] at this
theorem AO.trans {h:Nat} {L F:Nat->Nat->Int} (g:AO h L F) {x y z:Nat} (hx:x < h) (hy:y < h) (hz:z < h) (a:F y x < F x y) (b:F z y < F y z):F z x < F x z:=by
 have xy:y≠x:=fun e=>by rw [e] at a;omega
 have yz:z≠y:=fun e=>by rw [e] at b;omega
 by_cases c:z=x
 ·rw [c] at b;omega
 ·have t1:=g.tri hx hy hz xy c yz
  have t2:=g.tri hy hz hx yz (Ne.symm xy) (Ne.symm c)
  have t3:=g.tri hz hx hy (Ne.symm c) (Ne.symm yz) xy
  omega
noncomputable def EJ (F:Nat->Nat->Int) (z o:Int):Bool:=decide (F z.toNat o.toNat < F o.toNat z.toNat)
noncomputable def Dr (F:Nat->Nat->Int) (z:Int) (os:List Int):Bool:=os.any (EJ F z)
noncomputable def unb (F:Nat->Nat->Int) (left:List Int):List Int:=left.filter fun z=>!Dr F z left
theorem Mi {h:Nat} {L F:Nat->Nat->Int} (g:AO h L F):∀{left:List Int},left≠[]->(∀z∈left,∃i:Nat,i < h/\z=(i:Int))->∃z∈left,∀o∈left,EJ F z o=false
 | [],n,_=>absurd rfl n
 | [a],_,_=>⟨a,mem_singleton.mpr rfl,fun o mo=>by
   rw [mem_singleton.mp mo]
   exact decide_eq_false (Int.lt_irrefl _)⟩
 | a :: b :: r,_,s=>by
   obtain ⟨m,mm,hm⟩:=Mi g (left:=b :: r) (by simp) fun z mz=>s z (mem_cons_of_mem _ mz)
   obtain ⟨i,hi,rfl⟩:=s a (mem_cons_self ..)
   obtain ⟨j,hj,rfl⟩:=s m (mem_cons_of_mem _ mm)
   by_cases c:EJ F (j:Int) (i:Int)=true
   ·refine ⟨(i:Int),mem_cons_self ..,fun o mo=>?_⟩
    rcases mem_cons.mp mo with e | mo
    ·rw [e];exact decide_eq_false (Int.lt_irrefl _)
    ·obtain ⟨k,hk,rfl⟩:=s o (mem_cons_of_mem _ mo)
     have n:=hm _ mo
     unfold EJ at c n ⊢
     have c:=of_decide_eq_true c
     have n:=of_decide_eq_false n
     refine decide_eq_false fun e=>n ?_
     exact g.trans hk hi hj e c
   ·refine ⟨(j:Int),mem_cons_of_mem _ mm,fun o mo=>?_⟩
    rcases mem_cons.mp mo with e | mo
    ·rw [e];exact Bool.eq_false_iff.mpr c
    ·exact hm o mo
theorem Nr {h:Nat} {L F:Nat->Nat->Int} (g:AO h L F) {left:List Int} (n:left≠[]) (s:∀z∈left,∃i:Nat,i < h/\z=(i:Int)):unb F left≠[]:=fun e=>by
 obtain ⟨z,mz,hz⟩:=Mi g n s
 have:z∈unb F left:=mem_filter.mpr ⟨mz,by
  show (!Dr F z left)=true
  unfold Dr
  rw [Bool.not_eq_true',any_eq_false]
  exact fun o mo=>by rw [hz o mo];decide⟩
 rw [e] at this
 cases this
noncomputable def Ay (F:Nat->Nat->Int):Nat->List Int->List Int
 | 0,_=>[]
 | _+1,[]=>[]
 | s+1,z :: r=>(unb F (z :: r)).getD 0 0 :: Ay F s ((z :: r).erase ((unb F (z :: r)).getD 0 0))
theorem Dk (F:Nat->Nat->Int) {s:Nat} {left:List Int} (n:left≠[]):Ay F (s+1) left=(unb F left).getD 0 0 :: Ay F s (left.erase ((unb F left).getD 0 0)):=by
 cases left with
 | nil=>exact absurd rfl n
 | cons z r=>rfl
theorem D6 (F:Nat->Nat->Int):∀s,Ay F s []=[]
 | 0=>rfl
 | _+1=>rfl
theorem Dl (F:Nat->Nat->Int) (left:List Int):Ay F 0 left=[]:=by cases left <;> rfl
noncomputable def off (H:Hp) (D:Addr):Hp:=fun b=>if b=D then none else H b
theorem FX (H:Hp) (D:Addr):Av (off H D) H:=fun b o e=>by
 unfold off at e
 split at e
 ·cases e
 ·exact e
theorem Dp {H:Hp} {D b:Addr} {o:HO} (e:H b=some o) (n:b≠D):off H D b=some o:=by
 unfold off
 rw [if_neg n]
 exact e
theorem JV {H:Hp} {D:Addr}:off H D D=none:=by unfold off;rw [if_pos rfl]
theorem Dx {H H':Hp} {D:Addr} {o:HO} (s:Av (off H D) H'):Av (off H D) (upd H' D o):=fun b u e=>by
 rw [Aj (fun z=>by rw [z,JV] at e;cases e)]
 exact s _ _ e
theorem NN {H0 H:Hp} {D:Addr} (s:Av H0 H) (n:H0 D=none):Av H0 (off H D):=fun b o e=>Dp (s _ _ e) fun z=>by rw [z,n] at e;cases e
theorem Jb {H:Hp} {D:Addr} {o:HO}:off (upd H D o) D=off H D:=funext fun b=>by
 unfold off
 by_cases c:b=D
 ·rw [if_pos c,if_pos c]
 ·rw [if_neg c,if_neg c,Aj c]
theorem OY (n:Nat):(ups n).Pairwise (·<=·):=pairwise_map.mpr (pairwise_lt_range.imp fun h=>by omega)
theorem PR (n:Nat):(ups n).map V.int=(List.range n).map fun i:Nat=>V.int (i:Int):=by unfold ups;rw [map_map];rfl
theorem QT {ms ns:List Int} {n:Nat} (p:ms.Perm ns) (s:ms.Pairwise (·<=·)) (h:ns.Perm (ups n)):ms=ups n:=(p.trans h).eq_of_pairwise (fun a b _ _ x y=>Int.le_antisymm x y) s (OY n)
def OS:Sp:=fun vs H Q _=>∃n:Int,vs=[.int n]/\1<=n/\n<=12/\Q (.bl true) H
def OL:Sp:=fun vs H Q _=>∃n:Int,vs=[.int n]/\1<=n/\n<=60/\Q (.bl true) H
def QP (K:PySem.W.Frag):Sp:=fun vs H Q _=>∃(l:Addr) (ns:List Int) (n:Nat),vs=[.ref l,.int (n:Int)]/\H l=some (.lst (ns.map V.int))/\ns.Perm (ups n)/\n<=12/\∀H':Hp,Av H H'->Q (.bl true) H'
abbrev fsW (h s:Int) (l:Addr):List (Str × V):=[("hands",.int h),("seats",.int s),("lots",.ref l)]
theorem Rc (x:V):Dq "hands" x []=([("hands",x)]:List (Str × V)):=rfl
theorem Ru (x y:V):Dq "seats" y [("hands",x)]=([("hands",x),("seats",y)]:List (Str × V)):=by
 unfold Dq;rw [if_neg (by decide)];rfl
theorem Ro (x y z:V):Dq "lots" z [("hands",x),("seats",y)]=([("hands",x),("seats",y),("lots",z)]:List (Str × V)):=by
 unfold Dq;rw [if_neg (by decide)];unfold Dq;rw [if_neg (by decide)];rfl
def IsP (C:Addr) (H:Hp) (a:Addr) (h s:Nat) (ns:List Int):Prop:=∃dx l,H a=some (.ins C dx (fsW (h:Int) (s:Int) l))/\H l=some (.lst (ns.map V.int))
theorem IsP.same {C:Addr} {H H':Hp} {a:Addr} {h s:Nat} {ns:List Int} (e:Av H H') (k:IsP C H a h s ns):IsP C H' a h s ns:=let ⟨dx,l,k1,k2⟩:=k;⟨dx,l,e _ _ k1,e _ _ k2⟩
theorem IsP.sm {C:Addr} {H H':Hp} {a:Addr} {h s:Nat} {ns:List Int} (e:Sm H H') (k:IsP C H a h s ns):IsP C H' a h s ns:=let ⟨dx,l,k1,k2⟩:=k;⟨dx,l,e.keep _ _ k1 rfl,e.lst k2⟩
structure Dh (C:Addr) (H:Hp) (a:Addr) (h s:Nat) (ns:List Int):Prop where
 is:IsP C H a h s ns
 pm:ns.Perm (ups h)
 h1:1<=h
 h12:h<=12
 s1:1<=s
 s60:s<=60
theorem Dh.same {C:Addr} {H H':Hp} {a:Addr} {h s:Nat} {ns:List Int} (e:Av H H') (k:Dh C H a h s ns):Dh C H' a h s ns:=⟨k.is.same e,k.pm,k.h1,k.h12,k.s1,k.s60⟩
theorem Dh.sm {C:Addr} {H H':Hp} {a:Addr} {h s:Nat} {ns:List Int} (e:Sm H H') (k:Dh C H a h s ns):Dh C H' a h s ns:=⟨k.is.sm e,k.pm,k.h1,k.h12,k.s1,k.s60⟩
theorem QS {h:Nat} {z:Int} (m:z∈ups h):∃i:Nat,i < h/\z=(i:Int):=by
 unfold ups at m
 obtain ⟨i,hi,e⟩:=mem_map.mp m
 exact ⟨i,mem_range.mp hi,e.symm⟩
def Lr (K:PySem.W.Frag):Sp:=fun vs H Q _=>∃(a C dx:Addr) (h s:Nat) (lv:V) (ns:List Int),vs=[.ref a,.int (h:Int),.int (s:Int),lv]/\H a=some (.ins C dx [])/\Cls K C/\CA K C "hands"/\CA K C "seats"/\CA K C "lots" /\
 1<=h/\h<=12/\1<=s/\s<=60/\((lv=.non/\ns=ups h)\/∃l,lv=.ref l/\H l=some (.lst (ns.map V.int))/\ns.Perm (ups h)) /\
 ∀(l':Addr) (H':Hp),l'≠a->H l'=none->Av (off H a) H'->H' a=some (.ins C dx (fsW (h:Int) (s:Int) l'))->H' l'=some (.lst (ns.map V.int))->Q .non H'
noncomputable def Od:Sp:=fun vs H Q _=>∃(r l:Addr) (rs:List Addr) (h i:Nat) (F:Nat->Nat->Int) (zs:List Int),vs=[.ref r,.int (i:Int),.ref l]/\H r=some (.lst (rs.map V.ref))/\Ba H rs h F/\i < h/\H l=some (.lst (zs.map V.int))/\(∀z∈zs,∃j:Nat,j < h/\z=(j:Int))/\zs.length<=60/\∀H':Hp,Av H H'->Q (.bl (Dr F (i:Int) zs)) H'
noncomputable def Nm (C:Addr):Sp:=fun vs H Q _=>∃(a r:Addr) (rs:List Addr) (h s:Nat) (ns:List Int) (L F:Nat->Nat->Int),vs=[.ref a,.ref r]/\Dh C H a h s ns/\H r=some (.lst (rs.map V.ref))/\Ba H rs h F/\AO h L F/\∀(p:Addr) (H':Hp),H p=none->Av H H'->H' p=some (.lst ((Ay F s ns).map V.int))->Q (.ref p) H'
noncomputable def ovF (ls:Ls) (x y:Nat):Int:=EF (Df x y) (dsL ls)
noncomputable def AZ (ls:Ls) (x y:Nat):Int:=ovF ls x y - ovF ls y x
noncomputable def OB:Sp:=fun vs H Q _=>∃(a:Addr) (as:List Addr) (h:Nat) (F:Nat->Nat->Int),vs=[.ref a]/\H a=some (.lst (as.map V.ref))/\Ba H as h F/\h<=12/\∀(b:Addr) (bs:List Addr) (H':Hp),H b=none->b ∉ bs->(∀c∈bs,H c=none)->Av H H'->H' b=some (.lst (bs.map V.ref))->Ba H' bs h (fun x y=>F x y - F y x)->Q (.ref b) H'
structure Rw where
 t:Addr
 x:Nat
 y:Nat
 s:Int
 w:Addr
 ws:List Nat
 cut:Int
noncomputable def R4 (F:Nat->Nat->Int) (x y i:Nat):Bool:=decide (i=x\/F x y < F x i)
structure FS (h:Nat) (L F:Nat->Nat->Int) (H:Hp) (q:Rw):Prop where
 tup:H q.t=some (.tup [.int (q.x:Int),.int (q.y:Int),.int q.s,.ref q.w,.int q.cut])
 way:H q.w=some (.lst ((Bx q.ws).map V.int))
 hx:q.x < h
 hy:q.y < h
 ne:q.y≠q.x
 str:q.s=F q.x q.y
 isw:KB h q.x q.y L q.s q.ws
 cutE:q.cut=A4 h (R4 F q.x q.y)
theorem FS.same {h:Nat} {L F:Nat->Nat->Int} {H H':Hp} {q:Rw} (e:Av H H') (k:FS h L F H q):FS h L F H' q:=⟨e _ _ k.tup,e _ _ k.way,k.hx,k.hy,k.ne,k.str,k.isw,k.cutE⟩
theorem FS.sm {h:Nat} {L F:Nat->Nat->Int} {H H':Hp} {q:Rw} (e:Sm H H') (k:FS h L F H q):FS h L F H' q:=⟨e.tup k.tup,e.lst k.way,k.hx,k.hy,k.ne,k.str,k.isw,k.cutE⟩
theorem FS.congr {h:Nat} {L F F':Nat->Nat->Int} {H:Hp} {q:Rw} (k:FS h L F H q) (e:∀y,y < h->F q.x y=F' q.x y):FS h L F' H q:=⟨k.tup,k.way,k.hx,k.hy,k.ne,by rw [k.str,e _ k.hy],k.isw,by
 rw [k.cutE]
 exact AT h fun i hi=>by unfold R4;rw [e _ k.hy,e i hi]⟩
noncomputable def vrw (rows:List Rw):List V:=rows.map fun q=>.ref q.t
noncomputable def Iw (h x:Nat):List Nat:=(List.range h).filter fun y=>decide (y≠x)
theorem Nz (h x:Nat):CI h x=Bx (Iw h x):=rfl
noncomputable def pairsOf (h n:Nat):List (Nat × Nat):=(List.range n).flatMap fun x=>(Iw h x).map fun y=>(x,y)
def K8:Sp:=fun vs H Q _=>∃(t:Addr) (h x:Nat) (L:Nat->Nat->Int) (be:List Int),vs=[.ref t,.int (x:Int)]/\Fr H t h x L be/\x < h/\h<=12 /\
 ∀(r:Addr) (rows:List Rw) (H':Hp),H r=none->Av H H'->H' r=some (.lst (vrw rows))->(∀q∈rows,FS h L (fun _ y=>be.getD y 0) H' q/\q.x=x/\H q.t=none/\H q.w=none)->rows.map (fun q=>(q.x,q.y))=(Iw h x).map (fun y=>(x,y))->Q (.ref r) H'
structure Ot (H:Hp) (p:Addr) (h s:Nat) (ns:List Int) (ls:Ls) (F:Nat->Nat->Int):Prop where
 is:∃(m sh pk:Addr) (ms:List Addr) (rows:List Rw),H p=some (.tup [.ref m,.ref sh,.ref pk])/\H m=some (.lst (ms.map V.ref))/\Ba H ms h (ovF ls)/\H sh=some (.lst (vrw rows))/\(∀q∈rows,FS h (AZ ls) F H q)/\rows.map (fun q=>(q.x,q.y))=pairsOf h h/\H pk=some (.lst ((Ay F s ns).map V.int))
 strong:AO h (AZ ls) F
def Ly (C P:Addr):Sp:=fun vs H Q _=>∃(a l:Addr) (h s:Nat) (ns:List Int) (ls:Ls),vs=[.ref a,.ref l]/\Dh C H a h s ns/\H l=some (.lst (vls ls))/\DO h H ls/\ls.length<=60/\LT P H /\
 ∀(p:Addr) (F:Nat->Nat->Int) (H':Hp),Sm H H'->(Cd P h H->Av H H')->Cd P h H'->H p=none->Ot H' p h s ns ls F->Q (.ref p) H'
theorem Cd.put {P l:Addr} {h:Nat} {H:Hp} {xs:List V} {o:HO} (t:Cd P h H) (e:H l=some (.lst xs)):Cd P h (upd H l o):=⟨Hh.put t.1 e,t.2.imp id fun z=>EE.put z e⟩
theorem Ip (ws:List Nat):(Bx ws).length=ws.length:=by unfold Bx;rw [length_map]
theorem KQ (a b:List Rw):vrw (a++b)=vrw a++vrw b:=by unfold vrw;rw [map_append]
theorem LJ (a:List Rw):(vrw a).length=a.length:=by unfold vrw;rw [length_map]
theorem QM {us:Us} {r:Addr × List Int} {x:Nat} (h:x < us.length) (y:Nat):fU (us++[r]) x y=fU us x y:=by
 unfold fU
 rw [show (us++[r]).getD x (0,[])=us.getD x (0,[]) from by rw [getD_eq_getElem?_getD (l:=us++[r]),getD_eq_getElem?_getD (l:=us),List.getElem?_append_left h]]
theorem Qv {us:Us} {r:Addr × List Int} (y:Nat):fU (us++[r]) us.length y=r.2.getD y 0:=by
 unfold fU
 rw [getD_eq_getElem?_getD (l:=us++[r]),List.getElem?_append_right (Nat.le_refl _),Nat.sub_self]
 rfl
theorem Fd (h n:Nat):pairsOf h (n+1)=pairsOf h n++(Iw h n).map fun y=>(n,y):=by
 unfold pairsOf
 rw [range_succ,flatMap_append]
 simp
theorem Gm {h:Nat}:∀{n:Nat},n<=h->(pairsOf h n).length+n=n*h
 | 0,_=>by simp [pairsOf]
 | n+1,hn=>by
   have ih:=Gm (h:=h) (n:=n) (by omega)
   have b:(Iw h n).length+1=h:=by
    have:=HV (h:=h) (x:=n) (by omega)
    rwa [Nz,Ip] at this
   rw [Fd,length_append,length_map,Nat.succ_mul]
   omega
theorem Kp {h:Nat} {L F:Nat->Nat->Int} (g:AO h L F) {left:List Int} (n:left≠[]) (s:∀z∈left,∃i:Nat,i < h/\z=(i:Int)):(unb F left).getD 0 0∈left/\Dr F ((unb F left).getD 0 0) left=false:=by
 have k:=Nr g n s
 cases e:unb F left with
 | nil=>exact absurd e k
 | cons a r =>
   have m:a∈unb F left:=by rw [e];exact mem_cons_self ..
   obtain ⟨m1,m2⟩:=mem_filter.mp m
   exact ⟨m1,by simpa using m2⟩
theorem N2 {z:Int} {zs:List Int}:inV (V.int z) (zs.map V.int)=decide (z∈zs):=by
 unfold inV
 rw [any_map]
 by_cases c:z∈zs
 ·rw [decide_eq_true c]
  exact any_eq_true.mpr ⟨z,c,by simp [eqV]⟩
 ·rw [decide_eq_false c]
  refine Bool.eq_false_iff.mpr fun e=>c ?_
  obtain ⟨y,my,ey⟩:=any_eq_true.mp e
  have:y=z:=by simpa [eqV] using ey
  rw [<- this];exact my
theorem Qi {z:Int} {zs:List Int} (m:z∈zs):(if false=true then !inV (V.int z) (zs.map V.int) else inV (V.int z) (zs.map V.int))=true:=by rw [if_neg (by decide),N2,decide_eq_true m]
theorem R8 {z:Int} {zs:List Int} (m:z ∉ zs):(if false=true then !inV (V.int z) (zs.map V.int) else inV (V.int z) (zs.map V.int))=false:=by rw [if_neg (by decide),N2,decide_eq_false m]
theorem Os (zs:List Int):(zs.map V.int).all Fg=true:=by rw [all_map];exact all_eq_true.mpr fun _ _=>rfl
noncomputable def BV (h:Nat) (pk:List Int):List Int:=(List.range h).map fun i:Nat=>if (i:Int)∈pk then 1 else 0
def PF (C:Addr):Sp:=fun vs H Q _=>∃(a p:Addr) (h s:Nat) (ns:List Int) (ls:Ls) (F:Nat->Nat->Int),vs=[.ref a,.ref p]/\Dh C H a h s ns/\Ot H p h s ns ls F/\∀(r:Addr) (H':Hp),H r=none->Av H H'->H' r=some (.lst ((BV h (Ay F s ns)).map V.int))->Q (.ref r) H'
def Qr (C P:Addr):Sp:=fun vs H Q _=>∃(a l:Addr) (h s:Nat) (ns:List Int) (ls:Ls),vs=[.ref a,.ref l]/\Dh C H a h s ns/\H l=some (.lst (vls ls))/\DO h H ls/\ls.length<=60/\LT P H /\
 ∀(r:Addr) (F:Nat->Nat->Int) (H':Hp),Sm H H'->(Cd P h H->Av H H')->Cd P h H'->H' r=some (.lst ((BV h (Ay F s ns)).map V.int))->AO h (AZ ls) F->Q (.ref r) H'
theorem Ld (h:Nat):(ups h).Nodup:=pairwise_map.mpr ((pairwise_lt_range (n:=h)).imp fun a e=>by omega)
theorem Py {h i:Nat} (pk:List Int) (hi:i < h):(BV h pk)[i]?=some (if (i:Int)∈pk then 1 else 0):=by
 unfold BV
 rw [List.getElem?_map,List.getElem?_range hi]
 rfl
theorem Ew (h:Nat) (pk:List Int):(BV h pk).length=h:=by unfold BV;rw [length_map,length_range]
theorem AO.near {h:Nat} {L F L' F':Nat->Nat->Int} {c:Int} (g:AO h L F) (g':AO h L' F') (e:∀x y,x < h->y < h->L x y<=L' x y+c) {x y:Nat} (hx:x < h) (hy:y < h) (ne:y≠x):F x y<=F' x y+c:=by
 obtain ⟨bf,r⟩:=g x hx
 obtain ⟨bf',r'⟩:=g' x hx
 obtain ⟨rk,par⟩:=r.par
 have key:∀n w,rk w<=n->w < h->w≠x->F x w<=F' x w+c:=by
  intro n
  induction n with
  | zero =>
    intro w rn hw wx
    obtain ⟨p,_,_,p1,_⟩:=par w hw wx
    omega
  | succ n ih =>
    intro w rn hw wx
    obtain ⟨p,hp,_,p1,p2,p3⟩:=par w hw wx
    rw [B9 (F x) hw] at p2 p3
    by_cases d:p=x
    ·rw [p2 d]
     have a:=r'.low w hw wx
     rw [B9 (F' x) hw] at a
     have:=e x w hx hw
     omega
    ·have q:=p3 d
     rw [B9 (F x) hp] at q
     rw [q]
     have a:=ih p (by omega) hp d
     have b:=r'.stab p w hp hw d wx (fun e=>by rw [e] at p1;exact Nat.lt_irrefl _ p1)
     rw [B9 (F' x) hp,B9 (F' x) hw] at b
     have:=e p w hp hw
     omega
 exact key (rk y) y (Nat.le_refl _) hy ne
theorem Ii {h:Nat} {L F:Nat->Nat->Int} (g:AO h L F):∀(s:Nat) (left:List Int),left.Nodup->(∀z∈left,∃i:Nat,i < h/\z=(i:Int)) ->
 (∀z∈Ay F s left,z∈left)/\(Ay F s left).Nodup/\(Ay F s left).length=min s left.length/\∀z∈Ay F s left,∀y∈left,y ∉ Ay F s left->EJ F z y=false
 | 0,left,_,_=>by
   rw [Dl]
   exact ⟨(fun z k=>nomatch k),nodup_nil,by simp,fun z k=>nomatch k⟩
 | s+1,left,nd,sub=>by
   by_cases e:left=[]
   ·rw [e,D6]
    exact ⟨(fun z k=>nomatch k),nodup_nil,by simp,fun z k=>nomatch k⟩
   ·obtain ⟨z1,z2⟩:=Kp g e sub
    rw [Dk F e]
    generalize (unb F left).getD 0 0=z at z1 z2 ⊢
    obtain ⟨a,b,c,d⟩:=Ii g s (left.erase z) (nd.erase z) fun y k=>sub y (mem_of_mem_erase k)
    have ln:(left.erase z).length=left.length - 1:=length_erase_of_mem z1
    have l0:0 < left.length:=length_pos_of_mem z1
    refine ⟨fun y k=>?_,?_,?_,fun y k w mw nw=>?_⟩
    ·rcases mem_cons.mp k with k | k
     ·rw [k];exact z1
     ·exact mem_of_mem_erase (a y k)
    ·exact nodup_cons.mpr ⟨fun k=>(List.Nodup.mem_erase_iff nd).mp (a z k) |>.1 rfl,b⟩
    ·rw [length_cons,c,ln];omega
    ·rw [mem_cons,not_or] at nw
     rcases mem_cons.mp k with k | k
     ·rw [k]
      unfold Dr at z2
      rw [any_eq_false] at z2
      exact Bool.eq_false_iff.mpr (z2 w mw)
     ·exact d y k w ((List.Nodup.mem_erase_iff nd).mpr ⟨nw.1,mw⟩) nw.2
noncomputable def Cg (F:Nat->Nat->Int) (ns:List Int) (x y:Int):Int:=if ns.idxOf y < ns.idxOf x then max 1 (-((-(F x.toNat y.toNat - F y.toNat x.toNat)).fdiv 4)) else max 1 ((F x.toNat y.toNat - F y.toNat x.toNat).fdiv 4+1)
theorem Nx (F:Nat->Nat->Int) (ns:List Int) (x y:Int):1<=Cg F ns x y:=by
 unfold Cg
 split <;> omega
theorem HN {F F':Nat->Nat->Int} {ns:List Int} {x y t:Int} (t0:0<=t) (a:F' x.toNat y.toNat<=F x.toNat y.toNat+2*t) (b:F y.toNat x.toNat<=F' y.toNat x.toNat+2*t):Cg F' ns x y<=Cg F ns x y+t:=by
 unfold Cg
 rw [Int.fdiv_eq_ediv_of_nonneg _ (by decide),Int.fdiv_eq_ediv_of_nonneg _ (by decide),Int.fdiv_eq_ediv_of_nonneg _ (by decide),Int.fdiv_eq_ediv_of_nonneg _ (by decide)]
 split <;> omega
theorem Fc {h:Nat} {F F':Nat->Nat->Int} (e:∀x y,x < h->y < h->(F x y < F y x↔F' x y < F' y x)):∀(s:Nat) (left:List Int),(∀z∈left,∃i:Nat,i < h/\z=(i:Int))->(∀l:List Int,(∀z∈l,z∈left)->(unb F l).getD 0 0∈l\/l=[])->Ay F' s left=Ay F s left
 | 0,left,_,_=>by rw [Dl,Dl]
 | s+1,left,sub,hd=>by
   by_cases n:left=[]
   ·rw [n,D6,D6]
   ·rw [Dk F n,Dk F' n]
    have u:unb F' left=unb F left:=filter_congr fun z mz=>by
     unfold Dr
     congr 1
     have:∀o∈left,EJ F' z o=EJ F z o:=fun o mo=>by
      obtain ⟨i,hi,rfl⟩:=sub z mz
      obtain ⟨j,hj,rfl⟩:=sub o mo
      unfold EJ
      rw [Int.toNat_natCast,Int.toNat_natCast]
      exact decide_eq_decide.mpr (e i j hi hj).symm
     rw [Bool.eq_iff_iff,any_eq_true,any_eq_true]
     exact ⟨fun ⟨o,mo,k⟩=>⟨o,mo,by rw [<- this o mo];exact k⟩,fun ⟨o,mo,k⟩=>⟨o,mo,by rw [this o mo];exact k⟩⟩
    rw [u]
    rw [Fc e s (left.erase ((unb F left).getD 0 0)) (fun z m=>sub z (mem_of_mem_erase m)) fun l k=>hd l fun z m=>mem_of_mem_erase (k z m)]
noncomputable def Hr (out:List Int) (x j:Nat):List (Int × Int):=((List.range j).filter fun y=>decide (out.getD y 0=0)).map fun y:Nat=>((x:Int),(y:Int))
noncomputable def Eo (out:List Int) (i:Nat):List (Int × Int):=((List.range i).filter fun x=>decide (0 < out.getD x 0)).flatMap fun x:Nat=>Hr out x out.length
theorem Fs (out:List Int) (x j:Nat):Hr out x (j+1)=Hr out x j++if out.getD j 0=0 then [((x:Int),(j:Int))] else []:=by
 unfold Hr
 rw [range_succ,filter_append,map_append]
 by_cases c:out.getD j 0=0
 ·rw [if_pos c,filter_cons_of_pos (by simpa using c)];rfl
 ·rw [if_neg c,filter_cons_of_neg (by simpa using c)];rfl
theorem DZ (out:List Int) (i:Nat):Eo out (i+1)=Eo out i++if 0 < out.getD i 0 then Hr out i out.length else []:=by
 unfold Eo
 rw [range_succ,filter_append,flatMap_append]
 by_cases c:0 < out.getD i 0
 ·rw [if_pos c,filter_cons_of_pos (by simpa using c)];simp
 ·rw [if_neg c,filter_cons_of_neg (by simpa using c)];rfl
noncomputable def De (out:List Int):List (Int × Int):=Eo out out.length
def MS (F:Nat->Nat->Int) (ns:List Int) (out:List Int) (z:Int):Prop:=(∃p∈De out,z=Cg F ns p.1 p.2)/\∀p∈De out,z<=Cg F ns p.1 p.2
theorem MS.near {F F':Nat->Nat->Int} {ns out:List Int} {z z' t:Int} (a:MS F ns out z) (b:MS F' ns out z') (e:∀p∈De out,Cg F' ns p.1 p.2<=Cg F ns p.1 p.2+t):z'<=z+t:=by
 obtain ⟨⟨p,mp,rfl⟩,_⟩:=a
 have:=b.2 p mp
 have:=e p mp
 omega
theorem E8 {h:Nat} {pk:List Int} {p:Int × Int}:p∈De (BV h pk)↔∃x y:Nat,x < h/\y < h/\p=((x:Int),(y:Int))/\(x:Int)∈pk/\(y:Int) ∉ pk:=by
 have ga:∀{i:Nat},i < h->(BV h pk).getD i 0=if (i:Int)∈pk then 1 else 0:=fun {i} hi=>by rw [getD_eq_getElem?_getD,Py pk hi];rfl
 unfold De Eo Hr
 rw [Ew]
 simp only [mem_flatMap,mem_filter,mem_map,mem_range,decide_eq_true_eq]
 constructor
 ·rintro ⟨x,⟨hx,px⟩,y,⟨hy,py⟩,rfl⟩
  rw [ga hx] at px
  rw [ga hy] at py
  refine ⟨x,y,hx,hy,rfl,?_,?_⟩
  ·by_cases c:(x:Int)∈pk
   ·exact c
   ·rw [if_neg c] at px;omega
  ·intro c
   rw [if_pos c] at py
   omega
 ·rintro ⟨x,y,hx,hy,rfl,mx,my⟩
  exact ⟨x,⟨hx,by rw [ga hx,if_pos mx];decide⟩,y,⟨hy,by rw [ga hy,if_neg my]⟩,rfl⟩
theorem Fe (out:List Int) (x j:Nat):(Hr out x j).length<=j:=by
 unfold Hr
 rw [length_map]
 have:=length_filter_le (fun y=>decide (out.getD y 0=0)) (List.range j)
 rw [length_range] at this
 exact this
theorem DG (out:List Int):∀i,(Eo out i).length<=i*out.length
 | 0=>Nat.zero_le _
 | i+1=>by
   rw [DZ,length_append,Nat.succ_mul]
   have:=DG out i
   have:=Fe out i out.length
   split
   ·omega
   ·show _+0<=_;omega
theorem Mw {K:PySem.W.Frag} {a:Addr} {zs:List V} {tt:TT} {te:TE} {σ:St} {H1:Hp} {Q:Addr->Hp->Prop} {n m:Nat} (hn:n=σ.length) (hm:m=σ.length+1) (hz:zs.length<=sizeLine) (Pv:Addr->Nat->List V->Hp->Prop)
 (h0:∀D,H1 D=none->Pv D 0 [] (upd H1 D (.lst []))) (hD:∀D i ys H,Pv D i ys H->H D=some (.lst ys)/\ys.length<=i) (hl:∀D i ys H,H1 D=none->Pv D i ys H->SqL K H a zs)
 (hs:∀D i x ys H T (K1:VK) (K2:Hp->Prop),H1 D=none->zs[i]?=some x->Pv D i ys H->H T=none->(∀y H5,H5 D=some (.lst ys)->Pv D (i+1) (ys++[y]) (upd H5 D (.lst (ys++[y])))->K1 y H5)->(∀H4,Pv D (i+1) ys H4->K2 H4) ->
  tt (σ++[some (.int (i:Int)),some x]) (upd H T (.tup [.int (i:Int),x])) fun b H4=>if b=true then te (σ++[some (.int (i:Int)),some x]) H4 K1 else K2 H4)
 (hd:∀D ys H,H1 D=none->Pv D zs.length ys H->Q D H) :
 ∀D,H1 D=none->∃W:Nat->Nat->List V->Hp->Prop,(∃m,W 0 m [] (upd H1 D (.lst [])))/\∀i k ys H2,W i k ys H2 ->
  H2 D=some (.lst ys)/\(((Ite K a).stop i H2/\Q D H2)\/((Ite K a).go i H2/\ys.length < sizeLine/\∀x H3,(Ite K a).yld i H2 x H3->∀os:St,os.length=2->M3 K 2 (Dc (BA n) (Dc (BA m) MF)) x (σ++os) H3 fun σ4 H4=>(∃os':St,σ4=σ++os'/\os'.length=2)/\tt σ4 H4 fun b H5=>if b=true then te σ4 H5 fun y H6=>H6 D=some (.lst ys)/\∃m',m' < k/\W (i+1) m' (ys++[y]) (upd H6 D (.lst (ys++[y])))
   else ∃m',m' < k/\W (i+1) m' ys H5)):=by
 intro D hDn
 subst hn hm
 refine ⟨fun i m ys H=>m=zs.length - i/\i<=zs.length/\Pv D i ys H,⟨zs.length,rfl,Nat.zero_le _,h0 D hDn⟩,?_⟩
 rintro i m ys H2 ⟨rfl,hi,p⟩
 obtain ⟨e,l⟩:=hD D i ys H2 p
 have q:=hl D i ys H2 hDn p
 refine ⟨e,?_⟩
 by_cases hlt:i < zs.length
 ·refine .inr ⟨⟨zs,zs[i],q,by simp [hlt]⟩,Nat.lt_of_le_of_lt l (Nat.lt_of_lt_of_le hlt hz),fun x H3 y os ho=>?_⟩
  obtain ⟨t,w,rfl,ht,rfl,y⟩:=y
  have q5:=hs D i w ys _ t (fun y H6=>H6 D=some (.lst ys)/\∃m',m' < zs.length - i/\m'=zs.length - (i+1)/\i+1<=zs.length/\Pv D (i+1) (ys++[y]) (upd H6 D (.lst (ys++[y])))) (fun H5=>∃m',m' < zs.length - i/\m'=zs.length - (i+1)/\i+1<=zs.length/\Pv D (i+1) ys H5) hDn (y zs q) p ht (fun y H5 h5 p5=>⟨h5,zs.length - (i+1),by omega,rfl,hlt,p5⟩) fun H4 p4=>⟨zs.length - (i+1),by omega,rfl,hlt,p4⟩
  match os,ho with
  | [o1,o2],_ =>
    have e2:((σ++[o1,o2]).set σ.length (some (.int (i:Int)))).set (σ.length+1) (some w)=σ++[some (.int (i:Int)),some w]:=by
     rw [set_append_right _ _ (Nat.le_refl _),Nat.sub_self,set_append_right _ _ (Nat.le_succ _)]
     rw [show (List.length σ+1) - List.length σ=1 by omega]
     rfl
    refine ⟨t,[.int (i:Int),w],rfl,SqT.of Ab,rfl,.int (i:Int),[w],rfl,w,[],rfl,rfl,?_⟩
    refine ⟨⟨[some (.int (i:Int)),some w],e2,rfl⟩,?_⟩
    rw [e2]
    exact q5
 ·have ei:i=zs.length:=by omega
  subst ei
  exact .inl ⟨⟨zs,q,Nat.le_refl _⟩,hd D ys H2 hDn p⟩
def IsM (C:Addr) (H:Hp) (g a:Addr):Prop:=∃dx,H g=some (.ins C dx [("way",.ref a)])
theorem IsM.same {C:Addr} {H H':Hp} {g a:Addr} (s:Av H H') (m:IsM C H g a):IsM C H' g a:=let ⟨dx,h⟩:=m;⟨dx,s _ _ h⟩
theorem IsM.sm {C:Addr} {H H':Hp} {g a:Addr} (s:Sm H H') (m:IsM C H g a):IsM C H' g a:=let ⟨dx,h⟩:=m;⟨dx,s.keep _ _ h rfl⟩
theorem RT (x:V):Dq "way" x []=([("way",x)]:List (Str × V)):=rfl
def Ji (K:PySem.W.Frag):Sp:=fun vs H Q _=>∃(g C dx a:Addr),vs=[.ref g,.ref a]/\H g=some (.ins C dx [])/\Cls K C/\CA K C "way"/\∀H':Hp,Av (off H g) H'->H' g=some (.ins C dx [("way",.ref a)])->Q .non H'
def Nv (C:Addr):Sp:=fun vs H Q _=>∃(a:Addr) (h s:Nat) (xs:List Int) (x y:Int),vs=[.ref a,.int x,.int y]/\IsP C H a h s xs/\x∈xs/\y∈xs/\Q (.bl (decide (xs.idxOf x < xs.idxOf y))) H
noncomputable def N1 (ns:List Int) (x y u v:Int):Int:=if ns.idxOf y < ns.idxOf x then max 1 (-((-(u - v)).fdiv 4)) else max 1 ((u - v).fdiv 4+1)
def Q0 (M C:Addr):Sp:=fun vs H Q _=>∃(g a:Addr) (h s:Nat) (ns:List Int) (x y u v:Int),vs=[.ref g,.int x,.int y,.int u,.int v]/\IsM M H g a/\IsP C H a h s ns/\x∈ns/\y∈ns/\Q (.int (N1 ns x y u v)) H
def Nh (M C:Addr):Sp:=fun vs H Q _=>∃(g a l:Addr) (h s:Nat) (ns:List Int) (ls:Ls),vs=[.ref g,.ref l]/\IsM M H g a/\Dh C H a h s ns/\H l=some (.lst (vls ls))/\DO h H ls/\ls.length<=60 /\
 ∀(b:Addr) (bs:List Addr) (H':Hp),Av H H'->H' b=some (.lst (bs.map V.ref))->Ba H' bs h (AZ ls)->Q (.ref b) H'
abbrev Pq:=List (Addr × Int × Int)
noncomputable def vpq (ps:Pq):List V:=ps.map fun q=>.ref q.1
def Ck (H:Hp) (ps:Pq):Prop:=∀q∈ps,H q.1=some (.tup [.int q.2.1,.int q.2.2])
theorem Ck.same {H H':Hp} {ps:Pq} (s:Av H H') (g:Ck H ps):Ck H' ps:=fun q m=>s _ _ (g q m)
theorem Ck.upd {H:Hp} {ps:Pq} {l:Addr} {xs:List V} {o:HO} (e:H l=some (.lst xs)) (g:Ck H ps):Ck (L2.upd H l o) ps:=fun q m=>by
 rw [Aj (DQ (g q m) e (fun z=>by cases z))]
 exact g q m
theorem D1 (ps:Pq):(vpq ps).length=ps.length:=length_map _
def MW:Sp:=fun vs H Q _=>∃(o:Addr) (out:List Int),vs=[.ref o]/\H o=some (.lst (out.map V.int))/\out.length<=12/\∀(l:Addr) (ps:Pq) (H':Hp),H l=none->Av H H'->H' l=some (.lst (vpq ps))->Ck H' ps->ps.map (·.2)=De out->Q (.ref l) H'
theorem Fr.on {H H':Hp} {t:Addr} {h x:Nat} {L:Nat->Nat->Int} {be:List Int} (s:∀b u,H b=some u->Ja u=true->H' b=some u) (g:Fr H t h x L be):Fr H' t h x L be:=by
 obtain ⟨b,f,bf,h1,h2,h3,h4⟩:=g.is
 exact ⟨b,f,bf,s _ _ h1 rfl,s _ _ h2 rfl,s _ _ h3 rfl,h4⟩
theorem OH {H H':Hp} {D:Addr} (s:∀b u,H b=some u->Ja u=true->H' b=some u):∀b u,off H D b=some u->Ja u=true->off H' D b=some u:=fun b u e n=>by
 have ne:b≠D:=fun z=>by rw [z,JV] at e;cases e
 exact Dp (s _ _ (FX H D _ _ e) n) ne
theorem HL {h s:Nat} {L F:Nat->Nat->Int} {ns:List Int} (g:AO h L F) (pm:ns.Perm (ups h)) (s1:1<=s) (sh:s < h):De (BV h (Ay F s ns))≠[]:=by
 have nd:ns.Nodup:=(pm.nodup_iff).mpr (Ld h)
 have sub:∀w∈ns,∃i:Nat,i < h/\w=(i:Int):=fun w m=>by
  obtain ⟨i,im,e⟩:=mem_map.mp (pm.mem_iff.mp m)
  exact ⟨i,mem_range.mp im,e.symm⟩
 obtain ⟨a1,a2,a3,a4⟩:=Ii g s ns nd sub
 have nl:ns.length=h:=by rw [pm.length_eq];unfold ups;rw [length_map,length_range]
 have pl:(Ay F s ns).length=s:=by rw [a3,nl];omega
 obtain ⟨x,mx⟩:∃x,x∈Ay F s ns:=exists_mem_of_length_pos (by omega)
 obtain ⟨i,hi,rfl⟩:=sub x (a1 x mx)
 obtain ⟨y,my,ny⟩:∃y∈ns,y ∉ Ay F s ns:=Decidable.byContradiction fun no=>by
  have:=Cz (xs:=ns) (ys:=Ay F s ns) nd fun z mz=>Decidable.byContradiction fun nz=>no ⟨z,mz,nz⟩
  omega
 obtain ⟨j,hj,rfl⟩:=sub y my
 exact ne_nil_of_mem (E8.mpr ⟨i,j,hi,hj,rfl,mx,ny⟩)
theorem IK {z d:Int} (z0:0<=z) (h:1<=d) (z1:z < 10 ^ 31):0<=z.fdiv d/\z.fdiv d < 10 ^ 31:=by
 rw [Int.fdiv_eq_ediv_of_nonneg z (by omega)]
 exact ⟨Int.ediv_nonneg z0 (by omega),Int.lt_of_le_of_lt (Int.ediv_le_self d z0) z1⟩
def PJ:Sp:=fun vs H Q _=>∃c b:Int,vs=[.int c,.int b]/\Sz 200 c/\0<=b/\b<=100/\∀z:Int,0<=z->z < 10 ^ 31->Q (.int z) H
abbrev Ds:=List (List Int × Int)
noncomputable def DP (ls:Ls):Ds:=ls.map fun q=>(q.2.2.1,q.2.2.2)
def Cc (H:Hp) (ls:Ls):Prop:=∀q∈ls,H q.1=some (.tup [.ref q.2.1,.int q.2.2.2])/\H q.2.1=some (.tup (q.2.2.1.map V.int))
theorem Cc.same {H H':Hp} {ls:Ls} (s:Av H H') (g:Cc H ls):Cc H' ls:=fun q m=>⟨s _ _ (g q m).1,s _ _ (g q m).2⟩
theorem Cc.append {H:Hp} {a b:Ls} (g:Cc H a) (k:Cc H b):Cc H (a++b):=fun q m=>(mem_append.mp m).elim (g q) (k q)
theorem Cc.upd {H:Hp} {ls:Ls} {l:Addr} {xs:List V} {o:HO} (e:H l=some (.lst xs)) (g:Cc H ls):Cc (upd H l o) ls:=fun q m=>by
 refine ⟨?_,?_⟩
 ·rw [Aj (DQ (g q m).1 e (fun z=>by cases z))];exact (g q m).1
 ·rw [Aj (DQ (g q m).2 e (fun z=>by cases z))];exact (g q m).2
theorem Lg (a b:Ls):vls (a++b)=vls a++vls b:=map_append ..
theorem Ku (a b:Ls):DP (a++b)=DP a++DP b:=map_append ..
theorem KI:∀{a b:List Int},HT.lexLt a b=true->HT.lexLt b a=false
 | [],[],h=>by cases h
 | [],_ :: _,_=>rfl
 | _ :: _,[],h=>by cases h
 | x :: a,y :: b,h=>by
   rw [HT.lexLt_cons] at h ⊢
   by_cases c:x=y
   ·rw [if_pos c] at h
    rw [if_pos c.symm]
    exact KI h
   ·rw [if_neg c] at h
    rw [if_neg (Ne.symm c)]
    have:=of_decide_eq_true h
    exact decide_eq_false (by omega)
theorem LQ:∀{a b:List Int},HT.lexLt b a=false->a≠b->HT.lexLt a b=true
 | [],[],_,n=>absurd rfl n
 | [],_ :: _,_,_=>rfl
 | _ :: _,[],h,_=>by cases h
 | x :: a,y :: b,h,n=>by
   rw [HT.lexLt_cons] at h ⊢
   by_cases c:x=y
   ·rw [if_pos c.symm] at h
    rw [if_pos c]
    exact LQ h fun e=>n (by rw [c,e])
   ·rw [if_neg (Ne.symm c)] at h
    rw [if_neg c]
    have:=of_decide_eq_false h
    exact decide_eq_true (by omega)
noncomputable def tot:Ds->List Int->Int
 | [],_=>0
 | q :: r,ts=>(if q.1=ts then q.2 else 0)+tot r ts
theorem EQ (ts:List Int):∀a b:Ds,tot (a++b) ts=tot a ts+tot b ts
 | [],b=>by show tot b ts=0+tot b ts;omega
 | q :: a,b=>by
   show (if q.1=ts then q.2 else 0)+tot (a++b) ts=(if q.1=ts then q.2 else 0)+tot a ts+tot b ts
   rw [EQ ts a b]
   omega
def Pos (ds:Ds):Prop:=∀q∈ds,1<=q.2
theorem Hl {ts:List Int}:∀{ds:Ds},Pos ds->0<=tot ds ts
 | [],_=>Int.le_refl _
 | q :: r,h=>by
   have h1:=h q (mem_cons_self ..)
   have h2:=Hl (ts:=ts) (ds:=r) fun p m=>h p (mem_cons_of_mem _ m)
   show 0<=(if q.1=ts then q.2 else 0)+tot r ts
   split <;> omega
theorem G6 {ts:List Int}:∀{ds:Ds},ts ∉ ds.map (·.1)->tot ds ts=0
 | [],_=>rfl
 | q :: r,h=>by
   rw [map_cons,mem_cons,not_or] at h
   show (if q.1=ts then q.2 else 0)+tot r ts=0
   rw [if_neg (fun e=>h.1 e.symm),G6 h.2]
   rfl
theorem Iy {ts:List Int}:∀{ds:Ds},Pos ds->ts∈ds.map (·.1)->0 < tot ds ts
 | [],_,m=>nomatch m
 | q :: r,h,m=>by
   have h1:=h q (mem_cons_self ..)
   have hr:Pos r:=fun p m=>h p (mem_cons_of_mem _ m)
   have h2:=Hl (ts:=ts) hr
   show 0 < (if q.1=ts then q.2 else 0)+tot r ts
   by_cases c:q.1=ts
   ·rw [if_pos c];omega
   ·rw [if_neg c]
    rcases mem_cons.mp m with e | e
    ·exact absurd e.symm c
    ·have:=Iy hr e
     omega
structure Ih (ds out:Ds):Prop where
 srt:out.Pairwise (fun x y=>HT.lexLt x.1 y.1=true)
 mem:∀ts n,(ts,n)∈out↔n=tot ds ts/\0 < n
theorem LE {a b:List Int} (h:(a.map Sum.inl:List Key)=b.map Sum.inl):a=b:=by
 have e:=congrArg (List.map kV) h
 rw [GO,GO] at e
 have:∀{a b:List Int},a.map V.int=b.map V.int->a=b:=by
  intro a
  induction a with
  | nil=>intro b h;cases b with | nil=>rfl | cons _ _=>cases h
  | cons x a ih =>
    intro b h
    cases b with
    | nil=>cases h
    | cons y b =>
      injection h with h1 h2
      injection h1 with h1
      rw [h1,ih h2]
 exact this e
theorem HM {α β:Type} {f:α->β}:∀{l:List α},(l.map f).Nodup->l.Nodup
 | [],_=>nodup_nil
 | x :: l,h=>by
   rw [map_cons,nodup_cons] at h
   rw [nodup_cons]
   exact ⟨fun m=>h.1 (mem_map.mpr ⟨x,m,rfl⟩),HM h.2⟩
structure VD (kvs:List (List Key × V)):Prop where
 nd:(kvs.map (·.1)).Nodup
 all:∀q∈kvs,∃(ts:List Int) (n:Int),q=(ts.map Sum.inl,.int n)
theorem HZ {κ:Type} [DecidableEq κ] {kvs:List (κ × V)} {k:κ} {v w:V} (h:B2 kvs k=some w):(C2 kvs k v).map (·.1)=kvs.map (·.1):=by
 unfold C2
 rw [Da,h,if_pos (show (some w).isSome=true from rfl),map_map]
 refine map_congr_left fun q _=>?_
 show (if q.1=k then (q.1,v) else q).1=q.1
 split <;> rfl
theorem VD.put {kvs:List (List Key × V)} (h:VD kvs) (ts:List Int) (n:Int):VD (C2 kvs (ts.map Sum.inl) (.int n)):=by
 refine ⟨?_,fun q m=>?_⟩
 ·cases e:B2 kvs (ts.map Sum.inl:List Key) with
  | none=>exact Md _ h.nd e
  | some w=>rw [HZ e];exact h.nd
 ·unfold C2 at m
  split at m
  ·obtain ⟨p,pm,rfl⟩:=mem_map.mp m
   split
   ·rename_i e
    exact ⟨ts,n,by rw [e]⟩
   ·exact h.all p pm
  ·rcases mem_append.mp m with m | m
   ·exact h.all q m
   ·exact ⟨ts,n,mem_singleton.mp m⟩
theorem VD.val {kvs:List (List Key × V)} (h:VD kvs) {k:List Key} {v:V} (e:B2 kvs k=some v):∃n:Int,v=.int n:=by
 unfold B2 at e
 cases c:kvs.find? fun kv=>decide (kv.1=k) with
 | none=>rw [c] at e;cases e
 | some q =>
   rw [c] at e
   obtain ⟨ts,n,rfl⟩:=h.all q (mem_of_find?_eq_some c)
   exact ⟨n,(Option.some.inj e).symm⟩
theorem VD.keys {kvs:List (List Key × V)} (h:VD kvs):∃ks:List (List Int),kvs.map (·.1)=ks.map (List.map Sum.inl)/\ks.length=kvs.length/\ks.Nodup/\∀ts,ts∈ks↔∃n:Int,B2 kvs (ts.map Sum.inl)=some (.int n):=by
 have key:∀{l:List (List Key × V)},(∀q∈l,q∈kvs)->∃ks:List (List Int),l.map (·.1)=ks.map (List.map Sum.inl)/\ks.length=l.length:=by
  intro l
  induction l with
  | nil=>intro _;exact ⟨[],rfl,rfl⟩
  | cons q r ih =>
    intro sub
    obtain ⟨ks,e1,e2⟩:=ih fun p m=>sub p (mem_cons_of_mem _ m)
    obtain ⟨ts,n,eq⟩:=h.all q (sub q (mem_cons_self ..))
    exact ⟨ts :: ks,by rw [map_cons,map_cons,e1,eq],by rw [length_cons,length_cons,e2]⟩
 obtain ⟨ks,e1,e2⟩:=key fun q m=>m
 have mm:∀ts,ts∈ks↔(ts.map Sum.inl:List Key)∈kvs.map (·.1):=fun ts=>by
  rw [e1]
  constructor
  ·intro m;exact mem_map.mpr ⟨ts,m,rfl⟩
  ·intro m
   obtain ⟨us,um,e⟩:=mem_map.mp m
   rw [<- LE e]
   exact um
 refine ⟨ks,e1,e2,?_,fun ts=>⟨fun m=>?_,fun ⟨n,e⟩=>(mm ts).mpr (PM e)⟩⟩
 ·have nd:=h.nd
  rw [e1] at nd
  exact HM nd
 ·cases c:B2 kvs (ts.map Sum.inl:List Key) with
  | none=>exact absurd ((mm ts).mp m) (GK c)
  | some v =>
    obtain ⟨n,rfl⟩:=h.val c
    exact ⟨n,rfl⟩
structure DictOf (ds:Ds) (kvs:List (List Key × V)):Prop where
 vd:VD kvs
 val:∀ts:List Int,B2 kvs (ts.map Sum.inl)=if ts∈ds.map (·.1) then some (.int (tot ds ts)) else none
noncomputable def Np (kvs:List (List Key × V)) (ts:List Int):Int:=match B2 kvs (ts.map Sum.inl:List Key) with
 | some (.int n)=>n
 | _=>0
theorem DictOf.put {ds:Ds} {kvs:List (List Key × V)} (h:DictOf ds kvs) (ts:List Int) (n:Int):DictOf (ds++[(ts,n)]) (C2 kvs (ts.map Sum.inl) (.int (tot ds ts+n))):=by
 refine ⟨h.vd.put ts _,fun us=>?_⟩
 rw [OC,h.val us,EQ,map_append]
 show (if (us.map Sum.inl:List Key)=ts.map Sum.inl then _ else _)=if us∈ds.map (·.1)++[ts] then some (V.int (tot ds us+((if ts=us then n else 0)+0))) else none
 by_cases c:us=ts
 ·subst c
  rw [if_pos rfl,if_pos (by simp),if_pos rfl]
  rw [Int.add_zero]
 ·rw [if_neg (fun e=>c (LE e)),if_neg (Ne.symm c)]
  by_cases m:us∈ds.map (·.1)
  ·rw [if_pos m,if_pos (by simp;left;simpa using m)]
   rw [Int.add_zero,Int.add_zero]
  ·rw [if_neg m,if_neg (by simp;exact ⟨by simpa using m,c⟩)]
theorem Er {α:Type} [DecidableEq α]:∀{l p:List α},l.Nodup->(∀x∈l,x∈p)->l.length<=p.length
 | [],_,_,_=>Nat.zero_le _
 | x :: l,p,n,s=>by
   rw [nodup_cons] at n
   have m:=s x (mem_cons_self ..)
   have ih:=Er (p:=p.erase x) n.2 fun y hy=>(mem_erase_of_ne (fun e:y=x=>n.1 (by rw [<- e];exact hy))).mpr (s y (mem_cons_of_mem _ hy))
   rw [length_erase_of_mem m] at ih
   have:=length_pos_of_mem m
   rw [length_cons]
   omega
theorem DictOf.len {ds:Ds} {kvs:List (List Key × V)} (h:DictOf ds kvs) {p:List (List Int)} (s:∀q∈ds,q.1∈p):kvs.length<=p.length:=by
 obtain ⟨ks,_,e2,nd,mm⟩:=h.vd.keys
 rw [<- e2]
 refine Er nd fun ts m=>?_
 obtain ⟨n,e⟩:=(mm ts).mp m
 rw [h.val ts] at e
 by_cases c:ts∈ds.map (·.1)
 ·obtain ⟨q,qm,rfl⟩:=mem_map.mp c
  exact s q qm
 ·rw [if_neg c] at e;cases e
theorem DictOf.sheet {ds out:Ds} {kvs:List (List Key × V)} (h:DictOf ds kvs) (p:Pos ds) (srt:out.Pairwise (fun x y=>HT.lexLt x.1 y.1=true)) (mem:∀ts n,(ts,n)∈out↔B2 kvs (ts.map Sum.inl)=some (.int n)/\0 < n):Ih ds out:=by
 refine ⟨srt,fun ts n=>?_⟩
 rw [mem,h.val]
 by_cases c:ts∈ds.map (·.1)
 ·rw [if_pos c]
  constructor
  ·rintro ⟨e,z⟩;injection e with e;injection e with e;exact ⟨e.symm,z⟩
  ·rintro ⟨e,z⟩;exact ⟨by rw [e],z⟩
 ·rw [if_neg c,G6 c]
  constructor
  ·rintro ⟨e,_⟩;cases e
  ·rintro ⟨e,z⟩;omega
theorem LN {ds:Ds} {kvs:List (List Key × V)} (h:DictOf ds kvs) (ts:List Int):(B2 kvs (ts.map Sum.inl:List Key)).getD (.int 0)=.int (tot ds ts):=by
 rw [h.val ts]
 by_cases c:ts∈ds.map (·.1)
 ·rw [if_pos c];rfl
 ·rw [if_neg c,G6 c];rfl
theorem Ke {n:Nat} (h:n<=900):n<=sizeLine:=Nat.le_of_lt (A9 (by omega))
noncomputable def C4 (hs:List Int):Int:=(hs.map fun h=>(1:Int)*2 ^ h.toNat).sum
theorem G9:∀{hs:List Int} {a n:Nat},hs.Pairwise (· < ·)->(∀h∈hs,(a:Int)<=h/\h < (n:Int))->a<=n->0<=C4 hs/\C4 hs<=2 ^ n - 2 ^ a
 | [],a,n,_,_,l=>by
   have:(2:Int) ^ a<=2 ^ n:=by
    have:=Nat.pow_le_pow_right (show 0 < 2 by decide) l
    exact_mod_cast this
   exact ⟨Int.le_refl _,by show (0:Int)<=_;omega⟩
 | h :: hs,a,n,p,k,l=>by
   rw [pairwise_cons] at p
   obtain ⟨k1,k2⟩:=k h (mem_cons_self ..)
   obtain ⟨j,rfl⟩:∃j:Nat,h=(j:Int):=⟨h.toNat,by omega⟩
   have ih:=G9 (hs:=hs) (a:=j+1) (n:=n) p.2 (fun x m=>⟨by have:=p.1 x m;omega,(k x (mem_cons_of_mem _ m)).2⟩) (by omega)
   show 0<=1*2 ^ (j:Int).toNat+C4 hs/\1*2 ^ (j:Int).toNat+C4 hs<=_
   rw [Int.toNat_natCast,Int.one_mul]
   have e:(2:Int) ^ (j+1)=2 ^ j*2:=Int.pow_succ ..
   have le:(2:Int) ^ a<=2 ^ j:=by
    have:=Nat.pow_le_pow_right (show 0 < 2 by decide) (show a<=j by omega)
    exact_mod_cast this
   have pos:(0:Int) < 2 ^ j:=Int.pow_pos (by decide)
   omega
theorem OI {hs:List Int} {n:Nat} (p:hs.Pairwise (· < ·)) (k:∀h∈hs,0<=h/\h < (n:Int)) (ne:hs≠[]):0 < C4 hs/\C4 hs < 2 ^ n:=by
 have a:=G9 (a:=0) p k (Nat.zero_le _)
 have e:(2:Int) ^ 0=1:=rfl
 refine ⟨?_,by omega⟩
 cases hs with
 | nil=>exact absurd rfl ne
 | cons h hs =>
   obtain ⟨k1,k2⟩:=k h (mem_cons_self ..)
   rw [pairwise_cons] at p
   have b:=G9 (a:=0) p.2 (fun x m=>k x (mem_cons_of_mem _ m)) (Nat.zero_le _)
   show 0 < 1*2 ^ h.toNat+C4 hs
   have:(0:Int) < 2 ^ h.toNat:=Int.pow_pos (by decide)
   omega
theorem Qz {t:TT} {σ:St} {H:Hp} {Q:Bool->Hp->Prop} (b:Bool) (h:∀R:Bool->Hp->Prop,(∀H',Av H H'->R b H')->t σ H R) (q:∀H',Av H H'->Q b H'):t σ H Q:=h Q q
theorem ON {t:TT} {σ:St} {H:Hp} {Q:Bool->Hp->Prop} (b:Bool) (h:∀R:Bool->Hp->Prop,R b H->t σ H R) (q:Q b H):t σ H Q:=h Q q
def Q1:Sp:=fun vs H Q _=>∃(l:Addr) (hs:List Int),vs=[.ref l]/\H l=some (.lst (hs.map V.int))/\hs.length<=100/\(∀h∈hs,0<=h/\h < 64)/\∀H':Hp,Av H H'->Q (.int (C4 hs)) H'
theorem JQ {κ:Type} [DecidableEq κ] {kvs:List (κ × V)} {k:κ} {v:V} {q:κ × V} (h:q∈C2 kvs k v):q=(k,v)\/q∈kvs:=by
 unfold C2 at h
 split at h
 ·obtain ⟨p,pm,rfl⟩:=mem_map.mp h
  by_cases c:p.1=k
  ·rw [if_pos c,c];exact .inl rfl
  ·rw [if_neg c];exact .inr pm
 ·rcases mem_append.mp h with m | m
  ·exact .inr m
  ·exact .inl (mem_singleton.mp m)
theorem Nt {κ:Type} [DecidableEq κ] {kvs:List (κ × V)} {k:κ} {v:V} (h:(kvs.map (·.1)).Nodup):((C2 kvs k v).map (·.1)).Nodup:=by
 cases e:B2 kvs k with
 | none=>exact Md _ h e
 | some w=>rw [HZ e];exact h
theorem Fp {κ:Type} [DecidableEq κ] {kvs:List (κ × V)} {k:κ} {v:V} (h:B2 kvs k=some v):(k,v)∈kvs:=by
 unfold B2 at h
 cases c:kvs.find? fun kv=>decide (kv.1=k) with
 | none=>rw [c] at h;cases h
 | some q =>
   rw [c] at h
   have e:q.1=k:=of_decide_eq_true (List.find?_some (p:=fun kv:κ × V=>decide (kv.1=k)) c)
   have f:q.2=v:=Option.some.inj h
   rw [<- e,<- f]
   exact mem_of_find?_eq_some c
def Jv (n i:Nat) (w:Int) (hs:List Int):Prop:=hs≠[]/\hs.Pairwise (· < ·)/\∀h∈hs,0<=h/\h < (n:Int)/\(w=1\/w=2->h < (i:Int))
def Ce (J:Hp) (l:Addr) (n i:Nat) (w:Int) (kvs:List (Key × V)):Prop:=(kvs.map (·.1)).Nodup/\∀q∈kvs,∃(z:Int) (a:Addr) (hs:List Int),q=(Sum.inl z,.ref a)/\J a=some (.lst (hs.map V.int))/\a≠l/\Jv n i w hs
theorem Ce.same {J J':Hp} {l:Addr} {n i:Nat} {w:Int} {kvs:List (Key × V)} (s:Av J J') (h:Ce J l n i w kvs):Ce J' l n i w kvs:=⟨h.1,fun q m=>by
 obtain ⟨z,a,hs,e,h1,h2,h3⟩:=h.2 q m
 exact ⟨z,a,hs,e,s _ _ h1,h2,h3⟩⟩
theorem Ce.up {J:Hp} {l:Addr} {n i:Nat} {w:Int} {kvs:List (Key × V)} (h:Ce J l n i w kvs):Ce J l n (i+1) w kvs:=⟨h.1,fun q m=>by
 obtain ⟨z,a,hs,e,h1,h2,h3,h4,h5⟩:=h.2 q m
 exact ⟨z,a,hs,e,h1,h2,h3,h4,fun x xm=>⟨(h5 x xm).1,(h5 x xm).2.1,fun k=>by have:=(h5 x xm).2.2 k;omega⟩⟩⟩
theorem Ce.off {J:Hp} {l:Addr} {n i:Nat} {w:Int} {kvs:List (Key × V)} {o:HO} (h:Ce J l n i w kvs):Ce (upd J l o) l n i w kvs:=⟨h.1,fun q m=>by
 obtain ⟨z,a,hs,e,h1,h2,h3⟩:=h.2 q m
 exact ⟨z,a,hs,e,by rw [Aj h2];exact h1,h2,h3⟩⟩
theorem Ce.put {J:Hp} {l d a:Addr} {n i:Nat} {w z:Int} {kvs ks:List (Key × V)} {hs:List Int} (h:Ce J l n i w kvs) (hd:J d=some (.dK ks)) (ha:J a=some (.lst (hs.map V.int))) (al:a≠l) (t:Jv n i w hs):Ce (upd J d (.dK (C2 kvs (Sum.inl z) (.ref a)))) l n i w (C2 kvs (Sum.inl z) (.ref a)):=by
 have keep:∀{b:Addr} {xs:List V},J b=some (.lst xs)->(upd J d (.dK (C2 kvs (Sum.inl z) (.ref a)))) b=some (.lst xs):=fun {b xs} e=>by rw [Aj (DQ e hd (fun z=>by cases z))];exact e
 refine ⟨Nt h.1,fun q m=>?_⟩
 rcases JQ m with rfl | m
 ·exact ⟨z,a,hs,rfl,keep ha,al,t⟩
 ·obtain ⟨z',a',hs',e,h1,h2,h3⟩:=h.2 q m
  exact ⟨z',a',hs',e,keep h1,h2,h3⟩
theorem Ce.keys {J:Hp} {l:Addr} {n i:Nat} {w:Int} {kvs:List (Key × V)} (h:Ce J l n i w kvs):∃ns:List Int,kvs.map (·.1)=ns.map Sum.inl/\ns.length=kvs.length/\∀z∈ns,∃(a:Addr) (hs:List Int),B2 kvs (Sum.inl z)=some (.ref a)/\J a=some (.lst (hs.map V.int))/\Jv n i w hs:=by
 have key:∀{r:List (Key × V)},(∀q∈r,q∈kvs)->∃ns:List Int,r.map (·.1)=ns.map Sum.inl/\ns.length=r.length:=by
  intro r
  induction r with
  | nil=>intro _;exact ⟨[],rfl,rfl⟩
  | cons q r ih =>
    intro sub
    obtain ⟨ns,e1,e2⟩:=ih fun p m=>sub p (mem_cons_of_mem _ m)
    obtain ⟨z,a,hs,eq,_⟩:=h.2 q (sub q (mem_cons_self ..))
    exact ⟨z :: ns,by rw [map_cons,map_cons,e1,eq],by rw [length_cons,length_cons,e2]⟩
 obtain ⟨ns,e1,e2⟩:=key fun q m=>m
 refine ⟨ns,e1,e2,fun z m=>?_⟩
 have zm:(Sum.inl z:Key)∈kvs.map (·.1):=by rw [e1];exact mem_map.mpr ⟨z,m,rfl⟩
 cases c:B2 kvs (Sum.inl z:Key) with
 | none=>exact absurd zm (GK c)
 | some v =>
   obtain ⟨z',a,hs,eq,h1,_,h3⟩:=h.2 _ (Fp c)
   injection eq with eq1 eq2
   exact ⟨a,hs,by rw [eq2],h1,h3⟩
def OkT (n:Nat) (ts:List Int):Prop:=(∀x∈ts,0 < x/\x < 2 ^ n)/\ts.length<=12
theorem Fm:∀(n:Nat) {t:Int},0<=t->t < 2 ^ n->t=A4 n (bit t)
 | 0,t,h0,h1=>by
   have:(2:Int) ^ 0=1:=rfl
   show t=0
   omega
 | n+1,t,h0,h1=>by
   have e:(2:Int) ^ (n+1)=2 ^ n*2:=Int.pow_succ ..
   have ih:=Fm n (t:=t / 2) (by omega) (by omega)
   show t=(if bit t 0=true then 1 else 0)+2*A4 n (fun i=>bit t (i+1))
   rw [show A4 n (fun i=>bit t (i+1))=A4 n (bit (t / 2)) from AT n fun i _=>(E4 t i).symm,<- ih,Ez]
   by_cases c:t % 2=1
   ·rw [if_pos (decide_eq_true c)];omega
   ·rw [if_neg (by rw [decide_eq_false c];decide)];omega
theorem Pc (j:Nat):bit 0 j=false:=Hd (Int.le_refl _) (Int.pow_pos (by decide))
theorem K9:∀(n:Nat) (f:Nat->Bool) (k:Nat),k < n->f k=false->A4 n (fun i=>f i || decide (k=i))=A4 n f+2 ^ k
 | 0,_,_,h,_=>by omega
 | n+1,f,k,h,e=>by
   rw [CO,CO]
   by_cases c:k=n
   ·subst c
    rw [e,decide_eq_true rfl,if_pos (show (false || true)=true from rfl),if_neg (by decide)]
    rw [AT k (g:=f) fun i hi=>by rw [decide_eq_false (show ¬ k=i by omega),Bool.or_false]]
    omega
   ·rw [K9 n f k (by omega) e,decide_eq_false c,Bool.or_false]
    omega
def N3:Sp:=fun vs H Q _=>∃c h:Int,vs=[.int c,.int h]/\Sz 200 c/\1<=h/\h<=12/\∀(l:Addr) (ns:List Int) (H':Hp),Av H H'->H' l=some (.lst (ns.map V.int))->ns.Perm (ups h.toNat)->Q (.ref l) H'
theorem IV {a b c:List Int} {k:Nat} {y:Int} (h:b[k]?=some y) (p:(a++b).Perm c):(a++[y]++b.eraseIdx k).Perm c:=by
 rw [append_assoc]
 exact (List.Perm.append_left a (K3 h)).trans p
def Ky (ts:List Int):Prop:=ts.Pairwise fun a b=>∀j,¬ (bit a j=true/\bit b j=true)
theorem OE {h:Nat} {a:Int} (a0:0<=a) (a1:a < 2 ^ h) {j:Nat} (b:bit a j=true):j < h:=by
 rcases (by omega:j < h\/h<=j) with c | c
 ·exact c
 ·have:(2:Int) ^ h<=2 ^ j:=by
   have:=Nat.pow_le_pow_right (show 0 < 2 by decide) c
   exact_mod_cast this
  rw [Hd a0 (by omega)] at b
  cases b
theorem JZ:∀(n:Nat) (f g:Nat->Bool),(∀j,¬ (f j=true/\g j=true))->A4 n (fun j=>f j || g j)=A4 n f+A4 n g
 | 0,_,_,_=>rfl
 | n+1,f,g,h=>by
   show (if (f 0 || g 0)=true then (1:Int) else 0)+2*A4 n (fun i=>f (i+1) || g (i+1))=((if f 0=true then 1 else 0)+2*A4 n fun i=>f (i+1))+((if g 0=true then 1 else 0)+2*A4 n fun i=>g (i+1))
   rw [JZ n _ _ fun j=>h (j+1)]
   have:=h 0
   cases c:f 0 <;> cases d:g 0
   ·show (0:Int)+_=0+_+(0+_);omega
   ·show (1:Int)+_=0+_+(1+_);omega
   ·show (1:Int)+_=1+_+(0+_);omega
   ·exact absurd ⟨c,d⟩ this
theorem N5 {h:Nat} {a b:Int} (a0:0<=a) (a1:a < 2 ^ h) (b0:0<=b) (b1:b < 2 ^ h) (n:∀j,¬ (bit a j=true/\bit b j=true)):a+b < 2 ^ h/\∀j,bit (a+b) j=(bit a j || bit b j):=by
 have e:a+b=A4 h (fun j=>bit a j || bit b j):=by
  rw [JZ h _ _ n,<- Fm h a0 a1,<- Fm h b0 b1]
 refine ⟨by rw [e];exact G4 ..,fun j=>?_⟩
 rw [e,Cf]
 by_cases c:j < h
 ·rw [decide_eq_true c,Bool.true_and]
 ·rw [decide_eq_false c,Bool.false_and]
  cases x:bit a j with
  | true=>exact absurd (OE a0 a1 x) c
  | false =>
    cases y:bit b j with
    | true=>exact absurd (OE b0 b1 y) c
    | false=>rfl
def OkA (n:Nat) (ts:List Int):Prop:=OkT n ts/\Ky ts
def Gh (J:Hp) (kvs:List (Key × V)) (ρ:Int->Option Int):Prop:=∀(z:Int) (a:Addr) (hs:List Int),((Sum.inl z:Key),V.ref a)∈kvs->J a=some (.lst (hs.map V.int))->∀x∈hs,ρ x=some z
theorem JC {a b:List Int} (e:some (HO.lst (a.map V.int))=some (HO.lst (b.map V.int))):a=b:=by
 injection e with e
 injection e with e
 exact (map_inj_right (fun x y h=>by injection h)).mp e
theorem Gh.same {J J':Hp} {l:Addr} {n i:Nat} {w:Int} {kvs:List (Key × V)} {ρ:Int->Option Int} (s:Av J J') (td:Ce J l n i w kvs) (g:Gh J kvs ρ):Gh J' kvs ρ:=fun z a hs m e x xm=>by
 obtain ⟨z',a',hs',eq,h1,_,_⟩:=td.2 _ m
 injection eq with _ eq2
 injection eq2 with eq2
 rw [<- eq2] at h1
 have:=JC ((s _ _ h1).symm.trans e)
 exact g z a hs' m h1 x (by rw [this];exact xm)
theorem Gh.off {J:Hp} {l:Addr} {n i:Nat} {w:Int} {kvs:List (Key × V)} {ρ:Int->Option Int} {o:HO} (td:Ce J l n i w kvs) (g:Gh J kvs ρ):Gh (upd J l o) kvs ρ:=fun z a hs m e x xm=>by
 obtain ⟨z',a',hs',eq,h1,h2,_⟩:=td.2 _ m
 injection eq with _ eq2
 injection eq2 with eq2
 rw [<- eq2] at h2
 rw [Aj h2] at e
 exact g z a hs m e x xm
theorem Gh.put {J:Hp} {l d a:Addr} {n i:Nat} {w z:Int} {kvs ks:List (Key × V)} {hs:List Int} {ρ ρ':Int->Option Int} (td:Ce J l n i w kvs) (g:Gh J kvs ρ) (hd:J d=some (.dK ks)) (ha:J a=some (.lst (hs.map V.int))) (up:∀x y,ρ x=some y->ρ' x=some y) (new:∀x∈hs,ρ' x=some z):Gh (upd J d (.dK (C2 kvs (Sum.inl z) (.ref a)))) (C2 kvs (Sum.inl z) (.ref a)) ρ':=fun z' a' hs' m e x xm=>by
 rcases JQ m with m | m
 ·injection m with m1 m2
  injection m1 with m1
  injection m2 with m2
  rw [m2,Aj (DQ ha hd (fun z=>by cases z)),ha] at e
  rw [m1]
  exact new x (by rw [JC e];exact xm)
 ·obtain ⟨z2,a2,hs2,eq,h1,h2,_⟩:=td.2 _ m
  injection eq with _ eq2
  injection eq2 with eq2
  rw [<- eq2] at h1
  rw [Aj (DQ h1 hd (fun z=>by cases z))] at e
  exact up x z' (g z' a' hs' m e x xm)
theorem G7 (k j:Nat):bit ((2:Int) ^ k) j=decide (j=k):=by
 have e:=K9 (k+1) (fun _=>false) k (Nat.lt_succ_self _) rfl
 rw [FR (f:=fun _=>false) (fun _ _=>rfl),Int.zero_add] at e
 rw [<- e,Cf,Bool.false_or]
 by_cases c:j=k
 ·rw [decide_eq_true c,decide_eq_true c.symm,decide_eq_true (by omega)];rfl
 ·rw [decide_eq_false c,decide_eq_false (Ne.symm c),Bool.and_false]
theorem Hk {n:Nat}:∀{hs:List Int},hs.Pairwise (· < ·)->(∀h∈hs,0<=h/\h < (n:Int))->∀j:Nat,bit (C4 hs) j=decide ((j:Int)∈hs)
 | [],_,_,j=>Pc j
 | h :: hs,p,k,j=>by
   rw [pairwise_cons] at p
   obtain ⟨k1,k2⟩:=k h (mem_cons_self ..)
   have ih:=Hk p.2 fun x m=>k x (mem_cons_of_mem _ m)
   have b:=G9 (a:=0) p.2 (fun x m=>⟨(k x (mem_cons_of_mem _ m)).1,(k x (mem_cons_of_mem _ m)).2⟩) (Nat.zero_le n)
   have lt:(2:Int) ^ h.toNat < 2 ^ n:=by
    have:=Nat.pow_lt_pow_right (show 1 < 2 by decide) (show h.toNat < n by omega)
    exact_mod_cast this
   have e1:(2:Int) ^ 0=1:=rfl
   have a:=(N5 (h:=n) (a:=2 ^ h.toNat) (b:=C4 hs) (Int.le_of_lt (Int.pow_pos (by decide))) lt b.1 (by omega) fun i z=>by
    rw [G7,ih i] at z
    have z1:=of_decide_eq_true z.1
    have z2:=p.1 _ (of_decide_eq_true z.2)
    omega).2 j
   show bit (1*2 ^ h.toNat+C4 hs) j=_
   rw [Int.one_mul,a,G7,ih j]
   by_cases c:j=h.toNat
   ·rw [decide_eq_true c,Bool.true_or,decide_eq_true]
    exact mem_cons.mpr (.inl (by omega))
   ·rw [decide_eq_false c,Bool.false_or]
    refine decide_eq_decide.mpr ⟨fun m=>mem_cons_of_mem _ m,fun m=>?_⟩
    rcases mem_cons.mp m with m | m
    ·omega
    ·exact m
theorem JU {n:Nat} {ρ:Int->Option Int}:∀{ps:List (Int × List Int)},(ps.map (·.1)).Nodup->(∀p∈ps,p.2.Pairwise (· < ·)/\(∀h∈p.2,0<=h/\h < (n:Int))/\∀x∈p.2,ρ x=some p.1)->Ky (ps.map fun p=>C4 p.2):=fun {ps} nd k=>by
 unfold Ky
 rw [pairwise_map]
 have nd':ps.Pairwise fun a b=>a.1≠b.1:=pairwise_map.mp nd
 refine nd'.imp_of_mem fun {a b} am bm ne j z=>?_
 obtain ⟨a1,a2,a3⟩:=k a am
 obtain ⟨b1,b2,b3⟩:=k b bm
 rw [Hk a1 a2,Hk b1 b2] at z
 have e1:=a3 _ (of_decide_eq_true z.1)
 have e2:=b3 _ (of_decide_eq_true z.2)
 rw [e1] at e2
 exact ne (Option.some.inj e2)
theorem KD {l:List Int} {j:Nat} (nd:l.Nodup) (hj:j < l.length):(l.eraseIdx j).Nodup/\l[j] ∉ l.eraseIdx j:=by
 refine ⟨nd.sublist (eraseIdx_sublist ..),fun m=>?_⟩
 obtain ⟨i,hi,e,ne⟩:∃i,∃h:i < l.length,l[i]=l[j]/\i≠j:=by
  obtain ⟨i,ne,hi⟩:=mem_eraseIdx_iff_getElem?.mp m
  obtain ⟨h,e⟩:=List.getElem?_eq_some_iff.mp hi
  exact ⟨i,h,e,ne⟩
 exact ne ((getElem_inj nd).mp e)
def Oc:Sp:=fun vs H Q _=>∃(c:Int) (n:Nat),vs=[.int c,.int (n:Int)]/\Sz 200 c/\1<=n/\n<=12/\∀(t:Addr) (ts:List Int) (H':Hp),H t=none->Av H H'->H' t=some (.tup (ts.map V.int))->OkA n ts->Q (.ref t) H'
theorem DictOf.nil:DictOf [] []:=⟨⟨nodup_nil,fun _ m=>absurd m List.not_mem_nil⟩,fun _=>rfl⟩
theorem OR (a:List Int):HT.lexLt a a≠true:=fun e=>by
 have:=KI e
 rw [e] at this
 cases this
theorem NV {out:Ds} (h:out.Pairwise (fun x y=>HT.lexLt x.1 y.1=true)):(out.map (·.1)).Nodup:=pairwise_map.mpr (h.imp fun k e=>by rw [e] at k;exact OR _ k)
noncomputable def rkA (ts:List Int) (i:Nat):Int:=((ts.findIdx? fun t=>bit t i).map fun k=>((k+1:Nat):Int)).getD 0
theorem IO {ts:List Int} (ap:Ky ts) {k i:Nat} {t:Int} (hk:ts[k]?=some t):rkA ts i=((k+1:Nat):Int)↔bit t i=true:=by
 obtain ⟨kl,ke⟩:=List.getElem?_eq_some_iff.mp hk
 unfold rkA
 constructor
 ·intro e
  cases f:ts.findIdx? fun t=>bit t i with
  | none=>rw [f] at e;exact absurd e (by show (0:Int)≠_;omega)
  | some j =>
    rw [f] at e
    have e':((j+1:Nat):Int)=((k+1:Nat):Int):=e
    obtain ⟨jl,jb,_⟩:=List.findIdx?_eq_some_iff_getElem.mp f
    have:j=k:=by omega
    subst this
    rw [ke] at jb
    exact jb
 ·intro b
  have f:(ts.findIdx? fun t=>bit t i)=some k:=List.findIdx?_eq_some_iff_getElem.mpr ⟨kl,by rw [ke];exact b,fun j jk c=>by
   have:=pairwise_iff_getElem.mp ap j k (by omega) kl jk i
   rw [ke] at this
   exact this ⟨c,b⟩⟩
  rw [f]
  rfl
theorem Hj {ts:List Int} (l:ts.length<=12) (i:Nat):0<=rkA ts i/\rkA ts i<=12/\(0 < rkA ts i->∃k,k < ts.length/\rkA ts i=((k+1:Nat):Int)):=by
 unfold rkA
 cases f:ts.findIdx? fun t=>bit t i with
 | none=>exact ⟨Int.le_refl _,by show (0:Int)<=12;decide,fun z=>absurd z (Int.lt_irrefl _)⟩
 | some j =>
   obtain ⟨jl,_⟩:=List.findIdx?_eq_some_iff_getElem.mp f
   show 0<=((j+1:Nat):Int)/\((j+1:Nat):Int)<=12/\_
   exact ⟨by omega,by omega,fun _=>⟨j,jl,rfl⟩⟩
theorem JL {n:Nat} {ts:List Int} (ok:OkA n ts):ts=Dz ((List.range n).map (rkA ts)):=by
 obtain ⟨⟨pos,l12⟩,ap⟩:=ok
 have rl:((List.range n).map (rkA ts)).length=n:=by rw [length_map,length_range]
 have ra:∀{i:Nat},i < n->((List.range n).map (rkA ts))[i]?=some (rkA ts i):=fun hi=>by rw [List.getElem?_map,List.getElem?_range hi];rfl
 unfold Dz
 have key:((Lx ((List.range n).map (rkA ts))).filter fun r=>decide (0 < r))=(List.range ts.length).map fun k:Nat=>((k+1:Nat):Int):=by
  refine HU ((FH _).filter _) (pairwise_map.mpr ((pairwise_lt_range (n:=ts.length)).imp fun h=>by omega)) fun z=>?_
  rw [mem_filter,GB,decide_eq_true_eq,mem_map,mem_map]
  constructor
  ·rintro ⟨⟨i,_,rfl⟩,z0⟩
   obtain ⟨k,hk,e⟩:=(Hj l12 i).2.2 z0
   exact ⟨k,mem_range.mpr hk,e.symm⟩
  ·rintro ⟨k,mk,rfl⟩
   have hk:=mem_range.mp mk
   obtain ⟨t0,t1⟩:=pos ts[k] (getElem_mem hk)
   obtain ⟨i,hi,bi⟩:∃i,i < n/\bit ts[k] i=true:=Decidable.byContradiction fun no=>by
    have e:=Fm n (Int.le_of_lt t0) t1
    rw [FR (f:=bit ts[k]) fun i hi=>Bool.eq_false_iff.mpr fun b=>no ⟨i,hi,b⟩] at e
    omega
   exact ⟨⟨i,mem_range.mpr hi,(IO ap (List.getElem?_eq_getElem hk)).mpr bi⟩,by omega⟩
 rw [key]
 apply ext_getElem
 ·simp
 ·intro k h1 h2
  rw [getElem_map,getElem_map,getElem_range]
  obtain ⟨t0,t1⟩:=pos ts[k] (getElem_mem h1)
  rw [show ET ((List.range n).map (rkA ts)) ((k+1:Nat):Int)=A4 n (isR ((List.range n).map (rkA ts)) ((k+1:Nat):Int)) from by unfold ET;rw [rl]]
  rw [AT n fun i hi=>(show isR ((List.range n).map (rkA ts)) ((k+1:Nat):Int) i=bit ts[k] i from by
   unfold isR
   rw [ra hi]
   by_cases b:bit ts[k] i=true
   ·rw [b]
    exact decide_eq_true (by rw [(IO ap (List.getElem?_eq_getElem h1)).mpr b])
   ·rw [Bool.eq_false_iff.mpr b]
    exact decide_eq_false fun e=>b ((IO ap (List.getElem?_eq_getElem h1)).mp (Option.some.inj e)))]
  exact Fm n (Int.le_of_lt t0) t1
theorem Oq {n:Nat} {ts:List Int} (ok:OkA n ts):LX n ts:=⟨(List.range n).map (rkA ts),by rw [length_map,length_range],fun r m=>by
 obtain ⟨i,_,rfl⟩:=mem_map.mp m
 exact ⟨(Hj ok.1.2 i).1,Int.le_trans (Hj ok.1.2 i).2.1 (by decide)⟩,JL ok⟩
noncomputable def Lk (ds:Ds):Int:=(ds.map fun q=>if 0<=q.2 then q.2 else -q.2).sum
noncomputable def OG (ds:Ds) (x y:Nat):Int:=EF (Df x y) ds - EF (Df y x) ds
theorem GL (x y:Nat):∀ds:Ds,OG ds x y<=Lk ds/\-Lk ds<=OG ds x y
 | []=>⟨Int.le_refl _,Int.le_refl _⟩
 | q :: ds=>by
   obtain ⟨a,b⟩:=GL x y ds
   unfold OG Lk at *
   rw [FE,FE,map_cons,sum_cons]
   cases Df x y q.1 <;> cases Df y x q.1 <;> simp only [if_true,Bool.false_eq_true,if_false] <;> split <;> omega
theorem O1 {h:Nat} {L F L' F':Nat->Nat->Int} {ns pk:List Int} {z z' t:Int} (g:AO h L F) (g':AO h L' F') (t0:0<=t) (e:∀x y,x < h->y < h->L x y<=L' x y+2*t/\L' x y<=L x y+2*t) (a:MS F ns (BV h pk) z) (b:MS F' ns (BV h pk) z'):z'<=z+t/\z<=z'+t:=by
 have n1:∀{x y:Nat},x < h->y < h->y≠x->F x y<=F' x y+2*t:=fun hx hy ne=>g.near g' (fun x y hx hy=>(e x y hx hy).1) hx hy ne
 have n2:∀{x y:Nat},x < h->y < h->y≠x->F' x y<=F x y+2*t:=fun hx hy ne=>g'.near g (fun x y hx hy=>(e x y hx hy).2) hx hy ne
 refine ⟨a.near b fun p mp=>?_,b.near a fun p mp=>?_⟩
 ·obtain ⟨x,y,hx,hy,rfl,mx,my⟩:=E8.mp mp
  have xy:y≠x:=fun c=>my (by rw [c];exact mx)
  exact HN t0 (n2 hx hy xy) (n1 hy hx (Ne.symm xy))
 ·obtain ⟨x,y,hx,hy,rfl,mx,my⟩:=E8.mp mp
  have xy:y≠x:=fun c=>my (by rw [c];exact mx)
  exact HN t0 (n1 hx hy xy) (n2 hy hx (Ne.symm xy))
theorem LU {n:Nat} {H:Hp} {ls:Ls} (g:Cc H ls) (ok:∀q∈DP ls,OkA n q.1):DO n H ls:=fun q m=>⟨(g q m).1,(g q m).2,Oq (ok _ (mem_map.mpr ⟨q,m,rfl⟩))⟩
structure KO (n:Nat) (ds:Ds):Prop where
 srt:ds.Pairwise (fun x y=>HT.lexLt x.1 y.1=true)
 ok:∀q∈ds,OkA n q.1/\1<=q.2
 len:ds.length<=13
 pos:1<=ds.length
 few:∀q∈ds,q.2<=1000000000000
theorem HF {ds out:Ds} (h:Ih ds out):∀q∈out,q.1∈ds.map (·.1):=fun q m=>by
 have:=(h.mem q.1 q.2).mp m
 by_cases c:q.1∈ds.map (·.1)
 ·exact c
 ·rw [G6 c] at this
  omega
theorem Ng {ds out:Ds} {p:List (List Int)} (h:Ih ds out) (sub:∀q∈ds,q.1∈p):out.length<=p.length:=by
 have:=Er (p:=p) (NV h.srt) (fun t m=>by
  obtain ⟨q,qm,rfl⟩:=mem_map.mp m
  obtain ⟨d,dm,de⟩:=mem_map.mp (HF h q qm)
  rw [<- de]
  exact sub d dm)
 rwa [length_map] at this
theorem Ih.drawnP {n:Nat} {ds out:Ds} {p:List (List Int)} (h:Ih ds out) (po:Pos ds) (sub:∀q∈ds,q.1∈p) (ok:∀t∈p,OkA n t) (l13:p.length<=13) (ne:ds≠[]) (b:∀ts,tot ds ts<=1000000000000):KO n out:=by
 refine ⟨h.srt,fun q m=>?_,Nat.le_trans (Ng h sub) l13,?_,fun q m=>by have a:=(h.mem q.1 q.2).mp m;have c:=b q.1;omega⟩
 ·obtain ⟨d,dm,de⟩:=mem_map.mp (HF h q m)
  have a:=(h.mem q.1 q.2).mp m
  exact ⟨ok _ (by rw [<- de];exact sub d dm),by omega⟩
 ·obtain ⟨d,r,rfl⟩:=exists_cons_of_ne_nil ne
  have t:=Iy (ts:=d.1) po (by rw [map_cons];exact mem_cons_self ..)
  exact length_pos_of_mem ((h.mem d.1 _).mpr ⟨rfl,t⟩)
def Nj (K:PySem.W.Frag):Sp:=fun vs H Q _=>∃(p:Addr) (ns:List Int) (k:Int) (n m:Nat) (most:Int),vs=[.ref p,.int k,.int (n:Int),.int (m:Int),.int most]/\SqL K H p (ns.map V.int)/\ns.length<=63/\0<=k/\k<=100/\1<=n/\n<=12/\1<=m/\m<=12/\1<=most/\most<=10 ^ 9 /\
 ∀(l:Addr) (ls:Ls) (H':Hp),H l=none->Av H H'->H' l=some (.lst (vls ls))->Cc H' ls->KO n (DP ls)->Q (.ref l) H'
theorem GY:∀{hs:List Int},hs.Nodup->(∀h∈hs,0<=h)->Ky (hs.map fun h=>(1:Int)*2 ^ h.toNat)
 | [],_,_=>List.Pairwise.nil
 | h :: hs,nd,h0=>by
   rw [nodup_cons] at nd
   rw [map_cons]
   refine pairwise_cons.mpr ⟨fun t m j z=>?_,GY nd.2 fun x m=>h0 x (mem_cons_of_mem _ m)⟩
   obtain ⟨g,gm,rfl⟩:=mem_map.mp m
   rw [Int.one_mul,Int.one_mul,G7,G7] at z
   have a:=of_decide_eq_true z.1
   have b:=of_decide_eq_true z.2
   have c:=h0 h (mem_cons_self ..)
   have d:=h0 g (mem_cons_of_mem _ gm)
   exact nd.1 (by rw [show h=g by omega];exact gm)
theorem OO {n:Nat} {hs:List Int} (n12:n<=12) (pm:hs.Perm (ups n)):OkA n (hs.map fun h=>(1:Int)*2 ^ h.toNat):=by
 have inn:∀h∈hs,0<=h/\h < (n:Int):=fun h m=>by
  obtain ⟨i,im,rfl⟩:=mem_map.mp (pm.mem_iff.mp m)
  have:=mem_range.mp im
  omega
 refine ⟨⟨fun x m=>?_,?_⟩,GY (pm.nodup_iff.mpr (Ld n)) fun h m=>(inn h m).1⟩
 ·obtain ⟨h,hm,rfl⟩:=mem_map.mp m
  rw [Int.one_mul]
  refine ⟨Int.pow_pos (by decide),?_⟩
  have:=Nat.pow_lt_pow_right (show 1 < 2 by decide) (show h.toNat < n by have:=inn h hm;omega)
  exact_mod_cast this
 ·rw [length_map,pm.length_eq]
  unfold ups
  rw [length_map,length_range]
  exact n12
noncomputable def QK (K:PySem.W.Frag):Sp:=fun vs H Q _=>∃(p:Addr) (xs:List Int),vs=[.ref p]/\SqL K H p (xs.map V.int)/\xs.length<=63/\∀(t lo l:Addr) (n s:Nat) (os:List Int) (ls:Ls) (H':Hp),Av H H'->H' t=some (.tup [.int (n:Int),.int (s:Int),.ref lo,.ref l])->H' lo=some (.lst (os.map V.int))->os.Perm (ups n)->H' l=some (.lst (vls ls))->Cc H' ls->KO n (DP ls)->2<=n->n<=6->1<=s->s < n->Q (.ref t) H'
theorem Pr:∀n x y:Fin 7,x.val < n.val->y.val < n.val->x≠y->0<=(2:Int) ^ n.val - 1 - 2 ^ x.val - 2 ^ y.val/\(2:Int) ^ n.val - 1 - 2 ^ x.val - 2 ^ y.val < 2 ^ n.val/\bit ((2:Int) ^ n.val - 1 - 2 ^ x.val - 2 ^ y.val) y.val=false:=by decide +kernel
theorem R0 {m:Int} (h0:0<=m) (h6:m < 6):∃v:Nat,atI [V.int 2,V.int 3,V.int 4,V.int 3,V.int 5,V.int 6] m=some (.int (v:Int))/\2<=v/\v<=6:=by
 rcases (by omega:m=0\/m=1\/m=2\/m=3\/m=4\/m=5) with rfl | rfl | rfl | rfl | rfl | rfl
 ·exact ⟨2,rfl,by decide,by decide⟩
 ·exact ⟨3,rfl,by decide,by decide⟩
 ·exact ⟨4,rfl,by decide,by decide⟩
 ·exact ⟨3,rfl,by decide,by decide⟩
 ·exact ⟨5,rfl,by decide,by decide⟩
 ·exact ⟨6,rfl,by decide,by decide⟩
theorem Rn {m:Int} (h0:0<=m) (h2:m < 2):∃v:Int,atI [V.int 12,V.int ((10:Int) ^ (9:Int).toNat)] m=some (.int v)/\1<=v/\v<=10 ^ 9:=by
 rcases (by omega:m=0\/m=1) with rfl | rfl
 ·exact ⟨12,rfl,by decide,by decide⟩
 ·exact ⟨_,rfl,by decide,by decide⟩
theorem Mn {h s:Nat} {L F L' F':Nat->Nat->Int} {ns:List Int} (g:AO h L F) (g':AO h L' F') (sub:∀w∈ns,∃i:Nat,i < h/\w=(i:Int)) (e:∀x y,x < h->y < h->L x y<=L' x y+0/\L' x y<=L x y+0):BV h (Ay F' s ns)=BV h (Ay F s ns):=by
 have n1:∀{x y:Nat},x < h->y < h->y≠x->F x y<=F' x y+0:=fun hx hy ne=>g.near g' (fun x y hx hy=>(e x y hx hy).1) hx hy ne
 have n2:∀{x y:Nat},x < h->y < h->y≠x->F' x y<=F x y+0:=fun hx hy ne=>g'.near g (fun x y hx hy=>(e x y hx hy).2) hx hy ne
 rw [Fc (h:=h) (F:=F) (F':=F') (fun x y hx hy=>?_) s ns sub fun l k=>?_]
 ·by_cases c:y=x
  ·subst c;omega
  ·have:=n1 hx hy c;have:=n2 hx hy c;have:=n1 hy hx (Ne.symm c);have:=n2 hy hx (Ne.symm c);omega
 ·by_cases n:l=[]
  ·exact .inr n
  ·exact .inl (Kp g n fun z m=>sub z (k z m)).1
noncomputable def fwB (G:Nat->Nat->Int) (b u v:Nat):Int:=if u≠v/\u≠b/\v≠b then max (G u v) (min (G u b) (G b v)) else G u v
noncomputable def fwN (L:Nat->Nat->Int):Nat->Nat->Nat->Int
 | 0=>L
 | b+1=>fwB (fwN L b) b
theorem Qg (G:Nat->Nat->Int) (b u v:Nat):G u v<=fwB G b u v:=by
 unfold fwB
 split <;> omega
theorem Lf (L:Nat->Nat->Int):∀b u v,L u v<=fwN L b u v
 | 0,_,_=>Int.le_refl _
 | b+1,u,v=>Int.le_trans (Lf L b u v) (Qg _ b u v)
theorem Eg {G:Nat->Nat->Int} {b u v:Nat} {k:Int}:k<=fwB G b u v↔k<=G u v\/((u≠v/\u≠b/\v≠b)/\k<=G u b/\k<=G b v):=by
 unfold fwB
 by_cases c:u≠v/\u≠b/\v≠b
 ·rw [if_pos c]
  constructor
  ·intro h
   by_cases d:k<=G u v
   ·exact .inl d
   ·exact .inr ⟨c,by omega,by omega⟩
  ·rintro (h | ⟨_,h1,h2⟩) <;> omega
 ·rw [if_neg c]
  exact ⟨.inl,fun h=>h.elim id fun z=>absurd z.1 c⟩
theorem Oe (L:Nat->Nat->Int):∀b d u v k,d < b->u≠v->u≠d->v≠d->k<=fwN L b u d->k<=fwN L b d v->k<=fwN L b u v
 | 0,d,_,_,_,h,_,_,_,_,_=>absurd h (Nat.not_lt_zero d)
 | b+1,d,u,v,k,h,uv,ud,vd,h1,h2=>by
   have ih:=Oe L b
   have h1:k<=fwB (fwN L b) b u d:=h1
   have h2:k<=fwB (fwN L b) b d v:=h2
   show k<=fwB (fwN L b) b u v
   generalize fwN L b=G at ih h1 h2 ⊢
   by_cases e:d=b
   ·subst e
    have a:=(Eg.mp h1).elim id fun z=>absurd rfl z.1.2.2
    have c:=(Eg.mp h2).elim id fun z=>absurd rfl z.1.2.1
    exact Eg.mpr (.inr ⟨⟨uv,ud,vd⟩,a,c⟩)
   ·have db:d < b:=Nat.lt_of_le_of_ne (Nat.le_of_lt_succ h) e
    rcases Eg.mp h1 with a | ⟨⟨_,a1,_⟩,a2,a3⟩
    ·rcases Eg.mp h2 with c | ⟨⟨_,_,c1⟩,c2,c3⟩
     ·exact Eg.mpr (.inl (ih d u v k db uv ud vd a c))
     ·by_cases ub:u=b
      ·rw [ub]
       exact Eg.mpr (.inl c3)
      ·exact Eg.mpr (.inr ⟨⟨uv,ub,c1⟩,ih d u b k db ub ud (Ne.symm e) a c2,c3⟩)
    ·rcases Eg.mp h2 with c | ⟨⟨_,_,c1⟩,c2,c3⟩
     ·by_cases vb:v=b
      ·rw [vb]
       exact Eg.mpr (.inl a2)
      ·exact Eg.mpr (.inr ⟨⟨uv,a1,vb⟩,a2,ih d b v k db (Ne.symm vb) (Ne.symm e) vd a3 c⟩)
     ·exact Eg.mpr (.inr ⟨⟨uv,a1,c1⟩,a2,c3⟩)
theorem PP {h:Nat} {L F:Nat->Nat->Int} (g:AO h L F) {x y:Nat} (hx:x < h) (hy:y < h) (ne:y≠x):fwN L h x y=F x y:=by
 have up:∀b,b<=h->∀u v,u < h->v < h->v≠u->fwN L b u v<=F u v:=by
  intro b
  induction b with
  | zero=>exact fun _ u v hu hv n=>g.low hu hv n
  | succ b ih =>
    intro hb u v hu hv n
    have ih:=ih (by omega)
    show fwB (fwN L b) b u v<=F u v
    unfold fwB
    split
    ·rename_i c
     have a:=ih u v hu hv n
     have p:=ih u b hu (by omega) (Ne.symm c.2.1)
     have q:=ih b v (by omega) hv c.2.2
     have t:=g.tri hu (show b < h by omega) hv (Ne.symm c.2.1) n c.2.2
     omega
    ·exact ih u v hu hv n
 refine Int.le_antisymm (up h (Nat.le_refl _) x y hx hy ne) ?_
 obtain ⟨bf,r⟩:=g x hx
 obtain ⟨rk,par⟩:=r.par
 have key:∀n w,rk w<=n->w < h->w≠x->F x w<=fwN L h x w:=by
  intro n
  induction n with
  | zero =>
    intro w rn hw wx
    obtain ⟨p,_,_,p1,_⟩:=par w hw wx
    omega
  | succ n ih =>
    intro w rn hw wx
    obtain ⟨p,hp,_,p1,p2,p3⟩:=par w hw wx
    rw [B9 (F x) hw] at p2 p3
    by_cases d:p=x
    ·rw [p2 d]
     exact Lf L h x w
    ·have q:=p3 d
     rw [B9 (F x) hp] at q
     rw [q]
     have a:=ih p (by omega) hp d
     have c:=Lf L h p w
     exact Oe L h p x w _ hp (Ne.symm wx) (Ne.symm d) (fun e=>by rw [e] at p1;exact Nat.lt_irrefl _ p1) (by omega) (by omega)
 exact key (rk y) y (Nat.le_refl _) hy ne
noncomputable def A6 (ts:List Int) (i:Nat):Nat:=(ts.findIdx? fun t=>bit t i).getD ts.length
theorem Jw (ts:List Int) (i:Nat):A6 ts i<=ts.length:=by
 unfold A6
 cases f:ts.findIdx? fun t=>bit t i with
 | none=>exact Nat.le_refl _
 | some k =>
   obtain ⟨kl,_⟩:=List.findIdx?_eq_some_iff_getElem.mp f
   exact Nat.le_of_lt kl
theorem NG {n:Nat} {ts:List Int} (ok:OkA n ts):∃rs:List Int,rs.length=n/\(∀r∈rs,0<=r/\r<=1000)/\ts=Dz rs/\∀i,i < n->rs.getD i 0=rkA ts i :=
 ⟨(List.range n).map (rkA ts),by rw [length_map,length_range],fun r m=>by
   obtain ⟨i,_,rfl⟩:=mem_map.mp m
   exact ⟨(Hj ok.1.2 i).1,Int.le_trans (Hj ok.1.2 i).2.1 (by decide)⟩,JL ok,fun i hi=>by rw [getD_eq_getElem?_getD,List.getElem?_map,List.getElem?_range hi];rfl⟩
theorem Js {n:Nat} {ts:List Int} (ok:OkA n ts) {x y:Nat} (hx:x < n) (hy:y < n):Df x y ts=decide (A6 ts x < A6 ts y):=by
 obtain ⟨rs,rl,hR,e,ra⟩:∃rs:List Int,rs.length=n/\(∀r∈rs,0<=r/\r<=1000)/\ts=Dz rs/\∀i,i < n->rs.getD i 0=rkA ts i:=NG ok
 unfold Df
 rw [e,FZ hR (by omega) (by omega),<- e]
 have pl:∀i,i < n->Ec rs i=if A6 ts i < ts.length then ((A6 ts i+1:Nat):Int) else 1000000000:=fun i hi=>by
  unfold Ec
  rw [ra i hi]
  unfold rkA A6
  cases f:ts.findIdx? fun t=>bit t i with
  | none =>
    show (1000000000:Int)=if ts.length < ts.length then _ else 1000000000
    rw [if_neg (Nat.lt_irrefl _)]
  | some k =>
    obtain ⟨kl,_⟩:=List.findIdx?_eq_some_iff_getElem.mp f
    show (if ((k+1:Nat):Int)=0 then (1000000000:Int) else ((k+1:Nat):Int))=if k < ts.length then ((k+1:Nat):Int) else 1000000000
    rw [if_pos kl,if_neg (by omega)]
 have l12:=ok.1.2
 have px:A6 ts x<=ts.length:=Jw ts x
 have py:A6 ts y<=ts.length:=Jw ts y
 have key:(Ec rs x < Ec rs y)↔A6 ts x < A6 ts y:=by
  rw [pl x hx,pl y hy]
  by_cases c1:A6 ts x < ts.length
  ·rw [if_pos c1]
   by_cases c2:A6 ts y < ts.length
   ·rw [if_pos c2];omega
   ·rw [if_neg c2];omega
  ·rw [if_neg c1]
   by_cases c2:A6 ts y < ts.length
   ·rw [if_pos c2];omega
   ·rw [if_neg c2];omega
 by_cases c:A6 ts x < A6 ts y
 ·rw [if_pos (key.mpr c),decide_eq_true c];rfl
 ·rw [if_neg (fun z=>c (key.mp z)),decide_eq_false c];rfl
theorem KK {most:Int} {ts:List Int}:∀{ds:Ds},(∀q∈ds,1<=q.2/\q.2<=most)->0<=most->tot ds ts<=(ds.length:Int)*most
 | [],_,m=>by show (0:Int)<=0*most;omega
 | q :: r,h,m=>by
   have h1:=h q (mem_cons_self ..)
   have h2:=KK (ts:=ts) (fun p k=>h p (mem_cons_of_mem _ k)) m
   show (if q.1=ts then q.2 else 0)+tot r ts<=((r.length+1:Nat):Int)*most
   rw [show ((r.length+1:Nat):Int)*most=(r.length:Int)*most+most from by rw [Int.natCast_add,Int.add_mul];omega]
   split <;> omega
def Jy:Sp:=fun vs H Q _=>∃(l:Addr) (h:Nat) (ls:Ls),vs=[.ref l]/\H l=some (.lst (vls ls))/\DO h H ls/\ls.length<=60/\∀H':Hp,Av H H'->Q (.int ((ls.map fun q=>q.2.2.2).sum)) H'
noncomputable def L9 (M C:Addr):Sp:=fun vs H Q _=>∃(g a l:Addr) (h s:Nat) (ns:List Int) (ls:Ls),vs=[.ref g,.ref l]/\IsM M H g a/\Dh C H a h s ns/\H l=some (.lst (vls ls))/\DO h H ls/\ls.length<=60/\∀H':Hp,Av H H'->Q (.bl (decide (0 < (ls.map fun q=>q.2.2.2).sum) && decide (s < h))) H'
theorem Ba.setv {H:Hp} {as:List Addr} {h:Nat} {F:Nat->Nat->Int} (g:Ba H as h F) {x y:Nat} {a:Addr} (ha:as[x]?=some a) (v:Int):Ba (upd H a (.lst ((((List.range h).map fun y=>F x y).map V.int).set y (.int v)))) as h (EZ F x y (v - F x y)):=by
 have:=g.put (y:=y) ha (v - F x y)
 rwa [show F x y+(v - F x y)=v by omega] at this
def M9:Sp:=fun vs H Q _=>∃(t:Addr) (ts:List Int) (i:Nat),vs=[.ref t,.int (i:Int)]/\H t=some (.tup (ts.map V.int))/\ts.length<=12/\i < 64/\Q (.int (A6 ts i:Nat)) H
theorem KP {ts:List Int} {i k:Nat} {t:Int} (hk:ts[k]?=some t) (b:bit t i=true) (no:∀j u,j < k->ts[j]?=some u->bit u i=false):A6 ts i=k:=by
 obtain ⟨kl,ke⟩:=List.getElem?_eq_some_iff.mp hk
 unfold A6
 rw [show (ts.findIdx? fun t=>bit t i)=some k from List.findIdx?_eq_some_iff_getElem.mpr ⟨kl,by rw [ke];exact b,fun j jk c=>by
  have:=no j ts[j] jk (List.getElem?_eq_getElem (by omega))
  rw [this] at c
  cases c⟩]
 rfl
theorem MM {ts:List Int} {i:Nat} (no:∀j u,j < ts.length->ts[j]?=some u->bit u i=false):A6 ts i=ts.length:=by
 unfold A6
 rw [show (ts.findIdx? fun t=>bit t i)=none from List.findIdx?_eq_none_iff.mpr fun x m=>by
  obtain ⟨j,hj⟩:=List.getElem?_of_mem m
  exact no j x (List.getElem?_eq_some_iff.mp hj).1 hj]
 rfl
def M7:Sp:=fun vs H Q _=>∃(l:Addr) (ls:Ls) (h:Nat),vs=[.ref l,.int (h:Int)]/\H l=some (.lst (vls ls))/\Cc H ls/\(∀q∈DP ls,OkA h q.1)/\ls.length<=60/\1<=h/\h<=12/\∀(b:Addr) (as:List Addr) (H':Hp),Av H H'->H' b=some (.lst (as.map V.ref))->Ba H' as h (AZ ls)->Q (.ref b) H'
def RQ:Sp:=fun vs H Q _=>∃(a:Addr) (as:List Addr) (h:Nat) (L:Nat->Nat->Int),vs=[.ref a]/\H a=some (.lst (as.map V.ref))/\Ba H as h L/\h<=12/\∀(b:Addr) (bs:List Addr) (H':Hp),Av H H'->H' b=some (.lst (bs.map V.ref))->Ba H' bs h (fwN L h)->Q (.ref b) H'
noncomputable def prB (x j u v:Nat):Bool:=decide (u < x) || (decide (u=x) && decide (v < j))
noncomputable def adB (pl:Nat->Nat) (n:Int) (x j u v:Nat):Int:=if (prB x j u v && decide (pl u < pl v))=true then n else 0
noncomputable def lnB (pl:Nat->Nat) (n:Int) (x j u v:Nat):Int:=adB pl n x j u v - adB pl n x j v u
theorem JH (x y u v:Nat):prB x (y+1) u v=(prB x y u v || (decide (u=x) && decide (v=y))):=by
 unfold prB
 by_cases a:u < x
 ·rw [decide_eq_true a];rfl
 ·rw [decide_eq_false a,Bool.false_or,Bool.false_or]
  by_cases b:u=x
  ·rw [decide_eq_true b,Bool.true_and,Bool.true_and,Bool.true_and]
   by_cases c:v < y
   ·rw [decide_eq_true c,decide_eq_true (by omega)];rfl
   ·by_cases d:v=y
    ·rw [decide_eq_true d,decide_eq_true (by omega),Bool.or_true]
    ·rw [decide_eq_false c,decide_eq_false d,decide_eq_false (by omega)];rfl
  ·rw [decide_eq_false b];rfl
theorem JK (pl:Nat->Nat) (n:Int) (x y u v:Nat):adB pl n x (y+1) u v=adB pl n x y u v+if u=x/\v=y/\pl x < pl y then n else 0:=by
 unfold adB
 rw [JH]
 by_cases b:u=x/\v=y
 ·obtain ⟨rfl,rfl⟩:=b
  have p:prB u v u v=false:=by unfold prB;rw [decide_eq_false (Nat.lt_irrefl u),decide_eq_false (Nat.lt_irrefl v)];simp
  rw [p]
  by_cases c:pl u < pl v
  ·rw [if_pos (by simp [c]),if_neg (by simp),if_pos ⟨rfl,rfl,c⟩];omega
  ·rw [if_neg (by simp [c]),if_neg (by simp),if_neg (fun z=>c z.2.2)];omega
 ·have e:(decide (u=x) && decide (v=y))=false:=by
   rw [Bool.and_eq_false_iff]
   by_cases k:u=x
   ·exact .inr (decide_eq_false fun z=>b ⟨k,z⟩)
   ·exact .inl (decide_eq_false k)
  rw [e,Bool.or_false,if_neg (show ¬ (u=x/\v=y/\pl x < pl y) from fun z=>b ⟨z.1,z.2.1⟩)]
  omega
theorem Kq (pl:Nat->Nat) (n:Int) (x y u v:Nat):lnB pl n x (y+1) u v=lnB pl n x y u v+(if u=x/\v=y/\pl x < pl y then n else 0) - (if v=x/\u=y/\pl x < pl y then n else 0):=by
 unfold lnB
 rw [JK,JK]
 omega
theorem Jg (x h u v:Nat) (hv:v < h):prB x h u v=prB (x+1) 0 u v:=by
 unfold prB
 rw [decide_eq_true hv,Bool.and_true,decide_eq_false (Nat.not_lt_zero v),Bool.and_false,Bool.or_false]
 by_cases a:u < x
 ·rw [decide_eq_true a,decide_eq_true (show u < x+1 by omega)];rfl
 ·by_cases b:u=x
  ·rw [decide_eq_true b,Bool.or_true,decide_eq_true (show u < x+1 by omega)]
  ·rw [decide_eq_false a,decide_eq_false b,decide_eq_false (show ¬ u < x+1 by omega)];rfl
theorem PH (pl:Nat->Nat) (n:Int) (x h u v:Nat) (hu:u < h) (hv:v < h):lnB pl n x h u v=lnB pl n (x+1) 0 u v:=by
 unfold lnB adB
 rw [Jg x h u v hv,Jg x h v u hu]
theorem O7 (pl:Nat->Nat) (n:Int) (u v:Nat):lnB pl n 0 0 u v=0:=by
 unfold lnB adB prB
 simp
theorem Pd (pl:Nat->Nat) (n:Int) (h u v:Nat) (hu:u < h) (hv:v < h):lnB pl n h 0 u v=(if pl u < pl v then n else 0) - (if pl v < pl u then n else 0):=by
 unfold lnB adB prB
 rw [decide_eq_true hu,decide_eq_true hv]
 simp
noncomputable def fwP (G:Nat->Nat->Int) (b x j u v:Nat):Int:=if prB x j u v=true then fwB G b u v else G u v
theorem Ka (G:Nat->Nat->Int) (b x y u v:Nat):fwP G b x (y+1) u v=fwP G b x y u v+if u=x/\v=y then fwB G b x y - G x y else 0:=by
 unfold fwP
 rw [JH]
 by_cases d:u=x/\v=y
 ·obtain ⟨rfl,rfl⟩:=d
  have p:prB u v u v=false:=by unfold prB;rw [decide_eq_false (Nat.lt_irrefl u),decide_eq_false (Nat.lt_irrefl v)];simp
  rw [p]
  simp only [Bool.false_or,decide_true,Bool.and_self,if_true,Bool.false_eq_true,if_false,and_self]
  omega
 ·have e:(decide (u=x) && decide (v=y))=false:=by
   rw [Bool.and_eq_false_iff]
   by_cases k:u=x
   ·exact .inr (decide_eq_false fun z=>d ⟨k,z⟩)
   ·exact .inl (decide_eq_false k)
  rw [e,Bool.or_false,if_neg d]
  omega
theorem OT (G:Nat->Nat->Int) (b x h u v:Nat) (hv:v < h):fwP G b x h u v=fwP G b (x+1) 0 u v:=by
 unfold fwP
 rw [Jg x h u v hv]
theorem On (G:Nat->Nat->Int) (b u v:Nat):fwP G b 0 0 u v=G u v:=by
 unfold fwP prB
 simp
theorem OM (G:Nat->Nat->Int) (b h u v:Nat) (hu:u < h):fwP G b h 0 u v=fwB G b u v:=by
 unfold fwP prB
 rw [decide_eq_true hu,if_pos (by simp)]
theorem JY (G:Nat->Nat->Int) (b x j u v:Nat) (e:fwB G b u v=G u v):fwP G b x j u v=G u v:=by
 unfold fwP
 rw [e]
 split <;> rfl
def Lay (k:Nat) (d:PyData):Prop:=d.canLay0=true/\d.depth<=k
mutual
theorem Om:∀d:PyData,d.canLay0=true->PyData.eqv d d=true
 | .none,_=>rfl
 | .bool b,_=>by show (b == b)=true;exact beq_self_eq_true b
 | .int i,_=>by show (i == i)=true;exact beq_self_eq_true i
 | .str x,_=>by show (x == x)=true;exact beq_self_eq_true x
 | .list xs,h=>eqv_mes xs h
 | .tuple xs,h=>eqv_mes xs h
 | .dict _,h=>nomatch h
theorem eqv_mes:∀xs:List PyData,PyData.canLayAll0 xs=true->PyData.eqvAll xs xs=true
 | [],_=>rfl
 | x :: xs,h=>by
   have h':(PyData.canLay0 x && PyData.canLayAll0 xs)=true:=h
   rw [Bool.and_eq_true] at h'
   show (PyData.eqv x x && PyData.eqvAll xs xs)=true
   rw [Om x h'.1,eqv_mes xs h'.2]
   rfl
end
theorem EW {k:Nat}:∀{xs:List PyData},(∀x∈xs,Lay k x)->PyData.canLayAll0 xs=true/\PyData.depthAll xs<=k
 | [],_=>⟨rfl,Nat.zero_le _⟩
 | x :: xs,h=>by
   obtain ⟨a,b⟩:=EW (xs:=xs) fun y m=>h y (mem_cons_of_mem _ m)
   obtain ⟨c,d⟩:=h x (mem_cons_self ..)
   refine ⟨?_,?_⟩
   ·show (PyData.canLay0 x && PyData.canLayAll0 xs)=true
    rw [a,c];rfl
   ·show max (PyData.depth x) (PyData.depthAll xs)<=k
    omega
theorem GR {k:Nat} {xs:List PyData} (h:∀x∈xs,Lay k x):Lay (k+1) (.list xs):=⟨(EW h).1,Nat.succ_le_succ (EW h).2⟩
theorem IB {k:Nat} {xs:List PyData} (h:∀x∈xs,Lay k x):Lay (k+1) (.tuple xs):=⟨(EW h).1,Nat.succ_le_succ (EW h).2⟩
theorem EA (k:Nat) (i:Int):Lay k (.int i):=⟨rfl,Nat.zero_le _⟩
theorem Iz {α:Type} {k:Nat} {f:α->PyData} (h:∀x,Lay k (f x)) (xs:List α):∀d∈xs.map f,Lay k d:=fun d m=>by
 obtain ⟨x,_,rfl⟩:=mem_map.mp m
 exact h x
theorem lay_ints (k:Nat) (ns:List Int):∀d∈ns.map PyData.int,Lay k d:=Iz (fun i=>EA k i) ns
theorem Ol {k:Nat} {a b:PyData} (ha:Lay k a) (hb:Lay k b):Lay (k+1) (.tuple [a,b]):=IB fun x m=>by
 rcases mem_cons.mp m with rfl | m
 ·exact ha
 ·rw [mem_singleton.mp m];exact hb
theorem Lay.shaped {k:Nat} {d:PyData} (h:Lay k d) (k64:k<=64):SeqAt.shaped d=true:=by
 unfold SeqAt.shaped
 rw [h.1,decide_eq_true (Nat.le_trans h.2 k64)]
 rfl
theorem Lay.eqv {k:Nat} {d:PyData} (h:Lay k d):PyData.eqv d d=true:=Om d h.1
theorem GC {α:Type} {K:PySem.W.Frag} {H:Hp} {v:α->V} {d:α->PyData}:∀{xs:List α},(∀x∈xs,Rep K H (v x) (d x))->Reps K H (xs.map v) (xs.map d)
 | [],_=>.nil
 | x :: xs,h=>.cons (h x (mem_cons_self ..)) (GC fun y m=>h y (mem_cons_of_mem _ m))
noncomputable def lnD (q:Addr × Addr × List Int × Int):PyData:=.tuple [.tuple (q.2.2.1.map .int),.int q.2.2.2]
theorem Qu (q:Addr × Addr × List Int × Int):Lay 2 (lnD q):=Ol (IB (lay_ints 0 _)) (EA 1 _)
theorem Ir (ls:Ls):Lay 3 (.list (ls.map lnD)):=GR (Iz Qu ls)
theorem Pf {K:PySem.W.Frag} {H:Hp} {ls:Ls} (g:Cc H ls):Reps K H (vls ls) (ls.map lnD):=GC fun q m=>.tup (SqT.of (g q m).1) (.cons (.tup (SqT.of (g q m).2) (.ints _)) (.cons (.int _) .nil))
noncomputable def JR (m f s:Int) (ah:Bool):Bool:=decide (f - 2*m < s+2*m) || (ah && decide (s+2*m=f - 2*m))
def QE:Sp:=fun vs H Q _=>∃(m f s:Int) (ah:Bool),vs=[.int m,.int f,.int s,.bl ah]/\Sz 64 m/\Q (.bl (JR m f s ah)) H
def P8:Sp:=fun vs H Q _=>∃(m f s:Int) (ah:Bool),vs=[.int m,.int f,.int s,.bl ah]/\Sz 60 m/\1<=m/\JR m f s ah=true/\(m=1\/JR (m - 1) f s ah=false)/\Q (.bl true) H
def M0 (M C:Addr):Sp:=fun vs H Q _=>∃(g a:Addr) (h s x y:Nat) (ns:List Int),vs=[.ref g,.int (x:Int),.int (y:Int)]/\IsM M H g a/\IsP C H a h s ns/\h<=6/\x < h/\y < h/\x≠y /\
 ∀(t:Addr) (H':Hp),Av H H'->H' t=some (.tup ((if (2:Int) ^ h - 1 - 2 ^ x - 2 ^ y=0 then [(2:Int) ^ y] else [(2:Int) ^ y,2 ^ h - 1 - 2 ^ x - 2 ^ y]).map V.int))->Q (.ref t) H'
theorem Mu:∀n x y:Fin 7,x.val < n.val->y.val < n.val->x≠y->Builtin.bitAnd (Builtin.bitAnd ((1:Int)*2 ^ n.val - 1) (Builtin.bitNot (1*2 ^ x.val))) (Builtin.bitNot (1*2 ^ y.val))=(2:Int) ^ n.val - 1 - 2 ^ x.val - 2 ^ y.val:=by decide +kernel
theorem Qk:∀y:Fin 7,Builtin.bitOr 0 ((1:Int)*2 ^ y.val)=(2:Int) ^ y.val:=by decide +kernel
def Jl (M C:Addr):Sp:=fun vs H Q _=>∃(g a:Addr) (h s:Nat) (ns:List Int),vs=[.ref g,.int (h:Int)]/\IsM M H g a/\IsP C H a h s ns/\2<=h/\h<=6/\∀H':Hp,Av H H'->Q (.bl true) H'
theorem IsP.same81 {C:Addr} {H H':Hp} {a:Addr} {h s:Nat} {xs:List Int} (e:Av H H') (m:IsP C H a h s xs):IsP C H' a h s xs:=let ⟨dx,l,k1,k2⟩:=m;⟨dx,l,e _ _ k1,e _ _ k2⟩
theorem Hg (m:Int) (h:Int):decide (V.int (Builtin.bitAnd (m / 2 ^ h.toNat) 1)=V.int 0)=!bit m h.toNat:=by
 rw [Rq,LO]
 cases bit m h.toNat <;> rfl
noncomputable def QA:Sp:=fun vs H Q _=>∃(a:Addr) (as:List Addr) (h x y:Nat) (L:Nat->Nat->Int) (v:Int) (g:Nat->Bool),vs=[.int (A4 h g),.ref a,.int (x:Int),.int (y:Int),.int v]/\H a=some (.lst (as.map V.ref))/\Ba H as h L/\1<=h/\h<=12/\x < h/\y < h/\g x=false/\g y=true/\(∀i j,i < h->j < h->g i=true->g j=false->L i j<=v)/\(∃i j,i < h/\j < h/\g i=true/\g j=false/\L i j=v)/\Q (.bl true) H
theorem IL {ws:List Nat} {k:Nat} (h:k < ws.length):atI ((Bx ws).map V.int) (k:Int)=some (.int ((ws.getD k 0:Nat):Int)):=by
 refine atN ?_
 unfold Bx
 rw [List.getElem?_map,List.getElem?_eq_getElem h,getD_eq_getElem?_getD,List.getElem?_eq_getElem h]
 rfl
theorem Fq (ws:List Nat):(Bx ws).length=ws.length:=by unfold Bx;rw [length_map]
theorem MR {ws:List Nat} {y:Nat} (h:ws.getLast?=some y):atI ((Bx ws).map V.int) (-1)=some (.int (y:Int)):=by
 have hp:0 < ws.length:=by
  cases ws with
  | nil=>cases h
  | cons a r=>rw [length_cons];omega
 have:atI ((Bx ws).map V.int) (-1)=((Bx ws).map V.int)[ws.length - 1]?:=by
  unfold atI ixN
  rw [length_map,Fq,if_neg (by decide),if_pos (by omega)]
  show ((Bx ws).map V.int)[((-1:Int)+(ws.length:Int)).toNat]?=_
  congr 1
  omega
 rw [this,List.getElem?_map]
 unfold Bx
 rw [List.getElem?_map,<- List.getLast?_eq_getElem?,h]
 rfl
noncomputable def QB:Sp:=fun vs H Q _=>∃(a w:Addr) (as:List Addr) (h x y:Nat) (L:Nat->Nat->Int) (v:Int) (ws:List Nat),vs=[.ref w,.ref a,.int (x:Int),.int (y:Int),.int v]/\H a=some (.lst (as.map V.ref))/\Ba H as h L/\h<=12/\H w=some (.lst ((Bx ws).map V.int))/\KB h x y L v ws/\∀H':Hp,Av H H'->Q (.bl true) H'
theorem Dg.edge {h x:Nat} {L:Nat->Nat->Int} {be bf:List Int} (g:Dg h x L be bf) {y:Nat} (hy:y < h) (ne:y≠x):∃i j,i < h/\j < h/\Ev x y be i=true/\Ev x y be j=false/\L i j=be.getD y 0:=by
 obtain ⟨rk,par⟩:=g.par
 have key:∀n w,rk w<=n->w < h->w≠x->be.getD w 0=be.getD y 0->∃i j,i < h/\j < h/\Ev x y be i=true/\Ev x y be j=false/\L i j=be.getD y 0:=by
  intro n
  induction n with
  | zero =>
    intro w rn hw wx _
    obtain ⟨p,_,_,p1,_⟩:=par w hw wx
    omega
  | succ n ih =>
    intro w rn hw wx e
    obtain ⟨p,hp,_,p1,p2,p3⟩:=par w hw wx
    have wo:Ev x y be w=false:=decide_eq_false (fun z=>z.elim wx fun z=>by omega)
    by_cases d:p=x
    ·have q:=p2 d
     exact ⟨x,w,by omega,hw,decide_eq_true (.inl rfl),wo,by omega⟩
    ·have q:=p3 d
     by_cases c:be.getD y 0 < be.getD p 0
     ·have u:=g.cut (y:=y) hp hw (.inr c) ⟨wx,by omega⟩
      exact ⟨p,w,hp,hw,decide_eq_true (.inr c),wo,by omega⟩
     ·exact ih p (by omega) hp d (by omega)
 exact key (rk y) y (Nat.le_refl _) hy ne rfl
theorem Fl {L:Nat->Nat->Int} {B:Int} (l:∀u v,-B<=L u v/\L u v<=B):∀b u v,-B<=fwN L b u v/\fwN L b u v<=B
 | 0,u,v=>l u v
 | b+1,u,v=>by
   have h1:=Fl l b u v
   have h2:=Fl l b u b
   have h3:=Fl l b b v
   show -B<=fwB (fwN L b) b u v/\fwB (fwN L b) b u v<=B
   unfold fwB
   split <;> omega
theorem MA (F:Nat->Nat->Int) (ns:List Int) (x y:Nat):JR (Cg F ns (x:Int) (y:Int)) (F x y) (F y x) (decide (ns.idxOf (y:Int) < ns.idxOf (x:Int)))=true/\(Cg F ns (x:Int) (y:Int)=1\/JR (Cg F ns (x:Int) (y:Int) - 1) (F x y) (F y x) (decide (ns.idxOf (y:Int) < ns.idxOf (x:Int)))=false):=by
 unfold Cg
 rw [Int.toNat_natCast,Int.toNat_natCast]
 generalize F x y=f
 generalize F y x=s
 by_cases c:ns.idxOf (y:Int) < ns.idxOf (x:Int)
 ·rw [if_pos c,decide_eq_true c,Int.fdiv_eq_ediv_of_nonneg _ (by decide)]
  obtain ⟨m,em⟩:∃m,m=max 1 (-(-(f - s) / 4)):=⟨_,rfl⟩
  rw [<- em]
  unfold JR
  rw [Bool.true_and,Bool.true_and]
  refine ⟨?_,?_⟩
  ·by_cases d:f - 2*m < s+2*m
   ·rw [decide_eq_true d];rfl
   ·rw [decide_eq_false d,decide_eq_true (by omega)];rfl
  ·by_cases e:m=1
   ·exact .inl e
   ·exact .inr (by rw [decide_eq_false (by omega),decide_eq_false (by omega)];rfl)
 ·rw [if_neg c,decide_eq_false c,Int.fdiv_eq_ediv_of_nonneg _ (by decide)]
  obtain ⟨m,em⟩:∃m,m=max 1 ((f - s) / 4+1):=⟨_,rfl⟩
  rw [<- em]
  unfold JR
  rw [Bool.false_and,Bool.false_and,Bool.or_false,Bool.or_false]
  refine ⟨decide_eq_true (by omega),?_⟩
  by_cases e:m=1
  ·exact .inl e
  ·exact .inr (decide_eq_false (by omega))
structure Rm where
 t:Addr
 x:Nat
 y:Nat
 w:Addr
 ws:List Nat
 g:Nat->Bool
 nd:Int
noncomputable def vrm (rows:List Rm):List V:=rows.map fun q=>.ref q.t
structure GJ (h:Nat) (L F:Nat->Nat->Int) (ns:List Int) (H:Hp) (q:Rm):Prop where
 tup:H q.t=some (.tup [.int (q.x:Int),.int (q.y:Int),.ref q.w,.int (A4 h q.g),.int q.nd])
 way:H q.w=some (.lst ((Bx q.ws).map V.int))
 isw:KB h q.x q.y L (F q.x q.y) q.ws
 hx:q.x < h
 hy:q.y < h
 gx:q.g q.x=false
 gy:q.g q.y=true
 cut:∀i j,i < h->j < h->q.g i=true->q.g j=false->L i j<=F q.y q.x
 edge:∃i j,i < h/\j < h/\q.g i=true/\q.g j=false/\L i j=F q.y q.x
 need:q.nd=Cg F ns (q.x:Int) (q.y:Int)
theorem GJ.same {h:Nat} {L F:Nat->Nat->Int} {ns:List Int} {H H':Hp} {q:Rm} (e:Av H H') (k:GJ h L F ns H q):GJ h L F ns H' q:=⟨e _ _ k.tup,e _ _ k.way,k.isw,k.hx,k.hy,k.gx,k.gy,k.cut,k.edge,k.need⟩
theorem GJ.upd {h:Nat} {L F:Nat->Nat->Int} {ns:List Int} {H:Hp} {q:Rm} {l:Addr} {xs:List V} {o:HO} (e:H l=some (.lst xs)) (n:q.w≠l) (k:GJ h L F ns H q):GJ h L F ns (L2.upd H l o) q:=⟨by rw [Aj (DQ k.tup e (fun z=>by cases z))];exact k.tup,by rw [Aj n];exact k.way,k.isw,k.hx,k.hy,k.gx,k.gy,k.cut,k.edge,k.need⟩
def Na (M C P:Addr):Sp:=fun vs H Q _=>∃(g a l:Addr) (h s:Nat) (ns:List Int) (ls:Ls),vs=[.ref g,.ref l]/\IsM M H g a/\Dh C H a h s ns/\s < h/\H l=some (.lst (vls ls))/\DO h H ls/\ls.length<=60/\LT P H /\
 ∀(t p:Addr) (rows:List Rm) (F:Nat->Nat->Int) (z:Int) (H':Hp),Sm H H'->(Cd P h H->Av H H')->Cd P h H'->H' t=some (.tup [.int z,.ref p])->H p=none->H' p=some (.lst (vrm rows))->(∀q∈rows,GJ h (AZ ls) F ns H' q/\H q.w=none/\q.w≠p)->rows.map (fun q=>((q.x:Int),(q.y:Int)))=De (BV h (Ay F s ns))->AO h (AZ ls) F->z∈rows.map (·.nd)->(∀q∈rows,z<=q.nd)->Q (.ref t) H'
theorem Nw {rows:List Rm} {k:Nat} {r:Rm} (h:rows[k]?=some r):atI (vrm rows) (k:Int)=some (.ref r.t):=by
 unfold vrm
 exact C6 (by rw [List.getElem?_map,h];rfl)
theorem QR {ps:Pq} {k:Nat} {r:Addr × Int × Int} (h:ps[k]?=some r):atI (vpq ps) (k:Int)=some (.ref r.1):=by
 unfold vpq
 exact C6 (by rw [List.getElem?_map,h];rfl)
noncomputable def Ox:Sp:=fun vs H Q _=>∃(p du b lo:Addr) (bs:List Addr) (h:Nat) (L F:Nat->Nat->Int) (os:List Int) (rows:List Rm) (ps:Pq),vs=[.ref p,.ref du,.ref b,.ref lo]/\H p=some (.lst (vrm rows))/\(∀q∈rows,GJ h L F os H q)/\H du=some (.lst (vpq ps))/\Ck H ps/\ps.map (·.2)=rows.map (fun q=>((q.x:Int),(q.y:Int)))/\rows.length<=144/\H b=some (.lst (bs.map V.ref))/\Ba H bs h L/\1<=h/\h<=12/\H lo=some (.lst (os.map V.int))/\os.Perm (ups h)/\AO h L F/\(∀u v,-1000000000000000<=L u v/\L u v<=1000000000000000)/\∀H':Hp,Av H H'->Q (.bl true) H'
noncomputable def NO (M C P:Addr):Sp:=fun vs H Q _=>∃(g a l lo:Addr) (h s:Nat) (os:List Int) (ls:Ls),vs=[.ref g,.ref l,.int (h:Int),.ref lo]/\IsM M H g a/\Dh C H a h s os/\s < h/\H l=some (.lst (vls ls))/\Cc H ls/\(∀q∈DP ls,OkA h q.1)/\ls.length<=60/\H lo=some (.lst (os.map V.int))/\LT P H/\0 < (ls.map fun q=>q.2.2.2).sum/\(∀u v,-1000000000000000<=AZ ls u v/\AZ ls u v<=1000000000000000) /\
 ∀(t p:Addr) (rows:List Rm) (F:Nat->Nat->Int) (z:Int) (H':Hp),Sm H H'->(Cd P h H->Av H H')->Cd P h H'->H' t=some (.tup [.int z,.ref p])->H p=none->H' p=some (.lst (vrm rows))->(∀q∈rows,GJ h (AZ ls) F os H' q/\H q.w=none/\q.w≠p)->rows≠[]->rows.length<=144->AO h (AZ ls) F->MS F os (BV h (Ay F s os)) z->Q (.ref t) H'
theorem K6 {B:Int} (b0:0<=B):∀ds:Ds,(∀q∈ds,0<=q.2/\q.2<=B)->Lk ds<=(ds.length:Int)*B
 | [],_=>by show (0:Int)<=0*B;omega
 | f :: r,h=>by
   have a:=h f (mem_cons_self ..)
   have b:=K6 b0 r fun q m=>h q (mem_cons_of_mem _ m)
   unfold Lk at b ⊢
   rw [map_cons,sum_cons,length_cons,if_pos a.1,Int.natCast_add,Int.add_mul]
   omega
theorem HE {ls:Ls} (h:∀q∈DP ls,0<=q.2/\q.2<=1000000000000) (l:(DP ls).length<=13) (u v:Nat):-1000000000000000<=AZ ls u v/\AZ ls u v<=1000000000000000:=by
 have a:=K6 (by decide) _ h
 have b:AZ ls u v<=Lk (DP ls)/\-Lk (DP ls)<=AZ ls u v:=GL u v (DP ls)
 omega
theorem Mz {ls:Ls} (h:∀q∈DP ls,1<=q.2):(ls.length:Int)<=(ls.map fun q=>q.2.2.2).sum:=by
 induction ls with
 | nil=>exact Int.le_refl _
 | cons f r ih =>
   have a:=h (f.2.2.1,f.2.2.2) (mem_cons_self ..)
   have b:=ih fun q m=>h q (mem_cons_of_mem _ m)
   rw [map_cons,sum_cons,length_cons]
   dsimp only at a
   omega
noncomputable def rmD (h:Nat) (q:Rm):PyData:=.tuple [.int (q.x:Int),.int (q.y:Int),.list ((Bx q.ws).map .int),.int (A4 h q.g),.int q.nd]
theorem Qd (h:Nat) (q:Rm):Lay 2 (rmD h q):=IB fun d m=>by
 rcases mem_cons.mp m with rfl | m
 ·exact EA _ _
 rcases mem_cons.mp m with rfl | m
 ·exact EA _ _
 rcases mem_cons.mp m with rfl | m
 ·exact GR (lay_ints 0 _)
 rcases mem_cons.mp m with rfl | m
 ·exact EA _ _
 ·rw [mem_singleton.mp m];exact EA _ _
def JS (h:Nat) (H:Hp) (q:Rm):Prop:=H q.t=some (.tup [.int (q.x:Int),.int (q.y:Int),.ref q.w,.int (A4 h q.g),.int q.nd])/\H q.w=some (.lst ((Bx q.ws).map V.int))
theorem JS.same {h:Nat} {H H':Hp} {q:Rm} (e:Av H H') (k:JS h H q):JS h H' q:=⟨e _ _ k.1,e _ _ k.2⟩
theorem LY {K:PySem.W.Frag} {h:Nat} {H:Hp} {rows:List Rm} (g:∀q∈rows,JS h H q):Reps K H (vrm rows) (rows.map (rmD h)):=GC fun q m=>.tup (SqT.of (g q m).1) (.cons (.int _) (.cons (.int _) (.cons (.lst (SqL.of (g q m).2) (.ints _)) (.cons (.int _) (.cons (.int _) .nil)))))
theorem Pb {n k:Nat} (h:k < n):OkA n [(2:Int) ^ k]:=⟨⟨fun x m=>by
 rw [mem_singleton.mp m]
 exact ⟨Int.pow_pos (by decide),Int.pow_lt_pow_of_lt (by decide) h⟩,by show 1<=12;decide⟩,pairwise_singleton _ _⟩
def top (i:Nat):Stmt:=PySem.Challenge.pw_pollproof_k81_ways_and_cuts_of_margins.main.body.getD i (.Pass ⟨0,0,0,0⟩)
abbrev DI:Stmt:=top 5
abbrev CG:Stmt:=top 6
abbrev Do:Stmt:=top 7
abbrev CV:Stmt:=top 8
abbrev CS:Stmt:=top 10
abbrev FA:Stmt:=top 11
abbrev M1:Stmt:=top 12
abbrev BF:Stmt:=top 14
abbrev AV:Stmt:=top 16
abbrev CQ:Stmt:=top 20
abbrev DN:Stmt:=top 23
abbrev BR:Stmt:=top 36
abbrev CP:Stmt:=top 39
abbrev Cr:Stmt:=top 40
abbrev Cm:Stmt:=top 42
abbrev Cs:Stmt:=top 46
abbrev C0:Stmt:=top 47
abbrev Bk:Stmt:=top 49
abbrev CT:Stmt:=top 50
abbrev BL:Stmt:=Ci (top 17) 0
abbrev Cu:Stmt:=Ci (top 33) 1
abbrev Bj:Stmt:=Ci (top 37) 5
abbrev Dy:Stmt:=top 19
abbrev BQ:Stmt:=top 21
abbrev AL:Stmt:=top 22
abbrev DV:Stmt:=top 24
abbrev Ct:Stmt:=top 30
abbrev Cy:Stmt:=top 31
abbrev Cn:Stmt:=top 32
abbrev CK:Stmt:=top 41
abbrev Cl:Stmt:=top 43
abbrev BC:Stmt:=top 48
abbrev Cq:Stmt:=top 51
abbrev Bm:Stmt:=top 52
abbrev Bz:Stmt:=top 53
abbrev Bf:Stmt:=Ci (top 17) 1
abbrev AE:Stmt:=Ci (top 26) 0
abbrev AF:Stmt:=Ci (top 26) 1
abbrev AX:Stmt:=Ci (top 37) 3
abbrev B1:Stmt:=top 35
abbrev B4:Stmt:=top 44
abbrev Bh:Stmt:=top 54
abbrev Bg:Stmt:=top 56
abbrev AD:Stmt:=Ci (top 26) 2
abbrev BH:Stmt:=Ci (top 33) 0
abbrev CH:Stmt:=top 45
abbrev B0:Stmt:=Ci (top 37) 4
abbrev BJ:Stmt:=Ci (top 33) 4
abbrev AA:Stmt:=Ci (top 26) 3
abbrev BX:Stmt:=top 55
abbrev EH:Stmt:=top 57
theorem MJ:Ar ["hands"] ["hands"] (Ad DI):=⟨rfl,rfl,rfl,by decide +kernel,rfl,by decide +kernel,by decide +kernel⟩
theorem Kj:Ar ["mask","hand"] ["mask","hand"] (Ad CG):=⟨rfl,rfl,rfl,by decide +kernel,rfl,by decide +kernel,by decide +kernel⟩
theorem KR:Ar ["mask","hand"] ["mask","hand"] (Ad Do):=⟨rfl,rfl,rfl,by decide +kernel,rfl,by decide +kernel,by decide +kernel⟩
theorem Lj:Ar ["mask"] ["mask"] (Ad CV):=⟨rfl,rfl,rfl,by decide +kernel,rfl,by decide +kernel,by decide +kernel⟩
theorem JN:Ar ["thing"] ["thing"] (Ad CS):=⟨rfl,rfl,rfl,by decide +kernel,rfl,by decide +kernel,by decide +kernel⟩
theorem Pz:Ar ["top","bottom"] ["top","bottom"] (Ad FA):=⟨rfl,rfl,rfl,by decide +kernel,rfl,by decide +kernel,by decide +kernel⟩
theorem Rf:Ar ["top","bottom"] ["top","bottom"] (Ad M1):=⟨rfl,rfl,rfl,by decide +kernel,rfl,by decide +kernel,by decide +kernel⟩
theorem Hq:Ar ["sheet"] ["sheet"] (Ad BF):=⟨rfl,rfl,rfl,by decide +kernel,rfl,by decide +kernel,by decide +kernel⟩
theorem BO:Ar ["outcome","pairs","x","seats"] ["outcome"] (Ad AV):=⟨rfl,rfl,rfl,by decide +kernel,rfl,by decide +kernel,by decide +kernel⟩
theorem J8:Ar ["leads"] ["leads"] (Ad CQ):=⟨rfl,rfl,rfl,by decide +kernel,rfl,by decide +kernel,by decide +kernel⟩
theorem HS:Ar ["reached","x","y","way"] ["reached","x","y"] (Ad DN):=⟨rfl,rfl,rfl,by decide +kernel,rfl,by decide +kernel,by decide +kernel⟩
theorem Iu:Ar ["strengths","hand","others"] ["strengths","hand","others"] (Ad BR):=⟨rfl,rfl,rfl,by decide +kernel,rfl,by decide +kernel,by decide +kernel⟩
theorem E6:Ar ["_law_script","_law_k","_law_number"] ["_law_script","_law_k"] (Ad CP):=⟨rfl,rfl,rfl,by decide +kernel,rfl,by decide +kernel,by decide +kernel⟩
theorem Ff:Ar ["_law_cell_here","_law_by","_law_step"] ["_law_cell_here","_law_by"] (Ad Cr):=⟨rfl,rfl,rfl,by decide +kernel,rfl,by decide +kernel,by decide +kernel⟩
theorem Kg:Ar ["_law_some"] ["_law_some"] (Ad Cm):=⟨rfl,rfl,rfl,by decide +kernel,rfl,by decide +kernel,by decide +kernel⟩
theorem Jh:Ar ["_law_found"] ["_law_found"] (Ad Cs):=⟨rfl,rfl,rfl,by decide +kernel,rfl,by decide +kernel,by decide +kernel⟩
theorem Fn:Ar ["_law_slip_here","_law_hand","_law_k"] ["_law_slip_here","_law_hand"] (Ad C0):=⟨rfl,rfl,rfl,by decide +kernel,rfl,by decide +kernel,by decide +kernel⟩
theorem Bu:Ar ["_law_links","_law_hands","_law_found","_law_by","_law_x","_law_y"] ["_law_links"] (Ad Bk):=⟨rfl,rfl,rfl,by decide +kernel,rfl,by decide +kernel,by decide +kernel⟩
theorem E3:Ar ["_law_many","_law_first","_law_second","_law_ahead","_law_left","_law_right"] ["_law_many","_law_first","_law_second","_law_ahead"] (Ad CT):=⟨rfl,rfl,rfl,by decide +kernel,rfl,by decide +kernel,by decide +kernel⟩
theorem Ha:Ar ["self","way"] ["self","way"] (Ad BL):=⟨rfl,rfl,rfl,by decide +kernel,rfl,by decide +kernel,by decide +kernel⟩
theorem Jd:Ar ["self","one","other"] ["self","one","other"] (Ad Cu):=⟨rfl,rfl,rfl,by decide +kernel,rfl,by decide +kernel,by decide +kernel⟩
theorem FO:Ar ["self","paper"] ["self","paper"] (Ad Bj):=⟨rfl,rfl,rfl,by decide +kernel,rfl,by decide +kernel,by decide +kernel⟩
theorem Ch:Ar ["sheet","hands","many","slip","number","behind","tier","others","x","y"] ["sheet","hands"] (Ad Dy):=⟨rfl,rfl,rfl,by decide +kernel,rfl,by decide +kernel,by decide +kernel⟩
theorem Ge:Ar ["many","hands"] ["many"] (Ad BQ):=⟨rfl,rfl,rfl,by decide +kernel,rfl,by decide +kernel,by decide +kernel⟩
theorem Bi:Ar ["leads","x","best","before","left","through","hand","link"] ["leads","x"] (Ad AL):=⟨rfl,rfl,rfl,by decide +kernel,rfl,by decide +kernel,by decide +kernel⟩
theorem DS:Ar ["reached","x","y","cut","hand","strong"] ["reached","x","y"] (Ad DV):=⟨rfl,rfl,rfl,by decide +kernel,rfl,by decide +kernel,by decide +kernel⟩
theorem IM:Ar ["thing"] ["thing"] (Ad Ct):=⟨rfl,rfl,rfl,by decide +kernel,rfl,by decide +kernel,by decide +kernel⟩
theorem IP:Ar ["thing"] ["thing"] (Ad Cy):=⟨rfl,rfl,rfl,by decide +kernel,rfl,by decide +kernel,by decide +kernel⟩
theorem Kz:Ar ["thing","hands"] ["thing","hands"] (Ad Cn):=⟨rfl,rfl,rfl,by decide +kernel,rfl,by decide +kernel,by decide +kernel⟩
theorem BW:Ar ["_law_cell_here","_law_hands","_law_number","_law_left","_law_lots_here","_law_k","_law_lot"] ["_law_cell_here","_law_hands"] (Ad CK):=⟨rfl,rfl,rfl,by decide +kernel,rfl,by decide +kernel,by decide +kernel⟩
theorem Bd:Ar ["_law_cell_here","_law_hands","_law_number","_law_way","_law_many","_law_left","_law_tiers","_law_k","_law_base","_law_lot"] ["_law_cell_here","_law_hands"] (Ad Cl):=⟨rfl,rfl,rfl,by decide +kernel,rfl,by decide +kernel,by decide +kernel⟩
theorem BG:Ar ["_law_sheet_here","_law_hands","_law_links","_law_slip_here","_law_number","_law_places","_law_x","_law_y"] ["_law_sheet_here","_law_hands"] (Ad BC):=⟨rfl,rfl,rfl,by decide +kernel,rfl,by decide +kernel,by decide +kernel⟩
theorem IF:Ar ["_law_found","_law_first","_law_second","_law_ahead"] ["_law_found","_law_first","_law_second","_law_ahead"] (Ad Cq):=⟨rfl,rfl,rfl,by decide +kernel,rfl,by decide +kernel,by decide +kernel⟩
theorem DT:Ar ["_law_some","_law_links","_law_x","_law_y","_law_worth","_law_hand"] ["_law_some","_law_links","_law_x","_law_y","_law_worth"] (Ad Bm):=⟨rfl,rfl,rfl,by decide +kernel,rfl,by decide +kernel,by decide +kernel⟩
theorem Bt:Ar ["_law_cut","_law_links","_law_x","_law_y","_law_worth","_law_hands","_law_most","_law_one","_law_other"] ["_law_cut","_law_links","_law_x","_law_y","_law_worth"] (Ad Bz):=⟨rfl,rfl,rfl,by decide +kernel,rfl,by decide +kernel,by decide +kernel⟩
theorem EU:Ar ["self","sheet"] ["self","sheet"] (Ad Bf):=⟨rfl,rfl,rfl,by decide +kernel,rfl,by decide +kernel,by decide +kernel⟩
theorem C1:Ar ["self","x","y","others"] ["self","x","y"] (Ad AE):=⟨rfl,rfl,rfl,by decide +kernel,rfl,by decide +kernel,by decide +kernel⟩
theorem DX:Ar ["self","x","y","strong","back"] ["self","x","y","strong","back"] (Ad AF):=⟨rfl,rfl,rfl,by decide +kernel,rfl,by decide +kernel,by decide +kernel⟩
theorem BP:Ar ["self","strengths","picks","left","first"] ["self","strengths"] (Ad AX):=⟨rfl,rfl,rfl,by decide +kernel,rfl,by decide +kernel,by decide +kernel⟩
theorem EK:Ar ["reached","x","others"] ["reached","x"] (Ad B1):=⟨rfl,rfl,rfl,by decide +kernel,rfl,by decide +kernel,by decide +kernel⟩
theorem BE:Ar ["_law_script","_law_at","_law_hands","_law_lines","_law_most","_law_slips","_law_many","_law_k","_law_slip_here","_law_lead"] ["_law_script","_law_at","_law_hands","_law_lines","_law_most"] (Ad B4):=⟨rfl,rfl,rfl,by decide +kernel,rfl,by decide +kernel,by decide +kernel⟩
theorem AW:Ar ["_law_paper","_law_due","_law_links","_law_lots_here","_law_strengths_here","_law_k","_law_x","_law_y","_law_ahead"] ["_law_paper","_law_due","_law_links","_law_lots_here"] (Ad Bh):=⟨rfl,rfl,rfl,by decide +kernel,rfl,by decide +kernel,by decide +kernel⟩
theorem AR:Ar ["_law_margin","_law_hands","_law_x","_law_y","_law_others","_law_slip_here"] ["_law_margin","_law_hands"] (Ad Bg):=⟨rfl,rfl,rfl,by decide +kernel,rfl,by decide +kernel,by decide +kernel⟩
theorem DJ:Ar ["self","sheet"] ["self","sheet"] (Ad AD):=⟨rfl,rfl,rfl,by decide +kernel,rfl,by decide +kernel,by decide +kernel⟩
theorem Kr:Ar ["self","hands","seats","lots"] ["self","hands","seats","lots"] (Ad BH):=⟨rfl,rfl,rfl,by decide +kernel,rfl,by decide +kernel,by decide +kernel⟩
theorem CZ:Ar ["_law_script","_law_hands","_law_seats","_law_most","_law_sheet_here"] ["_law_script"] (Ad CH):=⟨rfl,rfl,rfl,by decide +kernel,rfl,by decide +kernel,by decide +kernel⟩
theorem AY:Ar ["self","sheet","many","leads","shown","strengths","x","reached"] ["self","sheet"] (Ad B0):=⟨rfl,rfl,rfl,by decide +kernel,rfl,by decide +kernel,by decide +kernel⟩
theorem Hc:Ar ["self","sheet"] ["self","sheet"] (Ad BJ):=⟨rfl,rfl,rfl,by decide +kernel,rfl,by decide +kernel,by decide +kernel⟩
theorem AB:Ar ["self","sheet","leads","reached","paper","x","y","needed"] ["self","sheet"] (Ad AA):=⟨rfl,rfl,rfl,by decide +kernel,rfl,by decide +kernel,by decide +kernel⟩
theorem BS:Ar ["_law_margin","_law_sheet_here","_law_hands","_law_lots_here","_law_outcome","_law_due","_law_x","_law_lent","_law_found"] ["_law_margin","_law_sheet_here","_law_hands","_law_lots_here"] (Ad BX):=⟨rfl,rfl,rfl,by decide +kernel,rfl,by decide +kernel,by decide +kernel⟩
theorem DD:Ar ["_law_script","_law_hands","_law_seats","_law_lots_here","_law_sheet_here","_law_margin","_law_found","_law_kept","_law_other","_law_again"] ["_law_script"] (Ad EH):=⟨rfl,rfl,rfl,by decide +kernel,rfl,by decide +kernel,by decide +kernel⟩
set_option genInjectivity false in
set_option genSizeOf false in
structure Ads where
 f_all_of:Addr
 d_all_of:FuncData
 f_with_one:Addr
 d_with_one:FuncData
 f_without:Addr
 d_without:FuncData
 f_members:Addr
 d_members:FuncData
 f_is_whole:Addr
 d_is_whole:FuncData
 f_down:Addr
 d_down:FuncData
 f_up:Addr
 d_up:FuncData
 f_ballots_in:Addr
 d_ballots_in:FuncData
 f_pairs_by_seats:Addr
 d_pairs_by_seats:FuncData
 f_hands_of:Addr
 d_hands_of:FuncData
 f_way_by:Addr
 d_way_by:FuncData
 f_is_beaten:Addr
 d_is_beaten:FuncData
 f_law_cell:Addr
 d_law_cell:FuncData
 f_law_mixed:Addr
 d_law_mixed:FuncData
 f_law_mask:Addr
 d_law_mask:FuncData
 f_law_whole:Addr
 d_law_whole:FuncData
 f_law_place:Addr
 d_law_place:FuncData
 f_law_strengths:Addr
 d_law_strengths:FuncData
 f_law_fits:Addr
 d_law_fits:FuncData
 f_Margin_init:Addr
 d_Margin_init:FuncData
 f_Way_ahead:Addr
 d_Way_ahead:FuncData
 f_Pairs_told_by:Addr
 d_Pairs_told_by:FuncData
 f_overs:Addr
 d_overs:FuncData
 f_leads_of:Addr
 d_leads_of:FuncData
 f_reached_from:Addr
 d_reached_from:FuncData
 f_cut_by:Addr
 d_cut_by:FuncData
 f_are_hands:Addr
 d_are_hands:FuncData
 f_are_seats:Addr
 d_are_seats:FuncData
 f_are_lots:Addr
 d_are_lots:FuncData
 f_law_lots:Addr
 d_law_lots:FuncData
 f_law_slip:Addr
 d_law_slip:FuncData
 f_law_leads:Addr
 d_law_leads:FuncData
 f_law_needs:Addr
 d_law_needs:FuncData
 f_law_way_right:Addr
 d_law_way_right:FuncData
 f_law_cut_right:Addr
 d_law_cut_right:FuncData
 f_Margin_possible:Addr
 d_Margin_possible:FuncData
 f_PairsMargin_slip_for:Addr
 d_PairsMargin_slip_for:FuncData
 f_PairsMargin_need_of:Addr
 d_PairsMargin_need_of:FuncData
 f_Pairs_picks_by:Addr
 d_Pairs_picks_by:FuncData
 f_shown_from:Addr
 d_shown_from:FuncData
 f_law_sheet:Addr
 d_law_sheet:FuncData
 f_law_paper_right:Addr
 d_law_paper_right:FuncData
 f_law_slips_right:Addr
 d_law_slips_right:FuncData
 f_PairsMargin_leads_in:Addr
 d_PairsMargin_leads_in:FuncData
 f_Way_init:Addr
 d_Way_init:FuncData
 f_law_hall:Addr
 d_law_hall:FuncData
 f_Pairs_counted:Addr
 d_Pairs_counted:FuncData
 f_Way_outcome:Addr
 d_Way_outcome:FuncData
 f_PairsMargin_least:Addr
 d_PairsMargin_least:FuncData
 f_law_told:Addr
 d_law_told:FuncData
 f_law:Addr
 d_law:FuncData
 c_Pairs:Addr
 c_PairsMargin:Addr
 c_Margin:Addr
 t_MOST_HANDS:Tok
 t_MOST_SEATS:Tok
 lc:Addr
 lP:Addr
structure Tx (K:PySem.W.Frag) (mg:Str->Option Value) (base:Heap) (a:Ads):Prop where
 F_all_of:Fun K "all_of" "all_of" DI a.f_all_of a.d_all_of
 b_all_of:A5 K a.d_all_of ["hands"] []
 m_all_of:mg "all_of"=some (.ref a.f_all_of)
 F_with_one:Fun K "with_one" "with_one" CG a.f_with_one a.d_with_one
 b_with_one:A5 K a.d_with_one ["mask","hand"] []
 m_with_one:mg "with_one"=some (.ref a.f_with_one)
 F_without:Fun K "without" "without" Do a.f_without a.d_without
 b_without:A5 K a.d_without ["mask","hand"] []
 m_without:mg "without"=some (.ref a.f_without)
 F_members:Fun K "members" "members" CV a.f_members a.d_members
 b_members:A5 K a.d_members ["mask"] []
 m_members:mg "members"=some (.ref a.f_members)
 F_is_whole:Fun K "is_whole" "is_whole" CS a.f_is_whole a.d_is_whole
 b_is_whole:A5 K a.d_is_whole ["thing"] []
 m_is_whole:mg "is_whole"=some (.ref a.f_is_whole)
 F_down:Fun K "down" "down" FA a.f_down a.d_down
 b_down:A5 K a.d_down ["top","bottom"] []
 m_down:mg "down"=some (.ref a.f_down)
 F_up:Fun K "up" "up" M1 a.f_up a.d_up
 b_up:A5 K a.d_up ["top","bottom"] []
 m_up:mg "up"=some (.ref a.f_up)
 F_ballots_in:Fun K "ballots_in" "ballots_in" BF a.f_ballots_in a.d_ballots_in
 b_ballots_in:A5 K a.d_ballots_in ["sheet"] []
 m_ballots_in:mg "ballots_in"=some (.ref a.f_ballots_in)
 F_pairs_by_seats:Fun K "pairs_by_seats" "pairs_by_seats" AV a.f_pairs_by_seats a.d_pairs_by_seats
 b_pairs_by_seats:A5 K a.d_pairs_by_seats ["outcome"] []
 m_pairs_by_seats:mg "pairs_by_seats"=some (.ref a.f_pairs_by_seats)
 F_hands_of:Fun K "hands_of" "hands_of" CQ a.f_hands_of a.d_hands_of
 b_hands_of:A5 K a.d_hands_of ["leads"] []
 m_hands_of:mg "hands_of"=some (.ref a.f_hands_of)
 F_way_by:Fun K "way_by" "way_by" DN a.f_way_by a.d_way_by
 b_way_by:A5 K a.d_way_by ["reached","x","y"] []
 m_way_by:mg "way_by"=some (.ref a.f_way_by)
 F_is_beaten:Fun K "is_beaten" "is_beaten" BR a.f_is_beaten a.d_is_beaten
 b_is_beaten:A5 K a.d_is_beaten ["strengths","hand","others"] []
 m_is_beaten:mg "is_beaten"=some (.ref a.f_is_beaten)
 F_law_cell:Fun K "_law_cell" "_law_cell" CP a.f_law_cell a.d_law_cell
 b_law_cell:A5 K a.d_law_cell ["_law_script","_law_k"] []
 m_law_cell:mg "_law_cell"=some (.ref a.f_law_cell)
 F_law_mixed:Fun K "_law_mixed" "_law_mixed" Cr a.f_law_mixed a.d_law_mixed
 b_law_mixed:A5 K a.d_law_mixed ["_law_cell_here","_law_by"] []
 m_law_mixed:mg "_law_mixed"=some (.ref a.f_law_mixed)
 F_law_mask:Fun K "_law_mask" "_law_mask" Cm a.f_law_mask a.d_law_mask
 b_law_mask:A5 K a.d_law_mask ["_law_some"] []
 m_law_mask:mg "_law_mask"=some (.ref a.f_law_mask)
 F_law_whole:Fun K "_law_whole" "_law_whole" Cs a.f_law_whole a.d_law_whole
 b_law_whole:A5 K a.d_law_whole ["_law_found"] []
 m_law_whole:mg "_law_whole"=some (.ref a.f_law_whole)
 F_law_place:Fun K "_law_place" "_law_place" C0 a.f_law_place a.d_law_place
 b_law_place:A5 K a.d_law_place ["_law_slip_here","_law_hand"] []
 m_law_place:mg "_law_place"=some (.ref a.f_law_place)
 F_law_strengths:Fun K "_law_strengths" "_law_strengths" Bk a.f_law_strengths a.d_law_strengths
 b_law_strengths:A5 K a.d_law_strengths ["_law_links"] []
 m_law_strengths:mg "_law_strengths"=some (.ref a.f_law_strengths)
 F_law_fits:Fun K "_law_fits" "_law_fits" CT a.f_law_fits a.d_law_fits
 b_law_fits:A5 K a.d_law_fits ["_law_many","_law_first","_law_second","_law_ahead"] []
 m_law_fits:mg "_law_fits"=some (.ref a.f_law_fits)
 F_Margin_init:Fun K "__init__" "Margin.__init__" BL a.f_Margin_init a.d_Margin_init
 b_Margin_init:A5 K a.d_Margin_init ["self","way"] []
 F_Way_ahead:Fun K "ahead" "Way.ahead" Cu a.f_Way_ahead a.d_Way_ahead
 b_Way_ahead:A5 K a.d_Way_ahead ["self","one","other"] []
 F_Pairs_told_by:Fun K "told_by" "Pairs.told_by" Bj a.f_Pairs_told_by a.d_Pairs_told_by
 b_Pairs_told_by:A5 K a.d_Pairs_told_by ["self","paper"] []
 F_overs:Fun K "overs" "overs" Dy a.f_overs a.d_overs
 b_overs:A5 K a.d_overs ["sheet","hands"] []
 m_overs:mg "overs"=some (.ref a.f_overs)
 F_leads_of:Fun K "leads_of" "leads_of" BQ a.f_leads_of a.d_leads_of
 b_leads_of:A5 K a.d_leads_of ["many"] []
 m_leads_of:mg "leads_of"=some (.ref a.f_leads_of)
 F_reached_from:Fun K "reached_from" "reached_from" AL a.f_reached_from a.d_reached_from
 b_reached_from:A5 K a.d_reached_from ["leads","x"] []
 m_reached_from:mg "reached_from"=some (.ref a.f_reached_from)
 F_cut_by:Fun K "cut_by" "cut_by" DV a.f_cut_by a.d_cut_by
 b_cut_by:A5 K a.d_cut_by ["reached","x","y"] []
 m_cut_by:mg "cut_by"=some (.ref a.f_cut_by)
 F_are_hands:Fun K "are_hands" "are_hands" Ct a.f_are_hands a.d_are_hands
 b_are_hands:A5 K a.d_are_hands ["thing"] []
 m_are_hands:mg "are_hands"=some (.ref a.f_are_hands)
 F_are_seats:Fun K "are_seats" "are_seats" Cy a.f_are_seats a.d_are_seats
 b_are_seats:A5 K a.d_are_seats ["thing"] []
 m_are_seats:mg "are_seats"=some (.ref a.f_are_seats)
 F_are_lots:Fun K "are_lots" "are_lots" Cn a.f_are_lots a.d_are_lots
 b_are_lots:A5 K a.d_are_lots ["thing","hands"] []
 m_are_lots:mg "are_lots"=some (.ref a.f_are_lots)
 F_law_lots:Fun K "_law_lots" "_law_lots" CK a.f_law_lots a.d_law_lots
 b_law_lots:A5 K a.d_law_lots ["_law_cell_here","_law_hands"] []
 m_law_lots:mg "_law_lots"=some (.ref a.f_law_lots)
 F_law_slip:Fun K "_law_slip" "_law_slip" Cl a.f_law_slip a.d_law_slip
 b_law_slip:A5 K a.d_law_slip ["_law_cell_here","_law_hands"] []
 m_law_slip:mg "_law_slip"=some (.ref a.f_law_slip)
 F_law_leads:Fun K "_law_leads" "_law_leads" BC a.f_law_leads a.d_law_leads
 b_law_leads:A5 K a.d_law_leads ["_law_sheet_here","_law_hands"] []
 m_law_leads:mg "_law_leads"=some (.ref a.f_law_leads)
 F_law_needs:Fun K "_law_needs" "_law_needs" Cq a.f_law_needs a.d_law_needs
 b_law_needs:A5 K a.d_law_needs ["_law_found","_law_first","_law_second","_law_ahead"] []
 m_law_needs:mg "_law_needs"=some (.ref a.f_law_needs)
 F_law_way_right:Fun K "_law_way_right" "_law_way_right" Bm a.f_law_way_right a.d_law_way_right
 b_law_way_right:A5 K a.d_law_way_right ["_law_some","_law_links","_law_x","_law_y","_law_worth"] []
 m_law_way_right:mg "_law_way_right"=some (.ref a.f_law_way_right)
 F_law_cut_right:Fun K "_law_cut_right" "_law_cut_right" Bz a.f_law_cut_right a.d_law_cut_right
 b_law_cut_right:A5 K a.d_law_cut_right ["_law_cut","_law_links","_law_x","_law_y","_law_worth"] []
 m_law_cut_right:mg "_law_cut_right"=some (.ref a.f_law_cut_right)
 F_Margin_possible:Fun K "possible" "Margin.possible" Bf a.f_Margin_possible a.d_Margin_possible
 b_Margin_possible:A5 K a.d_Margin_possible ["self","sheet"] []
 F_PairsMargin_slip_for:Fun K "slip_for" "PairsMargin.slip_for" AE a.f_PairsMargin_slip_for a.d_PairsMargin_slip_for
 b_PairsMargin_slip_for:A5 K a.d_PairsMargin_slip_for ["self","x","y"] []
 F_PairsMargin_need_of:Fun K "need_of" "PairsMargin.need_of" AF a.f_PairsMargin_need_of a.d_PairsMargin_need_of
 b_PairsMargin_need_of:A5 K a.d_PairsMargin_need_of ["self","x","y","strong","back"] []
 F_Pairs_picks_by:Fun K "picks_by" "Pairs.picks_by" AX a.f_Pairs_picks_by a.d_Pairs_picks_by
 b_Pairs_picks_by:A5 K a.d_Pairs_picks_by ["self","strengths"] []
 F_shown_from:Fun K "shown_from" "shown_from" B1 a.f_shown_from a.d_shown_from
 b_shown_from:A5 K a.d_shown_from ["reached","x"] []
 m_shown_from:mg "shown_from"=some (.ref a.f_shown_from)
 F_law_sheet:Fun K "_law_sheet" "_law_sheet" B4 a.f_law_sheet a.d_law_sheet
 b_law_sheet:A5 K a.d_law_sheet ["_law_script","_law_at","_law_hands","_law_lines","_law_most"] []
 m_law_sheet:mg "_law_sheet"=some (.ref a.f_law_sheet)
 F_law_paper_right:Fun K "_law_paper_right" "_law_paper_right" Bh a.f_law_paper_right a.d_law_paper_right
 b_law_paper_right:A5 K a.d_law_paper_right ["_law_paper","_law_due","_law_links","_law_lots_here"] []
 m_law_paper_right:mg "_law_paper_right"=some (.ref a.f_law_paper_right)
 F_law_slips_right:Fun K "_law_slips_right" "_law_slips_right" Bg a.f_law_slips_right a.d_law_slips_right
 b_law_slips_right:A5 K a.d_law_slips_right ["_law_margin","_law_hands"] []
 m_law_slips_right:mg "_law_slips_right"=some (.ref a.f_law_slips_right)
 F_PairsMargin_leads_in:Fun K "leads_in" "PairsMargin.leads_in" AD a.f_PairsMargin_leads_in a.d_PairsMargin_leads_in
 b_PairsMargin_leads_in:A5 K a.d_PairsMargin_leads_in ["self","sheet"] []
 F_Way_init:P0 K "__init__" "Way.__init__" BH a.f_Way_init a.d_Way_init
 b_Way_init:A5 K a.d_Way_init ["self","hands","seats","lots"] []
 F_law_hall:Fun K "_law_hall" "_law_hall" CH a.f_law_hall a.d_law_hall
 b_law_hall:A5 K a.d_law_hall ["_law_script"] []
 m_law_hall:mg "_law_hall"=some (.ref a.f_law_hall)
 F_Pairs_counted:Fun K "counted" "Pairs.counted" B0 a.f_Pairs_counted a.d_Pairs_counted
 b_Pairs_counted:A5 K a.d_Pairs_counted ["self","sheet"] []
 F_Way_outcome:Fun K "outcome" "Way.outcome" BJ a.f_Way_outcome a.d_Way_outcome
 b_Way_outcome:A5 K a.d_Way_outcome ["self","sheet"] []
 F_PairsMargin_least:Fun K "least" "PairsMargin.least" AA a.f_PairsMargin_least a.d_PairsMargin_least
 b_PairsMargin_least:A5 K a.d_PairsMargin_least ["self","sheet"] []
 F_law_told:Fun K "_law_told" "_law_told" BX a.f_law_told a.d_law_told
 b_law_told:A5 K a.d_law_told ["_law_margin","_law_sheet_here","_law_hands","_law_lots_here"] []
 m_law_told:mg "_law_told"=some (.ref a.f_law_told)
 F_law:Fun K "law" "law" EH a.f_law a.d_law
 b_law:A5 K a.d_law ["_law_script"] []
 m_law:mg "law"=some (.ref a.f_law)
 z_all:mg "all"=none
 z_any:mg "any"=none
 z_bool:mg "bool"=none
 z_enumerate:mg "enumerate"=none
 z_int:mg "int"=none
 z_isinstance:mg "isinstance"=none
 z_len:mg "len"=none
 z_list:mg "list"=none
 z_max:mg "max"=none
 z_min:mg "min"=none
 z_range:mg "range"=none
 z_set:mg "set"=none
 z_sorted:mg "sorted"=none
 z_sum:mg "sum"=none
 z_tuple:mg "tuple"=none
 k_MOST_HANDS:mg "MOST_HANDS"=some (.int 12 a.t_MOST_HANDS)
 k_MOST_SEATS:mg "MOST_SEATS"=some (.int 60 a.t_MOST_SEATS)
 m_Pairs:mg "Pairs"=some (.ref a.c_Pairs)
 cl_Pairs:Cls K a.c_Pairs
 mk_Pairs:Mk K a.c_Pairs a.f_Way_init
 me_Pairs_ahead:Gu K a.c_Pairs "ahead" a.f_Way_ahead
 me_Pairs_picks_by:Gu K a.c_Pairs "picks_by" a.f_Pairs_picks_by
 me_Pairs_counted:Gu K a.c_Pairs "counted" a.f_Pairs_counted
 me_Pairs_told_by:Gu K a.c_Pairs "told_by" a.f_Pairs_told_by
 me_Pairs_outcome:Gu K a.c_Pairs "outcome" a.f_Way_outcome
 na_Pairs_hands:CA K a.c_Pairs "hands"
 na_Pairs_seats:CA K a.c_Pairs "seats"
 na_Pairs_lots:CA K a.c_Pairs "lots"
 m_PairsMargin:mg "PairsMargin"=some (.ref a.c_PairsMargin)
 cl_PairsMargin:Cls K a.c_PairsMargin
 mk_PairsMargin:Mk K a.c_PairsMargin a.f_Margin_init
 me_PairsMargin_possible:Gu K a.c_PairsMargin "possible" a.f_Margin_possible
 me_PairsMargin_leads_in:Gu K a.c_PairsMargin "leads_in" a.f_PairsMargin_leads_in
 me_PairsMargin_least:Gu K a.c_PairsMargin "least" a.f_PairsMargin_least
 me_PairsMargin_need_of:Gu K a.c_PairsMargin "need_of" a.f_PairsMargin_need_of
 me_PairsMargin_slip_for:Gu K a.c_PairsMargin "slip_for" a.f_PairsMargin_slip_for
 na_PairsMargin_way:CA K a.c_PairsMargin "way"
 ia_PairsMargin_Margin:PZ K a.c_PairsMargin a.c_Margin
 m_Margin:mg "Margin"=some (.ref a.c_Margin)
 cl_Margin:Cls K a.c_Margin
 lam:GF base mg a.lc a.lP
 lcode:a.d_reached_from.code=.ref a.lc
local macro_rules | `(tactic| trivial)=>`(tactic| refine Sz.neg (by trivial))
local macro_rules | `(tactic| trivial)=>`(tactic| refine Sz.fdiv (by trivial))
local macro_rules | `(tactic| trivial)=>`(tactic| refine Sz.sub (by trivial) (by trivial))
local macro_rules | `(tactic| trivial)=>`(tactic| refine Sz.add (by trivial) (by trivial))
local macro_rules | `(tactic| trivial)=>`(tactic| refine Sz.mul (by trivial) (by trivial))
local macro_rules | `(tactic| trivial)=>`(tactic| exact P3 _ (by first | decide | decide +kernel) (szd 200))
local macro_rules | `(tactic| trivial)=>`(tactic| first | assumption | exact szd 64 | exact szd 200 | exact szd 1000)
local macro_rules | `(tactic| and_intros)=>`(tactic| (repeat (first | with_reducible refine Kk fun _ _=>?_ | refine ⟨_,rfl,?_⟩ | refine ⟨_,_,rfl,rfl,?_⟩ | refine ⟨rfl,?_⟩ | refine ⟨(by show (_:Int)≠0;first | decide | decide +kernel),?_⟩ | refine ⟨⟨(by show (_:Int)≠0;decide),szd 9000⟩,?_⟩ | refine ⟨(by show NY _ _;exact ⟨by decide,by decide,by decide⟩),?_⟩ | refine ⟨(by show Qc _ _;refine ⟨_,_,(by trivial),(by trivial),?_⟩;decide +kernel),?_⟩ | refine ⟨_,_,_,_,rfl,rfl,SqL.of (by assumption),(by rfl),?_⟩ | refine ⟨_,_,_,_,rfl,rfl,SqT.of (by assumption),(by rfl),?_⟩ | refine ⟨_,_,rfl,.inl (SqL.of (by assumption)),?_⟩ | refine ⟨_,_,rfl,.inr (SqT.of (by assumption)),?_⟩ | refine LL (by assumption) ?_ | refine Jj (by assumption) ?_)))
local macro_rules | `(tactic| subst_eqs)=>`(tactic| ((first | refine LL (by assumption) ?_ | refine Jj (by assumption) ?_);try with_reducible refine Kk fun _ _=>?_))
theorem L6z {n:Nat}:-2^62<=(n:Int):=by omega
theorem U6z {n:Nat} (h:n<=1000):(n:Int)<2^62:=by omega
theorem N0z {n:Nat} (h:1<=n):(n:Int)≠0:=by omega
theorem P0z {n:Nat} (h:1<=n):0 < (n:Int):=by omega
theorem O1z {n:Nat} (h:1<=n):1<=(n:Int):=by omega
theorem C2z {n:Nat} (h:n<=12):(n:Int)<=12:=by omega
theorem W4z {w:Int} (h:0<=w/\w < 4):w=0\/w=1\/w=2\/w=3:=by omega
theorem K1z {k:Int} (h:k<=100) {i m:Nat} (g:i < m) (l:m<=12):k+(0+(i:Int))<=1000:=by omega
theorem K0z {k:Int} (h:0<=k) {i:Nat}:0<=k+(0+(i:Int)):=by omega
local macro_rules | `(tactic| ac_nf)=>`(tactic| first | with_reducible assumption | with_reducible exact N0z (by assumption) | with_reducible exact P0z (by assumption) | with_reducible exact O1z (by assumption) | with_reducible exact C2z (by assumption) | with_reducible exact Int.natCast_nonneg _ | with_reducible exact Nat.le_trans (by assumption) (by decide) | with_reducible exact Int.le_trans (by assumption) (by decide) | with_reducible exact And.left (by assumption) | with_reducible exact And.right (by assumption) | with_reducible exact Int.ne_of_gt (by assumption) | with_reducible exact K0z (by assumption) | with_reducible exact K1z (by assumption) (by assumption) (by assumption) | with_reducible exact W4z (by assumption) | with_reducible exact Nat.le_trans (by assumption) (Nat.le_trans (by assumption) (by decide)) | omega)
section
variable {P:Program} {w:World} {K:PySem.W.Frag} {mg:Str->Option Value} {base:Heap} {ad:Ads}
theorem HB (T:Tx K mg base ad):AI P w K mg base CX0 1 ad.f_all_of ad.d_all_of ["hands"] Rg:=by
 refine T.F_all_of.ok MJ (fun vs H Q E h=>?_) (fun cdv A outer s H vs Q E hr h=>?_)
 ·obtain ⟨h,rfl,_⟩:=h
  rfl
 obtain ⟨h,rfl,h0,h1,q⟩:=h
 refine ⟨_,(@Ah _ _ _ (@Aq _ _ _ _ (@Ak _ _ _ _ _ _ _ _ CF (@Ak _ _ _ _ _ _ _ _ Dd Ag (pv 0)) Ag))),?_⟩
 exact ⟨_,rfl,_,_,rfl,rfl,⟨h0,by ac_nf,by decide⟩,_,_,rfl,rfl,q⟩
theorem D3 (T:Tx K mg base ad):AI P w K mg base CX0 1 ad.f_with_one ad.d_with_one ["mask","hand"] QH:=by
 refine T.F_with_one.ok Kj (fun vs H Q E h=>?_) (fun cdv A outer s H vs Q E hr h=>?_)
 ·obtain ⟨m,h,rfl,_⟩:=h
  rfl
 obtain ⟨m,h,rfl,h0,h1,q⟩:=h
 refine ⟨_,(@Ah _ _ _ (@Aq _ _ _ _ (@Ak _ _ _ _ _ _ _ _ QU (pv 0) (@Ak _ _ _ _ _ _ _ _ Dd Ag (pv 1))))),?_⟩
 exact ⟨_,rfl,_,rfl,_,_,rfl,rfl,⟨h0,by ac_nf,by decide⟩,_,_,rfl,rfl,q⟩
theorem GX (T:Tx K mg base ad):AI P w K mg base CX0 1 ad.f_without ad.d_without ["mask","hand"] Mq:=by
 refine T.F_without.ok KR (fun vs H Q E h=>?_) (fun cdv A outer s H vs Q E hr h=>?_)
 ·obtain ⟨m,h,rfl,_⟩:=h
  rfl
 obtain ⟨m,h,rfl,h0,h1,q⟩:=h
 refine ⟨_,(@Ah _ _ _ (@Aq _ _ _ _ (@Ak _ _ _ _ _ _ _ _ Eu (pv 0) (@Jx _ _ _ _ _ _ Og (@Ak _ _ _ _ _ _ _ _ Dd Ag (pv 1)))))),?_⟩
 exact ⟨_,rfl,_,rfl,_,_,rfl,rfl,⟨h0,by ac_nf,by decide⟩,_,rfl,_,_,rfl,rfl,q⟩
theorem GH (T:Tx K mg base ad):AI P w K mg base CX0 1 ad.f_members ad.d_members ["mask"] Nl:=by
 refine T.F_members.ok Lj (fun vs H Q E h=>?_) (fun cdv A outer s H vs Q E hr h=>?_)
 ·obtain ⟨m,rfl,_⟩:=h
  rfl
 obtain ⟨m,rfl,m0,m1,q⟩:=h
 refine ⟨_,(@Ah _ _ _ (@Aq _ _ _ _ (B7 (fsc:=Ad CV) (N:=["mask"]) (Nc:=["mask","hand"]) rfl rfl ⟨rfl,by decide +kernel,by decide +kernel,rfl,by decide +kernel,rfl,by decide +kernel,rfl,by decide +kernel⟩ rfl (A1 rfl T.z_range (@Aa _ _ _ _ _ (QQ PySem.F.plainAttrs_int PySem.F.slot_int_bit_length PySem.F.type_int_bit_length P9 (pv 0)) Ac (by rfl))) (fun _ _ _ _=>(ED (@As _ _ _ _ _ _ _ _ CD (@Ak _ _ _ _ _ _ _ _ Eu (@Ak _ _ _ _ _ _ _ _ FD (pv 0) (pv 1)) Ag) Ag (Au _)))) (fun _ _ _ _=>(pv 1))))),?_⟩
 have hb:(Builtin.Int.intBits m)<=12:=intBits_le_iff.mpr (by show m.natAbs < 4096;omega)
 refine ⟨_,rfl,rfl,m,rfl,rfl,_,rfl,by ac_nf,by ac_nf,?_⟩
 have en:((Builtin.Int.intBits m:Nat):Int).toNat=Builtin.Int.intBits m:=by ac_nf
 rw [en]
 refine Bv (AH (by ac_nf)) (fun D i ys H'=>ys=(hands i (bit m)).map V.int/\H'=upd H D (.lst ys)) (fun D hD=>⟨rfl,rfl⟩) (fun D i ys H' hq_=>by obtain ⟨e1,e2⟩:=hq_;rw [e2,e1];exact ⟨Ab,by rw [length_map];exact MQ i (bit m)⟩) ?_ ?_
 ·rintro D i ys H' K1 K2 hD hi ⟨e1,rfl⟩ k1 k2
  have ei:(0+(i:Int)).toNat=i:=by ac_nf
  refine ⟨_,rfl,_,rfl,_,_,rfl,rfl,(by show (0:Int)<=0+(i:Int);omega),_,_,rfl,rfl,rfl,_,rfl,?_⟩
  dsimp only
  rw [show decide (V.int (Builtin.bitAnd (m / 2 ^ (0+(i:Int)).toNat) 1)=V.int 1)=bit m i from by rw [DR,ei]]
  have ms:=GP i (bit m)
  cases e:bit m i with
  | true =>
    rw [e,if_pos rfl] at ms
    refine Qh ⟨_,rfl,?_⟩
    refine k1 _ _ Ab ⟨?_,by rw [B3]⟩
    rw [ms,map_append,e1,Int.zero_add]
    rfl
  | false =>
    rw [e,if_neg (by decide)] at ms
    refine RX ?_
    exact k2 _ ⟨by rw [ms];exact e1,rfl⟩
 ·rintro D ys H' hD ⟨rfl,rfl⟩
  refine q D _ hD (Af hD _) ?_
  rw [Ab,N4 m0 m1]
theorem En (T:Tx K mg base ad):AI P w K mg base CX0 1 ad.f_is_whole ad.d_is_whole ["thing"] LM:=by
 refine T.F_is_whole.ok JN (fun vs H Q E h=>?_) (fun cdv A outer s H vs Q E hr h=>?_)
 ·obtain ⟨c,rfl,_⟩:=h
  rfl
 obtain ⟨c,rfl,q⟩:=h
 refine ⟨_,(@Ah _ _ _ (@Aq _ _ _ _ (@DW _ _ _ _ _ _ _ (@Ao _ _ _ _ _ _ _ _ _ C5 (by rfl) T.z_isinstance PyProof.Rows.boot_isinstance (@Aa _ _ _ _ _ (pv 0) (@Aa _ _ _ _ _ (Dm (v:=.ty "int") rfl T.z_int PyProof.Rows.boot_int rfl) Ac (by rfl)) (by rfl)) (by decide) (by decide) (by rfl) (by rfl)) (@DB _ _ _ _ _ (@Li _ _ _ _ (@Ao _ _ _ _ _ _ _ _ _ C5 (by rfl) T.z_isinstance PyProof.Rows.boot_isinstance (@Aa _ _ _ _ _ (pv 0) (@Aa _ _ _ _ _ (Dm (v:=.ty "bool") rfl T.z_bool PyProof.Rows.boot_bool rfl) Ac (by rfl)) (by rfl)) (by decide) (by decide) (by rfl) (by rfl))))))),?_⟩
 refine ⟨_,rfl,_,_,_,_,rfl,Dw.int c,Gf,_,rfl,?_⟩
 refine Qh ?_
 exact ⟨_,rfl,_,_,_,_,rfl,Dw.int c,Fo,_,rfl,q⟩
theorem Pp (T:Tx K mg base ad):AI P w K mg base CX0 1 ad.f_down ad.d_down ["top","bottom"] Q7:=by
 refine T.F_down.ok Pz (fun vs H Q E h=>?_) (fun cdv A outer s H vs Q E hr h=>?_)
 ·obtain ⟨t,b,rfl,_⟩:=h
  rfl
 obtain ⟨t,b,rfl,h0,hz,q⟩:=h
 refine ⟨_,(@Ah _ _ _ (@Aq _ _ _ _ (@Ak _ _ _ _ _ _ _ _ BI (pv 0) (pv 1)))),?_⟩
 exact ⟨_,rfl,_,rfl,_,_,rfl,rfl,⟨Int.ne_of_gt h0,hz⟩,q⟩
theorem Rt (T:Tx K mg base ad):AI P w K mg base CX0 1 ad.f_up ad.d_up ["top","bottom"] Sb:=by
 refine T.F_up.ok Rf (fun vs H Q E h=>?_) (fun cdv A outer s H vs Q E hr h=>?_)
 ·obtain ⟨t,b,rfl,_⟩:=h
  rfl
 obtain ⟨t,b,rfl,h0,hz,q⟩:=h
 refine ⟨_,(@Ah _ _ _ (@Aq _ _ _ _ (@Jx _ _ _ _ _ _ Lc (@Ak _ _ _ _ _ _ _ _ BI (@Jx _ _ _ _ _ _ Lc (pv 0)) (pv 1))))),?_⟩
 exact ⟨_,rfl,_,rfl,_,rfl,_,_,rfl,rfl,⟨Int.ne_of_gt h0,hz⟩,_,rfl,q⟩
theorem Hn (T:Tx K mg base ad):AI P w K mg base CX0 1 ad.f_ballots_in ad.d_ballots_in ["sheet"] Jy:=by
 refine T.F_ballots_in.ok Hq (fun vs H Q E h=>?_) (fun cdv A outer s H vs Q E hr h=>?_)
 ·obtain ⟨l,h,ls,rfl,_⟩:=h
  rfl
 obtain ⟨l,h,ls,rfl,hl,g,l60,q⟩:=h
 refine ⟨_,(@Ah _ _ _ (@Aq _ _ _ _ (@Ao _ _ _ _ _ _ _ _ _ (Ki rfl) (by rfl) T.z_sum PyProof.Rows.boot_sum (@Aa _ _ _ _ _ (KJ (fsc:=Ad BF) (N:=["sheet"]) (Nc:=["sheet","slip","number"]) rfl rfl ⟨rfl,by decide +kernel,by decide +kernel,by decide +kernel,by decide +kernel,rfl,by decide +kernel,rfl,by decide +kernel⟩ rfl (AJ (pv 0)) (fun _ _ _ _=>AK) (fun _ _ _ _=>(pv 2))) Ac (by rfl)) (by decide) (by decide) (by rfl) (by rfl)))),?_⟩
 refine ⟨_,rfl,l,rfl,⟨_,SqL.of hl⟩,?_⟩
 refine Lb (zs:=vls ls) rfl rfl (by rw [Fb];exact AH (by ac_nf)) (fun D i ys H'=>ys=((ls.take i).map fun q=>q.2.2.2).map V.int/\H'=upd H D (.lst ys)) (fun D hD=>⟨rfl,rfl⟩) (fun D i ys H' hq_=>by obtain ⟨f1,f2⟩:=hq_;exact ⟨by rw [f2];exact Ab,by rw [f1,length_map,length_map];exact length_take_le _ _⟩) (fun D i ys H' hD hq_=>by obtain ⟨_,f2⟩:=hq_;rw [f2];exact SqL.of (Af hD _ _ _ hl)) ?_ ?_
 ·rintro D i x ys H' K1 K2 hD hx ⟨f1,rfl⟩ k1 k2
  obtain ⟨f,hf,rfl,fm,et⟩:=IX hx
  refine ⟨f.1,_,_,rfl,SqT.of (Af hD _ _ _ (g f fm).1),?_⟩
  refine yes (ifT rfl ?_)
  refine ⟨_,rfl,?_⟩
  refine k1 _ _ Ab ⟨?_,by rw [B3]⟩
  rw [et,map_append,map_append,f1]
  rfl
 rintro D ys H1 hD ⟨rfl,rfl⟩
 rw [Fb,take_of_length_le (Nat.le_refl _)]
 have s1:=Af hD (.lst ((ls.map fun q=>q.2.2.2).map V.int))
 refine ⟨D,_,rfl,SqL.of Ab,?_⟩
 exact q _ s1
theorem EY (T:Tx K mg base ad):AI P w K mg base CX0 1 ad.f_pairs_by_seats ad.d_pairs_by_seats ["outcome"] MW:=by
 refine T.F_pairs_by_seats.ok BO (fun vs H Q E h=>?_) (fun cdv A outer s H vs Q E hr h=>?_)
 ·obtain ⟨o,out,rfl,_⟩:=h
  rfl
 obtain ⟨o,out,rfl,ho,l12,q⟩:=h
 refine ⟨_,(@Ae _ _ _ _ _ (@At _ _ (1) _ _ _ _ BO.nd rfl (Or.inl rfl) (@BM _ _ _ _ Ac) (by rfl) (by first | exact .inl rfl | exact .inr rfl | assumption)) (@Ae _ _ _ _ _ (Be PassesOwn.never rfl (IY rfl T.z_enumerate (@Aa _ _ _ _ _ (pv 0) Ac (by rfl))) (DY rfl (AC (A0 (i:=2) BO.nd rfl (Or.inr rfl)) (AC (A0 (i:=3) BO.nd rfl (Or.inl rfl)) Dn))) (@Ah _ _ _ (@Bs _ _ _ _ _ _ _ _ (@As _ _ _ _ _ _ _ _ Ef (pv 3) Ag (Au _)) (@Ah _ _ _ (@CB _ _ _ _ (CW PySem.F.plainAttrs_list PySem.F.slot_list_extend PySem.F.type_list_extend HQ (pv 1) (@Aa _ _ _ _ _ (KJ (fsc:=Ad AV) (N:=["outcome","pairs","x","seats"]) (Nc:=["outcome","pairs","x","seats","y","others"]) rfl rfl ⟨rfl,by decide +kernel,by decide +kernel,by decide +kernel,by decide +kernel,rfl,by decide +kernel,rfl,by decide +kernel⟩ rfl (IY rfl T.z_enumerate (@Aa _ _ _ _ _ (pv 0) Ac (by rfl))) (fun _ _ _ _=>(ED (@As _ _ _ _ _ _ _ _ CD (pv 5) Ag (Au _)))) (fun _ _ _ _=>(@BY _ _ _ _ _ (@Aa _ _ _ _ _ (pv 2) (@Aa _ _ _ _ _ (pv 4) Ac (by rfl)) (by rfl))))) Ac (by rfl))) (by rfl))) A2))) (@Ah _ _ _ (@Aq _ _ _ _ (pv 1))))),?_⟩
 have ol:(out.map V.int).length=out.length:=length_map _
 refine ⟨(by show 0<=sizeLine;decide),fun l hl=>?_⟩
 and_intros
 refine ⟨⟨_,SqL.of (Af hl _ _ _ ho)⟩,JD (xs:=out.map V.int) (fun i σ' J=>∃(v2 v3:Option V) (ps:Pq),σ'=[some (.ref o),some (.ref l),v2,v3]/\Av H J/\J l=some (.lst (vpq ps))/\Ck J ps/\ps.map (·.2)=Eo out i) ⟨none,none,[],rfl,Af hl _,Ab,(fun _ m=>absurd m List.not_mem_nil),rfl⟩ (fun i σ' J _ hq_=>by obtain ⟨_,_,_,_,e,_⟩:=hq_;exact SqL.of (e _ _ ho)) ?_ ?_⟩
 ·rintro i x T0 σ' J hx ⟨v2,v3,ps,rfl,sJ,eL,gp,em⟩ hT
  obtain ⟨z,hz,rfl⟩:=int_at hx
  have hi:i < out.length:=(List.getElem?_eq_some_iff.mp hz).1
  have gi:out.getD i 0=z:=by rw [getD_eq_getElem?_getD,hz];rfl
  have pl:ps.length<=144:=by
   have a:=congrArg List.length em
   rw [length_map] at a
   have b:=DG out i
   have c:=Nat.mul_le_mul (show i<=12 by ac_nf) l12
   omega
  have s1:=Af hT (.tup [.int (i:Int),.int z])
  have e1:(upd J T0 (.tup [.int (i:Int),.int z])) T0=some (.tup [.int (i:Int),.int z]):=Ab
  generalize upd J T0 (.tup [.int (i:Int),.int z])=J1 at s1 e1 ⊢
  refine ⟨T0,_,rfl,SqT.of e1,rfl,_,_,rfl,_,_,rfl,rfl,?_⟩
  have sJ1:=sJ.trans s1
  have eL1:=s1 _ _ eL
  and_intros
  by_cases c:0 < z
  ·refine ifT (decide_eq_true c) ?_
   and_intros
   refine ⟨.inl ⟨rfl,_,SqL.of eL1⟩,?_⟩
   and_intros
   refine ⟨⟨_,SqL.of (sJ1 _ _ ho)⟩,?_⟩
   refine Mw (zs:=out.map V.int) rfl rfl (by rw [ol];exact AH (by ac_nf)) (fun D j ys G=>∃qs:Pq,ys=vpq qs/\G D=some (.lst ys)/\Av J1 G/\Ck G qs/\qs.map (·.2)=Hr out i j) (fun D hD=>⟨[],rfl,Ab,Af hD _,(fun _ m=>absurd m List.not_mem_nil),rfl⟩) (fun D j ys G hq_=>by obtain ⟨qs,f1,f2,_,_,f5⟩:=hq_;exact ⟨f2,by rw [f1,D1,<- length_map (f:=(·.2)),f5];exact Fe out i j⟩) (fun D j ys G hD hq_=>by obtain ⟨_,_,_,f3,_⟩:=hq_;exact SqL.of (f3 _ _ (sJ1 _ _ ho))) ?_ ?_
   ·rintro D j y ys G T1 K1 K2 hD hy ⟨qs,rfl,f2,f3,f4,f5⟩ hT1 kk1 kk2
    obtain ⟨z2,hz2,rfl⟩:=int_at hy
    have gj:out.getD j 0=z2:=by rw [getD_eq_getElem?_getD,hz2];rfl
    have s4:=Af hT1 (.tup [.int (j:Int),.int z2])
    generalize upd G T1 (.tup [.int (j:Int),.int z2])=G1 at s4 ⊢
    and_intros
    by_cases c2:z2=0
    ·refine ifT (Hv c2) ?_
     and_intros
     refine ⟨(by show 2<=sizeLine;decide),fun t ht=>?_⟩
     have s5:=Af ht (.tup [V.int (i:Int),V.int (j:Int)])
     have e5:(upd G1 t (.tup [V.int (i:Int),V.int (j:Int)])) t=some (.tup [V.int (i:Int),V.int (j:Int)]):=Ab
     generalize upd G1 t (.tup [V.int (i:Int),V.int (j:Int)])=G2 at s5 e5 ⊢
     have s45:=s4.trans s5
     have eD:=s45 _ _ f2
     refine kk1 _ _ eD ⟨qs++[(t,(i:Int),(j:Int))],by unfold vpq;rw [map_append];rfl,Ab,A3 (f3.trans s45) hD,?_,by rw [map_append,Fs,gj,if_pos c2,f5];rfl⟩
     have g5:Ck G2 (qs++[(t,(i:Int),(j:Int))]):=fun q m=>by
      rcases mem_append.mp m with m | m
      ·exact s45 _ _ (f4 q m)
      ·rw [mem_singleton.mp m];exact e5
     exact g5.upd eD
    ·refine ifF (Lw c2) ?_
     exact kk2 _ ⟨qs,rfl,s4 _ _ f2,f3.trans s4,f4.same s4,by rw [Fs,gj,if_neg c2,append_nil];exact f5⟩
   rintro D ys G hD ⟨qs,rfl,f2,f3,f4,f5⟩
   rw [ol] at f5
   have ql:qs.length<=12:=by
    have a:=congrArg List.length f5
    rw [length_map] at a
    have b:=Fe out i out.length
    omega
   have eL2:=f3 _ _ eL1
   refine ⟨l,D,_,_,rfl,rfl,eL2,f2,Nat.le_of_lt (A9 (by rw [D1,D1];omega)),?_⟩
   have gA:Ck G (ps++qs):=fun q m=>(mem_append.mp m).elim (fun m=>(s1.trans f3) _ _ (gp q m)) (f4 q)
   exact ⟨_,_,ps++qs,rfl,A3 (sJ1.trans f3) hl,by rw [Ab];unfold vpq;rw [map_append],gA.upd eL2,by rw [map_append,em,f5,DZ,gi,if_pos c]⟩
  ·refine ifF (decide_eq_false c) ?_
   exact ⟨_,_,ps,rfl,sJ1,eL1,gp.same s1,by rw [DZ,gi,if_neg c,append_nil];exact em⟩
 ·rintro σ' J ⟨v2,v3,ps,rfl,sJ,eL,gp,em⟩
  refine ⟨_,rfl,?_⟩
  rw [ol] at em
  exact q l ps J hl sJ eL gp em
theorem Gq (T:Tx K mg base ad):AI P w K mg base CX0 1 ad.f_hands_of ad.d_hands_of ["leads"] MP:=by
 refine T.F_hands_of.ok J8 (fun vs H Q E h=>?_) (fun cdv A outer s H vs Q E hr h=>?_)
 ·obtain ⟨a,t,h,rfl,_⟩:=h
  rfl
 obtain ⟨a,t,h,rfl,ha,hl,h12,q⟩:=h
 refine ⟨_,(@Ah _ _ _ (@Aq _ _ _ _ (C3 rfl (by rfl) T.z_list (by rfl) T.z_range (@Ao _ _ _ _ _ _ _ _ _ Ax (by rfl) T.z_len PySem.boot_len (@Aa _ _ _ _ _ (pv 0) Ac (by rfl)) (by decide) (by decide) (by rfl) (by rfl))))),?_⟩
 and_intros
 have e:(vtb t).length=h:=by unfold vtb;rw [length_map,hl]
 refine ⟨by ac_nf,fun l hl0=>?_⟩
 rw [e,show (List.map (fun i:Nat=>V.int (i:Int)) (List.range h))=(ups h).map V.int from (by unfold ups;rw [map_map];rfl)]
 exact q l _ hl0 (Af hl0 _) Ab
theorem HJ (T:Tx K mg base ad):AI P w K mg base CX0 1 ad.f_way_by ad.d_way_by ["reached","x","y"] PC:=by
 refine T.F_way_by.ok HS (fun vs H Q E h=>?_) (fun cdv A outer s H vs Q E hr h=>?_)
 ·obtain ⟨t,h,x,y,L,be,rfl,_⟩:=h
  rfl
 obtain ⟨t,h,x,y,L,be,rfl,td,hy,yx,h12,q⟩:=h
 refine ⟨_,(@Ae _ _ _ _ _ (@At _ _ (3) _ _ _ _ HS.nd rfl (Or.inl rfl) (@BM _ _ _ _ (@Aa _ _ _ _ _ (pv 2) Ac (by rfl))) (by rfl) (by first | exact .inl rfl | exact .inr rfl | assumption)) (@Ae _ _ _ _ _ (GT PassesOwn.never (@As _ _ _ _ _ _ _ _ Dv (@Am _ _ _ _ _ _ _ Al (pv 3) Ag (fun _ _=>rfl)) (pv 1) (Au _)) (@Ah _ _ _ (@CB _ _ _ _ (CW PySem.F.plainAttrs_list PySem.F.slot_list_insert PySem.F.type_list_insert Mx (pv 3) (@Aa _ _ _ _ _ Ag (@Aa _ _ _ _ _ (@Am _ _ _ _ _ _ _ Al (@Am _ _ _ _ _ _ _ Bl (pv 0) Ag (fun _ _=>rfl)) (@Am _ _ _ _ _ _ _ Al (pv 3) Ag (fun _ _=>rfl)) (fun _ _=>rfl)) Ac (by rfl)) (by rfl))) (by rfl)))) (@Ah _ _ _ (@Aq _ _ _ _ (pv 3))))),?_⟩
 obtain ⟨b,f,bf,et,eb,ef,re⟩:=td.is
 obtain ⟨rk,par⟩:=re.par
 and_intros
 refine ⟨(by show 1<=sizeLine;decide),fun l hl=>?_⟩
 have s1:=Af hl (.lst [V.int (y:Int)])
 have e1:(upd H l (.lst [V.int (y:Int)])) l=some (.lst ((Bx (y :: [])).map V.int)):=Ab
 generalize upd H l (.lst [V.int (y:Int)])=H1 at s1 e1 ⊢
 subst_eqs
 refine ⟨fun m σ' H'=>∃(w:Nat) (r:List Nat),σ'=[some (.ref t),some (.int (x:Int)),some (.int (y:Int)),some (.ref l)]/\Av H H'/\H' l=some (.lst ((Bx (w :: r)).map V.int))/\Hs h x y L be rk w r/\rk w=m,⟨_,y,[],rfl,s1,e1,Hs.start rk hy yx,rfl⟩,?_⟩
 rintro m σ' H' ⟨w,r,rfl,s2,e2,pt,rm⟩
 have wh:w < h:=pt.all w (mem_cons_self ..)
 have at0:atI ((Bx (w :: r)).map V.int) ((0:Nat):Int)=some (.int (w:Int)):=C6 rfl
 have rl:r.length<=12:=by
  have:=Cz (xs:=Bx (w :: r)) (ys:=ups h) (List.Pairwise.map _ (fun a b (ne:a≠b) e=>ne (Int.ofNat.inj e)) (pt.rise.imp fun z e=>by rw [e] at z;exact Nat.lt_irrefl _ z)) fun z mz=>by
   obtain ⟨v,mv,rfl⟩:=mem_map.mp mz
   exact mem_map.mpr ⟨v,mem_range.mpr (pt.all v mv),rfl⟩
  unfold Bx at this
  rw [length_map,D7,length_cons] at this
  omega
 refine ⟨_,rfl,l,_,_,_,rfl,rfl,SqL.of e2,at0,?_⟩
 and_intros
 by_cases c:w=x
 ·refine ifF (FI (by rw [c])) ?_
  subst c
  and_intros
  exact q l (w :: r) H' hl s2 e2 pt.way
 ·refine ifT (L4 fun e=>c (Int.ofNat.inj e)) ?_
  obtain ⟨p,hp,p1,p2,p3,p4⟩:=par w wh c
  refine ⟨fun σ' H'=>∃(w':Nat) (r:List Nat),σ'=[some (.ref t),some (.int (x:Int)),some (.int (y:Int)),some (.ref l)]/\Av H H'/\H' l=some (.lst ((Bx (w' :: r)).map V.int))/\Hs h x y L be rk w' r/\rk w' < m,fun σ' H' ⟨w',r,a1,a2,a3,a4,a5⟩=>⟨rk w',a5,w',r,a1,a2,a3,a4,rfl⟩,?_⟩
  have et2:=s2 _ _ et
  and_intros
  refine ⟨.inl ⟨rfl,_,SqL.of e2⟩,?_⟩
  and_intros
  refine ⟨l,_,_,_,rfl,rfl,SqL.of e2,at0,?_⟩
  refine ⟨f,_,_,_,rfl,rfl,SqL.of (s2 _ _ ef),atG (by rw [re.lenf];exact wh),?_⟩
  rw [p1]
  refine ⟨l,_,0,V.int (p:Int),rfl,rfl,e2,Nat.zero_le _,A9 (by unfold Bx;rw [length_map,length_map,length_cons];omega),?_⟩
  exact ⟨p,w :: r,rfl,A3 s2 hl,by rw [Ab];rfl,pt.step c hp p2 p3 p4,by ac_nf⟩
theorem ID (T:Tx K mg base ad):AI P w K mg base CX0 1 ad.f_is_beaten ad.d_is_beaten ["strengths","hand","others"] Od:=by
 refine T.F_is_beaten.ok Iu (fun vs H Q E h=>?_) (fun cdv A outer s H vs Q E hr h=>?_)
 ·obtain ⟨r,l,rs,h,i,F,zs,rfl,_⟩:=h
  rfl
 obtain ⟨r,l,rs,h,i,F,zs,rfl,hr0,tb,hi,hl,sub,z60,q⟩:=h
 refine ⟨_,(@Ah _ _ _ (@Aq _ _ _ _ (@Ao _ _ _ _ _ _ _ _ _ (NI rfl) (by rfl) T.z_any PyProof.Rows.boot_any (@Aa _ _ _ _ _ (B7 (fsc:=Ad BR) (N:=["strengths","hand","others"]) (Nc:=["strengths","hand","others","other"]) rfl rfl ⟨rfl,by decide +kernel,by decide +kernel,rfl,by decide +kernel,rfl,by decide +kernel,rfl,by decide +kernel⟩ rfl (AJ (pv 2)) (fun _ _ _ _=>AK) (fun _ _ _ _=>(@Ca _ _ _ _ _ _ _ _ Ef (@Am _ _ _ _ _ _ _ (Bn K) (@Am _ _ _ _ _ _ _ (Bn K) (pv 0) (pv 3) (fun _ _=>rfl)) (pv 1) (fun _ _=>rfl)) (@Am _ _ _ _ _ _ _ (Bn K) (@Am _ _ _ _ _ _ _ (Bn K) (pv 0) (pv 1) (fun _ _=>rfl)) (pv 3) (fun _ _=>rfl)) (Au _)))) Ac (by rfl)) (by decide) (by decide) (by rfl) (by rfl)))),?_⟩
 refine ⟨_,rfl,l,rfl,⟨_,SqL.of hl⟩,?_⟩
 refine AS (xs:=zs.map V.int) (by rw [length_map];exact AH (by ac_nf)) (fun D k ys J=>ys=((zs.take k).map (EJ F (i:Int))).map V.bl/\J=upd H D (.lst ys)) (fun D hD=>⟨rfl,rfl⟩) (fun D k ys J hq_=>by obtain ⟨f1,f2⟩:=hq_;exact ⟨by rw [f2];exact Ab,by rw [f1,length_map,length_map];exact length_take_le _ _⟩) (fun D k ys J hD hq_=>by obtain ⟨_,f2⟩:=hq_;rw [f2];exact SqL.of (Af hD _ _ _ hl)) ?_ ?_
 ·rintro D k w ys J K1 K2 hD hw ⟨f1,rfl⟩ k1 k2
  obtain ⟨z,hz,rfl⟩:=int_at hw
  obtain ⟨j,hj,rfl⟩:=sub z (mem_of_getElem? hz)
  have sD:=Af hD (.lst ys)
  obtain ⟨ai,_,_,a3,a4⟩:=(tb.same sD).row hi
  obtain ⟨aj,_,_,b3,b4⟩:=(tb.same sD).row hj
  have er:=sD _ _ hr0
  refine yes (ifT rfl ?_)
  refine ⟨_,rfl,_,rfl,r,_,_,_,rfl,rfl,SqL.of er,b3,?_⟩
  refine ⟨_,rfl,aj,_,_,_,rfl,rfl,SqL.of b4,AQ (F j) hi,?_⟩
  refine ⟨_,rfl,_,rfl,r,_,_,_,rfl,rfl,SqL.of er,a3,?_⟩
  refine ⟨_,rfl,ai,_,_,_,rfl,rfl,SqL.of a4,AQ (F i) hj,?_⟩
  and_intros
  refine k1 _ _ Ab ⟨?_,by rw [B3]⟩
  rw [f1,take_add_one,hz,map_append,map_append]
  rfl
 rintro D ys H1 hD ⟨rfl,rfl⟩
 rw [length_map,take_of_length_le (Nat.le_refl _)]
 refine ⟨D,_,rfl,SqL.of Ab,?_⟩
 rw [show (zs.map (EJ F (i:Int))).any id=Dr F (i:Int) zs from (by unfold Dr;rw [any_map];rfl)]
 exact q _ (Af hD _)
theorem Br (T:Tx K mg base ad):AI P w K mg base CX0 1 ad.f_law_cell ad.d_law_cell ["_law_script","_law_k"] (Rs K):=by
 refine T.F_law_cell.ok E6 (fun vs H Q E h=>?_) (fun cdv A outer s H vs Q E hr h=>?_)
 ·obtain ⟨p,ns,k,rfl,_⟩:=h
  rfl
 obtain ⟨p,ns,k,rfl,hS,h63,k0,k1,q⟩:=h
 refine ⟨_,(@Ae _ _ _ _ _ (@Bs _ _ _ _ _ _ _ _ (@As _ _ _ _ _ _ _ _ EI (pv 1) (@Ao _ _ _ _ _ _ _ _ _ Ax (by rfl) T.z_len PySem.boot_len (@Aa _ _ _ _ _ (pv 0) Ac (by rfl)) (by decide) (by decide) (by rfl) (by rfl)) (Au _)) (@Ah _ _ _ (@Aq _ _ _ _ (@Ak _ _ _ _ _ _ _ _ Bb (@Am _ _ _ _ _ _ _ Al (pv 0) (pv 1) (fun _ _=>rfl)) (@Ak _ _ _ _ _ _ _ _ IS Ag Ag)))) A2) (@Ae _ _ _ _ _ (@At _ _ (2) _ _ _ _ E6.nd rfl (Or.inl rfl) (@Ak _ _ _ _ _ _ _ _ B5 (@Ak _ _ _ _ _ _ _ _ Cj (pv 1) Ag) Ag) (by rfl) (by first | exact .inl rfl | exact .inr rfl | assumption)) (@Ae _ _ _ _ _ (@FV _ _ _ _ _ _ _ _ (@As _ _ _ _ _ _ _ _ Ef (@Ao _ _ _ _ _ _ _ _ _ Ax (by rfl) T.z_len PySem.boot_len (@Aa _ _ _ _ _ (pv 0) Ac (by rfl)) (by decide) (by decide) (by rfl) (by rfl)) Ag (Au _)) (@Ah _ _ _ (@At _ _ (2) _ _ _ _ E6.nd rfl (Or.inl rfl) (@Ak _ _ _ _ _ _ _ _ B5 (@Ak _ _ _ _ _ _ _ _ Cj (@Ak _ _ _ _ _ _ _ _ Bb (@Am _ _ _ _ _ _ _ Al (pv 0) (@Ak _ _ _ _ _ _ _ _ Bb (@Ak _ _ _ _ _ _ _ _ Cj (pv 1) Ag) (@Ao _ _ _ _ _ _ _ _ _ Ax (by rfl) T.z_len PySem.boot_len (@Aa _ _ _ _ _ (pv 0) Ac (by rfl)) (by decide) (by decide) (by rfl) (by rfl))) (fun _ _=>rfl)) (@Ak _ _ _ _ _ _ _ _ IS Ag Ag)) Ag) (@Ak _ _ _ _ _ _ _ _ Cj (@Ak _ _ _ _ _ _ _ _ Cj (pv 1) (pv 1)) Ag)) (by rfl) (by first | exact .inl rfl | exact .inr rfl | assumption))) A2) (@Ah _ _ _ (@Aq _ _ _ _ (@Ak _ _ _ _ _ _ _ _ Bb (@Ak _ _ _ _ _ _ _ _ Cj (@Ak _ _ _ _ _ _ _ _ Bb (pv 2) Ag) Ag) Ag)))))),?_⟩
 have hl:(ns.map V.int).length=ns.length:=length_map _
 have szk:Sz 64 k:=Go (by ac_nf) (by ac_nf)
 have p40:(0:Int) < 10 ^ (40:Int).toNat:=by decide +kernel
 refine ⟨_,rfl,_,rfl,p,_,rfl,.inl hS,_,_,rfl,rfl,_,rfl,?_⟩
 refine Qo (fun c=>?_) (fun c=>?_)
 ·have c':k < (((ns.map V.int).length:Nat):Int):=of_decide_eq_true c
  rw [hl] at c'
  obtain ⟨v,hv⟩:=Mc k0 c'
  refine ⟨_,rfl,_,rfl,p,_,_,_,rfl,rfl,hS,hv,_,_,rfl,rfl,Oy,_,_,rfl,rfl,(Int.ne_of_gt p40),?_⟩
  exact q _ (Bp v p40).1 (Bp v p40).2
 ·and_intros
  refine ⟨fun σ' H'=>∃z:Int,σ'=[some (.ref p),some (.int k),some (.int z)]/\H=H',?_,?_⟩
  ·refine ⟨_,rfl,p,_,rfl,.inl hS,_,_,rfl,rfl,_,rfl,?_⟩
   refine Qo (fun c2=>?_) (fun c2=>?_)
   ·have c2':0 < (((ns.map V.int).length:Nat):Int):=of_decide_eq_true c2
    rw [hl] at c2'
    have m:=Bp (k*7) c2'
    obtain ⟨v,hv⟩:=Mc m.1 m.2
    refine ⟨_,rfl,?_⟩
    and_intros
    refine ⟨p,_,rfl,.inl hS,?_⟩
    rw [hl]
    refine ⟨_,_,rfl,rfl,(by show (_:Int)≠0;ac_nf),?_⟩
    refine ⟨p,_,_,_,rfl,rfl,hS,hv,_,_,rfl,rfl,Oy,_,_,rfl,rfl,(Int.ne_of_gt p40),?_⟩
    have szv:Sz 200 (v.fmod (10 ^ (40:Int).toNat)):=Gw (Bp v p40).1 (Bp v p40).2
    and_intros
    exact rfl
   ·exact ⟨_,rfl,rfl⟩
  rintro σ' H' ⟨z,rfl,rfl⟩
  have m1:=Bp z (show (0:Int) < 2147483647 by decide)
  have sz1:Sz 64 (z.fmod 2147483647):=Go (by ac_nf) (by ac_nf)
  and_intros
  have m:=Bp (z.fmod 2147483647*69621) (show (0:Int) < 2147483629 by decide)
  exact q _ m.1 (Int.lt_trans m.2 (by decide))
theorem Ea (T:Tx K mg base ad):AI P w K mg base CX0 1 ad.f_law_mixed ad.d_law_mixed ["_law_cell_here","_law_by"] PJ:=by
 refine T.F_law_mixed.ok Ff (fun vs H Q E h=>?_) (fun cdv A outer s H vs Q E hr h=>?_)
 ·obtain ⟨c,b,rfl,_⟩:=h
  rfl
 obtain ⟨c,b,rfl,szc,b0,b1,q⟩:=h
 refine ⟨_,(@Ae _ _ _ _ _ (@At _ _ (2) _ _ _ _ Ff.nd rfl (Or.inl rfl) (@Ak _ _ _ _ _ _ _ _ B5 Ag (@Ak _ _ _ _ _ _ _ _ Cj (pv 1) Ag)) (by rfl) (by first | exact .inl rfl | exact .inr rfl | assumption)) (@Ah _ _ _ (@Aq _ _ _ _ (@Ak _ _ _ _ _ _ _ _ Bb (@Ak _ _ _ _ _ _ _ _ Cj (@Ak _ _ _ _ _ _ _ _ B5 (pv 0) Ag) (pv 2)) (@Ak _ _ _ _ _ _ _ _ B5 (@Ak _ _ _ _ _ _ _ _ IS Ag Ag) Ag))))),?_⟩
 have szb:Sz 64 b:=Go (by ac_nf) (by ac_nf)
 and_intros
 have m:=Bp ((c+3)*(618033988749894848204586834365+b*271828182845904523536028747)) (show (0:Int) < 10 ^ (30:Int).toNat+57 by decide)
 exact q _ m.1 (Int.lt_trans m.2 (by decide))
theorem JB (T:Tx K mg base ad):AI P w K mg base CX0 1 ad.f_law_mask ad.d_law_mask ["_law_some"] Q1:=by
 refine T.F_law_mask.ok Kg (fun vs H Q E h=>?_) (fun cdv A outer s H vs Q E hr h=>?_)
 ·obtain ⟨l,hs,rfl,_⟩:=h
  rfl
 obtain ⟨l,hs,rfl,hl,l100,h64,q⟩:=h
 refine ⟨_,(@Ah _ _ _ (@Aq _ _ _ _ (@Ao _ _ _ _ _ _ _ _ _ (Ki rfl) (by rfl) T.z_sum PyProof.Rows.boot_sum (@Aa _ _ _ _ _ (B7 (fsc:=Ad Cm) (N:=["_law_some"]) (Nc:=["_law_some","_law_hand"]) rfl rfl ⟨rfl,by decide +kernel,by decide +kernel,rfl,by decide +kernel,rfl,by decide +kernel,rfl,by decide +kernel⟩ rfl (AJ (pv 0)) (fun _ _ _ _=>AK) (fun _ _ _ _=>(@Ak _ _ _ _ _ _ _ _ Dd Ag (pv 1)))) Ac (by rfl)) (by decide) (by decide) (by rfl) (by rfl)))),?_⟩
 and_intros
 refine ⟨⟨_,SqL.of hl⟩,?_⟩
 refine AS (xs:=hs.map V.int) (by rw [length_map];exact Ke (by ac_nf)) (fun D i ys H'=>ys=((hs.take i).map fun h=>(1:Int)*2 ^ h.toNat).map V.int/\H'=upd H D (.lst ys)) (fun D hD=>⟨rfl,rfl⟩) (fun D i ys H' hq_=>by obtain ⟨f1,f2⟩:=hq_;exact ⟨by rw [f2];exact Ab,by rw [f1,length_map,length_map];exact length_take_le _ _⟩) (fun D i ys H' hD hq_=>by obtain ⟨_,f2⟩:=hq_;rw [f2];exact SqL.of (Af hD _ _ _ hl)) ?_ ?_
 ·rintro D i x ys H' K1 K2 hD hx ⟨f1,rfl⟩ k1 k2
  obtain ⟨z,hz,rfl⟩:=int_at hx
  have et:hs.take (i+1)=hs.take i++[z]:=by rw [take_succ,hz];rfl
  obtain ⟨z0,z64⟩:=h64 z (mem_of_getElem? hz)
  refine yes (ifT rfl ?_)
  refine ⟨_,rfl,_,_,rfl,rfl,⟨by ac_nf,by ac_nf,by decide⟩,?_⟩
  refine k1 _ _ Ab ⟨?_,by rw [B3]⟩
  rw [f1,et,map_append,map_append]
  rfl
 ·rintro D ys H' hD ⟨rfl,rfl⟩
  refine ⟨D,_,rfl,SqL.of Ab,?_⟩
  rw [length_map,take_length]
  exact q _ (Af hD _)
theorem Cb (T:Tx K mg base ad):AI P w K mg base CX0 1 ad.f_law_whole ad.d_law_whole ["_law_found"] LM:=by
 refine T.F_law_whole.ok Jh (fun vs H Q E h=>?_) (fun cdv A outer s H vs Q E hr h=>?_)
 ·obtain ⟨c,rfl,_⟩:=h
  rfl
 obtain ⟨c,rfl,q⟩:=h
 refine ⟨_,(@Ah _ _ _ (@Aq _ _ _ _ (@DW _ _ _ _ _ _ _ (@Ao _ _ _ _ _ _ _ _ _ C5 (by rfl) T.z_isinstance PyProof.Rows.boot_isinstance (@Aa _ _ _ _ _ (pv 0) (@Aa _ _ _ _ _ (Dm (v:=.ty "int") rfl T.z_int PyProof.Rows.boot_int rfl) Ac (by rfl)) (by rfl)) (by decide) (by decide) (by rfl) (by rfl)) (@DB _ _ _ _ _ (@Li _ _ _ _ (@Ao _ _ _ _ _ _ _ _ _ C5 (by rfl) T.z_isinstance PyProof.Rows.boot_isinstance (@Aa _ _ _ _ _ (pv 0) (@Aa _ _ _ _ _ (Dm (v:=.ty "bool") rfl T.z_bool PyProof.Rows.boot_bool rfl) Ac (by rfl)) (by rfl)) (by decide) (by decide) (by rfl) (by rfl))))))),?_⟩
 refine ⟨_,rfl,_,_,_,_,rfl,Dw.int c,Gf,_,rfl,?_⟩
 refine Qh ?_
 exact ⟨_,rfl,_,_,_,_,rfl,Dw.int c,Fo,_,rfl,q⟩
theorem IU (T:Tx K mg base ad):AI P w K mg base CX0 1 ad.f_law_place ad.d_law_place ["_law_slip_here","_law_hand"] M9:=by
 refine T.F_law_place.ok Fn (fun vs H Q E h=>?_) (fun cdv A outer s H vs Q E hr h=>?_)
 ·obtain ⟨t,ts,i,rfl,_⟩:=h
  rfl
 obtain ⟨t,ts,i,rfl,ht,l12,i64,q⟩:=h
 refine ⟨_,(@Ae _ _ _ _ _ (Be PassesOwn.never rfl (A1 rfl T.z_range (@Aa _ _ _ _ _ (@Ao _ _ _ _ _ _ _ _ _ Ax (by rfl) T.z_len PySem.boot_len (@Aa _ _ _ _ _ (pv 0) Ac (by rfl)) (by decide) (by decide) (by rfl) (by rfl)) Ac (by rfl))) (A0 (i:=2) Fn.nd rfl (Or.inl rfl)) (@Ah _ _ _ (@Bs _ _ _ _ _ _ _ _ (@As _ _ _ _ _ _ _ _ CD (@Ak _ _ _ _ _ _ _ _ Eu (@Ak _ _ _ _ _ _ _ _ FD (@Am _ _ _ _ _ _ _ Bl (pv 0) (pv 2) (fun _ _=>rfl)) (pv 1)) Ag) Ag (Au _)) (@Ah _ _ _ (@Aq _ _ _ _ (pv 2))) A2))) (@Ah _ _ _ (@Aq _ _ _ _ (@Ao _ _ _ _ _ _ _ _ _ Ax (by rfl) T.z_len PySem.boot_len (@Aa _ _ _ _ _ (pv 0) Ac (by rfl)) (by decide) (by decide) (by rfl) (by rfl))))),?_⟩
 have tl:(ts.map V.int).length=ts.length:=length_map _
 and_intros
 refine ⟨L6z,U6z (by ac_nf),AN (fun k σ' J=>∃v,σ'=[some (.ref t),some (.int (i:Int)),v]/\J=H/\∀j u,j < k->ts[j]?=some u->bit u i=false) ⟨none,rfl,rfl,fun j u z=>absurd z (Nat.not_lt_zero j)⟩ ?_ ?_⟩
 ·rintro k σ' J hk ⟨v,rfl,rfl,no⟩
  have hk':k < ts.length:=by ac_nf
  obtain ⟨u,hu⟩:∃u,ts[k]?=some u:=⟨_,List.getElem?_eq_getElem hk'⟩
  and_intros
  refine ⟨t,_,_,_,rfl,rfl,SqT.of ht,(by rw [Int.zero_add];exact atN hu),?_⟩
  and_intros
  refine ⟨by ac_nf,?_⟩
  and_intros
  have hb:=DR u (i:Int)
  rw [Int.toNat_natCast] at hb
  rw [Int.toNat_natCast]
  cases b:bit u i with
  | true =>
    refine ifT (hb.trans b) ?_
    and_intros
    rw [KP hu b no] at q
    rw [Int.zero_add]
    exact q
  | false =>
    refine ifF (hb.trans b) ?_
    refine ⟨_,rfl,rfl,fun j w hj hw=>?_⟩
    rcases Nat.lt_or_eq_of_le (Nat.le_of_lt_succ hj) with z | z
    ·exact no j w z hw
    ·rw [z,hu] at hw
     rw [<- Option.some.inj hw]
     exact b
 rintro σ' J ⟨v,rfl,rfl,no⟩
 rw [Int.toNat_natCast,tl] at no
 rw [MM no] at q
 and_intros
 show Q (.int (((ts.map V.int).length:Nat):Int)) J
 rw [tl]
 exact q
theorem FJ (T:Tx K mg base ad):AI P w K mg base CX0 1 ad.f_law_strengths ad.d_law_strengths ["_law_links"] RQ:=by
 refine T.F_law_strengths.ok Bu (fun vs H Q E h=>?_) (fun cdv A outer s H vs Q E hr h=>?_)
 ·obtain ⟨a,as,h,L,rfl,_⟩:=h
  rfl
 obtain ⟨a,as,h,L,rfl,ha,tb,h12,q⟩:=h
 refine ⟨_,(@Ae _ _ _ _ _ (@At _ _ (1) _ _ _ _ Bu.nd rfl (Or.inl rfl) (@Ao _ _ _ _ _ _ _ _ _ Ax (by rfl) T.z_len PySem.boot_len (@Aa _ _ _ _ _ (pv 0) Ac (by rfl)) (by decide) (by decide) (by rfl) (by rfl)) (by rfl) (by first | exact .inl rfl | exact .inr rfl | assumption)) (@Ae _ _ _ _ _ (Di (j:=2) (fsc:=Ad Bk) (N:=["_law_links","_law_hands","_law_found","_law_by","_law_x","_law_y"]) (Nc:=["_law_links","_law_hands","_law_found","_law_by","_law_x","_law_y","_law_row"]) rfl rfl ⟨rfl,by decide +kernel,by decide +kernel,rfl,by decide +kernel,rfl,by decide +kernel,rfl,by decide +kernel⟩ rfl Bu.nd rfl rfl (AJ (pv 0)) (fun _ _ _ _=>AK) (fun _ _ _ _=>(@BK _ _ _ _ _ _ _ _ _ (EG K) (by rfl) T.z_list PyProof.Rows.boot_list (@Aa _ _ _ _ _ (pv 6) Ac (by rfl)) (by decide) (by decide) (by rfl) (by rfl))) rfl) (@Ae _ _ _ _ _ (Be PassesOwn.never rfl (A1 rfl T.z_range (@Aa _ _ _ _ _ (pv 1) Ac (by rfl))) (A0 (i:=3) Bu.nd rfl (Or.inl rfl)) (@Ah _ _ _ (Be PassesOwn.never rfl (A1 rfl T.z_range (@Aa _ _ _ _ _ (pv 1) Ac (by rfl))) (A0 (i:=4) Bu.nd rfl (Or.inl rfl)) (@Ah _ _ _ (Be PassesOwn.never rfl (A1 rfl T.z_range (@Aa _ _ _ _ _ (pv 1) Ac (by rfl))) (A0 (i:=5) Bu.nd rfl (Or.inl rfl)) (@Ah _ _ _ (@Bs _ _ _ _ _ _ _ _ (PW.pt (@DE _ _ _ _ _ _ _ (@As _ _ _ _ _ _ _ _ Dv (pv 4) (pv 5) (Au _)) (@DE _ _ _ _ _ _ _ (@As _ _ _ _ _ _ _ _ Dv (pv 4) (pv 3) (Au _)) (@Dj _ _ _ _ (@As _ _ _ _ _ _ _ _ Dv (pv 5) (pv 3) (Au _)))))) (@Ah _ _ _ (Et (@Ao _ _ _ _ _ _ _ _ _ (DM rfl) (by rfl) T.z_max PyProof.Rows.boot_max (@Aa _ _ _ _ _ (@Am _ _ _ _ _ _ _ Al (@Am _ _ _ _ _ _ _ Al (pv 2) (pv 4) (fun _ _=>rfl)) (pv 5) (fun _ _=>rfl)) (@Aa _ _ _ _ _ (@Ao _ _ _ _ _ _ _ _ _ (Ft rfl) (by rfl) T.z_min PyProof.Rows.boot_min (@Aa _ _ _ _ _ (@Am _ _ _ _ _ _ _ Al (@Am _ _ _ _ _ _ _ Al (pv 2) (pv 4) (fun _ _=>rfl)) (pv 3) (fun _ _=>rfl)) (@Aa _ _ _ _ _ (@Am _ _ _ _ _ _ _ Al (@Am _ _ _ _ _ _ _ Al (pv 2) (pv 3) (fun _ _=>rfl)) (pv 5) (fun _ _=>rfl)) Ac (by rfl)) (by rfl)) (by decide) (by decide) (by rfl) (by rfl)) Ac (by rfl)) (by rfl)) (by decide) (by decide) (by rfl) (by rfl)) (FM (@Am _ _ _ _ _ _ _ Al (pv 2) (pv 4) (fun _ _=>rfl)) (pv 5) DF))) A2))))))) (@Ah _ _ _ (@Aq _ _ _ _ (pv 2)))))),?_⟩
 have al:(as.map V.ref).length=h:=by rw [length_map,tb.1]
 and_intros
 rw [al]
 refine ⟨⟨_,SqL.of ha⟩,?_⟩
 refine AS (xs:=as.map V.ref) (by rw [length_map,tb.1];exact AH (by ac_nf)) (fun D i ys J=>∃bs:List Addr,ys=bs.map V.ref/\bs.length=i/\bs.Nodup/\J D=some (.lst ys)/\Av H J/\D ∉ bs/\(∀a∈bs,H a=none)/\∀k b,bs[k]?=some b->J b=some (.lst (((List.range h).map fun y=>L k y).map V.int))) (fun D hD=>⟨[],rfl,rfl,nodup_nil,Ab,Af hD _,(fun m=>nomatch m),(fun _ m=>absurd m List.not_mem_nil),(fun _ _ e=>by cases e)⟩) (fun D i ys J hq_=>by obtain ⟨bs,f1,f2,_,f3,_⟩:=hq_;exact ⟨f3,by rw [f1,length_map,f2];exact Nat.le_refl _⟩) (fun D i ys J hD hq_=>by obtain ⟨_,_,_,_,_,f5,_⟩:=hq_;exact SqL.of (f5 _ _ ha)) ?_ ?_
 ·rintro D i x ys J K1 K2 hD hx ⟨bs,rfl,f2,f3,f4,f5,f6,f7,f8⟩ k1 k2
  rw [List.getElem?_map] at hx
  obtain ⟨a,ha,rfl⟩:=Option.map_eq_some_iff.mp hx
  refine yes (ifT rfl ?_)
  refine ⟨_,rfl,a,_,rfl,.inl (SqL.of (f5 _ _ (tb.2.2 i a ha))),fun D2 hD2=>?_⟩
  have sD:=Af hD2 (.lst (((List.range h).map fun y=>L i y).map V.int))
  have eD:(upd J D2 (.lst (((List.range h).map fun y=>L i y).map V.int))) D2=some (.lst (((List.range h).map fun y=>L i y).map V.int)):=Ab
  have dd:D2≠D:=fun z=>by rw [z,f4] at hD2;cases hD2
  have na:D2 ∉ bs:=fun m=>by
   obtain ⟨k,hk⟩:=List.getElem?_of_mem m
   rw [f8 k D2 hk] at hD2
   cases hD2
  have nD:D ∉ bs:=f6
  have nD2:=none_of f5 hD2
  generalize upd J D2 (.lst (((List.range h).map fun y=>L i y).map V.int))=J5 at sD eD ⊢
  refine k1 _ _ (sD _ _ f4) ⟨bs++[D2],by rw [map_append];rfl,by rw [length_append,f2];rfl,nodup_append.mpr ⟨f3,by simp,fun a ma b mb e=>na (by rw [<- mem_singleton.mp mb,<- e];exact ma)⟩,Ab,A3 (f5.trans sD) hD,fun m=>?_,fun a m=>?_,fun k b e=>?_⟩
  ·rcases mem_append.mp m with m | m
   ·exact f6 m
   ·exact dd (mem_singleton.mp m).symm
  ·rcases mem_append.mp m with m | m
   ·exact f7 a m
   ·rw [mem_singleton.mp m];exact nD2
  ·by_cases c:k < bs.length
   ·rw [List.getElem?_append_left c] at e
    rw [Aj (fun z=>f6 (by rw [<- z];exact mem_of_getElem? e))]
    exact sD _ _ (f8 k b e)
   ·rw [List.getElem?_append_right (by ac_nf)] at e
    have ek:k=i:=by
     have:=(List.getElem?_eq_some_iff.mp e).1
     rw [length_singleton] at this
     omega
    rw [ek,f2,Nat.sub_self] at e
    cases Option.some.inj e
    rw [Aj dd,ek]
    exact eD
 rintro D ys H1 hD ⟨bs,rfl,g2,g3,eD,s1,g6,g7,g8⟩
 have tb1:Ba H1 bs h L:=⟨by rw [g2,al],g3,g8⟩
 clear g2 g3 g8
 and_intros
 refine ⟨L6z,U6z (by ac_nf),AN (fun b σ' H2=>∃v3 v4 v5:Option V,σ'=[some (.ref a),some (.int (h:Int)),some (.ref D),v3,v4,v5]/\CC bs H1 H2/\Ba H2 bs h (fwN L b)) ⟨none,none,none,rfl,CC.of (fun _ _ e=>e),tb1⟩ ?_ ?_⟩
 ·rintro b σ' H2 hb ⟨v3,v4,v5,rfl,k2,tb2⟩
  have hb':b < h:=by ac_nf
  have eb:(0:Int)+(b:Int)=(b:Int):=Int.zero_add _
  obtain ⟨G,eG⟩:∃G,G=fwN L b:=⟨_,rfl⟩
  rw [<- eG] at tb2
  and_intros
  refine ⟨L6z,U6z (by ac_nf),AN (fun x σ' H3=>∃v4 v5:Option V,σ'=[some (.ref a),some (.int (h:Int)),some (.ref D),some (.int (0+(b:Int))),v4,v5]/\CC bs H1 H3/\Ba H3 bs h (fwP G b x 0)) ⟨_,_,rfl,k2,tb2.congr fun u v _ _=>by rw [On]⟩ ?_ ?_⟩
  ·rintro x σ' H3 hx ⟨v4,v5,rfl,k3,tb3⟩
   have hx':x < h:=by ac_nf
   have ex:(0:Int)+(x:Int)=(x:Int):=Int.zero_add _
   and_intros
   refine ⟨L6z,U6z (by ac_nf),AN (fun y σ' H4=>∃v5:Option V,σ'=[some (.ref a),some (.int (h:Int)),some (.ref D),some (.int (0+(b:Int))),some (.int (0+(x:Int))),v5]/\CC bs H1 H4/\Ba H4 bs h (fwP G b x y)) ⟨_,rfl,k3,tb3⟩ ?_ ?_⟩
   ·rintro y σ' H4 hy ⟨v5,rfl,k4,tb4⟩
    have hy':y < h:=by ac_nf
    have ey:(0:Int)+(y:Int)=(y:Int):=Int.zero_add _
    have same:¬ (x≠y/\x≠b/\y≠b)->Ba H4 bs h (fwP G b x (y+1)):=fun n=>tb4.congr fun u v _ _=>by
     rw [Ka]
     have:fwB G b x y=G x y:=by unfold fwB;rw [if_neg n]
     rw [this]
     split <;> omega
    have eD4:=k4 _ _ g6 eD
    and_intros
    by_cases c1:x=y
    ·refine ifF (FI (by ac_nf)) ?_
     exact ⟨_,rfl,k4,same fun z=>z.1 c1⟩
    refine ifT (L4 (by ac_nf)) ?_
    and_intros
    by_cases c2:x=b
    ·refine ifF (FI (by ac_nf)) ?_
     exact ⟨_,rfl,k4,same fun z=>z.2.1 c2⟩
    refine ifT (L4 (by ac_nf)) ?_
    and_intros
    by_cases c3:y=b
    ·refine ifF (FI (by ac_nf)) ?_
     exact ⟨_,rfl,k4,same fun z=>z.2.2 c3⟩
    refine ifT (L4 (by ac_nf)) ?_
    obtain ⟨ax,r1,r2,r3,r4⟩:=tb4.row hx'
    obtain ⟨ab,p1,p2,p3,p4⟩:=tb4.row hb'
    have vxb:fwP G b x y x b=G x b:=JY G b x y x b (by unfold fwB;rw [if_neg (fun z=>z.2.2 rfl)])
    have vby:fwP G b x y b y=G b y:=JY G b x y b y (by unfold fwB;rw [if_neg (fun z=>z.2.1 rfl)])
    have vxy:fwP G b x y x y=G x y:=by
     unfold fwP prB
     rw [decide_eq_false (Nat.lt_irrefl x),decide_eq_false (Nat.lt_irrefl y),if_neg (by simp)]
    and_intros
    refine ⟨D,_,_,_,rfl,rfl,SqL.of eD4,(by rw [ex];exact r3),?_⟩
    and_intros
    refine ⟨ax,_,_,_,rfl,rfl,SqL.of r4,(by rw [ey];exact AQ (fwP G b x y x) hy'),?_⟩
    and_intros
    refine ⟨D,_,_,_,rfl,rfl,SqL.of eD4,(by rw [ex];exact r3),?_⟩
    and_intros
    refine ⟨ax,_,_,_,rfl,rfl,SqL.of r4,(by rw [eb];exact AQ (fwP G b x y x) hb'),?_⟩
    and_intros
    refine ⟨D,_,_,_,rfl,rfl,SqL.of eD4,(by rw [eb];exact p3),?_⟩
    and_intros
    refine ⟨ab,_,_,_,rfl,rfl,SqL.of p4,(by rw [ey];exact AQ (fwP G b x y b) hy'),?_⟩
    refine ⟨_,_,rfl,?_⟩
    refine ⟨_,_,rfl,?_⟩
    rw [vxb,vby,vxy]
    have ev:(if (if G b y < G x b then G b y else G x b) > G x y then (if G b y < G x b then G b y else G x b) else G x y)=fwB G b x y:=by
     have e0:fwB G b x y=max (G x y) (min (G x b) (G b y)):=by unfold fwB;rw [if_pos ⟨c1,c2,c3⟩]
     rw [e0]
     split <;> split <;> omega
    rw [ev]
    and_intros
    refine ⟨D,_,_,_,rfl,rfl,SqL.of eD4,(by rw [ex];exact r3),?_⟩
    refine ⟨_,rfl,ax,_,_,y,rfl,rfl,r4,(by rw [ey];exact EB (by rw [length_map,length_map,length_range];exact hy')),?_⟩
    refine ⟨_,rfl,k4.put r2,(tb4.setv (y:=y) r1 (fwB G b x y)).congr fun u v _ _=>?_⟩
    unfold EZ
    rw [Ka,vxy]
   ·rintro σ' H4 ⟨v5,rfl,k4,tb4⟩
    rw [Int.toNat_natCast] at tb4
    exact ⟨_,_,rfl,k4,tb4.congr fun u v _ hv=>by rw [OT _ _ _ _ _ _ hv]⟩
  ·rintro σ' H3 ⟨v4,v5,rfl,k3,tb3⟩
   rw [Int.toNat_natCast] at tb3
   exact ⟨_,_,_,rfl,k3,tb3.congr fun u v hu _=>by rw [OM _ _ _ _ _ hu,eG];rfl⟩
 ·rintro σ' H2 ⟨v3,v4,v5,rfl,k2,tb2⟩
  rw [Int.toNat_natCast] at tb2
  subst_eqs
  exact ⟨_,rfl,q D bs H2 (k2.same s1 g7) (k2 _ _ g6 eD) tb2⟩
theorem Gi (T:Tx K mg base ad):AI P w K mg base CX0 1 ad.f_law_fits ad.d_law_fits ["_law_many","_law_first","_law_second","_law_ahead"] QE:=by
 refine T.F_law_fits.ok E3 (fun vs H Q E h=>?_) (fun cdv A outer s H vs Q E hr h=>?_)
 ·obtain ⟨m,f,s,ah,rfl,_⟩:=h
  rfl
 obtain ⟨m,f,s,ah,rfl,szm,q⟩:=h
 refine ⟨_,(@Ae _ _ _ _ _ (@At _ _ (4) _ _ _ _ E3.nd rfl (Or.inl rfl) (@Ak _ _ _ _ _ _ _ _ B5 (pv 2) (@Ak _ _ _ _ _ _ _ _ Cj Ag (pv 0))) (by rfl) (by first | exact .inl rfl | exact .inr rfl | assumption)) (@Ae _ _ _ _ _ (@At _ _ (5) _ _ _ _ E3.nd rfl (Or.inl rfl) (@Ak _ _ _ _ _ _ _ _ CF (pv 1) (@Ak _ _ _ _ _ _ _ _ Cj Ag (pv 0))) (by rfl) (by first | exact .inl rfl | exact .inr rfl | assumption)) (@Ah _ _ _ (@Aq _ _ _ _ (@Qb _ _ _ _ _ _ _ (@Ca _ _ _ _ _ _ _ _ Ef (pv 4) (pv 5) (Au _)) (@DB _ _ _ _ _ (@DW _ _ _ _ _ _ _ (pv 3) (@DB _ _ _ _ _ (@Ca _ _ _ _ _ _ _ _ CD (pv 4) (pv 5) (Au _)))))))))),?_⟩
 unfold JR at q
 and_intros
 by_cases c:f - 2*m < s+2*m
 ·rw [decide_eq_true c,Bool.true_or] at q
  exact ifT (decide_eq_true c) q
 ·rw [decide_eq_false c,Bool.false_or] at q
  refine ifF (decide_eq_false c) ?_
  and_intros
  by_cases b:ah=true
  ·rw [b,Bool.true_and] at q
   refine ifT b ?_
   and_intros
   show Q (.bl (decide (V.int (s+2*m)=V.int (f - 2*m)))) H
   rw [show decide (V.int (s+2*m)=V.int (f - 2*m))=decide (s+2*m=f - 2*m) from by congr 1;exact propext ⟨fun z=>V.int.inj z,fun z=>by rw [z]⟩]
   exact q
  ·have b:=Bool.eq_false_iff.mpr b
   rw [b,Bool.false_and] at q
   refine ifF b ?_
   exact q
theorem GS (T:Tx K mg base ad):AI P w K mg base CX0 1 ad.f_Margin_init ad.d_Margin_init ["self","way"] (Ji K):=by
 refine T.F_Margin_init.ok Ha (fun vs H Q E h=>?_) (fun cdv A outer s H vs Q E hr h=>?_)
 ·obtain ⟨g,C,dx,a,rfl,_⟩:=h
  rfl
 obtain ⟨g,C,dx,a,rfl,hg,cl,na,q⟩:=h
 refine ⟨_,(@Ah _ _ _ (IQ (pv 0) (pv 1) rfl)),?_⟩
 refine ⟨_,rfl,_,rfl,g,C,dx,[],rfl,hg,cl,na,(by simp only [length_nil];decide),?_⟩
 rw [RT]
 exact q _ (Dx (FX H g)) Ab
theorem IT (T:Tx K mg base ad):AI P w K mg base CX0 1 ad.f_Way_ahead ad.d_Way_ahead ["self","one","other"] (Nv ad.c_Pairs):=by
 refine T.F_Way_ahead.ok Jd (fun vs H Q E h=>?_) (fun cdv A outer s H vs Q E hr h=>?_)
 ·obtain ⟨a,h,s,xs,x,y,rfl,_⟩:=h
  rfl
 obtain ⟨a,h,s,xs,x,y,rfl,is,mx,my,q⟩:=h
 refine ⟨_,(@Ah _ _ _ (@Aq _ _ _ _ (@Ca _ _ _ _ _ _ _ _ EI (CW PySem.F.plainAttrs_list PySem.F.slot_list_index PySem.F.type_list_index (Fh (K:=K)) (Bo (pv 0) rfl) (@Aa _ _ _ _ _ (pv 1) Ac (by rfl))) (CW PySem.F.plainAttrs_list PySem.F.slot_list_index PySem.F.type_list_index (Fh (K:=K)) (Bo (pv 0) rfl) (@Aa _ _ _ _ _ (pv 2) Ac (by rfl))) (Au _)))),?_⟩
 obtain ⟨dx,l,k1,k2⟩:=is
 refine ⟨_,rfl,a,_,dx,_,_,rfl,k1,T.cl_Pairs,T.na_Pairs_lots,rfl,?_⟩
 refine ⟨.inl ⟨rfl,_,SqL.of k2⟩,_,rfl,l,xs,x,rfl,rfl,SqL.of k2,mx,?_⟩
 refine ⟨_,rfl,a,_,dx,_,_,rfl,k1,T.cl_Pairs,T.na_Pairs_lots,rfl,?_⟩
 refine ⟨.inl ⟨rfl,_,SqL.of k2⟩,_,rfl,l,xs,y,rfl,rfl,SqL.of k2,my,?_⟩
 and_intros
 have e:decide (((xs.idxOf x:Nat):Int) < ((xs.idxOf y:Nat):Int))=decide (xs.idxOf x < xs.idxOf y):=by congr 1;apply propext;omega
 show Q (.bl (decide (((xs.idxOf x:Nat):Int) < ((xs.idxOf y:Nat):Int)))) H
 rw [e]
 exact q
theorem Fu (T:Tx K mg base ad):AI P w K mg base CX0 1 ad.f_Pairs_told_by ad.d_Pairs_told_by ["self","paper"] (PF ad.c_Pairs):=by
 refine T.F_Pairs_told_by.ok FO (fun vs H Q E h=>?_) (fun cdv A outer s H vs Q E hr h=>?_)
 ·obtain ⟨a,p,h,s,ns,ls,F,rfl,_⟩:=h
  rfl
 obtain ⟨a,p,h,s,ns,ls,F,rfl,md,pp,q⟩:=h
 refine ⟨_,(@Ah _ _ _ (@Aq _ _ _ _ (B7 (fsc:=Ad Bj) (N:=["self","paper"]) (Nc:=["self","paper","hand"]) rfl rfl ⟨rfl,by decide +kernel,by decide +kernel,rfl,by decide +kernel,rfl,by decide +kernel,rfl,by decide +kernel⟩ rfl (A1 rfl T.z_range (@Aa _ _ _ _ _ (Bo (pv 0) rfl) Ac (by rfl))) (fun _ _ _ _=>AK) (fun _ _ _ _=>(Kf (@As _ _ _ _ _ _ _ _ (L3 K) (pv 2) (@Am _ _ _ _ _ _ _ (Gy K) (pv 1) Ag (fun _ _=>rfl)) (by with_unfolding_all rfl)) Ag Ag))))),?_⟩
 obtain ⟨dx,la,k1,k2⟩:=id md.is
 obtain ⟨m,sh,pk,ms,rows,p1,p2,p3,p4,p5,p6,p7⟩:=pp.is
 have h12:=md.h12
 and_intros
 refine ⟨a,_,dx,_,_,rfl,k1,T.cl_Pairs,T.na_Pairs_hands,rfl,?_⟩
 refine ⟨_,rfl,by ac_nf,by ac_nf,?_⟩
 rw [Int.toNat_natCast]
 refine Bv (AH (by ac_nf)) (fun D i ys J=>ys=((List.range i).map fun j:Nat=>if (j:Int)∈Ay F s ns then (1:Int) else 0).map V.int/\J=upd H D (.lst ys)) (fun D hD=>⟨rfl,rfl⟩) (fun D i ys J hq_=>by obtain ⟨g1,g2⟩:=hq_;exact ⟨by rw [g2];exact Ab,by rw [g1,length_map,length_map,length_range];exact Nat.le_refl _⟩) ?_ ?_
 ·rintro D i ys J K1 K2 hD hi ⟨g1,rfl⟩ kk1 kk2
  have e0:(0:Int)+(i:Int)=(i:Int):=Int.zero_add _
  have s1:=Af hD (.lst ys)
  rw [e0]
  refine yes (ifT rfl ?_)
  have p1':=s1 _ _ p1
  have p7':=s1 _ _ p7
  and_intros
  refine ⟨Os _,?_⟩
  by_cases c:(i:Int)∈Ay F s ns
  ·rw [Qi c]
   refine ⟨_,rfl,?_⟩
   refine ifT rfl ?_
   refine kk1 _ _ Ab ⟨?_,by rw [B3]⟩
   rw [range_succ,map_append,map_append,g1]
   simp [c]
  ·rw [R8 c]
   refine ⟨_,rfl,?_⟩
   refine ifF rfl ?_
   refine kk1 _ _ Ab ⟨?_,by rw [B3]⟩
   rw [range_succ,map_append,map_append,g1]
   simp [c]
 rintro D ys H1 hD ⟨rfl,rfl⟩
 exact q D _ hD (Af hD _) Ab
theorem Jp (T:Tx K mg base ad):AI P w K mg base CX0 2 ad.f_overs ad.d_overs ["sheet","hands"] Mr:=by
 refine T.F_overs.ok Ch (fun vs H Q E h=>?_) (fun cdv A outer s H vs Q E hr h=>?_)
 ·obtain ⟨l,ls,h,rfl,_⟩:=h
  rfl
 obtain ⟨l,ls,h,rfl,hl,g0,l60,h1,h12,q⟩:=h
 refine ⟨_,(@Ae _ _ _ _ _ (Di (j:=2) (fsc:=Ad Dy) (N:=["sheet","hands","many","slip","number","behind","tier","others","x","y"]) (Nc:=["sheet","hands","many","slip","number","behind","tier","others",".s8","y","x"]) rfl rfl ⟨rfl,by decide +kernel,by decide +kernel,rfl,by decide +kernel,rfl,by decide +kernel,rfl,by decide +kernel⟩ rfl Ch.nd rfl rfl (A1 rfl T.z_range (@Aa _ _ _ _ _ (pv 1) Ac (by rfl))) (fun _ _ _ _=>AK) (fun _ _ _ _=>(by exact (Ln (fsc:=Ad Dy) (Nc:=["sheet","hands","many","slip","number","behind","tier","others",".s8","y","x"]) (Nd:=["sheet","hands","many","slip","number","behind","tier","others",".s8",".s9","x","y"]) rfl ⟨rfl,by decide +kernel,by decide +kernel,rfl,by decide +kernel,rfl,by decide +kernel,rfl,by decide +kernel⟩ rfl (A1 rfl T.z_range (@Aa _ _ _ _ _ (pv 1) Ac (by rfl))) (fun _ _ _ _=>AK) (fun _ _ _ _=>Ag)))) rfl) (@Ae _ _ _ _ _ (Be PassesOwn.never rfl (AJ (pv 0)) (DY rfl (AC (A0 (i:=3) Ch.nd rfl (Or.inl rfl)) (AC (A0 (i:=4) Ch.nd rfl (Or.inl rfl)) Dn))) (@Ae _ _ _ _ _ (@At _ _ (5) _ _ _ _ Ch.nd rfl (Or.inl rfl) (@Ai _ _ _ _ _ _ _ _ _ _ _ _ _ _ _ _ (HB T) (hr.mono (by decide)) rfl T.m_all_of T.F_all_of.kp T.b_all_of .nil Aw (@Aa _ _ _ _ _ (pv 1) Ac (by rfl)) (by decide) (by rfl) (by rfl)) (by rfl) (by first | exact .inl rfl | exact .inr rfl | assumption)) (@Ah _ _ _ (Be PassesOwn.never rfl (Qf (pv 3)) (A0 (i:=6) Ch.nd rfl (Or.inl rfl)) (@Ae _ _ _ _ _ (@At _ _ (5) _ _ _ _ Ch.nd rfl (Or.inl rfl) (@Ak _ _ _ _ _ _ _ _ Eu (pv 5) (@Jx _ _ _ _ _ _ Og (pv 6))) (by rfl) (by first | exact .inl rfl | exact .inr rfl | assumption)) (@Ae _ _ _ _ _ (@At _ _ (7) _ _ _ _ Ch.nd rfl (Or.inl rfl) (@Ai _ _ _ _ _ _ _ _ _ _ _ _ _ _ _ _ (GH T) (hr.mono (by decide)) rfl T.m_members T.F_members.kp T.b_members .nil Aw (@Aa _ _ _ _ _ (pv 5) Ac (by rfl)) (by decide) (by rfl) (by rfl)) (by rfl) (by first | exact .inl rfl | exact .inr rfl | assumption)) (@Ah _ _ _ (Be PassesOwn.never rfl (AJ (@Ai _ _ _ _ _ _ _ _ _ _ _ _ _ _ _ _ (GH T) (hr.mono (by decide)) rfl T.m_members T.F_members.kp T.b_members .nil Aw (@Aa _ _ _ _ _ (pv 6) Ac (by rfl)) (by decide) (by rfl) (by rfl))) (A0 (i:=8) Ch.nd rfl (Or.inl rfl)) (@Ah _ _ _ (Be PassesOwn.never rfl (AJ (pv 7)) (A0 (i:=9) Ch.nd rfl (Or.inl rfl)) (@Ah _ _ _ (Et (@Ak _ _ _ _ _ _ _ _ B5 (@Am _ _ _ _ _ _ _ Al (@Am _ _ _ _ _ _ _ Al (pv 2) (pv 8) (fun _ _=>rfl)) (pv 9) (fun _ _=>rfl)) (pv 4)) (FM (@Am _ _ _ _ _ _ _ Al (pv 2) (pv 8) (fun _ _=>rfl)) (pv 9) DF))))))))))))) (@Ah _ _ _ (@Aq _ _ _ _ (pv 2))))),?_⟩
 and_intros
 refine ⟨by ac_nf,by ac_nf,?_⟩
 rw [Int.toNat_natCast]
 refine Bv (AH (by ac_nf)) (fun D i ys J=>∃as:List Addr,ys=as.map V.ref/\as.length=i/\as.Nodup/\J D=some (.lst ys)/\Av H J/\D ∉ as/\∀a∈as,H a=none/\J a=some (.lst (((List.range h).map fun _=>(0:Int)).map V.int))) (fun D hD=>⟨[],rfl,rfl,nodup_nil,Ab,Af hD _,(fun m=>nomatch m),fun _ m=>absurd m List.not_mem_nil⟩) (fun D i ys J hq_=>by obtain ⟨as,f1,f2,_,f3,_⟩:=hq_;exact ⟨f3,by rw [f1,length_map,f2];exact Nat.le_refl _⟩) ?_ ?_
 ·rintro D i ys J K1 K2 hD hi ⟨as,rfl,f2,f3,f4,f5,f6,f7⟩ k1 k2
  refine yes (ifT rfl ?_)
  refine ⟨_,rfl,(h:Int),rfl,by ac_nf,by ac_nf,?_⟩
  rw [Int.toNat_natCast]
  refine Bv (AH (by ac_nf)) (fun D2 j ys J2=>ys=((List.range j).map fun _=>(0:Int)).map V.int/\J2=upd J D2 (.lst ys)) (fun D2 hD2=>⟨rfl,rfl⟩) (fun D2 j ys J2 hq_=>by obtain ⟨g1,g2⟩:=hq_;exact ⟨by rw [g2];exact Ab,by rw [g1,length_map,length_map,length_range];exact Nat.le_refl _⟩) ?_ ?_
  ·rintro D2 j ys J2 L1 L2 hD2 hj ⟨g1,rfl⟩ l1 l2
   refine yes (ifT rfl ?_)
   refine l1 _ _ Ab ⟨?_,by rw [B3]⟩
   rw [g1,range_succ,map_append,map_append]
   rfl
  rintro D2 ys J2 hD2 ⟨rfl,rfl⟩
  have sD:=Af hD2 (.lst (((List.range h).map fun _=>(0:Int)).map V.int))
  have eD:(upd J D2 (.lst (((List.range h).map fun _=>(0:Int)).map V.int))) D2=some (.lst (((List.range h).map fun _=>(0:Int)).map V.int)):=Ab
  have dd:D2≠D:=fun z=>by rw [z,f4] at hD2;cases hD2
  have na:D2 ∉ as:=fun m=>by rw [(f7 D2 m).2] at hD2;cases hD2
  generalize upd J D2 (.lst (((List.range h).map fun _=>(0:Int)).map V.int))=J5 at sD eD ⊢
  refine k1 _ _ (sD _ _ f4) ⟨as++[D2],by rw [map_append];rfl,by rw [length_append,f2];rfl,nodup_append.mpr ⟨f3,by simp,fun a ma b mb e=>na (by rw [<- mem_singleton.mp mb,<- e];exact ma)⟩,Ab,A3 (f5.trans sD) hD,fun m=>?_,fun a m=>?_⟩
  ·rcases mem_append.mp m with m | m
   ·exact f6 m
   ·exact dd (mem_singleton.mp m).symm
  ·rcases mem_append.mp m with m | m
   ·exact ⟨(f7 a m).1,by rw [Aj (fun z=>f6 (by rw [<- z];exact m))];exact sD _ _ (f7 a m).2⟩
   ·rw [mem_singleton.mp m]
    exact ⟨none_of f5 hD2,by rw [Aj dd];exact eD⟩
 rintro D ys H1 hD ⟨as,rfl,f2,f3,f4,f5,f6,f7⟩
 have tb0:Ba H1 as h (fun _ _=>0):=⟨f2,f3,fun x a ha=>(f7 a (mem_of_getElem? ha)).2⟩
 have nw:∀a∈as,H a=none:=fun a m=>(f7 a m).1
 have out:∀{b:Addr} {o:HO},H b=some o->b ∉ as:=fun {b o} e m=>by rw [nw b m] at e;cases e
 clear f7 f3 f2
 subst_eqs
 refine ⟨_,rfl,l,rfl,⟨_,SqL.of (f5 _ _ hl)⟩,Dt (xs:=vls ls) (fun i σ' H'=>∃v3 v4 v5 v6 v7 v8 v9:Option V,σ'=[some (.ref l),some (.int (h:Int)),some (.ref D),v3,v4,v5,v6,v7,v8,v9]/\CC as H1 H'/\Ba H' as h (fun x y=>EF (Df x y) (dsL (ls.take i)))) ⟨none,none,none,none,none,none,none,rfl,CC.of (fun _ _ e=>e),tb0⟩ (fun i σ' H' _ hq_=>by obtain ⟨_,_,_,_,_,_,_,_,k,_⟩:=hq_;exact SqL.of (k.same f5 nw _ _ hl)) ?_ ?_⟩
 ·rintro i w σ' H' hw ⟨v3,v4,v5,v6,v7,v8,v9,rfl,k1,tb⟩
  obtain ⟨f,hf,rfl,fm,et⟩:=IX hw
  obtain ⟨g1,g2,g3⟩:=g0 f fm
  have kH:=k1.same f5 nw
  refine ⟨f.1,_,rfl,SqT.of (kH _ _ g1),rfl,_,_,rfl,_,_,rfl,rfl,?_⟩
  and_intros
  refine ⟨by ac_nf,by ac_nf,?_⟩
  rw [Int.toNat_natCast,HX]
  and_intros
  obtain ⟨ts,ets⟩:∃ts,ts=f.2.2.1:=⟨_,rfl⟩
  obtain ⟨n,en⟩:∃n,n=f.2.2.2:=⟨_,rfl⟩
  obtain ⟨F0,eF0⟩:∃F0:Nat->Nat->Int,F0=fun x y=>EF (Df x y) (dsL (ls.take i)):=⟨_,rfl⟩
  rw [<- ets] at g2 g3
  rw [<- eF0] at tb
  rw [<- en]
  refine ⟨⟨_,SqT.of (kH _ _ g2)⟩,Po (xs:=ts.map V.int) (fun j σ' H2=>∃v6 v7 v8 v9:Option V,σ'=[some (.ref l),some (.int (h:Int)),some (.ref D),some (.ref f.2.1),some (.int n),some (.int (A4 h (stT (ts.take j)).1)),v6,v7,v8,v9]/\CC as H1 H2/\Ba H2 as h (fun x y=>F0 x y+n*(stT (ts.take j)).2 x y)) ⟨_,_,_,_,rfl,k1,tb.congr fun x y _ _=>(by show F0 x y=F0 x y+n*0;rw [Int.mul_zero,Int.add_zero])⟩ (fun j σ' H2 _ hq_=>by obtain ⟨_,_,_,_,_,k,_⟩:=hq_;exact SqT.of (k.same f5 nw _ _ g2)) ?_ ?_⟩
  ·rintro j u σ' H2 hu ⟨v6,v7,v8,v9,rfl,k2,tb2⟩
   obtain ⟨t,ht,rfl⟩:=int_at hu
   have ej:ts.take (j+1)=ts.take j++[t]:=by rw [take_add_one,ht];rfl
   have es:=NA (ts.take j) t
   rw [<- ej] at es
   have eb:Builtin.bitAnd (A4 h (stT (ts.take j)).1) (Builtin.bitNot t)=A4 h (stT (ts.take (j+1))).1:=by
    rw [JM,es]
    exact AT h fun i _=>by rw [Pw];rfl
   and_intros
   have mb:=HW h12 (stT (ts.take (j+1))).1
   rw [<- eb] at mb
   refine ⟨mb.1,mb.2,fun po Ho hpo so eo=>?_⟩
   rw [eb] at eo
   and_intros
   obtain ⟨gt,egt⟩:=L8 h12 g3 (mem_of_getElem? ht)
   have mt:=HW h12 gt
   rw [<- egt] at mt
   refine ⟨mt.1,mt.2,fun px Hx hpx sx ex=>?_⟩
   have tbx:=tb2.same (so.trans sx)
   have npo:po ∉ as:=tb2.not hpo
   have npx:px ∉ as:=(tb2.same so).not hpx
   have kx:=(k2.trans (CC.of so)).trans (CC.of sx)
   have eo':=sx _ _ eo
   have memx:∀{z:Int},z∈hands 12 (bit t)↔∃i:Nat,i < h/\bit t i=true/\z=(i:Int):=fun {z}=>by
    rw [egt,GM h12]
    refine ⟨fun ⟨i,a,b,e⟩=>⟨i,a,by rw [Cf,decide_eq_true a,b];rfl,e⟩,fun ⟨i,a,b,e⟩=>⟨i,a,?_,e⟩⟩
    rw [Cf,decide_eq_true a] at b
    exact b
   have memy:∀{z:Int},z∈hands 12 (bit (A4 h (stT (ts.take (j+1))).1))↔∃i:Nat,i < h/\(stT (ts.take (j+1))).1 i=true/\z=(i:Int):=fun {z}=>GM h12 _
   have ndx:=Gp 12 (bit t)
   have ndy:=Gp 12 (bit (A4 h (stT (ts.take (j+1))).1))
   generalize exs:hands 12 (bit t)=xs at ex memx ndx
   generalize eys:hands 12 (bit (A4 h (stT (ts.take (j+1))).1))=ys at eo' memy ndy
   clear eo
   refine ⟨px,rfl,⟨_,SqL.of ex⟩,Dt (xs:=xs.map V.int) (fun k σ' H3=>∃(v8 v9:Option V) (G:Nat->Nat->Int),σ'=[some (.ref l),some (.int (h:Int)),some (.ref D),some (.ref f.2.1),some (.int n),some (.int (Builtin.bitAnd (A4 h (stT (ts.take j)).1) (Builtin.bitNot t))),some (.int t),some (.ref po),v8,v9]/\CC as Hx H3/\Ba H3 as h G/\∀x' y':Nat,G x' y'=F0 x' y'+n*(stT (ts.take j)).2 x' y'+if (x':Int)∈xs.take k/\(y':Int)∈ys then n else 0) ⟨_,_,_,rfl,CC.of (fun _ _ e=>e),tbx,fun x' y'=>(by rw [if_neg (fun z=>nomatch z.1)];exact (Int.add_zero _).symm)⟩ (fun k σ' H3 _ hq_=>by obtain ⟨_,_,_,_,kk,_⟩:=hq_;exact SqL.of (kk _ _ npx ex)) ?_ ?_⟩
   ·rintro k u σ' H3 hu ⟨v8,v9,G,rfl,k3,tb3,eG⟩
    obtain ⟨zx,hzx,rfl⟩:=int_at hu
    obtain ⟨x,hx,bx,rfl⟩:=memx.mp (mem_of_getElem? hzx)
    obtain ⟨ekx,nkx⟩:=IR ndx hzx
    and_intros
    refine ⟨⟨_,SqL.of (k3 _ _ npo eo')⟩,Dt (xs:=ys.map V.int) (fun m σ' H4=>∃(v9:Option V) (G':Nat->Nat->Int),σ'=[some (.ref l),some (.int (h:Int)),some (.ref D),some (.ref f.2.1),some (.int n),some (.int (Builtin.bitAnd (A4 h (stT (ts.take j)).1) (Builtin.bitNot t))),some (.int t),some (.ref po),some (.int (x:Int)),v9]/\CC as Hx H4/\Ba H4 as h G'/\∀x' y':Nat,G' x' y'=G x' y'+if x'=x/\(y':Int)∈ys.take m then n else 0) ⟨_,_,rfl,k3,tb3,fun x' y'=>(by rw [if_neg (fun z=>nomatch z.2)];exact (Int.add_zero _).symm)⟩ (fun m σ' H4 _ hq_=>by obtain ⟨_,_,_,kk,_⟩:=hq_;exact SqL.of (kk _ _ npo eo')) ?_ ?_⟩
    ·rintro m u σ' H4 hu ⟨v9,G',rfl,k4,tb4,eG'⟩
     obtain ⟨zy,hzy,rfl⟩:=int_at hu
     obtain ⟨y,hy,_,rfl⟩:=memy.mp (mem_of_getElem? hzy)
     obtain ⟨eky,nky⟩:=IR ndy hzy
     obtain ⟨a,r1,r2,r3,r4⟩:=tb4.row hx
     have eD:=k4 _ _ f6 (kx _ _ f6 f4)
     refine ⟨_,rfl,_,rfl,D,_,_,_,rfl,rfl,SqL.of eD,r3,?_⟩
     refine ⟨_,rfl,a,_,_,_,rfl,rfl,SqL.of r4,AQ (G' x) hy,?_⟩
     and_intros
     refine ⟨D,_,_,_,rfl,rfl,SqL.of eD,r3,?_⟩
     refine ⟨_,rfl,a,_,_,y,rfl,rfl,r4,EB (by rw [length_map,length_map,length_range];exact hy),?_⟩
     refine ⟨_,EZ G' x y n,rfl,k4.put r2,tb4.put r1 n,fun x' y'=>?_⟩
     unfold EZ
     rw [eG',eky]
     refine PU n _ ?_ ?_
     ·rw [KC]
      exact ⟨fun ⟨a,b⟩=>b.elim (fun c=>.inl ⟨a,c⟩) fun c=>.inr ⟨a,c⟩,fun z=>z.elim (fun c=>⟨c.1,.inl c.2⟩) fun c=>⟨c.1,.inr c.2⟩⟩
     ·exact fun z=>nky (by rw [<- z.2.2];exact z.1.2)
    ·rintro σ' H4 ⟨v9,G',rfl,k4,tb4,eG'⟩
     rw [length_map,take_of_length_le (Nat.le_refl _)] at eG'
     refine ⟨_,_,_,rfl,k4,tb4,fun x' y'=>?_⟩
     rw [eG',eG,ekx]
     refine PU n _ ?_ ?_
     ·rw [KC]
      exact ⟨fun ⟨a,b⟩=>a.elim (fun c=>.inl ⟨c,b⟩) fun c=>.inr ⟨c,b⟩,fun z=>z.elim (fun c=>⟨.inl c.1,c.2⟩) fun c=>⟨.inr c.1,c.2⟩⟩
     ·exact fun z=>nkx (by rw [<- z.2.1];exact z.1.1)
   ·rintro σ' H3 ⟨v8,v9,G,rfl,k3,tb3,eG⟩
    rw [length_map,take_of_length_le (Nat.le_refl _)] at eG
    refine ⟨_,_,_,_,by rw [eb],kx.trans k3,tb3.congr fun x y hx hy=>?_⟩
    rw [eG,es]
    show _=F0 x y+n*((stT (ts.take j)).2 x y+if (bit t x && ((stT (ts.take j)).1 y && !bit t y))=true then 1 else 0)
    rw [Int.mul_add,<- Int.add_assoc]
    have e2:(stT (ts.take (j+1))).1 y=((stT (ts.take j)).1 y && !bit t y):=by rw [es];rfl
    have e1:((x:Int)∈xs/\(y:Int)∈ys)↔(bit t x && ((stT (ts.take j)).1 y && !bit t y))=true:=by
     rw [<- e2,Bool.and_eq_true,memx,memy]
     exact ⟨fun ⟨⟨i,_,b,e⟩,⟨k,_,c,e'⟩⟩=>⟨by rw [Int.ofNat.inj e];exact b,by rw [Int.ofNat.inj e'];exact c⟩,fun ⟨a,b⟩=>⟨⟨x,hx,a,rfl⟩,⟨y,hy,b,rfl⟩⟩⟩
    by_cases c:(bit t x && ((stT (ts.take j)).1 y && !bit t y))=true
    ·rw [if_pos c,if_pos (e1.mpr c),Int.mul_one]
    ·rw [if_neg c,if_neg (fun z=>c (e1.mp z)),Int.mul_zero]
  ·rintro σ' H2 ⟨v6,v7,v8,v9,rfl,k2,tb2⟩
   rw [length_map,take_of_length_le (Nat.le_refl _)] at tb2
   refine ⟨_,_,_,_,_,_,_,rfl,k2,tb2.congr fun x y hx hy=>?_⟩
   rw [et,FL,<- ets,<- en,eF0,MZ g3 hx hy]
 ·rintro σ' H' ⟨v3,v4,v5,v6,v7,v8,v9,rfl,k1,tb⟩
  rw [Fb,take_of_length_le (Nat.le_refl _)] at tb
  subst_eqs
  exact ⟨_,rfl,q D as H' hD (k1.same f5 nw) f6 nw (k1 _ _ f6 f4) tb⟩
theorem Gb (T:Tx K mg base ad):AI P w K mg base CX0 2 ad.f_leads_of ad.d_leads_of ["many"] OB:=by
 refine T.F_leads_of.ok Ge (fun vs H Q E h=>?_) (fun cdv A outer s H vs Q E hr h=>?_)
 ·obtain ⟨a,as,h,F,rfl,_⟩:=h
  rfl
 obtain ⟨a,as,h,F,rfl,ha,g,h12,q⟩:=h
 refine ⟨_,(@Ae _ _ _ _ _ (@At _ _ (1) _ _ _ _ Ge.nd rfl (Or.inr rfl) (@Ai _ _ _ _ _ _ _ _ _ _ _ _ _ _ _ _ (Gq T) (hr.mono (by decide)) rfl T.m_hands_of T.F_hands_of.kp T.b_hands_of .nil Aw (@Aa _ _ _ _ _ (pv 0) Ac (by rfl)) (by decide) (by rfl) (by rfl)) (by rfl) (by first | exact .inl rfl | exact .inr rfl | assumption)) (@Ah _ _ _ (@Aq _ _ _ _ (NH (fsc:=Ad BQ) (N:=["many","hands"]) (Nc:=["many","hands","x"]) rfl rfl ⟨rfl,by decide +kernel,by decide +kernel,rfl,by decide +kernel,rfl,by decide +kernel,rfl,by decide +kernel⟩ rfl (AJ (pv 1)) (fun _ _ _ _=>AK) (fun _ _ _ _=>(by exact (MD (fsc:=Ad BQ) (Nc:=["many","hands","x"]) (Nd:=["many","hands","x","y"]) rfl ⟨rfl,by decide +kernel,by decide +kernel,rfl,by decide +kernel,rfl,by decide +kernel,rfl,by decide +kernel⟩ rfl (NS K (pv 1)) (fun _ _ _ _=>AK) (fun _ _ _ _=>(@Ak _ _ _ _ _ _ _ _ CF (@Am _ _ _ _ _ _ _ (Bn K) (@Am _ _ _ _ _ _ _ (Bn K) (pv 0) (pv 2) (fun _ _=>rfl)) (pv 3) (fun _ _=>rfl)) (@Am _ _ _ _ _ _ _ (Bn K) (@Am _ _ _ _ _ _ _ (Bn K) (pv 0) (pv 3) (fun _ _=>rfl)) (pv 2) (fun _ _=>rfl))))))))))),?_⟩
 and_intros
 refine ⟨a,Lq as h F,h,rfl,(by rw [g.vtb];exact ha),g.good.1,h12,fun l H1 hl s1 e1=>?_⟩
 and_intros
 have ul:=D7 h
 refine ⟨⟨_,SqL.of e1⟩,?_⟩
 refine AS (xs:=(ups h).map V.int) (by rw [length_map,ul];exact AH (by ac_nf)) (fun D i ys J=>∃bs:List Addr,ys=bs.map V.ref/\bs.length=i/\bs.Nodup/\J D=some (.lst ys)/\Av H1 J/\D ∉ bs/\(∀c∈bs,H1 c=none)/\∀k b,bs[k]?=some b->J b=some (.lst (((List.range h).map fun y=>F k y - F y k).map V.int))) (fun D hD=>⟨[],rfl,rfl,nodup_nil,Ab,Af hD _,(fun m=>nomatch m),(fun _ m=>absurd m List.not_mem_nil),fun k r e=>by cases e⟩) (fun D i ys J hq_=>by obtain ⟨u,f1,f2,_,f3,_⟩:=hq_;exact ⟨f3,by rw [f1,length_map,f2];exact Nat.le_refl _⟩) (fun D i ys J hD hq_=>by obtain ⟨_,_,_,_,_,f4,_⟩:=hq_;exact SqL.of (f4 _ _ e1)) ?_ ?_
 ·rintro D i x ys J K1 K2 hD hx ⟨bs,rfl,f2,f3,f4,f5,f6,f7,f8⟩ k1 k2
  obtain ⟨z,hz,rfl⟩:=int_at hx
  obtain ⟨rfl,hi⟩:=KU hz
  refine yes (ifT rfl ?_)
  have gJ:=(g.same s1).same f5
  refine ⟨_,rfl,l,rfl,⟨_,SqL.of (f5 _ _ e1)⟩,?_⟩
  refine AS (xs:=(ups h).map V.int) (by rw [length_map,ul];exact AH (by ac_nf)) (fun D2 j ys J2=>ys=((List.range j).map fun y=>F i y - F y i).map V.int/\J2=upd J D2 (.lst ys)) (fun D2 hD2=>⟨rfl,rfl⟩) (fun D2 j ys J2 hq_=>by obtain ⟨f1,f2⟩:=hq_;exact ⟨by rw [f2];exact Ab,by rw [f1,length_map,length_map,length_range];exact Nat.le_refl _⟩) (fun D2 j ys J2 hD2 hq_=>by obtain ⟨_,f2⟩:=hq_;rw [f2];exact SqL.of (Af hD2 _ _ _ (f5 _ _ e1))) ?_ ?_
  ·rintro D2 j y ys J2 L1 L2 hD2 hy ⟨e,rfl⟩ l1 l2
   obtain ⟨w,hw,rfl⟩:=int_at hy
   obtain ⟨rfl,hj⟩:=KU hw
   refine yes (ifT rfl ?_)
   have sD:=Af hD2 (.lst ys)
   have aJ:=sD _ _ ((s1.trans f5) _ _ ha)
   obtain ⟨ri,_,_,a1,a2⟩:=(gJ.same sD).row hi
   obtain ⟨rj,_,_,b1,b2⟩:=(gJ.same sD).row hj
   refine ⟨_,rfl,_,rfl,a,_,_,_,rfl,rfl,SqL.of aJ,a1,?_⟩
   refine ⟨_,rfl,ri,_,_,_,rfl,rfl,SqL.of a2,AQ (F i) hj,?_⟩
   refine ⟨_,rfl,_,rfl,a,_,_,_,rfl,rfl,SqL.of aJ,b1,?_⟩
   refine ⟨_,rfl,rj,_,_,_,rfl,rfl,SqL.of b2,AQ (F j) hi,?_⟩
   and_intros
   refine l1 _ _ Ab ⟨?_,by rw [B3]⟩
   rw [e,range_succ,map_append,map_append]
   rfl
  rintro D2 ys H5 hD2 ⟨rfl,rfl⟩
  rw [length_map,ul]
  have sD:=Af hD2 (.lst (((List.range h).map fun y=>F i y - F y i).map V.int))
  have eD:(upd J D2 (.lst (((List.range h).map fun y=>F i y - F y i).map V.int))) D2=some (.lst (((List.range h).map fun y=>F i y - F y i).map V.int)):=Ab
  have dd:D2≠D:=fun z=>by rw [z,f4] at hD2;cases hD2
  have na:D2 ∉ bs:=fun m=>by
   obtain ⟨k,hk⟩:=List.getElem?_of_mem m
   rw [f8 k D2 hk] at hD2
   cases hD2
  have nD2:=none_of f5 hD2
  generalize upd J D2 (.lst (((List.range h).map fun y=>F i y - F y i).map V.int))=J5 at sD eD ⊢
  refine k1 _ _ (sD _ _ f4) ⟨bs++[D2],by rw [map_append];rfl,by rw [length_append,f2];rfl,nodup_append.mpr ⟨f3,by simp,fun a ma b mb e=>na (by rw [<- mem_singleton.mp mb,<- e];exact ma)⟩,Ab,A3 (f5.trans sD) hD,fun m=>?_,fun c m=>?_,fun k b e=>?_⟩
  ·rcases mem_append.mp m with m | m
   ·exact f6 m
   ·exact dd (mem_singleton.mp m).symm
  ·rcases mem_append.mp m with m | m
   ·exact f7 c m
   ·rw [mem_singleton.mp m];exact nD2
  ·by_cases c:k < bs.length
   ·rw [List.getElem?_append_left c] at e
    rw [Aj (fun z=>f6 (by rw [<- z];exact mem_of_getElem? e))]
    exact sD _ _ (f8 k b e)
   ·rw [List.getElem?_append_right (by ac_nf)] at e
    have ek:k=i:=by
     have:=(List.getElem?_eq_some_iff.mp e).1
     rw [length_singleton] at this
     omega
    rw [ek,f2,Nat.sub_self] at e
    cases Option.some.inj e
    rw [Aj dd,ek]
    exact eD
 rintro D ys H2 hD ⟨bs,rfl,f2,f3,f4,f5,f6,f7,f8⟩
 rw [length_map,ul] at f2
 exact q D bs H2 (none_of s1 hD) f6 (fun c m=>none_of s1 (f7 c m)) (s1.trans f5) f4 ⟨f2,f3,f8⟩
theorem Eh (T:Tx K mg base ad):AI P w K mg base CX0 2 ad.f_reached_from ad.d_reached_from ["leads","x"] (ME ad.lP):=by
 refine T.F_reached_from.okC Bi (fun vs H Q E h=>?_) (fun cdv hcd A outer s H vs Q E hr h=>?_)
 ·obtain ⟨a,as,h,x,L,rfl,_⟩:=h
  rfl
 obtain ⟨a,as,h,x,L,rfl,ha,tb,hx,h12,lt,q⟩:=h
 refine ⟨_,(@Ae _ _ _ _ _ (@At _ _ (2) _ _ _ _ Bi.nd rfl (Or.inr rfl) (@BK _ _ _ _ _ _ _ _ _ BD (by rfl) T.z_list PyProof.Rows.boot_list (@Aa _ _ _ _ _ (@Am _ _ _ _ _ _ _ Al (pv 0) (pv 1) (fun _ _=>rfl)) Ac (by rfl)) (by decide) (by decide) (by rfl) (by rfl)) (by rfl) (by first | exact .inl rfl | exact .inr rfl | assumption)) (@Ae _ _ _ _ _ (Di (j:=3) (fsc:=Ad AL) (N:=["leads","x","best","before","left","through","hand","link"]) (Nc:=["leads","x","best","before","left","through",".s6","link","hand"]) rfl rfl ⟨rfl,by decide +kernel,by decide +kernel,rfl,by decide +kernel,rfl,by decide +kernel,rfl,by decide +kernel⟩ rfl Bi.nd rfl rfl (AJ (pv 0)) (fun _ _ _ _=>AK) (fun _ _ _ _=>(pv 1)) rfl) (@Ae _ _ _ _ _ (Di (j:=4) (fsc:=Ad AL) (N:=["leads","x","best","before","left","through","hand","link"]) (Nc:=["leads","x","best","before","left","through",".s6","link","hand"]) rfl rfl ⟨rfl,by decide +kernel,by decide +kernel,rfl,by decide +kernel,rfl,by decide +kernel,rfl,by decide +kernel⟩ rfl Bi.nd rfl rfl (AJ (@Ai _ _ _ _ _ _ _ _ _ _ _ _ _ _ _ _ (Gq T) (hr.mono (by decide)) rfl T.m_hands_of T.F_hands_of.kp T.b_hands_of .nil Aw (@Aa _ _ _ _ _ (pv 0) Ac (by rfl)) (by decide) (by rfl) (by rfl))) (fun _ _ _ _=>(ED (@As _ _ _ _ _ _ _ _ Dv (pv 8) (pv 1) (Au _)))) (fun _ _ _ _=>(pv 8)) rfl) (@Ae _ _ _ _ _ (GT PassesOwn.never (@As _ _ _ _ _ _ _ _ (FQ (K:=K) hr.units) (pv 4) (@BM _ _ _ _ Ac) (Au _)) (@Ae _ _ _ _ _ (@At _ _ (5) _ _ _ _ Bi.nd rfl (Or.inl rfl) (Ni (fsc:=Ad AL) (N:=["leads","x","best","before","left","through","hand","link"]) (Nc:=["leads","x","best","before","left","through",".s6","link","hand"]) (x:="hand") rfl T.lam (hcd.symm.trans T.lcode) (hr.mono (by decide)) rfl T.z_max rfl rfl ⟨rfl,by decide +kernel,by decide +kernel,rfl,by decide +kernel,rfl,by decide +kernel,rfl,by decide +kernel⟩ rfl rfl (pv 4) (fun _ _ _ _ _=>(@Am _ _ _ _ _ _ _ (Bn K) (pv 2) (pv 8) (fun _ _=>rfl)))) (by rfl) (by first | exact .inl rfl | exact .inr rfl | assumption)) (@Ae _ _ _ _ _ (@CB _ _ _ _ (CW PySem.F.plainAttrs_list PySem.F.slot_list_remove PySem.F.type_list_remove Iq (pv 4) (@Aa _ _ _ _ _ (pv 5) Ac (by rfl))) (by rfl)) (@Ah _ _ _ (Be PassesOwn.never rfl (AJ (pv 4)) (A0 (i:=6) Bi.nd rfl (Or.inl rfl)) (@Ae _ _ _ _ _ (@At _ _ (7) _ _ _ _ Bi.nd rfl (Or.inl rfl) (@Ao _ _ _ _ _ _ _ _ _ (Ft rfl) (by rfl) T.z_min PyProof.Rows.boot_min (@Aa _ _ _ _ _ (@Am _ _ _ _ _ _ _ Al (pv 2) (pv 5) (fun _ _=>rfl)) (@Aa _ _ _ _ _ (@Am _ _ _ _ _ _ _ Al (@Am _ _ _ _ _ _ _ Al (pv 0) (pv 5) (fun _ _=>rfl)) (pv 6) (fun _ _=>rfl)) Ac (by rfl)) (by rfl)) (by decide) (by decide) (by rfl) (by rfl)) (by rfl) (by first | exact .inl rfl | exact .inr rfl | assumption)) (@Ah _ _ _ (@Bs _ _ _ _ _ _ _ _ (@As _ _ _ _ _ _ _ _ Ef (pv 7) (@Am _ _ _ _ _ _ _ Al (pv 2) (pv 6) (fun _ _=>rfl)) (Au _)) (@Ae _ _ _ _ _ (Et (pv 7) (FM (pv 2) (pv 6) DF)) (@Ah _ _ _ (Et (pv 5) (FM (pv 3) (pv 6) DF)))) A2)))))))) (@Ah _ _ _ (@Aq _ _ _ _ (@BY _ _ _ _ _ (@Aa _ _ _ _ _ (pv 2) (@Aa _ _ _ _ _ (pv 3) Ac (by rfl)) (by rfl))))))))),?_⟩
 obtain ⟨ax,_,_,x3,x4⟩:=tb.row hx
 refine ⟨_,rfl,_,rfl,a,_,_,_,rfl,rfl,SqL.of ha,x3,?_⟩
 refine ⟨ax,_,rfl,.inl (SqL.of x4),fun b hb=>?_⟩
 obtain ⟨be0,ebe⟩:∃be0,be0=(List.range h).map fun y=>L x y:=⟨_,rfl⟩
 rw [<- ebe]
 have s1:=Af hb (.lst (be0.map V.int))
 have e1:(upd H b (.lst (be0.map V.int))) b=some (.lst (be0.map V.int)):=Ab
 generalize upd H b (.lst (be0.map V.int))=H1 at s1 e1 ⊢
 and_intros
 refine ⟨⟨_,SqL.of (s1 _ _ ha)⟩,?_⟩
 refine AS (xs:=as.map V.ref) (by rw [length_map,tb.1];exact AH (by ac_nf)) (fun D i ys J=>ys=(List.replicate i (x:Int)).map V.int/\J=upd H1 D (.lst ys)) (fun D hD=>⟨rfl,rfl⟩) (fun D i ys J hq_=>by obtain ⟨f1,f2⟩:=hq_;exact ⟨by rw [f2];exact Ab,by rw [f1,length_map,length_replicate];exact Nat.le_refl _⟩) (fun D i ys J hD hq_=>by obtain ⟨_,f2⟩:=hq_;rw [f2];exact SqL.of (Af hD _ _ _ (s1 _ _ ha))) ?_ ?_
 ·rintro D i y ys J K1 K2 hD hy ⟨f1,rfl⟩ k1 k2
  refine yes (ifT rfl ?_)
  refine ⟨_,rfl,?_⟩
  refine k1 _ _ Ab ⟨?_,by rw [B3]⟩
  rw [f1,replicate_succ',map_append]
  rfl
 rintro f ys H2 hf ⟨rfl,rfl⟩
 rw [length_map,tb.1]
 have fb:f≠b:=fun z=>by rw [z,e1] at hf;cases hf
 have hfH:=none_of s1 hf
 have s2:=s1.trans (Af hf (.lst ((List.replicate h (x:Int)).map V.int)))
 have e2:(upd H1 f (.lst ((List.replicate h (x:Int)).map V.int))) f=some (.lst ((List.replicate h (x:Int)).map V.int)):=Ab
 have b2:=Af hf (.lst ((List.replicate h (x:Int)).map V.int)) _ _ e1
 generalize upd H1 f (.lst ((List.replicate h (x:Int)).map V.int))=H2 at s2 e2 b2 ⊢
 and_intros
 have tb2:=tb.same s2
 refine ⟨a,Lq as h L,h,rfl,(by rw [tb2.vtb];exact s2 _ _ ha),tb2.good.1,h12,fun l0 H3 hl0 s3 e3=>?_⟩
 have b3:=s3 _ _ b2
 have f3:=s3 _ _ e2
 have s3:=s2.trans s3
 and_intros
 refine ⟨⟨_,SqL.of e3⟩,?_⟩
 refine AS (xs:=(ups h).map V.int) (by rw [length_map,D7];exact AH (by ac_nf)) (fun D i ys J=>ys=(CI i x).map V.int/\J=upd H3 D (.lst ys)) (fun D hD=>⟨rfl,rfl⟩) (fun D i ys J hq_=>by obtain ⟨g1,g2⟩:=hq_;exact ⟨by rw [g2];exact Ab,by rw [g1,length_map];unfold CI;rw [length_map];exact Nat.le_trans (length_filter_le _ _) (by rw [length_range];exact Nat.le_refl _)⟩) (fun D i ys J hD hq_=>by obtain ⟨_,g2⟩:=hq_;rw [g2];exact SqL.of (Af hD _ _ _ e3)) ?_ ?_
 ·rintro D i y ys J K1 K2 hD hy ⟨g1,rfl⟩ k1 k2
  obtain ⟨z,hz,rfl⟩:=int_at hy
  obtain ⟨rfl,hi⟩:=KU hz
  and_intros
  by_cases c:i=x
  ·refine ifF (FI (by rw [c])) ?_
   exact k2 _ ⟨by rw [g1,E7,if_pos c,append_nil],rfl⟩
  ·refine ifT (L4 fun e=>c (Int.ofNat.inj e)) ?_
   refine ⟨_,rfl,?_⟩
   exact k1 _ _ Ab ⟨by rw [g1,E7,if_neg c,map_append];rfl,by rw [B3]⟩
 rintro l ys H4 hl ⟨rfl,rfl⟩
 rw [length_map,D7]
 have lb:l≠b:=fun z=>by rw [z,b3] at hl;cases hl
 have lf:l≠f:=fun z=>by rw [z,f3] at hl;cases hl
 have hlH:=none_of s3 hl
 have sn:=Af hl (.lst ((CI h x).map V.int))
 have e4:(upd H3 l (.lst ((CI h x).map V.int))) l=some (.lst ((CI h x).map V.int)):=Ab
 have b4:=sn _ _ b3
 have f4:=sn _ _ f3
 have s4:=s3.trans sn
 generalize upd H3 l (.lst ((CI h x).map V.int))=H4 at s4 e4 b4 f4 ⊢
 have bl:=HV hx
 refine ⟨fun m σ' H'=>∃(v5 v6 v7:Option V) (be bf left:List Int) (rk:Nat->Nat),σ'=[some (V.ref a),some (.int (x:Int)),some (.ref b),some (.ref f),some (.ref l),v5,v6,v7]/\Sm H H'/\(Cd ad.lP h H->Av H H')/\LT ad.lP H'/\(left.length+1=h\/L1 ad.lP H')/\H' b=some (.lst (be.map V.int))/\H' f=some (.lst (bf.map V.int))/\H' l=some (.lst (left.map V.int))/\Dij h x L be bf left rk/\left.length=m,
  ⟨_,none,none,none,be0,List.replicate h (x:Int),CI h x,fun _=>0,rfl,Sm.of s4,(fun _=>s4),lt.same s4,.inl bl,b4,f4,e4,(by rw [ebe];exact Dij.start hx L),rfl⟩,?_⟩
 rintro m σ' H' ⟨v5,v6,v7,be,bf,left,rk,rfl,sm,sq,lt',l1,eb,ef,el,dj,lm⟩
 refine ⟨_,rfl,(by show 0<=sizeLine;decide),fun z3 hz3=>?_⟩
 have sz:=Af hz3 (.lst [])
 have ez:(upd H' z3 (.lst [])) z3=some (.lst (([]:List Int).map V.int)):=Ab
 generalize upd H' z3 (.lst [])=H5 at sz ez ⊢
 have eb:=sz _ _ eb
 have ef:=sz _ _ ef
 have el:=sz _ _ el
 have sm:=sm.trans (Sm.of sz)
 have sq:Cd ad.lP h H->Av H H5:=fun z=>(sq z).trans sz
 have lt':=lt'.same sz
 have l1:left.length+1=h\/L1 ad.lP H5:=l1.imp id fun z=>z.same sz
 refine ⟨.list (left.map .int),.list (([]:List Int).map .int),.lst (SqL.of el) (.ints _),.lst (SqL.of ez) (.ints []),(B6 _).2,(B6 _).2,?_⟩
 rw [show PyData.eqv (.list (left.map .int)) (.list (([]:List Int).map .int))=decide (left=[]) from DL _ _]
 refine ⟨_,rfl,?_⟩
 by_cases cl:left=[]
 ·refine ifF (by rw [decide_eq_true cl];rfl) ?_
  subst cl
  and_intros
  refine ⟨(by show 2<=sizeLine;decide),fun t ht=>?_⟩
  have st:=Af ht (.tup [V.ref b,V.ref f])
  have l1':h=1\/L1 ad.lP H5:=l1.imp (fun z=>by rw [length_nil] at z;omega) id
  exact q t b f be bf _ (sm.trans (Sm.of st)) (fun z=>(sq z).trans st) (Cd.same ⟨lt',l1'⟩ st) (sm.gone t ht) hb hfH (Ne.symm fb) Ab (st _ _ eb) (st _ _ ef) dj.done
 ·refine ifT (by rw [decide_eq_false cl];rfl) ?_
  have pl:0 < left.length:=length_pos_iff.mpr cl
  refine ⟨fun σ' H'=>∃(v5 v6 v7:Option V) (be bf left:List Int) (rk:Nat->Nat),σ'=[some (V.ref a),some (.int (x:Int)),some (.ref b),some (.ref f),some (.ref l),v5,v6,v7]/\Sm H H'/\(Cd ad.lP h H->Av H H')/\LT ad.lP H'/\(left.length+1=h\/L1 ad.lP H')/\H' b=some (.lst (be.map V.int))/\H' f=some (.lst (bf.map V.int))/\H' l=some (.lst (left.map V.int))/\Dij h x L be bf left rk/\left.length=m - 1,fun σ' H' e=>⟨m - 1,by ac_nf,e⟩,?_⟩
  and_intros
  refine ⟨l,left.map V.int,fun i=>be.getD (left.getD i 0).toNat 0,rfl,by rw [length_map];exact pl,lt',fun H6 q1 q2 q3 q4=>?_⟩
  have s56:=QO lt' q2 q4
  have eb:=s56.lst eb
  have ef:=s56.lst ef
  have el:=s56.lst el
  have sm:=sm.trans s56
  have lsub:∀{i:Nat} {z:Int},left[i]?=some z->∃y:Nat,z=(y:Int)/\y < h/\y≠x/\left.getD i 0=(y:Int):=fun {i z} e=>by
   obtain ⟨y,a1,a2,a3⟩:=dj.sub z (mem_of_getElem? e)
   exact ⟨y,a3,a1,a2,by rw [getD_eq_getElem?_getD,e];exact a3⟩
  have sq:Cd ad.lP h H->Av H H6:=fun z=>by
   have l1':L1 ad.lP H5:=by
    rcases (Cd.same z (sq z)).2 with c | c
    ·have:=dj.sub _ (mem_of_getElem? (List.getElem?_eq_getElem pl))
     obtain ⟨y,a1,a2,_⟩:=this
     omega
    ·exact c
   rw [<- q3 l1']
   exact sq z
  clear q2 q3 q4 s56
  refine ⟨SqL.of el,fun i w hw=>?_,fun i w hw bst=>?_⟩
  ·obtain ⟨z,hz,rfl⟩:=int_at hw
   obtain ⟨y,rfl,hy,_,ey⟩:=lsub hz
   refine ⟨_,rfl,_,rfl,b,_,_,_,rfl,rfl,SqL.of eb,atG (by rw [dj.lenb];exact hy),?_⟩
   refine ⟨?_,rfl⟩
   show V.int (be.getD y 0)=V.int (be.getD (left.getD i 0).toNat 0)
   rw [ey]
   rfl
  obtain ⟨z,hz,rfl⟩:=int_at hw
  obtain ⟨t,rfl,hth,htx,et⟩:=lsub hz
  have tm:=mem_of_getElem? hz
  have best:∀y:Nat,(y:Int)∈left->be.getD y 0<=be.getD t 0:=fun y my=>by
   obtain ⟨j,hj⟩:=List.getElem?_of_mem my
   have jl:=(List.getElem?_eq_some_iff.mp hj).1
   have:=(bst j (by rw [length_map];exact jl)).1
   dsimp only at this
   rw [et,getD_eq_getElem?_getD (l:=left),hj] at this
   exact this
  clear bst
  and_intros
  refine ⟨.inl ⟨rfl,_,SqL.of el⟩,?_⟩
  and_intros
  refine ⟨l,left,(t:Int),rfl,rfl,el,tm,?_⟩
  rw [<- FY]
  have lme:(left.erase (t:Int)).length=left.length - 1:=length_erase_of_mem tm
  obtain ⟨lf2,elf⟩:∃lf2,lf2=left.erase (t:Int):=⟨_,rfl⟩
  rw [<- elf]
  have sub2:∀z∈lf2,∃y:Nat,y < h/\z=(y:Int):=fun z m=>by
   rw [elf] at m
   obtain ⟨y,a1,_,a3⟩:=dj.sub z (mem_of_mem_erase m)
   exact ⟨y,a1,a3⟩
  have nd2:lf2.Nodup:=by rw [elf];exact dj.nd.erase _
  have nt2:(t:Int) ∉ lf2:=fun m=>by rw [elf] at m;exact (dj.nd.mem_erase_iff.mp m).1 rfl
  rw [<- elf] at lme
  have k1:∀{c:Addr} {xs:List V},H6 c=some (.lst xs)->c≠l->(upd H6 l (.lst (lf2.map V.int))) c=some (.lst xs):=fun e n=>by rw [Aj n];exact e
  have el':(upd H6 l (.lst (lf2.map V.int))) l=some (.lst (lf2.map V.int)):=Ab
  have eb':=k1 eb (Ne.symm lb)
  have ef':=k1 ef (Ne.symm lf)
  have sm':=sm.put (o:=.lst (lf2.map V.int)) hlH
  have sq':Cd ad.lP h H->Av H (upd H6 l (.lst (lf2.map V.int))):=fun z=>A3 (sq z) hlH
  have l1':L1 ad.lP (upd H6 l (.lst (lf2.map V.int))):=EE.put q1 el
  generalize upd H6 l (.lst (lf2.map V.int))=H7 at el' eb' ef' sm' sq' l1' ⊢
  clear k1
  and_intros
  refine ⟨⟨_,SqL.of el'⟩,Dt (xs:=lf2.map V.int) (fun k σ' H'=>∃(v6 v7:Option V) (be' bf':List Int),σ'=[some (V.ref a),some (.int (x:Int)),some (.ref b),some (.ref f),some (.ref l),some (.int (t:Int)),v6,v7]/\Sm H H'/\(Cd ad.lP h H->Av H H')/\L1 ad.lP H'/\H' b=some (.lst (be'.map V.int))/\H' f=some (.lst (bf'.map V.int))/\H' l=some (.lst (lf2.map V.int))/\Upd h t L be bf (lf2.take k) be' bf') ⟨_,_,be,bf,rfl,sm',sq',l1',eb',ef',el',Upd.nil dj.lenb dj.lenf⟩ (fun k σ' H' _ hq_=>by obtain ⟨_,_,_,_,_,_,_,_,_,_,e,_⟩:=hq_;exact SqL.of e) ?_ ?_⟩
  ·rintro k w σ' H' hw ⟨v6,v7,be',bf',rfl,sm8,sq8,l18,eb8,ef8,el8,ud⟩
   obtain ⟨z,hz,rfl⟩:=int_at hw
   obtain ⟨y,hy,rfl⟩:=sub2 z (mem_of_getElem? hz)
   obtain ⟨ek,nk⟩:=IR nd2 hz
   have lb8:be'.length=h:=ud.1
   have lf8:bf'.length=h:=ud.2.1
   have bt:be'.getD t 0=be.getD t 0:=ud.at hth fun m=>nt2 (mem_of_mem_take m)
   have by':be'.getD y 0=be.getD y 0:=ud.at hy nk
   obtain ⟨at8,_,_,r3,r4⟩:=(tb.sm sm8).row hth
   have ha8:=sm8.lst ha
   and_intros
   refine ⟨b,_,_,_,rfl,rfl,SqL.of eb8,atG (by ac_nf),?_⟩
   refine ⟨_,rfl,_,rfl,a,_,_,_,rfl,rfl,SqL.of ha8,r3,?_⟩
   refine ⟨_,rfl,at8,_,_,_,rfl,rfl,SqL.of r4,AQ (L t) hy,?_⟩
   refine ⟨_,_,rfl,?_⟩
   rw [Q8,bt]
   and_intros
   refine ⟨b,_,_,_,rfl,rfl,SqL.of eb8,atG (by ac_nf),?_⟩
   and_intros
   rw [by']
   by_cases c:be.getD y 0 < min (be.getD t 0) (L t y)
   ·refine ifT (decide_eq_true c) ?_
    and_intros
    refine ⟨b,_,_,y,rfl,rfl,eb8,EB (by rw [length_map];omega),?_⟩
    rw [set_map]
    have ef9:(upd H' b (.lst ((be'.set y (min (be.getD t 0) (L t y))).map V.int))) f=some (.lst (bf'.map V.int)):=by rw [Aj fb];exact ef8
    have eb9:(upd H' b (.lst ((be'.set y (min (be.getD t 0) (L t y))).map V.int))) b=some (.lst ((be'.set y (min (be.getD t 0) (L t y))).map V.int)):=Ab
    have el9:(upd H' b (.lst ((be'.set y (min (be.getD t 0) (L t y))).map V.int))) l=some (.lst (lf2.map V.int)):=by rw [Aj lb];exact el8
    have sm9:=sm8.put (o:=.lst ((be'.set y (min (be.getD t 0) (L t y))).map V.int)) hb
    have sq9:Cd ad.lP h H->Av H (upd H' b (.lst ((be'.set y (min (be.getD t 0) (L t y))).map V.int))):=fun z=>A3 (sq8 z) hb
    have l19:L1 ad.lP (upd H' b (.lst ((be'.set y (min (be.getD t 0) (L t y))).map V.int))):=EE.put l18 eb8
    generalize upd H' b (.lst ((be'.set y (min (be.getD t 0) (L t y))).map V.int))=H9 at ef9 eb9 el9 sm9 sq9 l19 ⊢
    and_intros
    refine ⟨f,_,_,y,rfl,rfl,ef9,EB (by rw [length_map];omega),?_⟩
    rw [set_map]
    exact ⟨_,_,be'.set y (min (be.getD t 0) (L t y)),bf'.set y (t:Int),rfl,sm9.put hfH,(fun z=>A3 (sq9 z) hfH),EE.put l19 ef9,by rw [Aj (Ne.symm fb)];exact eb9,Ab,by rw [Aj lf];exact el9,by rw [ek];exact ud.put hy c⟩
   ·refine ifF (decide_eq_false c) ?_
    exact ⟨_,_,be',bf',rfl,sm8,sq8,l18,eb8,ef8,el8,by rw [ek];exact ud.skip c⟩
  ·rintro σ' H' ⟨v6,v7,be',bf',rfl,sm8,sq8,l18,eb8,ef8,el8,ud⟩
   rw [length_map,take_of_length_le (Nat.le_refl _),elf] at ud
   exact ⟨_,_,_,be',bf',lf2,_,rfl,sm8,sq8,.inr l18,.inr l18,eb8,ef8,el8,by rw [elf];exact dj.step hx tm best ud,by ac_nf⟩
theorem HP (T:Tx K mg base ad):AI P w K mg base CX0 2 ad.f_cut_by ad.d_cut_by ["reached","x","y"] P6:=by
 refine T.F_cut_by.ok DS (fun vs H Q E h=>?_) (fun cdv A outer s H vs Q E hr h=>?_)
 ·obtain ⟨t,h,x,y,L,be,rfl,_⟩:=h
  rfl
 obtain ⟨t,h,x,y,L,be,rfl,td,hx,hy,h12,q⟩:=h
 refine ⟨_,(@Ae _ _ _ _ _ (@At _ _ (3) _ _ _ _ DS.nd rfl (Or.inl rfl) (@Ai _ _ _ _ _ _ _ _ _ _ _ _ _ _ _ _ (D3 T) (hr.mono (by decide)) rfl T.m_with_one T.F_with_one.kp T.b_with_one .nil Aw (@Aa _ _ _ _ _ Ag (@Aa _ _ _ _ _ (pv 1) Ac (by rfl)) (by rfl)) (by decide) (by rfl) (by rfl)) (by rfl) (by first | exact .inl rfl | exact .inr rfl | assumption)) (@Ae _ _ _ _ _ (Be PassesOwn.never rfl (IY rfl T.z_enumerate (@Aa _ _ _ _ _ (@Am _ _ _ _ _ _ _ Bl (pv 0) Ag (fun _ _=>rfl)) Ac (by rfl))) (DY rfl (AC (A0 (i:=4) DS.nd rfl (Or.inl rfl)) (AC (A0 (i:=5) DS.nd rfl (Or.inl rfl)) Dn))) (@Ah _ _ _ (@Bs _ _ _ _ _ _ _ _ (@As _ _ _ _ _ _ _ _ Ef (pv 5) (@Am _ _ _ _ _ _ _ Al (@Am _ _ _ _ _ _ _ Bl (pv 0) Ag (fun _ _=>rfl)) (pv 2) (fun _ _=>rfl)) (Au _)) (@Ah _ _ _ (@At _ _ (3) _ _ _ _ DS.nd rfl (Or.inl rfl) (@Ai _ _ _ _ _ _ _ _ _ _ _ _ _ _ _ _ (D3 T) (hr.mono (by decide)) rfl T.m_with_one T.F_with_one.kp T.b_with_one .nil Aw (@Aa _ _ _ _ _ (pv 3) (@Aa _ _ _ _ _ (pv 4) Ac (by rfl)) (by rfl)) (by decide) (by rfl) (by rfl)) (by rfl) (by first | exact .inl rfl | exact .inr rfl | assumption))) A2))) (@Ah _ _ _ (@Aq _ _ _ _ (pv 3))))),?_⟩
 obtain ⟨b,f,bf,et,eb,ef,re⟩:=td.is
 have bl:=re.lenb
 and_intros
 refine ⟨0,(x:Int),rfl,by ac_nf,by ac_nf,?_⟩
 rw [show Builtin.bitOr 0 (1*2 ^ (x:Int).toNat)=A4 h (fun i=>decide (i=x)) from (by
  rw [Int.toNat_natCast,show (0:Int)=A4 h (fun _=>false) from (FR fun _ _=>rfl).symm,PV _ hx]
  exact AT h fun i _=>by rw [Bool.false_or])]
 and_intros
 refine ⟨⟨_,SqL.of eb⟩,JD (xs:=be.map V.int) (fun i σ' H'=>∃v4 v5:Option V,σ'=[some (.ref t),some (.int (x:Int)),some (.int (y:Int)),some (.int (A4 h fun j=>decide (j=x) || (decide (j < i) && decide (be.getD y 0 < be.getD j 0)))),v4,v5]/\Av H H') ⟨none,none,?_,fun _ _ e=>e⟩ (fun i σ' H' _ hq_=>by obtain ⟨_,_,_,e⟩:=hq_;exact SqL.of (e _ _ eb)) ?_ ?_⟩
 ·rw [AT h (g:=fun j=>decide (j=x) || (decide (j < 0) && decide (be.getD y 0 < be.getD j 0))) (fun j _=>by rw [decide_eq_false (Nat.not_lt_zero j),Bool.false_and,Bool.or_false])]
  rfl
 ·rintro i w T0 σ' H' hw ⟨v4,v5,rfl,s1⟩ hT
  obtain ⟨z,hz,rfl⟩:=int_at hw
  have hi:i < be.length:=(List.getElem?_eq_some_iff.mp hz).1
  have ez:be.getD i 0=z:=by rw [getD_eq_getElem?_getD,hz];rfl
  have s2:=Af hT (.tup [.int (i:Int),.int z])
  have eT:(upd H' T0 (.tup [.int (i:Int),.int z])) T0=some (.tup [.int (i:Int),.int z]):=Ab
  generalize upd H' T0 (.tup [.int (i:Int),.int z])=H2 at s2 eT ⊢
  have s12:=s1.trans s2
  refine ⟨T0,_,rfl,SqT.of eT,rfl,_,_,rfl,_,_,rfl,rfl,?_⟩
  have et2:=s12 _ _ et
  and_intros
  refine ⟨b,_,_,_,rfl,rfl,SqL.of (s12 _ _ eb),atG (by ac_nf),?_⟩
  and_intros
  by_cases c:be.getD y 0 < z
  ·refine ifT (decide_eq_true c) ?_
   and_intros
   refine ⟨_,(i:Int),rfl,by ac_nf,by ac_nf,?_⟩
   rw [Int.toNat_natCast,PV _ (by ac_nf)]
   refine ⟨some (.int (i:Int)),some (.int z),?_,s12⟩
   have em:A4 h (fun j=>(decide (j=x) || (decide (j < i) && decide (be.getD y 0 < be.getD j 0))) || decide (j=i))=A4 h (fun j=>decide (j=x) || (decide (j < i+1) && decide (be.getD y 0 < be.getD j 0))):=AT h fun j _=>?_
   ·rw [em];rfl
   ·by_cases e:j=i
    ·subst e
     rw [decide_eq_true rfl,decide_eq_true (show j < j+1 by ac_nf),ez,decide_eq_true c]
     simp
    ·rw [decide_eq_false e,Bool.or_false]
     by_cases d:j < i
     ·rw [decide_eq_true d,decide_eq_true (show j < i+1 by ac_nf)]
     ·rw [decide_eq_false d,decide_eq_false (show ¬ j < i+1 by ac_nf)]
  ·refine ifF (decide_eq_false c) ?_
   refine ⟨some (.int (i:Int)),some (.int z),?_,s12⟩
   have em:A4 h (fun j=>decide (j=x) || (decide (j < i) && decide (be.getD y 0 < be.getD j 0)))=A4 h (fun j=>decide (j=x) || (decide (j < i+1) && decide (be.getD y 0 < be.getD j 0))):=AT h fun j _=>?_
   ·rw [em];rfl
   ·by_cases e:j=i
    ·subst e
     rw [ez,decide_eq_false c,Bool.and_false,Bool.and_false]
    ·by_cases d:j < i
     ·rw [decide_eq_true d,decide_eq_true (show j < i+1 by ac_nf)]
     ·rw [decide_eq_false d,decide_eq_false (show ¬ j < i+1 by ac_nf)]
 ·rintro σ' H' ⟨v4,v5,rfl,s1⟩
  rw [length_map,bl]
  and_intros
  rw [AT h (g:=Ev x y be) (fun j hj=>?_)]
  ·exact q _ s1
  ·unfold Ev
   rw [decide_eq_true hj,Bool.true_and,Bool.decide_or]
theorem IJ (T:Tx K mg base ad):AI P w K mg base CX0 2 ad.f_are_hands ad.d_are_hands ["thing"] OS:=by
 refine T.F_are_hands.ok IM (fun vs H Q E h=>?_) (fun cdv A outer s H vs Q E hr h=>?_)
 ·obtain ⟨n,rfl,_⟩:=h
  rfl
 obtain ⟨n,rfl,n0,n1,q⟩:=h
 refine ⟨_,(@Ah _ _ _ (@Aq _ _ _ _ (@DW _ _ _ _ _ _ _ (@Ai _ _ _ _ _ _ _ _ _ _ _ _ _ _ _ _ (En T) (hr.mono (by decide)) rfl T.m_is_whole T.F_is_whole.kp T.b_is_whole .nil Aw (@Aa _ _ _ _ _ (pv 0) Ac (by rfl)) (by decide) (by rfl) (by rfl)) (@DB _ _ _ _ _ (KF Ij Ij Ag (pv 0) (Jo (v:=.int 12) rfl T.k_MOST_HANDS ⟨_,rfl⟩)))))),?_⟩
 refine ⟨_,rfl,n,rfl,?_⟩
 and_intros
 refine ifT (decide_eq_true n0) ?_
 and_intros
 show Q (.bl (decide (n<=12))) H
 rw [decide_eq_true n1]
 exact q
theorem IN (T:Tx K mg base ad):AI P w K mg base CX0 2 ad.f_are_seats ad.d_are_seats ["thing"] OL:=by
 refine T.F_are_seats.ok IP (fun vs H Q E h=>?_) (fun cdv A outer s H vs Q E hr h=>?_)
 ·obtain ⟨n,rfl,_⟩:=h
  rfl
 obtain ⟨n,rfl,n0,n1,q⟩:=h
 refine ⟨_,(@Ah _ _ _ (@Aq _ _ _ _ (@DW _ _ _ _ _ _ _ (@Ai _ _ _ _ _ _ _ _ _ _ _ _ _ _ _ _ (En T) (hr.mono (by decide)) rfl T.m_is_whole T.F_is_whole.kp T.b_is_whole .nil Aw (@Aa _ _ _ _ _ (pv 0) Ac (by rfl)) (by decide) (by rfl) (by rfl)) (@DB _ _ _ _ _ (KF Ij Ij Ag (pv 0) (Jo (v:=.int 60) rfl T.k_MOST_SEATS ⟨_,rfl⟩)))))),?_⟩
 refine ⟨_,rfl,n,rfl,?_⟩
 and_intros
 refine ifT (decide_eq_true n0) ?_
 and_intros
 show Q (.bl (decide (n<=60))) H
 rw [decide_eq_true n1]
 exact q
theorem JT (T:Tx K mg base ad):AI P w K mg base CX0 2 ad.f_are_lots ad.d_are_lots ["thing","hands"] (QP K):=by
 refine T.F_are_lots.ok Kz (fun vs H Q E h=>?_) (fun cdv A outer s H vs Q E hr h=>?_)
 ·obtain ⟨l,ns,n,rfl,_⟩:=h
  rfl
 obtain ⟨l,ns,n,rfl,hl,pm,n12,q⟩:=h
 refine ⟨_,(@Ae _ _ _ _ _ (@Bs _ _ _ _ _ _ _ _ (@Bw _ _ _ _ (@By _ _ _ (@Ao _ _ _ _ _ _ _ _ _ C5 (by rfl) T.z_isinstance PyProof.Rows.boot_isinstance (@Aa _ _ _ _ _ (pv 0) (@Aa _ _ _ _ _ (Dm (v:=.ty "list") rfl T.z_list PyProof.Rows.boot_list rfl) Ac (by rfl)) (by rfl)) (by decide) (by decide) (by rfl) (by rfl)) (by intro _;rfl))) (@Ah _ _ _ (@Aq _ _ _ _ Cp)) A2) (@Ah _ _ _ (@Aq _ _ _ _ (@DW _ _ _ _ _ _ _ (@Ao _ _ _ _ _ _ _ _ _ (O9 rfl) (by rfl) T.z_all PyProof.Rows.boot_all (@Aa _ _ _ _ _ (B7 (fsc:=Ad Cn) (N:=["thing","hands"]) (Nc:=["thing","hands","hand"]) rfl rfl ⟨rfl,by decide +kernel,by decide +kernel,rfl,by decide +kernel,rfl,by decide +kernel,rfl,by decide +kernel⟩ rfl (AJ (pv 0)) (fun _ _ _ _=>AK) (fun _ _ _ _=>(@Ai _ _ _ _ _ _ _ _ _ _ _ _ _ _ _ _ (En T) (hr.mono (by decide)) rfl T.m_is_whole T.F_is_whole.kp T.b_is_whole .nil Aw (@Aa _ _ _ _ _ (pv 2) Ac (by rfl)) (by decide) (by rfl) (by rfl)))) Ac (by rfl)) (by decide) (by decide) (by rfl) (by rfl)) (@DB _ _ _ _ _ (@Ca _ _ _ _ _ _ _ _ (Qy (K:=K) hr.units) (@Ao _ _ _ _ _ _ _ _ _ IC (by rfl) T.z_sorted PyProof.Rows.boot_sorted (@Aa _ _ _ _ _ (pv 0) Ac (by rfl)) (by decide) (by decide) (by rfl) (by rfl)) (C3 rfl (by rfl) T.z_list (by rfl) T.z_range (pv 1)) (Au _))))))),?_⟩
 have nl:ns.length=n:=by rw [pm.length_eq,D7]
 refine ⟨_,rfl,_,_,_,_,rfl,Dw.lst hl,DC,?_⟩
 and_intros
 refine ⟨⟨_,SqL.of hl⟩,?_⟩
 refine AS (xs:=ns.map V.int) (by rw [length_map];exact AH (by ac_nf)) (fun D i ys H'=>ys=(List.replicate i true).map V.bl/\H'=upd H D (.lst ys)) (fun D hD=>⟨rfl,rfl⟩) (fun D i ys H' hq_=>by obtain ⟨f1,f2⟩:=hq_;exact ⟨by rw [f2];exact Ab,by rw [f1,length_map,length_replicate];exact Nat.le_refl _⟩) (fun D i ys H' hD hq_=>by obtain ⟨_,f2⟩:=hq_;rw [f2];exact SqL.of (Af hD _ _ _ hl)) ?_ ?_
 ·rintro D i x ys H' K1 K2 hD hx ⟨f1,rfl⟩ k1 k2
  obtain ⟨z,hz,rfl⟩:=int_at hx
  refine yes (ifT rfl ?_)
  refine ⟨_,rfl,z,rfl,?_⟩
  refine k1 _ _ Ab ⟨?_,by rw [B3]⟩
  rw [f1,replicate_succ',map_append]
  rfl
 ·rintro D ys H' hD ⟨rfl,rfl⟩
  refine ⟨D,_,rfl,SqL.of Ab,?_⟩
  rw [show (List.replicate (ns.map V.int).length true).all id=true from all_eq_true.mpr fun b m=>(mem_replicate.mp m).2]
  have s1:=Af hD (.lst ((List.replicate (ns.map V.int).length true).map V.bl))
  generalize upd H D (.lst ((List.replicate (ns.map V.int).length true).map V.bl))=H1 at s1 ⊢
  and_intros
  refine ⟨l,ns,rfl,SqL.of (s1 _ _ hl),by ac_nf,fun a ms pa sa ha=>?_⟩
  have e:=QT pa sa pm
  subst e
  have s2:=Af ha (.lst ((ups n).map V.int))
  have e2:(upd H1 a (.lst ((ups n).map V.int))) a=some (.lst ((ups n).map V.int)):=Ab
  generalize upd H1 a (.lst ((ups n).map V.int))=H2 at s2 e2 ⊢
  and_intros
  refine ⟨by ac_nf,fun b hb=>?_⟩
  rw [<- PR]
  have s3:=Af hb (.lst ((ups n).map V.int))
  refine ⟨.list ((ups n).map .int),.list ((ups n).map .int),.lst (SqL.of (s3 _ _ e2)) (.ints _),.lst (SqL.of Ab) (.ints _),(B6 _).2,(B6 _).2,?_⟩
  rw [show PyData.eqv (.list ((ups n).map .int)) (.list ((ups n).map .int))=true from by show PyData.eqvAll _ _=true;rw [DL];exact decide_eq_true rfl]
  exact q _ ((s1.trans s2).trans s3)
theorem Gk (T:Tx K mg base ad):AI P w K mg base CX0 2 ad.f_law_lots ad.d_law_lots ["_law_cell_here","_law_hands"] N3:=by
 refine T.F_law_lots.ok BW (fun vs H Q E h=>?_) (fun cdv A outer s H vs Q E hr h=>?_)
 ·obtain ⟨c,h,rfl,_⟩:=h
  rfl
 obtain ⟨c,h,rfl,szc,h1,h12,q⟩:=h
 refine ⟨_,(@Ae _ _ _ _ _ (@At _ _ (2) _ _ _ _ BW.nd rfl (Or.inl rfl) (@Ai _ _ _ _ _ _ _ _ _ _ _ _ _ _ _ _ (Ea T) (hr.mono (by decide)) rfl T.m_law_mixed T.F_law_mixed.kp T.b_law_mixed .nil Aw (@Aa _ _ _ _ _ (pv 0) (@Aa _ _ _ _ _ Ag Ac (by rfl)) (by rfl)) (by decide) (by rfl) (by rfl)) (by rfl) (by first | exact .inl rfl | exact .inr rfl | assumption)) (@Ae _ _ _ _ _ (@At _ _ (3) _ _ _ _ BW.nd rfl (Or.inl rfl) (C3 rfl (by rfl) T.z_list (by rfl) T.z_range (pv 1)) (by rfl) (by first | exact .inl rfl | exact .inr rfl | assumption)) (@Ae _ _ _ _ _ (@At _ _ (4) _ _ _ _ BW.nd rfl (Or.inl rfl) (@BM _ _ _ _ Ac) (by rfl) (by first | exact .inl rfl | exact .inr rfl | assumption)) (@Ae _ _ _ _ _ (Be PassesOwn.never rfl (A1 rfl T.z_range (@Aa _ _ _ _ _ (pv 1) Ac (by rfl))) (A0 (i:=5) BW.nd rfl (Or.inl rfl)) (@Ae _ _ _ _ _ (@At _ _ (6) _ _ _ _ BW.nd rfl (Or.inl rfl) (@Ak _ _ _ _ _ _ _ _ Bb (pv 2) (@Ao _ _ _ _ _ _ _ _ _ Ax (by rfl) T.z_len PySem.boot_len (@Aa _ _ _ _ _ (pv 3) Ac (by rfl)) (by decide) (by decide) (by rfl) (by rfl))) (by rfl) (by first | exact .inl rfl | exact .inr rfl | assumption)) (@Ae _ _ _ _ _ (@At _ _ (2) _ _ _ _ BW.nd rfl (Or.inl rfl) (@Ak _ _ _ _ _ _ _ _ BI (pv 2) (@Ao _ _ _ _ _ _ _ _ _ Ax (by rfl) T.z_len PySem.boot_len (@Aa _ _ _ _ _ (pv 3) Ac (by rfl)) (by decide) (by decide) (by rfl) (by rfl))) (by rfl) (by first | exact .inl rfl | exact .inr rfl | assumption)) (@Ah _ _ _ (@CB _ _ _ _ (CW PySem.F.plainAttrs_list PySem.F.slot_list_append PySem.F.type_list_append Cw (pv 4) (@Aa _ _ _ _ _ (CW PySem.F.plainAttrs_list PySem.F.slot_list_pop PySem.F.type_list_pop Kw (pv 3) (@Aa _ _ _ _ _ (pv 6) Ac (by rfl))) Ac (by rfl))) (by rfl)))))) (@Ah _ _ _ (@Aq _ _ _ _ (pv 4))))))),?_⟩
 obtain ⟨n,rfl⟩:∃n:Nat,h=(n:Int):=⟨h.toNat,by ac_nf⟩
 refine ⟨_,rfl,c,5,rfl,szc,by decide,by decide,fun z z0 z1=>?_⟩
 and_intros
 refine ⟨by ac_nf,fun l hl=>?_⟩
 rw [show (List.map (fun i:Nat=>V.int (i:Int)) (List.range n))=(ups n).map V.int from (by unfold ups;rw [map_map];rfl)]
 have s1:=Af hl (.lst ((ups n).map V.int))
 have e1:(upd H l (.lst ((ups n).map V.int))) l=some (.lst ((ups n).map V.int)):=Ab
 generalize upd H l (.lst ((ups n).map V.int))=H1 at s1 e1 ⊢
 refine ⟨(by show 0<=sizeLine;decide),fun lo hlo0=>?_⟩
 have ll:l≠lo:=fun z=>by rw [<- z,e1] at hlo0;cases hlo0
 have hlo:H lo=none:=none_of s1 hlo0
 have s2:=s1.trans (Af hlo0 (.lst []))
 have e2:(upd H1 lo (.lst [])) l=some (.lst ((ups n).map V.int)):=by rw [Aj ll];exact e1
 have e3:(upd H1 lo (.lst [])) lo=some (.lst (([]:List Int).map V.int)):=Ab
 generalize upd H1 lo (.lst [])=H2 at s2 e2 e3 ⊢
 and_intros
 refine ⟨L6z,U6z (by ac_nf),AN (fun i σ' H'=>∃(v5 v6:Option V) (z:Int) (left got:List Int),σ'=[some (.int c),some (.int (n:Int)),some (.int z),some (.ref l),some (.ref lo),v5,v6]/\0<=z/\z < 10 ^ 31/\Av H H'/\H' l=some (.lst (left.map V.int))/\H' lo=some (.lst (got.map V.int))/\left.length+i=n/\got.length=i/\(got++left).Perm (ups n)) ⟨none,none,z,ups n,[],rfl,z0,z1,s2,e2,e3,(by unfold ups;rw [length_map,length_range];rfl),rfl,List.Perm.refl _⟩ ?_ ?_⟩
 ·rintro i σ' H' hi ⟨v5,v6,z,left,got,rfl,z0,z1,s3,f1,f2,f3,f4,f5⟩
  have m:=Bp z (show (0:Int) < (left.length:Int) by ac_nf)
  have szz:Sz 200 z:=Gw z0 (Int.lt_trans z1 (by decide))
  and_intros
  have hll:(left.map V.int).length=left.length:=length_map _
  refine ⟨(by show ((left.map V.int).length:Int)≠0;ac_nf),?_⟩
  dsimp only
  rw [hll]
  generalize z.fmod (left.length:Int)=j' at m ⊢
  obtain ⟨j,rfl⟩:∃j:Nat,j'=(j:Int):=⟨j'.toNat,by ac_nf⟩
  have hj:j < left.length:=by ac_nf
  and_intros
  refine ⟨⟨by show ((left.map V.int).length:Int)≠0;ac_nf,(show Sz 64 ((left.map V.int).length:Int) from Go (by ac_nf) (by ac_nf)).mono (by decide)⟩,?_⟩
  have lc:=IK (d:=(left.length:Int)) z0 (by ac_nf) z1
  dsimp only
  rw [hll]
  and_intros
  refine ⟨.inl ⟨rfl,_,SqL.of f2⟩,?_⟩
  and_intros
  refine ⟨.inl ⟨rfl,_,SqL.of f1⟩,?_⟩
  and_intros
  refine ⟨l,_,_,j,V.int left[j],rfl,rfl,f1,by ac_nf,by ac_nf,PX (by rw [length_map];exact hj),(by rw [List.getElem?_map,List.getElem?_eq_getElem hj];rfl),?_⟩
  have g2:(upd H' l (.lst ((left.map V.int).eraseIdx j))) lo=some (.lst (got.map V.int)):=by rw [Aj (Ne.symm ll)];exact f2
  have g1:(upd H' l (.lst ((left.map V.int).eraseIdx j))) l=some (.lst ((left.eraseIdx j).map V.int)):=by rw [Ab,map_erase]
  have s4:=A3 (o:=.lst ((left.map V.int).eraseIdx j)) s3 hl
  generalize upd H' l (.lst ((left.map V.int).eraseIdx j))=H4 at s4 g1 g2 ⊢
  refine ⟨lo,_,_,rfl,rfl,g2,(by rw [length_map,f4];exact A9 (by ac_nf)),?_⟩
  have g1':(upd H4 lo (.lst (got.map V.int++[V.int left[j]]))) l=some (.lst ((left.eraseIdx j).map V.int)):=by rw [Aj ll];exact g1
  have g2':(upd H4 lo (.lst (got.map V.int++[V.int left[j]]))) lo=some (.lst ((got++[left[j]]).map V.int)):=by rw [Ab,map_append];rfl
  have s5:=A3 (o:=.lst (got.map V.int++[V.int left[j]])) s4 hlo
  generalize upd H4 lo (.lst (got.map V.int++[V.int left[j]]))=H5 at s5 g1' g2' ⊢
  exact ⟨_,_,_,_,_,rfl,lc.1,lc.2,s5,g1',g2',by rw [length_eraseIdx,if_pos hj];omega,by rw [length_append,f4];rfl,IV (List.getElem?_eq_getElem hj) f5⟩
 ·rintro σ' H' ⟨v5,v6,z,left,got,rfl,z0,z1,s3,f1,f2,f3,f4,f5⟩
  rw [Int.toNat_natCast] at f3
  have:left=[]:=length_eq_zero_iff.mp (by ac_nf)
  rw [this,append_nil] at f5
  exact ⟨_,rfl,q lo got H' s3 f2 (by rw [Int.toNat_natCast];exact f5)⟩
theorem Kc (T:Tx K mg base ad):AI P w K mg base CX0 2 ad.f_law_slip ad.d_law_slip ["_law_cell_here","_law_hands"] Oc:=by
 refine T.F_law_slip.ok Bd (fun vs H Q E h=>?_) (fun cdv A outer s H vs Q E hr h=>?_)
 ·obtain ⟨c,n,rfl,_⟩:=h
  rfl
 obtain ⟨c,n,rfl,szc,n1,n12,q⟩:=h
 refine ⟨_,(@Ae _ _ _ _ _ (@At _ _ (2) _ _ _ _ Bd.nd rfl (Or.inl rfl) (@Ai _ _ _ _ _ _ _ _ _ _ _ _ _ _ _ _ (Ea T) (hr.mono (by decide)) rfl T.m_law_mixed T.F_law_mixed.kp T.b_law_mixed .nil Aw (@Aa _ _ _ _ _ (pv 0) (@Aa _ _ _ _ _ (pv 1) Ac (by rfl)) (by rfl)) (by decide) (by rfl) (by rfl)) (by rfl) (by first | exact .inl rfl | exact .inr rfl | assumption)) (@Ae _ _ _ _ _ (@At _ _ (3) _ _ _ _ Bd.nd rfl (Or.inl rfl) (@Ak _ _ _ _ _ _ _ _ Bb (pv 2) Ag) (by rfl) (by first | exact .inl rfl | exact .inr rfl | assumption)) (@Ae _ _ _ _ _ (@At _ _ (4) _ _ _ _ Bd.nd rfl (Or.inl rfl) (@Ak _ _ _ _ _ _ _ _ Bb (@Ak _ _ _ _ _ _ _ _ BI (pv 2) Ag) (@Ak _ _ _ _ _ _ _ _ B5 (pv 1) Ag)) (by rfl) (by first | exact .inl rfl | exact .inr rfl | assumption)) (@Ae _ _ _ _ _ (@At _ _ (2) _ _ _ _ Bd.nd rfl (Or.inl rfl) (@Ak _ _ _ _ _ _ _ _ BI (pv 2) Ag) (by rfl) (by first | exact .inl rfl | exact .inr rfl | assumption)) (@Ae _ _ _ _ _ (@At _ _ (5) _ _ _ _ Bd.nd rfl (Or.inl rfl) (C3 rfl (by rfl) T.z_list (by rfl) T.z_range (pv 1)) (by rfl) (by first | exact .inl rfl | exact .inr rfl | assumption)) (@Ae _ _ _ _ _ (@At _ _ (6) _ _ _ _ Bd.nd rfl (Or.inr rfl) NL (by rfl) (by first | exact .inl rfl | exact .inr rfl | assumption)) (@Ae _ _ _ _ _ (Be PassesOwn.never rfl (A1 rfl T.z_range (@Aa _ _ _ _ _ (pv 1) Ac (by rfl))) (A0 (i:=7) Bd.nd rfl (Or.inl rfl)) (@Ae _ _ _ _ _ (@At _ _ (8) _ _ _ _ Bd.nd rfl (Or.inl rfl) (@Am _ _ _ _ _ _ _ Al (@BM _ _ _ _ (@Aa _ _ _ _ _ (@Ao _ _ _ _ _ _ _ _ _ Ax (by rfl) T.z_len PySem.boot_len (@Aa _ _ _ _ _ (pv 5) Ac (by rfl)) (by decide) (by decide) (by rfl) (by rfl)) (@Aa _ _ _ _ _ (@Ak _ _ _ _ _ _ _ _ B5 (pv 1) Ag) (@Aa _ _ _ _ _ Ag (@Aa _ _ _ _ _ (@Ao _ _ _ _ _ _ _ _ _ Ax (by rfl) T.z_len PySem.boot_len (@Aa _ _ _ _ _ (pv 5) Ac (by rfl)) (by decide) (by decide) (by rfl) (by rfl)) Ac (by rfl)) (by rfl)) (by rfl)) (by rfl))) (pv 3) (fun _ _=>rfl)) (by rfl) (by first | exact .inl rfl | exact .inr rfl | assumption)) (@Ae _ _ _ _ _ (@At _ _ (9) _ _ _ _ Bd.nd rfl (Or.inl rfl) (@Ak _ _ _ _ _ _ _ _ Bb (pv 2) (pv 8)) (by rfl) (by first | exact .inl rfl | exact .inr rfl | assumption)) (@Ae _ _ _ _ _ (@At _ _ (2) _ _ _ _ Bd.nd rfl (Or.inl rfl) (@Ak _ _ _ _ _ _ _ _ BI (pv 2) (pv 8)) (by rfl) (by first | exact .inl rfl | exact .inr rfl | assumption)) (@Ae _ _ _ _ _ (@FV _ _ _ _ _ _ _ _ (PW.pt (@Cv _ _ _ _ _ _ _ (@As _ _ _ _ _ _ _ _ CD (pv 3) Ag (Au _)) (@Du _ _ _ _ (PW.pt (@DE _ _ _ _ _ _ _ (@As _ _ _ _ _ _ _ _ CD (pv 3) Ag (Au _)) (@Dj _ _ _ _ (@As _ _ _ _ _ _ _ _ EI (pv 7) (pv 4) (Au _)))))))) (@Ah _ _ _ (G3 (u1 hr.units) (pv 6) (pv 7) (@BM _ _ _ _ (@Aa _ _ _ _ _ (CW PySem.F.plainAttrs_list PySem.F.slot_list_pop PySem.F.type_list_pop Kw (pv 5) (@Aa _ _ _ _ _ (pv 9) Ac (by rfl))) Ac (by rfl))) rfl)) A2) (@Ah _ _ _ (@FV _ _ _ _ _ _ _ _ (PW.pt (@DE _ _ _ _ _ _ _ (@As _ _ _ _ _ _ _ _ Io (pv 3) (@BY _ _ _ _ _ (@Aa _ _ _ _ _ Ag (@Aa _ _ _ _ _ Ag Ac (by rfl)) (by rfl))) (by with_unfolding_all rfl)) (@Dj _ _ _ _ (@As _ _ _ _ _ _ _ _ Ef (pv 9) Ag (Au _))))) (@Ah _ _ _ (G3 (u1 hr.units) (pv 6) (pv 9) (@Ak _ _ _ _ _ _ _ _ Nu (GI (u1 hr.units) (pv 6) (pv 9) (@BM _ _ _ _ Ac) ⟨rfl,rfl,rfl,rfl⟩) (@BM _ _ _ _ (@Aa _ _ _ _ _ (pv 7) Ac (by rfl)))) rfl)) A2))))))) (@Ah _ _ _ (@Aq _ _ _ _ (@BK _ _ _ _ _ _ _ _ _ EL (by rfl) T.z_tuple PyProof.Rows.boot_tuple (@Aa _ _ _ _ _ (B7 (fsc:=Ad Cl) (N:=["_law_cell_here","_law_hands","_law_number","_law_way","_law_many","_law_left","_law_tiers","_law_k","_law_base","_law_lot"]) (Nc:=["_law_cell_here","_law_hands","_law_number","_law_way","_law_many","_law_left","_law_tiers","_law_k","_law_base","_law_lot","_law_rank"]) rfl rfl ⟨rfl,by decide +kernel,by decide +kernel,rfl,by decide +kernel,rfl,by decide +kernel,rfl,by decide +kernel⟩ rfl (AJ (@Ao _ _ _ _ _ _ _ _ _ (HA rfl) (by rfl) T.z_sorted PyProof.Rows.boot_sorted (@Aa _ _ _ _ _ (pv 6) Ac (by rfl)) (by decide) (by decide) (by rfl) (by rfl))) (fun _ _ _ _=>AK) (fun _ _ _ _=>(@Ai _ _ _ _ _ _ _ _ _ _ _ _ _ _ _ _ (JB T) (hr.mono (by decide)) rfl T.m_law_mask T.F_law_mask.kp T.b_law_mask .nil Aw (@Aa _ _ _ _ _ (Mb (u1 hr.units) (pv 6) (pv 10) (fun _ _=>rfl)) Ac (by rfl)) (by decide) (by rfl) (by rfl)))) Ac (by rfl)) (by decide) (by decide) (by rfl) (by rfl))))))))))),?_⟩
 and_intros
 refine ⟨c,(n:Int),rfl,szc,by ac_nf,by ac_nf,fun z z0 z1=>?_⟩
 have szz:Sz 200 z:=Gw z0 (Int.lt_trans z1 (by decide))
 and_intros
 refine ⟨(by show (_:Int)≠0;ac_nf),?_⟩
 and_intros
 refine ⟨by ac_nf,fun l hl=>?_⟩
 rw [show (List.map (fun i:Nat=>V.int (i:Int)) (List.range n))=((List.range n).map fun i:Nat=>(i:Int)).map V.int from (by rw [map_map];rfl)]
 have rl:((List.range n).map fun i:Nat=>(i:Int)).length=n:=by rw [length_map,length_range]
 have rin:∀x∈((List.range n).map fun i:Nat=>(i:Int)),0<=x/\x < (n:Int):=fun x m=>by
  obtain ⟨i,im,rfl⟩:=mem_map.mp m
  have:=mem_range.mp im
  omega
 have rnd:((List.range n).map fun i:Nat=>(i:Int)).Nodup:=pairwise_map.mpr (nodup_range.imp fun h e=>h (by ac_nf))
 generalize ((List.range n).map fun i:Nat=>(i:Int))=left at rl rin rnd ⊢
 have s1:=Af hl (.lst (left.map V.int))
 have e1:(upd H l (.lst (left.map V.int))) l=some (.lst (left.map V.int)):=Ab
 generalize upd H l (.lst (left.map V.int))=H1 at s1 e1 ⊢
 subst_eqs
 intro d hd
 have s2:=Af hd (.dK [])
 have e2:(upd H1 d (.dK [])) d=some (.dK []):=Ab
 generalize upd H1 d (.dK [])=H2 at s2 e2 ⊢
 have dl:d≠l:=fun z=>by rw [z,e1] at hd;cases hd
 have hdH:=none_of s1 hd
 have mw:=Bp z (show (0:Int) < 4 by decide)
 have lc:=IK (d:=64) z0 (by decide) z1
 dsimp only
 generalize (z.fdiv 4).fmod ((n:Int)+1)=m
 generalize z.fmod 4=w at mw ⊢
 generalize z.fdiv 64=z at lc ⊢
 and_intros
 refine ⟨L6z,U6z (by ac_nf),AN (fun i σ' J=>∃(v7 v8 v9:Option V) (z:Int) (left:List Int) (kvs:List (Key × V)) (ρ:Int->Option Int),σ'=[some (.int c),some (.int (n:Int)),some (.int z),some (.int w),some (.int m),some (.ref l),some (.ref d),v7,v8,v9]/\0<=z/\z < 10 ^ 31/\Av H J/\J l=some (.lst (left.map V.int))/\J d=some (.dK kvs)/\n<=left.length+i/\left.length<=n/\(∀x∈left,0<=x/\x < (n:Int))/\kvs.length<=i/\Ce J l n i w kvs/\Gh J kvs ρ/\left.Nodup/\(w=0\/w=3->∀x∈left,ρ x=none)/\(w=1\/w=2->∀x,(i:Int)<=x->ρ x=none)) ⟨none,none,none,z,left,[],(fun _=>none),rfl,lc.1,lc.2,s1.trans s2,s2 _ _ e1,e2,by ac_nf,by ac_nf,rin,Nat.le_refl _,⟨nodup_nil,fun _ m=>absurd m List.not_mem_nil⟩,(fun _ _ _ m=>nomatch m),rnd,(fun _ _ _=>rfl),fun _ _ _=>rfl⟩ ?_ ?_⟩
 ·rintro i σ' J hi ⟨v7,v8,v9,z,left,kvs,ρ,rfl,z0,z1,sJ,eL,eD,ln,ln2,rin,kl,td,gh,lnd,gh0,gh1⟩
  rw [Int.toNat_natCast] at hi
  have szz:Sz 200 z:=Gw z0 (Int.lt_trans z1 (by decide))
  have ll:(left.map V.int).length=left.length:=length_map _
  and_intros
  refine ⟨(by show 4<=sizeLine;decide),fun b4 hb4=>?_⟩
  dsimp only
  rw [ll]
  have sj1:=Af hb4 (.lst [V.int (left.length:Nat),V.int ((n:Int)+1),V.int 3,V.int (left.length:Nat)])
  have ej1:(upd J b4 (.lst [V.int (left.length:Nat),V.int ((n:Int)+1),V.int 3,V.int (left.length:Nat)])) b4=some (.lst [V.int (left.length:Nat),V.int ((n:Int)+1),V.int 3,V.int (left.length:Nat)]):=Ab
  generalize upd J b4 (.lst [V.int (left.length:Nat),V.int ((n:Int)+1),V.int 3,V.int (left.length:Nat)])=J1 at sj1 ej1 ⊢
  obtain ⟨b,hb,b1,b13,bw⟩:∃b:Int,atI [V.int (left.length:Nat),V.int ((n:Int)+1),V.int 3,V.int (left.length:Nat)] w=some (.int b)/\1<=b/\b<=13/\(w=0\/w=3->b=(left.length:Nat)):=by
   rcases (by ac_nf:w=0\/w=1\/w=2\/w=3) with rfl | rfl | rfl | rfl
   ·exact ⟨_,rfl,by ac_nf,by ac_nf,fun _=>rfl⟩
   ·exact ⟨_,rfl,by ac_nf,by ac_nf,fun k=>by ac_nf⟩
   ·exact ⟨_,rfl,by ac_nf,by ac_nf,fun k=>by ac_nf⟩
   ·exact ⟨_,rfl,by ac_nf,by ac_nf,fun _=>rfl⟩
  and_intros
  refine ⟨b4,_,_,_,rfl,rfl,SqL.of ej1,hb,?_⟩
  and_intros
  refine ⟨(by show (_:Int)≠0;ac_nf),?_⟩
  have lt:=Bp z (show 0 < b by ac_nf)
  have lc:=IK (d:=b) z0 b1 z1
  have szb:Sz 64 b:=Go (by ac_nf) (by ac_nf)
  and_intros
  refine ⟨⟨by show (_:Int)≠0;ac_nf,szb.mono (by decide)⟩,?_⟩
  dsimp only
  generalize z.fmod b=lo at lt ⊢
  generalize z.fdiv b=z at lc ⊢
  have sJ1:=sJ.trans sj1
  have tJ:=td.same sj1
  have gJ:=gh.same sj1 td
  have eL1:=sj1 _ _ eL
  have eD1:=sj1 _ _ eD
  and_intros
  refine ⟨fun σ' J=>∃(left:List Int) (kvs:List (Key × V)) (ρ:Int->Option Int),σ'=[some (.int c),some (.int (n:Int)),some (.int z),some (.int w),some (.int m),some (.ref l),some (.ref d),some (.int (0+(i:Int))),some (.int b),some (.int lo)]/\Av H J/\J l=some (.lst (left.map V.int))/\J d=some (.dK kvs)/\n<=left.length+(i+1)/\left.length<=n/\(∀x∈left,0<=x/\x < (n:Int))/\kvs.length<=i+1/\(w=1\/w=2->kvs.length<=i)/\Ce J l n i w kvs/\Gh J kvs ρ/\left.Nodup/\(w=0\/w=3->∀x∈left,ρ x=none)/\(w=1\/w=2->∀x,(i:Int)<=x->ρ x=none),?_,?_⟩
  ·refine ON (decide (w=3\/(w=0/\0+(i:Int) < m))) (fun R r=>?_) ?_
   ·and_intros
    by_cases c3:w=3
    ·refine ifT (Hv c3) ?_
     rw [decide_eq_true (Or.inl c3)] at r
     exact r
    ·refine ifF (Lw c3) ?_
     and_intros
     by_cases c0:w=0
     ·refine ifT (Hv c0) ?_
      and_intros
      rw [show decide (w=3\/(w=0/\0+(i:Int) < m))=decide (0+(i:Int) < m) from by congr 1;apply propext;omega] at r
      exact r
     ·refine ifF (Lw c0) ?_
      rw [decide_eq_false (by ac_nf)] at r
      exact r
   by_cases c:w=3\/(w=0/\0+(i:Int) < m)
   ·refine ifT (decide_eq_true c) ?_
    have lo':lo < (left.length:Int):=by rw [<- bw (by ac_nf)];exact lt.2
    obtain ⟨j,rfl⟩:∃j:Nat,lo=(j:Int):=⟨lo.toNat,by ac_nf⟩
    have hj:j < left.length:=by ac_nf
    have xin:=rin left[j] (getElem_mem hj)
    and_intros
    refine ⟨.inl ⟨rfl,_,SqL.of eL1⟩,?_⟩
    and_intros
    refine ⟨l,_,_,j,V.int left[j],rfl,rfl,eL1,by ac_nf,by ac_nf,PX (by rw [length_map];exact hj),(by rw [List.getElem?_map,List.getElem?_eq_getElem hj];rfl),?_⟩
    have s4:=A3 (o:=.lst ((left.map V.int).eraseIdx j)) sJ1 hl
    have g1:(upd J1 l (.lst ((left.map V.int).eraseIdx j))) l=some (.lst ((left.eraseIdx j).map V.int)):=by rw [Ab,map_erase]
    have g2:(upd J1 l (.lst ((left.map V.int).eraseIdx j))) d=some (.dK kvs):=by rw [Aj dl];exact eD1
    have t4:Ce (upd J1 l (.lst ((left.map V.int).eraseIdx j))) l n i w kvs:=tJ.off
    have gh4:Gh (upd J1 l (.lst ((left.map V.int).eraseIdx j))) kvs ρ:=gJ.off tJ
    generalize upd J1 l (.lst ((left.map V.int).eraseIdx j))=J4 at s4 g1 g2 t4 gh4 ⊢
    refine ⟨(by show 1<=sizeLine;decide),fun a ha=>?_⟩
    have sj5:=Af ha (.lst [V.int left[j]])
    have ej5:(upd J4 a (.lst [V.int left[j]])) a=some (.lst [V.int left[j]]):=Ab
    generalize upd J4 a (.lst [V.int left[j]])=J5 at sj5 ej5 ⊢
    have al:a≠l:=fun z=>by rw [z,g1] at ha;cases ha
    refine ⟨_,rfl,_,rfl,d,_,rfl,Hz.k (k:=Sum.inl (0+(i:Int))) (sj5 _ _ g2) (A9 (by ac_nf)),?_⟩
    have tt:Jv n i w [left[j]]:=⟨(fun z=>by cases z),pairwise_singleton _ _,fun x xm=>by
     rw [mem_singleton.mp xm]
     exact ⟨xin.1,xin.2,fun k=>by ac_nf⟩⟩
    have dK:=(t4.same sj5).put (z:=0+(i:Int)) (sj5 _ _ g2) ej5 al tt
    have xno:=gh0 (by ac_nf) left[j] (getElem_mem hj)
    have gK:=Gh.put (z:=0+(i:Int)) (ρ':=fun x=>if x=left[j] then some (0+(i:Int)) else ρ x) (t4.same sj5) (gh4.same sj5 t4) (sj5 _ _ g2) ej5 (fun x y e=>by
     show (if x=left[j] then _ else ρ x)=_
     rw [if_neg (fun z=>by rw [z,xno] at e;cases e)]
     exact e) (fun x xm=>by rw [mem_singleton.mp xm];exact if_pos rfl)
    obtain ⟨nd1,nd2⟩:=KD lnd hj
    exact ⟨left.eraseIdx j,_,_,rfl,A3 (s4.trans sj5) hdH,(by rw [Aj (Ne.symm dl)];exact sj5 _ _ g1),Ab,(by rw [length_eraseIdx,if_pos hj];omega),(by rw [length_eraseIdx,if_pos hj];omega),(fun x xm=>rin x (mem_of_mem_eraseIdx xm)),Nat.le_trans (D4 ..) (Nat.succ_le_succ kl),(fun k=>by ac_nf),dK,gK,nd1,(fun k x xm=>by show (if x=left[j] then _ else ρ x)=_;rw [if_neg (fun z=>nd2 (by rw [<- z];exact xm))];exact gh0 k x (mem_of_mem_eraseIdx xm)),fun k=>by ac_nf⟩
   ·refine ifF (decide_eq_false c) ?_
    exact ⟨left,kvs,ρ,rfl,sJ1,eL1,eD1,by ac_nf,ln2,rin,by ac_nf,(fun _=>kl),tJ,gJ,lnd,gh0,gh1⟩
  clear ll hb szb bw eL1 eD1 tJ sJ1 sJ eL eD ln ln2 rin td kl gJ gh lnd gh0 gh1
  rintro σ' J2 ⟨left,kvs,ρ,rfl,sJ,eL,eD,ln,ln2,rin,kl,kw,td,gh,lnd,gh0,gh1⟩
  and_intros
  refine ⟨fun σ' J=>∃(left:List Int) (kvs:List (Key × V)) (ρ:Int->Option Int),σ'=[some (.int c),some (.int (n:Int)),some (.int z),some (.int w),some (.int m),some (.ref l),some (.ref d),some (.int (0+(i:Int))),some (.int b),some (.int lo)]/\Av H J/\J l=some (.lst (left.map V.int))/\J d=some (.dK kvs)/\n<=left.length+(i+1)/\left.length<=n/\(∀x∈left,0<=x/\x < (n:Int))/\kvs.length<=i+1/\Ce J l n (i+1) w kvs/\Gh J kvs ρ/\left.Nodup/\(w=0\/w=3->∀x∈left,ρ x=none)/\(w=1\/w=2->∀x,(((i+1:Nat):Int):Int)<=x->ρ x=none),?_,?_⟩
  ·refine Qz (decide ((w=1\/w=2)/\0 < lo)) (fun R r=>?_) (fun J3 s3=>?_)
   ·and_intros
    refine ⟨(by show 2<=sizeLine;decide),fun t ht=>?_⟩
    have st:=Af ht (.tup [V.int 1,V.int 2])
    have et:(upd J2 t (.tup [V.int 1,V.int 2])) t=some (.tup [V.int 1,V.int 2]):=Ab
    generalize upd J2 t (.tup [V.int 1,V.int 2])=J3 at st et ⊢
    refine ⟨t,_,rfl,.inr (SqT.of et),rfl,rfl,?_⟩
    have r':=r J3 st
    have ew:inV (.int w) [V.int 1,V.int 2]=decide (w=1\/w=2):=by
     rcases (by ac_nf:w=0\/w=1\/w=2\/w=3) with rfl | rfl | rfl | rfl <;> rfl
    by_cases c:w=1\/w=2
    ·refine ⟨_,rfl,ifT (by show inV (.int w) [V.int 1,V.int 2]=true;exact ew.trans (decide_eq_true c)) ?_⟩
     and_intros
     rw [show decide ((w=1\/w=2)/\0 < lo)=decide (0 < lo) from by congr 1;apply propext;exact ⟨fun z=>z.2,fun z=>⟨c,z⟩⟩] at r'
     exact r'
    ·refine ⟨_,rfl,ifF (by show inV (.int w) [V.int 1,V.int 2]=false;exact ew.trans (decide_eq_false c)) ?_⟩
     rw [decide_eq_false (fun z=>c z.1)] at r'
     exact r'
   have sJ:=sJ.trans s3
   have eL:=s3 _ _ eL
   have eD:=s3 _ _ eD
   have gh:=gh.same s3 td
   have td:=td.same s3
   by_cases c:(w=1\/w=2)/\0 < lo
   ·refine ifT (decide_eq_true c) ?_
    and_intros
    refine ⟨.inl ⟨_,.inl eD⟩,?_⟩
    and_intros
    refine ⟨(by show 0<=sizeLine;decide),fun e0 he0=>?_⟩
    have s4:=Af he0 (.lst [])
    have ee0:(upd J3 e0 (.lst [])) e0=some (.lst []):=Ab
    generalize upd J3 e0 (.lst [])=J4 at s4 ee0 ⊢
    have e0l:e0≠l:=fun z=>by rw [z,eL] at he0;cases he0
    refine ⟨_,Fk.k (k:=(Sum.inl lo:Key)) (s4 _ _ eD),?_⟩
    have old:∃(a:Addr) (hs:List Int),(B2 kvs (Sum.inl lo:Key)).getD (.ref e0)=.ref a/\J4 a=some (.lst (hs.map V.int))/\a≠l/\hs.Pairwise (· < ·)/\(∀h∈hs,0<=h/\h < (i:Int))/\∀h∈hs,ρ h=some lo:=by
     cases e:B2 kvs (Sum.inl lo:Key) with
     | none=>exact ⟨e0,[],rfl,ee0,e0l,List.Pairwise.nil,(fun _ m=>absurd m List.not_mem_nil),fun _ m=>absurd m List.not_mem_nil⟩
     | some v =>
       obtain ⟨z',a,hs,eq,h1,h2,h3,h4,h5⟩:=td.2 _ (Fp e)
       injection eq with eq1 eq2
       exact ⟨a,hs,by rw [eq2];rfl,s4 _ _ h1,h2,h4,(fun h hm=>⟨(h5 h hm).1,(h5 h hm).2.2 c.1⟩),gh lo a hs (by have:=Fp e;rw [eq2] at this;exact this) h1⟩
    obtain ⟨a,hs,ea,ha,al,pw,hin,hro⟩:=old
    rw [ea]
    and_intros
    refine ⟨(by show 1<=sizeLine;decide),fun f0 hf0=>?_⟩
    have s5:=Af hf0 (.lst [V.int (0+(i:Int))])
    have ef0:(upd J4 f0 (.lst [V.int (0+(i:Int))])) f0=some (.lst [V.int (0+(i:Int))]):=Ab
    generalize upd J4 f0 (.lst [V.int (0+(i:Int))])=J5 at s5 ef0 ⊢
    have hl12:hs.length<=12:=by
     have nd:hs.Nodup:=pw.imp fun h e=>by ac_nf
     have:=Er (p:=(List.range n).map fun i:Nat=>(i:Int)) nd (fun h hm=>mem_map.mpr ⟨h.toNat,mem_range.mpr (by have:=hin h hm;omega),by have:=hin h hm;omega⟩)
     rw [length_map,length_range] at this
     omega
    refine ⟨a,f0,_,_,rfl,rfl,s5 _ _ ha,ef0,(by simp only [length_map,length_cons,length_nil];exact Ke (by ac_nf)),fun g hg=>?_⟩
    have s6:=Af hg (.lst (hs.map V.int++[V.int (0+(i:Int))]))
    have eg:(upd J5 g (.lst (hs.map V.int++[V.int (0+(i:Int))]))) g=some (.lst ((hs++[(i:Int)]).map V.int)):=by rw [Ab,map_append,Int.zero_add];rfl
    generalize upd J5 g (.lst (hs.map V.int++[V.int (0+(i:Int))]))=J6 at s6 eg ⊢
    have s36:=(s4.trans s5).trans s6
    have gl:g≠l:=fun z=>by rw [z,(s4.trans s5) _ _ eL] at hg;cases hg
    refine ⟨_,rfl,_,rfl,d,_,rfl,Hz.k (k:=Sum.inl lo) (s36 _ _ eD) (A9 (by ac_nf)),?_⟩
    have tt:Jv n (i+1) w (hs++[(i:Int)]):=⟨(fun z=>by have:=congrArg List.length z;rw [length_append] at this;exact nomatch this),(by
     rw [pairwise_append]
     exact ⟨pw,pairwise_singleton _ _,fun x xm y ym=>by rw [mem_singleton.mp ym];exact (hin x xm).2⟩),fun x xm=>by
     rcases mem_append.mp xm with xm | xm
     ·have:=hin x xm
      exact ⟨this.1,by ac_nf,fun _=>by ac_nf⟩
     ·rw [mem_singleton.mp xm]
      exact ⟨by ac_nf,by ac_nf,fun _=>by ac_nf⟩⟩
    have dK:=(td.up.same s36).put (z:=lo) (s36 _ _ eD) eg gl tt
    have kl':=kw c.1
    have ino:=gh1 c.1 (i:Int) (Int.le_refl _)
    have gK:=Gh.put (z:=lo) (ρ':=fun x=>if x=(i:Int) then some lo else ρ x) (td.up.same s36) (gh.same s36 td) (s36 _ _ eD) eg (fun x y e=>by
     show (if x=(i:Int) then _ else ρ x)=_
     rw [if_neg (fun z=>by rw [z,ino] at e;cases e)]
     exact e) (fun x xm=>by
     show (if x=(i:Int) then _ else ρ x)=_
     rcases mem_append.mp xm with xm | xm
     ·rw [if_neg (by have:=hin x xm;omega)];exact hro x xm
     ·rw [if_pos (mem_singleton.mp xm)])
    exact ⟨left,_,_,rfl,A3 (sJ.trans s36) hdH,(by rw [Aj (Ne.symm dl)];exact s36 _ _ eL),Ab,ln,ln2,rin,Nat.le_trans (D4 ..) (Nat.succ_le_succ kl'),dK,gK,lnd,(fun k=>by ac_nf),fun k x xi=>by show (if x=(i:Int) then _ else ρ x)=_;rw [if_neg (by ac_nf)];exact gh1 k x (by ac_nf)⟩
   ·refine ifF (decide_eq_false c) ?_
    exact ⟨left,kvs,ρ,rfl,sJ,eL,eD,ln,ln2,rin,kl,td.up,gh,lnd,gh0,fun k x xi=>gh1 k x (by ac_nf)⟩
  ·rintro σ' J3 ⟨left,kvs,ρ,rfl,sJ,eL,eD,ln,ln2,rin,kl,td,gh,lnd,gh0,gh1⟩
   exact ⟨_,_,_,_,_,_,ρ,rfl,lc.1,lc.2,sJ,eL,eD,ln,ln2,rin,kl,td,gh,lnd,gh0,gh1⟩
 ·rintro σ' J ⟨v7,v8,v9,z,left,kvs,ρ,rfl,z0,z1,sJ,eL,eD,ln,ln2,rin,kl,td,gh,lnd,gh0,gh1⟩
  rw [Int.toNat_natCast] at kl td
  obtain ⟨ns,k1,k2,k3⟩:=td.keys
  and_intros
  refine ⟨d,kvs,ns,rfl,.inl eD,k1,by ac_nf,fun l2 ms p1 p2 hl2=>?_⟩
  have s1:=Af hl2 (.lst (ms.map V.int))
  have e1:(upd J l2 (.lst (ms.map V.int))) l2=some (.lst (ms.map V.int)):=Ab
  generalize upd J l2 (.lst (ms.map V.int))=J1 at s1 e1 ⊢
  refine ⟨l2,rfl,⟨_,SqL.of e1⟩,?_⟩
  have ml:ms.length=kvs.length:=by rw [p1.length_eq,k2]
  have mnd:ms.Nodup:=p1.nodup_iff.mpr (by have:=td.1;rw [k1] at this;exact List.Pairwise.imp (fun h e=>h (by rw [e])) (pairwise_map.mp this))
  refine AS (xs:=ms.map V.int) (by rw [length_map];exact AH (by ac_nf)) (fun D i ys H'=>∃(ts:List Int) (ps:List (Int × List Int)),ys=ts.map V.int/\ts.length=i/\H' D=some (.lst ys)/\Av J1 H'/\(∀x∈ts,0 < x/\x < 2 ^ n)/\(ts=ps.map fun p=>C4 p.2)/\ps.map (·.1)=ms.take i/\∀p∈ps,p.2.Pairwise (· < ·)/\(∀h∈p.2,0<=h/\h < (n:Int))/\∀x∈p.2,ρ x=some p.1) (fun D hD=>⟨[],[],rfl,rfl,Ab,Af hD _,(fun _ m=>absurd m List.not_mem_nil),rfl,rfl,fun _ m=>absurd m List.not_mem_nil⟩) (fun D i ys H' hq_=>by obtain ⟨ts,_,f1,f2,f3,_⟩:=hq_;exact ⟨f3,by rw [f1,length_map,f2];exact Nat.le_refl _⟩) (fun D i ys H' hD hq_=>by obtain ⟨ts,_,_,_,_,f4,_⟩:=hq_;exact SqL.of (f4 _ _ e1)) ?_ ?_
  ·rintro D i x ys H' K1 K2 hD hx ⟨ts,ps,rfl,f2,f3,f4,f5,f6,f7,f8⟩ kk1 kk2
   obtain ⟨r,hr',rfl⟩:=int_at hx
   obtain ⟨a,hs,a1,a2,a3,a4,a5⟩:=k3 r (p1.mem_iff.mp (mem_of_getElem? hr'))
   have sH:=s1.trans f4
   have dg:=Fk.k (k:=(Sum.inl r:Key)) (sH _ _ eD)
   rw [a1] at dg
   have hl12:hs.length<=12:=by
    have nd:hs.Nodup:=a4.imp fun h e=>by ac_nf
    have:=Er (p:=(List.range n).map fun i:Nat=>(i:Int)) nd (fun h hm=>mem_map.mpr ⟨h.toNat,mem_range.mpr (by have:=a5 h hm;omega),by have:=a5 h hm;omega⟩)
    rw [length_map,length_range] at this
    omega
   refine yes (ifT rfl ?_)
   refine ⟨_,rfl,_,rfl,d,_,rfl,dg,?_⟩
   and_intros
   refine ⟨a,hs,rfl,sH _ _ a2,by ac_nf,(fun h hm=>by have:=a5 h hm;omega),fun H5 s5=>?_⟩
   have mi:=OI (n:=n) a4 (fun h hm=>⟨(a5 h hm).1,(a5 h hm).2.1⟩) a3
   refine kk1 _ _ (s5 _ _ f3) ⟨ts++[C4 hs],ps++[(r,hs)],by rw [map_append];rfl,by rw [length_append,f2];rfl,Ab,A3 (f4.trans s5) hD,fun y ym=>?_,by rw [f6,map_append];rfl,by rw [map_append,f7,take_add_one,hr'];rfl,fun y ym=>?_⟩
   ·rcases mem_append.mp ym with ym | ym
    ·exact f5 y ym
    ·rw [mem_singleton.mp ym]
     exact mi
   ·rcases mem_append.mp ym with ym | ym
    ·exact f8 y ym
    ·rw [mem_singleton.mp ym]
     exact ⟨a4,(fun h hm=>⟨(a5 h hm).1,(a5 h hm).2.1⟩),gh r a hs (Fp a1) a2⟩
  ·rintro D ys H' hD ⟨ts,ps,rfl,f2,f3,f4,f5,f6,f7,f8⟩
   rw [length_map] at f2 f7
   rw [take_of_length_le (Nat.le_refl _)] at f7
   refine ⟨D,_,rfl,.inl ⟨SqL.of f3,fun t ht=>?_⟩⟩
   have s9:=((sJ.trans s1).trans f4)
   exact q t ts _ (none_of s9 ht) (s9.trans (Af ht _)) Ab ⟨⟨f5,by ac_nf⟩,by rw [f6];exact JU (by rw [f7];exact mnd) f8⟩
theorem IA (T:Tx K mg base ad):AI P w K mg base CX0 2 ad.f_law_leads ad.d_law_leads ["_law_sheet_here","_law_hands"] M7:=by
 refine T.F_law_leads.ok BG (fun vs H Q E h=>?_) (fun cdv A outer s H vs Q E hr h=>?_)
 ·obtain ⟨l,ls,h,rfl,_⟩:=h
  rfl
 obtain ⟨l,ls,h,rfl,hl,gs,okl,l60,h1,h12,q⟩:=h
 refine ⟨_,(@Ae _ _ _ _ _ (Di (j:=2) (fsc:=Ad BC) (N:=["_law_sheet_here","_law_hands","_law_links","_law_slip_here","_law_number","_law_places","_law_x","_law_y"]) (Nc:=["_law_sheet_here","_law_hands","_law_links","_law_slip_here","_law_number","_law_places",".s6","_law_y","_law_x"]) rfl rfl ⟨rfl,by decide +kernel,by decide +kernel,rfl,by decide +kernel,rfl,by decide +kernel,rfl,by decide +kernel⟩ rfl BG.nd rfl rfl (A1 rfl T.z_range (@Aa _ _ _ _ _ (pv 1) Ac (by rfl))) (fun _ _ _ _=>AK) (fun _ _ _ _=>(@Ak _ _ _ _ _ _ _ _ Qs (@BM _ _ _ _ (@Aa _ _ _ _ _ Ag Ac (by rfl))) (pv 1))) rfl) (@Ae _ _ _ _ _ (Be PassesOwn.never rfl (AJ (pv 0)) (DY rfl (AC (A0 (i:=3) BG.nd rfl (Or.inr rfl)) (AC (A0 (i:=4) BG.nd rfl (Or.inl rfl)) Dn))) (@Ae _ _ _ _ _ (Di (j:=5) (fsc:=Ad BC) (N:=["_law_sheet_here","_law_hands","_law_links","_law_slip_here","_law_number","_law_places","_law_x","_law_y"]) (Nc:=["_law_sheet_here","_law_hands","_law_links","_law_slip_here","_law_number","_law_places","_law_x","_law_y","_law_hand"]) rfl rfl ⟨rfl,by decide +kernel,by decide +kernel,rfl,by decide +kernel,rfl,by decide +kernel,rfl,by decide +kernel⟩ rfl BG.nd rfl rfl (A1 rfl T.z_range (@Aa _ _ _ _ _ (pv 1) Ac (by rfl))) (fun _ _ _ _=>AK) (fun _ _ _ _=>(@Ai _ _ _ _ _ _ _ _ _ _ _ _ _ _ _ _ (IU T) (hr.mono (by decide)) rfl T.m_law_place T.F_law_place.kp T.b_law_place .nil Aw (@Aa _ _ _ _ _ (pv 3) (@Aa _ _ _ _ _ (pv 8) Ac (by rfl)) (by rfl)) (by decide) (by rfl) (by rfl))) rfl) (@Ah _ _ _ (Be PassesOwn.never rfl (A1 rfl T.z_range (@Aa _ _ _ _ _ (pv 1) Ac (by rfl))) (A0 (i:=6) BG.nd rfl (Or.inl rfl)) (@Ah _ _ _ (Be PassesOwn.never rfl (A1 rfl T.z_range (@Aa _ _ _ _ _ (pv 1) Ac (by rfl))) (A0 (i:=7) BG.nd rfl (Or.inl rfl)) (@Ah _ _ _ (@Bs _ _ _ _ _ _ _ _ (@As _ _ _ _ _ _ _ _ EI (@Am _ _ _ _ _ _ _ Al (pv 5) (pv 6) (fun _ _=>rfl)) (@Am _ _ _ _ _ _ _ Al (pv 5) (pv 7) (fun _ _=>rfl)) (Au _)) (@Ae _ _ _ _ _ (Et (@Ak _ _ _ _ _ _ _ _ B5 (@Am _ _ _ _ _ _ _ Al (@Am _ _ _ _ _ _ _ Al (pv 2) (pv 6) (fun _ _=>rfl)) (pv 7) (fun _ _=>rfl)) (pv 4)) (FM (@Am _ _ _ _ _ _ _ Al (pv 2) (pv 6) (fun _ _=>rfl)) (pv 7) DF)) (@Ah _ _ _ (Et (@Ak _ _ _ _ _ _ _ _ CF (@Am _ _ _ _ _ _ _ Al (@Am _ _ _ _ _ _ _ Al (pv 2) (pv 7) (fun _ _=>rfl)) (pv 6) (fun _ _=>rfl)) (pv 4)) (FM (@Am _ _ _ _ _ _ _ Al (pv 2) (pv 7) (fun _ _=>rfl)) (pv 6) DF)))) A2)))))))) (@Ah _ _ _ (@Aq _ _ _ _ (pv 2))))),?_⟩
 and_intros
 refine ⟨by ac_nf,by ac_nf,?_⟩
 rw [Int.toNat_natCast]
 refine Bv (AH (by ac_nf)) (fun D i ys J=>∃as:List Addr,ys=as.map V.ref/\as.length=i/\as.Nodup/\J D=some (.lst ys)/\Av H J/\D ∉ as/\∀a∈as,H a=none/\J a=some (.lst (((List.range h).map fun _=>(0:Int)).map V.int))) (fun D hD=>⟨[],rfl,rfl,nodup_nil,Ab,Af hD _,(fun m=>nomatch m),fun _ m=>absurd m List.not_mem_nil⟩) (fun D i ys J hq_=>by obtain ⟨as,f1,f2,_,f3,_⟩:=hq_;exact ⟨f3,by rw [f1,length_map,f2];exact Nat.le_refl _⟩) ?_ ?_
 ·rintro D i ys J K1 K2 hD hi ⟨as,rfl,f2,f3,f4,f5,f6,f7⟩ k1 k2
  refine yes (ifT rfl ?_)
  refine ⟨(by show 1<=sizeLine;decide),fun o ho=>?_⟩
  have so:=Af ho (.lst [V.int 0])
  have eo:(upd J o (.lst [V.int 0])) o=some (.lst [V.int 0]):=Ab
  generalize upd J o (.lst [V.int 0])=J0 at so eo ⊢
  refine ⟨_,rfl,o,_,_,rfl,rfl,eo,by ac_nf,by ac_nf,(by show 1*_<=sizeLine;rw [Nat.one_mul];exact Nat.le_of_lt (A9 (by ac_nf))),fun D2 hD2=>?_⟩
  rw [Int.toNat_natCast,R3]
  have f4:=so _ _ f4
  have f5:=f5.trans so
  have f7:∀a∈as,H a=none/\J0 a=some (.lst (((List.range h).map fun _=>(0:Int)).map V.int)):=fun a m=>⟨(f7 a m).1,so _ _ (f7 a m).2⟩
  have sD:=Af hD2 (.lst (((List.range h).map fun _=>(0:Int)).map V.int))
  have eD:(upd J0 D2 (.lst (((List.range h).map fun _=>(0:Int)).map V.int))) D2=some (.lst (((List.range h).map fun _=>(0:Int)).map V.int)):=Ab
  have dd:D2≠D:=fun z=>by rw [z,f4] at hD2;cases hD2
  have na:D2 ∉ as:=fun m=>by rw [(f7 D2 m).2] at hD2;cases hD2
  generalize upd J0 D2 (.lst (((List.range h).map fun _=>(0:Int)).map V.int))=J5 at sD eD ⊢
  refine k1 _ _ (sD _ _ f4) ⟨as++[D2],by rw [map_append];rfl,by rw [length_append,f2];rfl,nodup_append.mpr ⟨f3,by simp,fun a ma b mb e=>na (by rw [<- mem_singleton.mp mb,<- e];exact ma)⟩,Ab,A3 (f5.trans sD) hD,fun m=>?_,fun a m=>?_⟩
  ·rcases mem_append.mp m with m | m
   ·exact f6 m
   ·exact dd (mem_singleton.mp m).symm
  ·rcases mem_append.mp m with m | m
   ·exact ⟨(f7 a m).1,by rw [Aj (fun z=>f6 (by rw [<- z];exact m))];exact sD _ _ (f7 a m).2⟩
   ·rw [mem_singleton.mp m]
    exact ⟨none_of f5 hD2,by rw [Aj dd];exact eD⟩
 rintro D ys H1 hD ⟨as,rfl,f2,f3,f4,f5,f6,f7⟩
 have tb0:Ba H1 as h (fun _ _=>0):=⟨f2,f3,fun x a ha=>(f7 a (mem_of_getElem? ha)).2⟩
 have nw:∀a∈as,H a=none:=fun a m=>(f7 a m).1
 clear f7 f3 f2
 subst_eqs
 refine ⟨_,rfl,l,rfl,⟨_,SqL.of (f5 _ _ hl)⟩,Dt (xs:=vls ls) (fun i σ' H'=>∃v3 v4 v5 v6 v7:Option V,σ'=[some (.ref l),some (.int (h:Int)),some (.ref D),v3,v4,v5,v6,v7]/\CC as H1 H'/\Ba H' as h (AZ (ls.take i))) ⟨none,none,none,none,none,rfl,CC.of (fun _ _ e=>e),tb0.congr fun x y _ _=>by show (0:Int)=0 - 0;rfl⟩ (fun i σ' H' _ hq_=>by obtain ⟨_,_,_,_,_,_,k,_⟩:=hq_;exact SqL.of (k.same f5 nw _ _ hl)) ?_ ?_⟩
 ·rintro i w σ' H' hw ⟨v3,v4,v5,v6,v7,rfl,k1,tb⟩
  obtain ⟨f,hf,rfl,fm,et⟩:=IX hw
  obtain ⟨g1,g2⟩:=gs f fm
  have kH:=k1.same f5 nw
  have okf:=okl (f.2.2.1,f.2.2.2) (mem_map.mpr ⟨f,fm,rfl⟩)
  refine ⟨f.1,_,rfl,SqT.of (kH _ _ g1),rfl,_,_,rfl,_,_,rfl,rfl,?_⟩
  obtain ⟨ts,ets⟩:∃ts,ts=f.2.2.1:=⟨_,rfl⟩
  obtain ⟨n,en⟩:∃n,n=f.2.2.2:=⟨_,rfl⟩
  obtain ⟨F0,eF0⟩:∃F0:Nat->Nat->Int,F0=AZ (ls.take i):=⟨_,rfl⟩
  dsimp only at okf
  rw [<- ets] at g2 okf
  rw [<- eF0] at tb
  rw [<- en]
  and_intros
  refine ⟨by ac_nf,by ac_nf,?_⟩
  rw [Int.toNat_natCast]
  refine Bv (AH (by ac_nf)) (fun E2 j ys J=>ys=((List.range j).map fun u:Nat=>((A6 ts u:Nat):Int)).map V.int/\J=upd H' E2 (.lst ys)) (fun E2 hE=>⟨rfl,rfl⟩) (fun E2 j ys J hq_=>by obtain ⟨e1,e2⟩:=hq_;exact ⟨by rw [e2];exact Ab,by rw [e1,length_map,length_map,length_range];exact Nat.le_refl _⟩) ?_ ?_
  ·rintro E2 j ys J K1 K2 hE hj ⟨e1,rfl⟩ kk1 kk2
   refine yes (ifT rfl ?_)
   refine ⟨_,rfl,_,rfl,f.2.1,ts,j,by rw [Int.zero_add];rfl,Af hE _ _ _ (kH _ _ g2),okf.1.2,by ac_nf,?_⟩
   refine kk1 _ _ Ab ⟨?_,by rw [B3]⟩
   rw [e1,range_succ,map_append,map_append]
   rfl
  rintro E2 ys J0 hE ⟨rfl,rfl⟩
  have sE:=Af hE (.lst (((List.range h).map fun u:Nat=>((A6 ts u:Nat):Int)).map V.int))
  have eE:(upd H' E2 (.lst (((List.range h).map fun u:Nat=>((A6 ts u:Nat):Int)).map V.int))) E2=some (.lst (((List.range h).map fun u:Nat=>((A6 ts u:Nat):Int)).map V.int)):=Ab
  generalize upd H' E2 (.lst (((List.range h).map fun u:Nat=>((A6 ts u:Nat):Int)).map V.int))=J0 at sE eE ⊢
  have nE:E2 ∉ as:=tb.not hE
  have k0:=k1.trans (CC.of sE)
  have tb0':=tb.same sE
  have eD0:=k0 _ _ f6 f4
  and_intros
  refine ⟨L6z,U6z (by ac_nf),AN (fun x σ' H2=>∃v6 v7:Option V,σ'=[some (.ref l),some (.int (h:Int)),some (.ref D),some (.ref f.2.1),some (.int n),some (.ref E2),v6,v7]/\CC as J0 H2/\Ba H2 as h (fun u v=>F0 u v+lnB (A6 ts) n x 0 u v)) ⟨_,_,rfl,CC.of (fun _ _ e=>e),tb0'.congr fun u v _ _=>by rw [O7];omega⟩ ?_ ?_⟩
  ·rintro x σ' H2 hx ⟨v6,v7,rfl,k2,tb2⟩
   have ex:(0:Int)+(x:Int)=(x:Int):=Int.zero_add _
   have hx':x < h:=by ac_nf
   and_intros
   refine ⟨L6z,U6z (by ac_nf),AN (fun y σ' H3=>∃v7:Option V,σ'=[some (.ref l),some (.int (h:Int)),some (.ref D),some (.ref f.2.1),some (.int n),some (.ref E2),some (.int (0+(x:Int))),v7]/\CC as J0 H3/\Ba H3 as h (fun u v=>F0 u v+lnB (A6 ts) n x y u v)) ⟨_,rfl,k2,tb2⟩ ?_ ?_⟩
   ·rintro y σ' H3 hy ⟨v7,rfl,k3,tb3⟩
    have ey:(0:Int)+(y:Int)=(y:Int):=Int.zero_add _
    have hy':y < h:=by ac_nf
    obtain ⟨G,eG⟩:∃G:Nat->Nat->Int,G=fun u v=>F0 u v+lnB (A6 ts) n x y u v:=⟨_,rfl⟩
    rw [<- eG] at tb3
    obtain ⟨a,r1,r2,r3,r4⟩:=tb3.row hx'
    have eE3:=k3 _ _ nE eE
    have eD:=k3 _ _ f6 eD0
    and_intros
    refine ⟨E2,_,_,_,rfl,rfl,SqL.of eE3,(by rw [ex];exact AQ (fun u:Nat=>((A6 ts u:Nat):Int)) hx'),?_⟩
    and_intros
    refine ⟨E2,_,_,_,rfl,rfl,SqL.of eE3,(by rw [ey];exact AQ (fun u:Nat=>((A6 ts u:Nat):Int)) hy'),?_⟩
    and_intros
    by_cases c:A6 ts x < A6 ts y
    ·refine ifT (decide_eq_true (by show ((A6 ts x:Nat):Int) < ((A6 ts y:Nat):Int);omega)) ?_
     refine ⟨_,rfl,_,rfl,D,_,_,_,rfl,rfl,SqL.of eD,(by rw [ex];exact r3),?_⟩
     refine ⟨_,rfl,a,_,_,_,rfl,rfl,SqL.of r4,(by rw [ey];exact AQ (G x) hy'),?_⟩
     and_intros
     refine ⟨D,_,_,_,rfl,rfl,SqL.of eD,(by rw [ex];exact r3),?_⟩
     refine ⟨_,rfl,a,_,_,y,rfl,rfl,r4,(by rw [ey];exact EB (by rw [length_map,length_map,length_range];exact hy')),?_⟩
     have tb4:=tb3.put (y:=y) r1 n
     have k4:=k3.put (o:=.lst ((((List.range h).map fun y=>G x y).map V.int).set y (.int (G x y+n)))) r2
     have eD4:=k4 _ _ f6 eD0
     generalize upd H3 a (.lst ((((List.range h).map fun y=>G x y).map V.int).set y (.int (G x y+n))))=H4 at tb4 k4 eD4 ⊢
     obtain ⟨a',p1,p2,p3,p4⟩:=tb4.row hy'
     refine ⟨_,rfl,_,rfl,D,_,_,_,rfl,rfl,SqL.of eD4,(by rw [ey];exact p3),?_⟩
     refine ⟨_,rfl,a',_,_,_,rfl,rfl,SqL.of p4,(by rw [ex];exact AQ (EZ G x y n y) hx'),?_⟩
     and_intros
     refine ⟨D,_,_,_,rfl,rfl,SqL.of eD4,(by rw [ey];exact p3),?_⟩
     refine ⟨_,rfl,a',_,_,x,rfl,rfl,p4,(by rw [ex];exact EB (by rw [length_map,length_map,length_range];exact hx')),?_⟩
     refine ⟨_,rfl,k4.put p2,(tb4.setv (y:=x) p1 (EZ G x y n y x - n)).congr fun u v _ _=>?_⟩
     rw [Kq]
     unfold EZ
     rw [eG]
     dsimp only
     have q1:(if u=x/\v=y/\A6 ts x < A6 ts y then n else 0)=if u=x/\v=y then n else 0:=by
      by_cases d:u=x/\v=y
      ·rw [if_pos d,if_pos ⟨d.1,d.2,c⟩]
      ·rw [if_neg d,if_neg fun z=>d ⟨z.1,z.2.1⟩]
     have q2:(if v=x/\u=y/\A6 ts x < A6 ts y then n else 0)=if u=y/\v=x then n else 0:=by
      by_cases d:u=y/\v=x
      ·rw [if_pos d,if_pos ⟨d.2,d.1,c⟩]
      ·rw [if_neg d,if_neg fun z=>d ⟨z.2.1,z.1⟩]
     rw [q1,q2]
     by_cases d:u=y/\v=x
     ·rw [if_pos d,if_pos d]
      omega
     ·rw [if_neg d,if_neg d]
      omega
    ·refine ifF (decide_eq_false (by show ¬ ((A6 ts x:Nat):Int) < ((A6 ts y:Nat):Int);omega)) ?_
     refine ⟨_,rfl,k3,tb3.congr fun u v _ _=>?_⟩
     rw [eG,Kq,if_neg (fun z=>c z.2.2),if_neg (fun z=>c z.2.2)]
     dsimp only
     omega
   ·rintro σ' H3 ⟨v7,rfl,k3,tb3⟩
    rw [Int.toNat_natCast] at tb3
    exact ⟨_,_,rfl,k3,tb3.congr fun u v hu hv=>by rw [PH _ _ _ _ _ _ hu hv]⟩
  ·rintro σ' H2 ⟨v6,v7,rfl,k2,tb2⟩
   rw [Int.toNat_natCast] at tb2
   refine ⟨_,_,_,_,_,rfl,k0.trans k2,tb2.congr fun u v hu hv=>?_⟩
   rw [Pd _ _ _ _ _ hu hv,eF0,et]
   unfold AZ ovF
   rw [FL,FL,<- ets,<- en,Js okf hu hv,Js okf hv hu]
   simp only [decide_eq_true_eq]
   omega
 ·rintro σ' H' ⟨v3,v4,v5,v6,v7,rfl,k1,tb⟩
  rw [Fb,take_of_length_le (Nat.le_refl _)] at tb
  subst_eqs
  exact ⟨_,rfl,q D as H' (k1.same f5 nw) (k1 _ _ f6 f4) tb⟩
theorem IH (T:Tx K mg base ad):AI P w K mg base CX0 2 ad.f_law_needs ad.d_law_needs ["_law_found","_law_first","_law_second","_law_ahead"] P8:=by
 refine T.F_law_needs.ok IF (fun vs H Q E h=>?_) (fun cdv A outer s H vs Q E hr h=>?_)
 ·obtain ⟨m,f,s,ah,rfl,_⟩:=h
  rfl
 obtain ⟨m,f,s,ah,rfl,szm,m1,ft,lo,q⟩:=h
 refine ⟨_,(@Ae _ _ _ _ _ (@Bs _ _ _ _ _ _ _ _ (PW.pt (@Cv _ _ _ _ _ _ _ (@Bw _ _ _ _ (@By _ _ _ (@Ai _ _ _ _ _ _ _ _ _ _ _ _ _ _ _ _ (Cb T) (hr.mono (by decide)) rfl T.m_law_whole T.F_law_whole.kp T.b_law_whole .nil Aw (@Aa _ _ _ _ _ (pv 0) Ac (by rfl)) (by decide) (by rfl) (by rfl)) (by intro _;rfl))) (@Cv _ _ _ _ _ _ _ (@As _ _ _ _ _ _ _ _ EI (pv 0) Ag (Au _)) (@Du _ _ _ _ (@Bw _ _ _ _ (@By _ _ _ (@Ai _ _ _ _ _ _ _ _ _ _ _ _ _ _ _ _ (Gi T) (hr.mono (by decide)) rfl T.m_law_fits T.F_law_fits.kp T.b_law_fits .nil Aw (@Aa _ _ _ _ _ (pv 0) (@Aa _ _ _ _ _ (pv 1) (@Aa _ _ _ _ _ (pv 2) (@Aa _ _ _ _ _ (pv 3) Ac (by rfl)) (by rfl)) (by rfl)) (by rfl)) (by decide) (by rfl) (by rfl)) (by intro _;rfl))))))) (@Ah _ _ _ (@Aq _ _ _ _ Cp)) A2) (@Ah _ _ _ (@Aq _ _ _ _ (@Qb _ _ _ _ _ _ _ (@Ca _ _ _ _ _ _ _ _ CD (pv 0) Ag (Au _)) (@DB _ _ _ _ _ (@Li _ _ _ _ (@Ai _ _ _ _ _ _ _ _ _ _ _ _ _ _ _ _ (Gi T) (hr.mono (by decide)) rfl T.m_law_fits T.F_law_fits.kp T.b_law_fits .nil Aw (@Aa _ _ _ _ _ (@Ak _ _ _ _ _ _ _ _ CF (pv 0) Ag) (@Aa _ _ _ _ _ (pv 1) (@Aa _ _ _ _ _ (pv 2) (@Aa _ _ _ _ _ (pv 3) Ac (by rfl)) (by rfl)) (by rfl)) (by rfl)) (by decide) (by rfl) (by rfl)))))))),?_⟩
 have sz1:Sz 64 m:=szm.mono (by decide)
 have sz2:Sz 64 (m - 1):=(szm.sub (szd 60)).mono (by decide)
 and_intros
 refine ifF (decide_eq_false (by ac_nf)) ?_
 and_intros
 refine ⟨m,f,s,ah,rfl,sz1,?_⟩
 rw [ft]
 and_intros
 by_cases c:m=1
 ·exact ifT (Hv c) q
 ·refine ifF (Lw c) ?_
  and_intros
  refine ⟨m - 1,f,s,ah,rfl,sz2,?_⟩
  rw [lo.resolve_left c]
  and_intros
  exact q
theorem FG (T:Tx K mg base ad):AI P w K mg base CX0 2 ad.f_law_way_right ad.d_law_way_right ["_law_some","_law_links","_law_x","_law_y","_law_worth"] QB:=by
 refine T.F_law_way_right.ok DT (fun vs H Q E h=>?_) (fun cdv A outer s H vs Q E hr h=>?_)
 ·obtain ⟨a,w,as,h,x,y,L,v,ws,rfl,_⟩:=h
  rfl
 obtain ⟨a,w,as,h,x,y,L,v,ws,rfl,ha,tb,h12,hw,iw,q⟩:=h
 refine ⟨_,(@Ae _ _ _ _ _ (@Bs _ _ _ _ _ _ _ _ (PW.pt (@Cv _ _ _ _ _ _ _ (@Bw _ _ _ _ (@By _ _ _ (@Ao _ _ _ _ _ _ _ _ _ C5 (by rfl) T.z_isinstance PyProof.Rows.boot_isinstance (@Aa _ _ _ _ _ (pv 0) (@Aa _ _ _ _ _ (Dm (v:=.ty "list") rfl T.z_list PyProof.Rows.boot_list rfl) Ac (by rfl)) (by rfl)) (by decide) (by decide) (by rfl) (by rfl)) (by intro _;rfl))) (@Cv _ _ _ _ _ _ _ (@As _ _ _ _ _ _ _ _ EI (@Ao _ _ _ _ _ _ _ _ _ Ax (by rfl) T.z_len PySem.boot_len (@Aa _ _ _ _ _ (pv 0) Ac (by rfl)) (by decide) (by decide) (by rfl) (by rfl)) Ag (Au _)) (@Cv _ _ _ _ _ _ _ (@As _ _ _ _ _ _ _ _ Dv (@Am _ _ _ _ _ _ _ Al (pv 0) Ag (fun _ _=>rfl)) (pv 2) (Au _)) (@Du _ _ _ _ (@As _ _ _ _ _ _ _ _ Dv (@Am _ _ _ _ _ _ _ Al (pv 0) (@Jx _ _ _ _ _ _ Lc Ag) (fun _ _=>rfl)) (pv 3) (Au _))))))) (@Ah _ _ _ (@Aq _ _ _ _ Cp)) A2) (@Ae _ _ _ _ _ (Be PassesOwn.never rfl (AJ (pv 0)) (A0 (i:=5) DT.nd rfl (Or.inl rfl)) (@Ah _ _ _ (@Bs _ _ _ _ _ _ _ _ (PW.pt (@Cv _ _ _ _ _ _ _ (@Bw _ _ _ _ (@By _ _ _ (@Ai _ _ _ _ _ _ _ _ _ _ _ _ _ _ _ _ (Cb T) (hr.mono (by decide)) rfl T.m_law_whole T.F_law_whole.kp T.b_law_whole .nil Aw (@Aa _ _ _ _ _ (pv 5) Ac (by rfl)) (by decide) (by rfl) (by rfl)) (by intro _;rfl))) (@Du _ _ _ _ (@Bw _ _ _ _ (J9 Ij EI Ag (pv 5) (@Ao _ _ _ _ _ _ _ _ _ Ax (by rfl) T.z_len PySem.boot_len (@Aa _ _ _ _ _ (pv 1) Ac (by rfl)) (by decide) (by decide) (by rfl) (by rfl))))))) (@Ah _ _ _ (@Aq _ _ _ _ Cp)) A2))) (@Ae _ _ _ _ _ (@Bs _ _ _ _ _ _ _ _ (@As _ _ _ _ _ _ _ _ Dv (M4 rfl (by rfl) T.z_len (by rfl) T.z_set (pv 0)) (@Ao _ _ _ _ _ _ _ _ _ Ax (by rfl) T.z_len PySem.boot_len (@Aa _ _ _ _ _ (pv 0) Ac (by rfl)) (by decide) (by decide) (by rfl) (by rfl)) (Au _)) (@Ah _ _ _ (@Aq _ _ _ _ Cp)) A2) (@Ah _ _ _ (@Aq _ _ _ _ (@Ca _ _ _ _ _ _ _ _ CD (@Ao _ _ _ _ _ _ _ _ _ (Fz rfl) (by rfl) T.z_min PyProof.Rows.boot_min (@Aa _ _ _ _ _ (B7 (fsc:=Ad Bm) (N:=["_law_some","_law_links","_law_x","_law_y","_law_worth","_law_hand"]) (Nc:=["_law_some","_law_links","_law_x","_law_y","_law_worth","_law_hand","_law_k"]) rfl rfl ⟨rfl,by decide +kernel,by decide +kernel,rfl,by decide +kernel,rfl,by decide +kernel,rfl,by decide +kernel⟩ rfl (A1 rfl T.z_range (@Aa _ _ _ _ _ (@Ak _ _ _ _ _ _ _ _ CF (@Ao _ _ _ _ _ _ _ _ _ Ax (by rfl) T.z_len PySem.boot_len (@Aa _ _ _ _ _ (pv 0) Ac (by rfl)) (by decide) (by decide) (by rfl) (by rfl)) Ag) Ac (by rfl))) (fun _ _ _ _=>AK) (fun _ _ _ _=>(@Am _ _ _ _ _ _ _ (Bn K) (@Am _ _ _ _ _ _ _ (Bn K) (pv 1) (@Am _ _ _ _ _ _ _ (Bn K) (pv 0) (pv 6) (fun _ _=>rfl)) (fun _ _=>rfl)) (@Am _ _ _ _ _ _ _ (Bn K) (pv 0) (@Ak _ _ _ _ _ _ _ _ B5 (pv 6) Ag) (fun _ _=>rfl)) (fun _ _=>rfl)))) Ac (by rfl)) (by decide) (by decide) (by rfl) (by rfl)) (pv 4) (Au _))))))),?_⟩
 have wl:ws.length<=12:=by
  have:=Cz (xs:=Bx ws) (ys:=ups h) (List.Pairwise.map _ (fun a b (ne:a≠b) e=>ne (Int.ofNat.inj e)) iw.nd) fun z mz=>by
   obtain ⟨u,mu,rfl⟩:=mem_map.mp mz
   exact mem_map.mpr ⟨u,mem_range.mpr (iw.all u mu),rfl⟩
  rw [Fq,D7] at this
  omega
 have two:=iw.two
 have ln:=Fq ws
 have al:(as.map V.ref).length=h:=by rw [length_map,tb.1]
 have at0:atI ((Bx ws).map V.int) 0=some (.int (x:Int)):=by
  have:=IL (ws:=ws) (k:=0) (by ac_nf)
  rw [show ws.getD 0 0=x from by rw [getD_eq_getElem?_getD,<- List.head?_eq_getElem?,iw.first];rfl] at this
  exact this
 have s1:Av H H:=Av.refl H
 have hw1:=hw
 and_intros
 refine ⟨_,_,_,_,rfl,Dw.lst hw,DC,?_⟩
 and_intros
 refine ifF (decide_eq_false (by rw [length_map,ln];omega)) ?_
 and_intros
 refine ⟨w,_,_,_,rfl,rfl,SqL.of hw1,at0,?_⟩
 and_intros
 refine ifF (FI rfl) ?_
 and_intros
 refine ⟨w,_,_,_,rfl,rfl,SqL.of hw1,MR iw.last,?_⟩
 and_intros
 refine ifF (FI rfl) ?_
 and_intros
 refine ⟨⟨_,SqL.of hw⟩,Dt (xs:=(Bx ws).map V.int) (fun i σ' J=>∃v5:Option V,σ'=[some (.ref w),some (.ref a),some (.int (x:Int)),some (.int (y:Int)),some (.int v),v5]/\H=J) ⟨none,rfl,rfl⟩ (fun i σ' J _ hq_=>by obtain ⟨_,_,e⟩:=hq_;rw [<- e];exact SqL.of hw) ?_ ?_⟩
 ·rintro j u σ' J hx ⟨v5,rfl,rfl⟩
  obtain ⟨z,hz,rfl⟩:=int_at hx
  obtain ⟨n,mn,rfl⟩:=mem_map.mp (mem_of_getElem? hz)
  have nh:=iw.all n mn
  and_intros
  refine ifF (by rw [al,decide_eq_true (show (n:Int) < (h:Int) by ac_nf)];rfl) ?_
  exact ⟨_,rfl,rfl⟩
 rintro σ' J ⟨v5,rfl,rfl⟩
 and_intros
 refine ⟨w,Bx ws,rfl,SqL.of hw1,by ac_nf,fun ms m1 m2=>?_⟩
 have el:ms.length=(Bx ws).length:=Nat.le_antisymm (Cz m1 fun z mz=>(m2 z).mp mz) (Cz (List.Pairwise.map _ (fun a b (ne:a≠b) e=>ne (Int.ofNat.inj e)) iw.nd) fun z mz=>(m2 z).mpr mz)
 and_intros
 refine ifF (FI (by rw [length_map,el])) ?_
 and_intros
 rw [length_map,ln]
 refine ⟨by ac_nf,by ac_nf,?_⟩
 rw [show ((ws.length:Int) - 1).toNat=ws.length - 1 from by ac_nf]
 refine Bv (AH (by ac_nf)) (fun D2 i ys J=>ys=((List.range i).map fun k=>L (ws.getD k 0) (ws.getD (k+1) 0)).map V.int/\J=upd H D2 (.lst ys)) (fun D2 hD2=>⟨rfl,rfl⟩) (fun D2 i ys J hq_=>by obtain ⟨f1,f2⟩:=hq_;exact ⟨by rw [f2];exact Ab,by rw [f1,length_map,length_map,length_range];exact Nat.le_refl _⟩) ?_ ?_
 ·rintro D2 i ys J K1 K2 hD2 hi ⟨f1,rfl⟩ k1 k2
  have sD:=s1.trans (Af hD2 (.lst ys))
  have wi:∀k,k < ws.length->ws.getD k 0 < h:=fun k hk=>by
   rw [getD_eq_getElem?_getD,List.getElem?_eq_getElem hk]
   exact iw.all _ (getElem_mem hk)
  obtain ⟨ar,_,_,r3,r4⟩:=(tb.same sD).row (wi i (by ac_nf))
  have ai:atI ((Bx ws).map V.int) (0+(i:Int))=some (.int ((ws.getD i 0:Nat):Int)):=by rw [Int.zero_add];exact IL (by ac_nf)
  have ai1:atI ((Bx ws).map V.int) (0+(i:Int)+1)=some (.int ((ws.getD (i+1) 0:Nat):Int)):=by rw [Int.zero_add];exact IL (k:=i+1) (by ac_nf)
  refine yes (ifT rfl ?_)
  refine ⟨_,rfl,_,rfl,_,rfl,w,_,_,_,rfl,rfl,SqL.of (sD _ _ hw),ai,?_⟩
  refine ⟨a,_,_,_,rfl,rfl,SqL.of (sD _ _ ha),r3,?_⟩
  refine ⟨_,rfl,_,rfl,_,_,rfl,rfl,w,_,_,_,rfl,rfl,SqL.of (sD _ _ hw),ai1,?_⟩
  refine ⟨ar,_,_,_,rfl,rfl,SqL.of r4,AQ (L (ws.getD i 0)) (wi (i+1) (by ac_nf)),?_⟩
  refine k1 _ _ Ab ⟨?_,by rw [B3]⟩
  rw [f1,range_succ,map_append,map_append]
  rfl
 rintro D2 ys H2 hD2 ⟨rfl,rfl⟩
 have s2:=s1.trans (Af hD2 (.lst ((lk L ws).map V.int)))
 refine ⟨D2,lk L ws,rfl,SqL.of Ab,?_,fun M Mm Ma=>?_⟩
 ·unfold lk
  rw [length_map,length_range]
  omega
 and_intros
 show Q (.bl (decide (V.int M=V.int v))) _
 rw [Hv (Int.le_antisymm (Ma v iw.least.1) (iw.least.2 M Mm))]
 exact q _ s2
theorem FC (T:Tx K mg base ad):AI P w K mg base CX0 2 ad.f_law_cut_right ad.d_law_cut_right ["_law_cut","_law_links","_law_x","_law_y","_law_worth"] QA:=by
 refine T.F_law_cut_right.ok Bt (fun vs H Q E h=>?_) (fun cdv A outer s H vs Q E hr h=>?_)
 ·obtain ⟨a,as,h,x,y,L,v,g,rfl,_⟩:=h
  rfl
 obtain ⟨a,as,h,x,y,L,v,g,rfl,ha,tb,h1,h12,hx,hy,gx,gy,gl,⟨i0,j0,hi0,hj0,gi0,gj0,e0⟩,q⟩:=h
 refine ⟨_,(@Ae _ _ _ _ _ (@At _ _ (5) _ _ _ _ Bt.nd rfl (Or.inl rfl) (@Ao _ _ _ _ _ _ _ _ _ Ax (by rfl) T.z_len PySem.boot_len (@Aa _ _ _ _ _ (pv 1) Ac (by rfl)) (by decide) (by decide) (by rfl) (by rfl)) (by rfl) (by first | exact .inl rfl | exact .inr rfl | assumption)) (@Ae _ _ _ _ _ (@Bs _ _ _ _ _ _ _ _ (PW.pt (@Cv _ _ _ _ _ _ _ (@Bw _ _ _ _ (@By _ _ _ (@Ai _ _ _ _ _ _ _ _ _ _ _ _ _ _ _ _ (Cb T) (hr.mono (by decide)) rfl T.m_law_whole T.F_law_whole.kp T.b_law_whole .nil Aw (@Aa _ _ _ _ _ (pv 0) Ac (by rfl)) (by decide) (by rfl) (by rfl)) (by intro _;rfl))) (@Cv _ _ _ _ _ _ _ (@Bw _ _ _ _ (J9 Ij EI Ag (pv 0) (@Ak _ _ _ _ _ _ _ _ Dd Ag (pv 5)))) (@Cv _ _ _ _ _ _ _ (@As _ _ _ _ _ _ _ _ CD (@Ak _ _ _ _ _ _ _ _ Eu (@Ak _ _ _ _ _ _ _ _ FD (pv 0) (pv 3)) Ag) Ag (Au _)) (@Du _ _ _ _ (@As _ _ _ _ _ _ _ _ CD (@Ak _ _ _ _ _ _ _ _ Eu (@Ak _ _ _ _ _ _ _ _ FD (pv 0) (pv 2)) Ag) Ag (Au _))))))) (@Ah _ _ _ (@Aq _ _ _ _ Cp)) A2) (@Ae _ _ _ _ _ (@At _ _ (6) _ _ _ _ Bt.nd rfl (Or.inl rfl) (@Am _ _ _ _ _ _ _ Al (@Am _ _ _ _ _ _ _ Al (pv 1) (pv 3) (fun _ _=>rfl)) (pv 2) (fun _ _=>rfl)) (by rfl) (by first | exact .inl rfl | exact .inr rfl | assumption)) (@Ae _ _ _ _ _ (Be PassesOwn.never rfl (A1 rfl T.z_range (@Aa _ _ _ _ _ (pv 5) Ac (by rfl))) (A0 (i:=7) Bt.nd rfl (Or.inl rfl)) (@Ah _ _ _ (Be PassesOwn.never rfl (A1 rfl T.z_range (@Aa _ _ _ _ _ (pv 5) Ac (by rfl))) (A0 (i:=8) Bt.nd rfl (Or.inl rfl)) (@Ah _ _ _ (@Bs _ _ _ _ _ _ _ _ (PW.pt (@DE _ _ _ _ _ _ _ (@As _ _ _ _ _ _ _ _ CD (@Ak _ _ _ _ _ _ _ _ Eu (@Ak _ _ _ _ _ _ _ _ FD (pv 0) (pv 7)) Ag) Ag (Au _)) (@Dj _ _ _ _ (@As _ _ _ _ _ _ _ _ CD (@Ak _ _ _ _ _ _ _ _ Eu (@Ak _ _ _ _ _ _ _ _ FD (pv 0) (pv 8)) Ag) Ag (Au _))))) (@Ah _ _ _ (@At _ _ (6) _ _ _ _ Bt.nd rfl (Or.inl rfl) (@Ao _ _ _ _ _ _ _ _ _ (DM rfl) (by rfl) T.z_max PyProof.Rows.boot_max (@Aa _ _ _ _ _ (pv 6) (@Aa _ _ _ _ _ (@Am _ _ _ _ _ _ _ Al (@Am _ _ _ _ _ _ _ Al (pv 1) (pv 7) (fun _ _=>rfl)) (pv 8) (fun _ _=>rfl)) Ac (by rfl)) (by rfl)) (by decide) (by decide) (by rfl) (by rfl)) (by rfl) (by first | exact .inl rfl | exact .inr rfl | assumption))) A2))))) (@Ah _ _ _ (@Aq _ _ _ _ (@Ca _ _ _ _ _ _ _ _ CD (pv 6) (pv 4) (Au _)))))))),?_⟩
 have al:(as.map V.ref).length=h:=by rw [length_map,tb.1]
 have m0:=Ey h g
 have m1:=G4 h g
 have bt:∀i,i < h->bit (A4 h g) i=g i:=fun i hi=>by rw [Cf,decide_eq_true hi,Bool.true_and]
 and_intros
 rw [al]
 and_intros
 refine ifT (decide_eq_true m0) ?_
 and_intros
 refine ⟨CL (by ac_nf),?_⟩
 and_intros
 rw [Int.toNat_natCast,Int.one_mul,decide_eq_true m1]
 and_intros
 refine ⟨by ac_nf,?_⟩
 and_intros
 refine ifF ((Hg (A4 h g) (y:Int)).trans (by rw [Int.toNat_natCast,bt y hy,gy];rfl)) ?_
 and_intros
 refine ⟨by ac_nf,?_⟩
 and_intros
 refine ifF ((DR (A4 h g) (x:Int)).trans (by rw [Int.toNat_natCast,bt x hx,gx])) ?_
 obtain ⟨ay,p1,_,p3,p4⟩:=tb.row hy
 and_intros
 refine ⟨a,_,_,_,rfl,rfl,SqL.of ha,p3,?_⟩
 and_intros
 refine ⟨ay,_,_,_,rfl,rfl,SqL.of p4,AQ (L y) hx,?_⟩
 and_intros
 refine ⟨L6z,U6z (by ac_nf),AN (fun i σ' J=>∃(M:Int) (v7 v8:Option V),σ'=[some (.int (A4 h g)),some (.ref a),some (.int (x:Int)),some (.int (y:Int)),some (.int v),some (.int (h:Int)),some (.int M),v7,v8]/\H=J/\M<=v/\∀i' j,i' < i->j < h->g i'=true->g j=false->L i' j<=M) ⟨L y x,none,none,rfl,rfl,gl y x hy hx gy gx,fun i' _ z=>absurd z (Nat.not_lt_zero i')⟩ ?_ ?_⟩
 ·rintro i σ' J hi ⟨M,v7,v8,rfl,rfl,Mv,al'⟩
  have hi':i < h:=by ac_nf
  have ei:(0:Int)+(i:Int)=(i:Int):=Int.zero_add _
  and_intros
  refine ⟨L6z,U6z (by ac_nf),AN (fun k σ' J=>∃(M:Int) (v8:Option V),σ'=[some (.int (A4 h g)),some (.ref a),some (.int (x:Int)),some (.int (y:Int)),some (.int v),some (.int (h:Int)),some (.int M),some (.int (0+(i:Int))),v8]/\H=J/\M<=v/\(∀i' j,i' < i->j < h->g i'=true->g j=false->L i' j<=M)/\∀j,j < k->g i=true->g j=false->L i j<=M) ⟨M,_,rfl,rfl,Mv,al',fun j z=>absurd z (Nat.not_lt_zero j)⟩ ?_ ?_⟩
  ·rintro k σ' J hk ⟨M,v8,rfl,rfl,Mv,al',row⟩
   have hk':k < h:=by ac_nf
   have ek:(0:Int)+(k:Int)=(k:Int):=Int.zero_add _
   have same:¬ (g i=true/\g k=false)->∀j,j < k+1->g i=true->g j=false->L i j<=M:=fun no j hj gi gj=>by
    rcases Nat.lt_or_eq_of_le (Nat.le_of_lt_succ hj) with z | z
    ·exact row j z gi gj
    ·exact absurd ⟨gi,by rw [<- z];exact gj⟩ no
   and_intros
   refine ⟨by ac_nf,?_⟩
   and_intros
   by_cases c1:g i=true
   ·refine ifT ((DR (A4 h g) (0+(i:Int))).trans (by rw [ei,Int.toNat_natCast,bt i hi',c1])) ?_
    and_intros
    refine ⟨by ac_nf,?_⟩
    and_intros
    by_cases c2:g k=false
    ·refine ifT ((Hg (A4 h g) (0+(k:Int))).trans (by rw [ek,Int.toNat_natCast,bt k hk',c2];rfl)) ?_
     obtain ⟨ai,r1,_,r3,r4⟩:=tb.row hi'
     and_intros
     refine ⟨a,_,_,_,rfl,rfl,SqL.of ha,(by rw [ei];exact r3),?_⟩
     and_intros
     refine ⟨ai,_,_,_,rfl,rfl,SqL.of r4,(by rw [ek];exact AQ (L i) hk'),?_⟩
     refine ⟨_,_,rfl,?_⟩
     have li:=gl i k hi' hk' c1 c2
     obtain ⟨M',eM⟩:∃M',M'=if L i k > M then L i k else M:=⟨_,rfl⟩
     have hM:M<=M'/\L i k<=M'/\M'<=v:=by rw [eM];split <;> omega
     rw [<- eM]
     refine ⟨M',_,rfl,rfl,hM.2.2,fun i' j a b c d=>Int.le_trans (al' i' j a b c d) hM.1,fun j hj gi gj=>?_⟩
     rcases Nat.lt_or_eq_of_le (Nat.le_of_lt_succ hj) with z | z
     ·exact Int.le_trans (row j z gi gj) hM.1
     ·rw [z];exact hM.2.1
    ·refine ifF ((Hg (A4 h g) (0+(k:Int))).trans (by rw [ek,Int.toNat_natCast,bt k hk',eq_true_of_ne_false c2];rfl)) ?_
     exact ⟨M,_,rfl,rfl,Mv,al',same fun z=>c2 z.2⟩
   ·refine ifF ((DR (A4 h g) (0+(i:Int))).trans (by rw [ei,Int.toNat_natCast,bt i hi',Bool.eq_false_iff.mpr c1])) ?_
    exact ⟨M,_,rfl,rfl,Mv,al',same fun z=>c1 z.1⟩
  ·rintro σ' J ⟨M,v8,rfl,rfl,Mv,al',row⟩
   rw [Int.toNat_natCast] at row
   refine ⟨M,_,_,rfl,rfl,Mv,fun i' j a b c d=>?_⟩
   rcases Nat.lt_or_eq_of_le (Nat.le_of_lt_succ a) with z | z
   ·exact al' i' j z b c d
   ·rw [z] at c ⊢;exact row j b c d
 ·rintro σ' J ⟨M,v7,v8,rfl,rfl,Mv,al'⟩
  rw [Int.toNat_natCast] at al'
  have:=al' i0 j0 hi0 hj0 gi0 gj0
  and_intros
  show Q (.bl (decide (V.int M=V.int v))) _
  rw [Hv (by ac_nf)]
  exact q
theorem EM (T:Tx K mg base ad):AI P w K mg base CX0 2 ad.f_Margin_possible ad.d_Margin_possible ["self","sheet"] (L9 ad.c_PairsMargin ad.c_Pairs):=by
 refine T.F_Margin_possible.ok EU (fun vs H Q E h=>?_) (fun cdv A outer s H vs Q E hr h=>?_)
 ·obtain ⟨g,a,l,h,s,ns,ls,rfl,_⟩:=h
  rfl
 obtain ⟨g,a,l,h,s,ns,ls,rfl,im,md,hl,gl,l60,q⟩:=h
 refine ⟨_,(@Ah _ _ _ (@Aq _ _ _ _ (@DW _ _ _ _ _ _ _ (@Ca _ _ _ _ _ _ _ _ Ef (@Ai _ _ _ _ _ _ _ _ _ _ _ _ _ _ _ _ (Hn T) (hr.mono (by decide)) rfl T.m_ballots_in T.F_ballots_in.kp T.b_ballots_in .nil Aw (@Aa _ _ _ _ _ (pv 1) Ac (by rfl)) (by decide) (by rfl) (by rfl)) Ag (Au _)) (@DB _ _ _ _ _ (@Ca _ _ _ _ _ _ _ _ Ef (Bo (Bo (pv 0) rfl) rfl) (Bo (Bo (pv 0) rfl) rfl) (Au _)))))),?_⟩
 and_intros
 refine ⟨l,h,ls,rfl,hl,gl,l60,fun H1 s1=>?_⟩
 obtain ⟨dm,hg⟩:=id (im.same s1)
 obtain ⟨dx,la,k1,k2⟩:=id (md.same s1).is
 and_intros
 have q:=q H1 s1
 by_cases c:0 < (ls.map fun q=>q.2.2.2).sum
 ·rw [decide_eq_true c,Bool.true_and] at q
  refine ifT (decide_eq_true c) ?_
  and_intros
  refine ⟨g,_,dm,_,_,rfl,hg,T.cl_PairsMargin,T.na_PairsMargin_way,rfl,?_⟩
  refine ⟨a,_,dx,_,_,rfl,k1,T.cl_Pairs,T.na_Pairs_hands,rfl,?_⟩
  and_intros
  refine ⟨g,_,dm,_,_,rfl,hg,T.cl_PairsMargin,T.na_PairsMargin_way,rfl,?_⟩
  refine ⟨a,_,dx,_,_,rfl,k1,T.cl_Pairs,T.na_Pairs_seats,rfl,?_⟩
  and_intros
  show Q (.bl (decide ((s:Int) < (h:Int)))) H1
  rw [show decide ((s:Int) < (h:Int))=decide (s < h) from by congr 1;apply propext;omega]
  exact q
 ·rw [decide_eq_false c,Bool.false_and] at q
  exact ifF (decide_eq_false c) q
theorem DK (T:Tx K mg base ad):AI P w K mg base CX0 2 ad.f_PairsMargin_slip_for ad.d_PairsMargin_slip_for ["self","x","y"] (M0 ad.c_PairsMargin ad.c_Pairs):=by
 refine T.F_PairsMargin_slip_for.ok C1 (fun vs H Q E h=>?_) (fun cdv A outer s H vs Q E hr h=>?_)
 ·obtain ⟨g,a,h,s,x,y,ns,rfl,_⟩:=h
  rfl
 obtain ⟨g,a,h,s,x,y,ns,rfl,⟨dm,hg⟩,is,h12,hx,hy,ne,q⟩:=h
 refine ⟨_,(@Ae _ _ _ _ _ (@At _ _ (3) _ _ _ _ C1.nd rfl (Or.inl rfl) (@Ai _ _ _ _ _ _ _ _ _ _ _ _ _ _ _ _ (GX T) (hr.mono (by decide)) rfl T.m_without T.F_without.kp T.b_without .nil Aw (@Aa _ _ _ _ _ (@Ai _ _ _ _ _ _ _ _ _ _ _ _ _ _ _ _ (GX T) (hr.mono (by decide)) rfl T.m_without T.F_without.kp T.b_without .nil Aw (@Aa _ _ _ _ _ (@Ai _ _ _ _ _ _ _ _ _ _ _ _ _ _ _ _ (HB T) (hr.mono (by decide)) rfl T.m_all_of T.F_all_of.kp T.b_all_of .nil Aw (@Aa _ _ _ _ _ (Bo (Bo (pv 0) rfl) rfl) Ac (by rfl)) (by decide) (by rfl) (by rfl)) (@Aa _ _ _ _ _ (pv 1) Ac (by rfl)) (by rfl)) (by decide) (by rfl) (by rfl)) (@Aa _ _ _ _ _ (pv 2) Ac (by rfl)) (by rfl)) (by decide) (by rfl) (by rfl)) (by rfl) (by first | exact .inl rfl | exact .inr rfl | assumption)) (@Ae _ _ _ _ _ (@Bs _ _ _ _ _ _ _ _ (@As _ _ _ _ _ _ _ _ CD (pv 3) Ag (Au _)) (@Ah _ _ _ (@Aq _ _ _ _ (@BY _ _ _ _ _ (@Aa _ _ _ _ _ (@Ai _ _ _ _ _ _ _ _ _ _ _ _ _ _ _ _ (D3 T) (hr.mono (by decide)) rfl T.m_with_one T.F_with_one.kp T.b_with_one .nil Aw (@Aa _ _ _ _ _ Ag (@Aa _ _ _ _ _ (pv 2) Ac (by rfl)) (by rfl)) (by decide) (by rfl) (by rfl)) Ac (by rfl))))) A2) (@Ah _ _ _ (@Aq _ _ _ _ (@BY _ _ _ _ _ (@Aa _ _ _ _ _ (@Ai _ _ _ _ _ _ _ _ _ _ _ _ _ _ _ _ (D3 T) (hr.mono (by decide)) rfl T.m_with_one T.F_with_one.kp T.b_with_one .nil Aw (@Aa _ _ _ _ _ Ag (@Aa _ _ _ _ _ (pv 2) Ac (by rfl)) (by rfl)) (by decide) (by rfl) (by rfl)) (@Aa _ _ _ _ _ (pv 3) Ac (by rfl)) (by rfl))))))),?_⟩
 obtain ⟨dx,la,k1,k2⟩:=id is
 and_intros
 refine ⟨g,_,dm,_,_,rfl,hg,T.cl_PairsMargin,T.na_PairsMargin_way,rfl,?_⟩
 refine ⟨a,_,dx,_,_,rfl,k1,T.cl_Pairs,T.na_Pairs_hands,rfl,?_⟩
 refine ⟨(h:Int),rfl,by ac_nf,by ac_nf,?_⟩
 and_intros
 refine ⟨_,(x:Int),rfl,by ac_nf,by ac_nf,?_⟩
 and_intros
 refine ⟨_,(y:Int),rfl,by ac_nf,by ac_nf,?_⟩
 rw [Int.toNat_natCast,Int.toNat_natCast,Int.toNat_natCast,Mu ⟨h,by ac_nf⟩ ⟨x,by ac_nf⟩ ⟨y,by ac_nf⟩ hx hy (fun z=>ne (Fin.mk.inj z))]
 dsimp only
 generalize (2:Int) ^ h - 1 - 2 ^ x - 2 ^ y=o at q ⊢
 have e1:=Qk ⟨y,by ac_nf⟩
 dsimp only at e1
 and_intros
 by_cases c:o=0
 ·rw [if_pos c] at q
  refine ifT (Hv c) ?_
  and_intros
  refine ⟨0,(y:Int),rfl,by ac_nf,by ac_nf,?_⟩
  rw [Int.toNat_natCast,e1]
  and_intros
  refine ⟨(by show 1<=sizeLine;decide),fun t ht=>?_⟩
  exact q t _ (Af ht _) Ab
 ·rw [if_neg c] at q
  refine ifF (Lw c) ?_
  and_intros
  refine ⟨0,(y:Int),rfl,by ac_nf,by ac_nf,?_⟩
  rw [Int.toNat_natCast,e1]
  and_intros
  refine ⟨(by show 2<=sizeLine;decide),fun t ht=>?_⟩
  exact q t _ (Af ht _) Ab
theorem Ed (T:Tx K mg base ad):AI P w K mg base CX0 2 ad.f_PairsMargin_need_of ad.d_PairsMargin_need_of ["self","x","y","strong","back"] (Q0 ad.c_PairsMargin ad.c_Pairs):=by
 refine T.F_PairsMargin_need_of.ok DX (fun vs H Q E h=>?_) (fun cdv A outer s H vs Q E hr h=>?_)
 ·obtain ⟨g,a,h,s,ns,x,y,u,v,rfl,_⟩:=h
  rfl
 obtain ⟨g,a,h,s,ns,x,y,u,v,rfl,⟨dm,hg⟩,is,mx,my,q⟩:=h
 refine ⟨_,(@Ae _ _ _ _ _ (@Bs _ _ _ _ _ _ _ _ (@By _ _ _ (C8 (Bo (pv 0) rfl) T.cl_Pairs T.me_Pairs_ahead (IT T) (hr.mono (by decide)) T.b_Way_ahead .nil Aw (@Aa _ _ _ _ _ (pv 2) (@Aa _ _ _ _ _ (pv 1) Ac (by rfl)) (by rfl))) (by intro _;rfl)) (@Ah _ _ _ (@Aq _ _ _ _ (@Ao _ _ _ _ _ _ _ _ _ (DM rfl) (by rfl) T.z_max PyProof.Rows.boot_max (@Aa _ _ _ _ _ Ag (@Aa _ _ _ _ _ (@Ai _ _ _ _ _ _ _ _ _ _ _ _ _ _ _ _ (Rt T) (hr.mono (by decide)) rfl T.m_up T.F_up.kp T.b_up .nil Aw (@Aa _ _ _ _ _ (@Ak _ _ _ _ _ _ _ _ CF (pv 3) (pv 4)) (@Aa _ _ _ _ _ Ag Ac (by rfl)) (by rfl)) (by decide) (by rfl) (by rfl)) Ac (by rfl)) (by rfl)) (by decide) (by decide) (by rfl) (by rfl)))) A2) (@Ah _ _ _ (@Aq _ _ _ _ (@Ao _ _ _ _ _ _ _ _ _ (DM rfl) (by rfl) T.z_max PyProof.Rows.boot_max (@Aa _ _ _ _ _ Ag (@Aa _ _ _ _ _ (@Ak _ _ _ _ _ _ _ _ B5 (@Ai _ _ _ _ _ _ _ _ _ _ _ _ _ _ _ _ (Pp T) (hr.mono (by decide)) rfl T.m_down T.F_down.kp T.b_down .nil Aw (@Aa _ _ _ _ _ (@Ak _ _ _ _ _ _ _ _ CF (pv 3) (pv 4)) (@Aa _ _ _ _ _ Ag Ac (by rfl)) (by rfl)) (by decide) (by rfl) (by rfl)) Ag) Ac (by rfl)) (by rfl)) (by decide) (by decide) (by rfl) (by rfl))))),?_⟩
 obtain ⟨dx,la,k1,k2⟩:=id is
 and_intros
 refine ⟨g,_,dm,_,_,rfl,hg,T.cl_PairsMargin,T.na_PairsMargin_way,rfl,?_⟩
 refine ⟨a,dx,_,rfl,k1,rfl,?_⟩
 and_intros
 refine ⟨a,h,s,ns,y,x,rfl,is,my,mx,?_⟩
 unfold N1 at q
 by_cases c:ns.idxOf y < ns.idxOf x
 ·rw [if_pos c] at q
  refine ⟨_,rfl,ifT (decide_eq_true c) ?_⟩
  and_intros
  refine ⟨_,_,rfl,by decide,szd 9000,?_⟩
  refine ⟨_,_,rfl,?_⟩
  have e:(if -((-(u - v)).fdiv 4) > 1 then -((-(u - v)).fdiv 4) else 1)=max 1 (-((-(u - v)).fdiv 4)):=by split <;> omega
  rw [e]
  exact q
 ·rw [if_neg c] at q
  refine ⟨_,rfl,ifF (decide_eq_false c) ?_⟩
  and_intros
  refine ⟨_,_,rfl,by decide,szd 9000,?_⟩
  and_intros
  refine ⟨_,_,rfl,?_⟩
  have e:(if (u - v).fdiv 4+1 > 1 then (u - v).fdiv 4+1 else 1)=max 1 ((u - v).fdiv 4+1):=by split <;> omega
  rw [e]
  exact q
theorem EX (T:Tx K mg base ad):AI P w K mg base CX0 2 ad.f_Pairs_picks_by ad.d_Pairs_picks_by ["self","strengths"] (Nm ad.c_Pairs):=by
 refine T.F_Pairs_picks_by.ok BP (fun vs H Q E h=>?_) (fun cdv A outer s H vs Q E hr h=>?_)
 ·obtain ⟨a,r,rs,h,s,ns,L,F,rfl,_⟩:=h
  rfl
 obtain ⟨a,r,rs,h,s,ns,L,F,rfl,md,hr0,tb,st,q⟩:=h
 refine ⟨_,(@Ae _ _ _ _ _ (@At _ _ (2) _ _ _ _ BP.nd rfl (Or.inl rfl) (@BM _ _ _ _ Ac) (by rfl) (by first | exact .inl rfl | exact .inr rfl | assumption)) (@Ae _ _ _ _ _ (@At _ _ (3) _ _ _ _ BP.nd rfl (Or.inr rfl) (@BK _ _ _ _ _ _ _ _ _ BD (by rfl) T.z_list PyProof.Rows.boot_list (@Aa _ _ _ _ _ (Bo (pv 0) rfl) Ac (by rfl)) (by decide) (by decide) (by rfl) (by rfl)) (by rfl) (by first | exact .inl rfl | exact .inr rfl | assumption)) (@Ae _ _ _ _ _ (GT PassesOwn.never (PW.pt (@DE _ _ _ _ _ _ _ (@As _ _ _ _ _ _ _ _ (FQ (K:=K) hr.units) (pv 3) (@BM _ _ _ _ Ac) (Au _)) (@Dj _ _ _ _ (@As _ _ _ _ _ _ _ _ EI (@Ao _ _ _ _ _ _ _ _ _ Ax (by rfl) T.z_len PySem.boot_len (@Aa _ _ _ _ _ (pv 2) Ac (by rfl)) (by decide) (by decide) (by rfl) (by rfl)) (Bo (pv 0) rfl) (Au _))))) (@Ae _ _ _ _ _ (@At _ _ (4) _ _ _ _ BP.nd rfl (Or.inl rfl) (@Am _ _ _ _ _ _ _ Al (B7 (fsc:=Ad AX) (N:=["self","strengths","picks","left","first"]) (Nc:=["self","strengths","picks","left","first","hand"]) rfl rfl ⟨rfl,by decide +kernel,by decide +kernel,rfl,by decide +kernel,rfl,by decide +kernel,rfl,by decide +kernel⟩ rfl (AJ (pv 3)) (fun _ _ _ _=>(ED (@Bw _ _ _ _ (@By _ _ _ (@Ai _ _ _ _ _ _ _ _ _ _ _ _ _ _ _ _ (ID T) (hr.mono (by decide)) rfl T.m_is_beaten T.F_is_beaten.kp T.b_is_beaten .nil Aw (@Aa _ _ _ _ _ (pv 1) (@Aa _ _ _ _ _ (pv 5) (@Aa _ _ _ _ _ (pv 3) Ac (by rfl)) (by rfl)) (by rfl)) (by decide) (by rfl) (by rfl)) (by intro _;rfl))))) (fun _ _ _ _=>(pv 5))) Ag (fun _ _=>rfl)) (by rfl) (by first | exact .inl rfl | exact .inr rfl | assumption)) (@Ae _ _ _ _ _ (@CB _ _ _ _ (CW PySem.F.plainAttrs_list PySem.F.slot_list_append PySem.F.type_list_append Cw (pv 2) (@Aa _ _ _ _ _ (pv 4) Ac (by rfl))) (by rfl)) (@Ah _ _ _ (@CB _ _ _ _ (CW PySem.F.plainAttrs_list PySem.F.slot_list_remove PySem.F.type_list_remove Iq (pv 3) (@Aa _ _ _ _ _ (pv 4) Ac (by rfl))) (by rfl)))))) (@Ah _ _ _ (@Aq _ _ _ _ (pv 2)))))),?_⟩
 obtain ⟨dx,la,k1,k2⟩:=id md.is
 have h12:=md.h12
 have s60:=md.s60
 have nl:ns.length=h:=by rw [md.pm.length_eq,D7]
 refine ⟨(by show 0<=sizeLine;decide),fun p hp=>?_⟩
 have s1:=Af hp (.lst [])
 have e1:(upd H p (.lst [])) p=some (.lst (([]:List Int).map V.int)):=Ab
 generalize upd H p (.lst [])=H1 at s1 e1 ⊢
 refine ⟨_,rfl,a,_,dx,_,_,rfl,s1 _ _ k1,T.cl_Pairs,T.na_Pairs_lots,rfl,?_⟩
 refine ⟨la,_,rfl,.inl (SqL.of (s1 _ _ k2)),fun l hl=>?_⟩
 have lp:l≠p:=fun z=>by rw [z,e1] at hl;cases hl
 have hlH:=none_of s1 hl
 have s2:=s1.trans (Af hl (.lst (ns.map V.int)))
 have p2:=Af hl (.lst (ns.map V.int)) _ _ e1
 have l2:(upd H1 l (.lst (ns.map V.int))) l=some (.lst (ns.map V.int)):=Ab
 generalize upd H1 l (.lst (ns.map V.int))=H2 at s2 p2 l2 ⊢
 refine ⟨fun m σ' H'=>∃(v4:Option V) (left got:List Int),σ'=[some (.ref a),some (.ref r),some (.ref p),some (.ref l),v4]/\Av H H'/\H' p=some (.lst (got.map V.int))/\H' l=some (.lst (left.map V.int))/\(∀z∈left,∃i:Nat,i < h/\z=(i:Int))/\got.length<=s/\got++Ay F (s - got.length) left=Ay F s ns/\left.length=m/\m<=12,⟨_,none,ns,[],rfl,s2,p2,l2,(fun z mz=>QS (md.pm.mem_iff.mp mz)),Nat.zero_le _,rfl,rfl,by ac_nf⟩,?_⟩
 rintro m σ' H' ⟨v4,left,got,rfl,s3,p3,l3,sub,gs,pk,lm,m12⟩
 refine ⟨_,rfl,(by show 0<=sizeLine;decide),fun z3 hz3=>?_⟩
 have sz:=Af hz3 (.lst [])
 have ez:(upd H' z3 (.lst [])) z3=some (.lst (([]:List Int).map V.int)):=Ab
 generalize upd H' z3 (.lst [])=H4 at sz ez ⊢
 have p4:=sz _ _ p3
 have l4:=sz _ _ l3
 have s4:=s3.trans sz
 refine ⟨.list (left.map .int),.list (([]:List Int).map .int),.lst (SqL.of l4) (.ints _),.lst (SqL.of ez) (.ints []),(B6 _).2,(B6 _).2,?_⟩
 rw [show PyData.eqv (.list (left.map .int)) (.list (([]:List Int).map .int))=decide (left=[]) from DL _ _]
 refine ⟨_,rfl,?_⟩
 have fin:Ay F (s - got.length) left=[]->Q (.ref p) H4:=fun e=>by
  rw [e,append_nil] at pk
  exact q p H4 hp s4 (by rw [<- pk];exact p4)
 by_cases cl:left=[]
 ·rw [decide_eq_true cl]
  refine ifF rfl ?_
  and_intros
  exact fin (by rw [cl];exact D6 F _)
 ·rw [decide_eq_false cl]
  refine ifT rfl ?_
  and_intros
  refine ⟨a,_,dx,_,_,rfl,s4 _ _ k1,T.cl_Pairs,T.na_Pairs_seats,rfl,?_⟩
  and_intros
  by_cases cs:got.length < s
  ·refine ifT (decide_eq_true (by rw [length_map];omega)) ?_
   have pl:0 < left.length:=length_pos_iff.mpr cl
   refine ⟨fun σ' H'=>∃(v4:Option V) (left got:List Int),σ'=[some (.ref a),some (.ref r),some (.ref p),some (.ref l),v4]/\Av H H'/\H' p=some (.lst (got.map V.int))/\H' l=some (.lst (left.map V.int))/\(∀z∈left,∃i:Nat,i < h/\z=(i:Int))/\got.length<=s/\got++Ay F (s - got.length) left=Ay F s ns/\left.length=m - 1/\m - 1<=12,fun σ' H' e=>⟨m - 1,by ac_nf,e⟩,?_⟩
   and_intros
   refine ⟨⟨_,SqL.of l4⟩,?_⟩
   refine AS (xs:=left.map V.int) (by rw [length_map];exact AH (by ac_nf)) (fun D i ys J=>ys=((left.take i).filter fun z=>!Dr F z left).map V.int/\J D=some (.lst ys)/\Av H4 J) (fun D hD=>⟨rfl,Ab,Af hD _⟩) (fun D i ys J hq_=>by obtain ⟨f1,f2,_⟩:=hq_;exact ⟨f2,by rw [f1,length_map];exact Nat.le_trans (length_filter_le _ _) (length_take_le _ _)⟩) (fun D i ys J hD hq_=>by obtain ⟨_,_,f3⟩:=hq_;exact SqL.of (f3 _ _ l4)) ?_ ?_
   ·rintro D i w ys J K1 K2 hD hw ⟨f1,f2,f3⟩ kk1 kk2
    obtain ⟨z,hz,rfl⟩:=int_at hw
    obtain ⟨j,hj,rfl⟩:=sub z (mem_of_getElem? hz)
    have et:left.take (i+1)=left.take i++[(j:Int)]:=by rw [take_add_one,hz];rfl
    have s5:=s4.trans f3
    refine ⟨_,rfl,_,rfl,_,rfl,r,l,rs,h,j,F,left,rfl,s5 _ _ hr0,tb.same s5,hj,f3 _ _ l4,sub,by ac_nf,fun H6 s6=>?_⟩
    refine ⟨_,rfl,?_⟩
    cases eb:Dr F (j:Int) left with
    | true =>
      refine ifF rfl ?_
      refine kk2 _ ⟨?_,s6 _ _ f2,f3.trans s6⟩
      rw [et,filter_append,f1]
      simp [eb]
    | false =>
      refine ifT rfl ?_
      refine ⟨_,rfl,?_⟩
      refine kk1 _ _ (s6 _ _ f2) ⟨?_,Ab,A3 (f3.trans s6) hD⟩
      rw [et,filter_append,map_append,f1]
      simp [eb]
   rintro D ys H5 hD ⟨f1,f2,f3⟩
   rw [length_map,take_of_length_le (Nat.le_refl _)] at f1
   subst f1
   have ue:unb F left≠[]:=Nr st cl sub
   obtain ⟨u,ur,eu⟩:∃u ur,unb F left=u :: ur:=by
    cases e:unb F left with
    | nil=>exact absurd e ue
    | cons u ur=>exact ⟨u,ur,rfl⟩
   have um:u∈left:=by
    have:u∈unb F left:=by rw [eu];exact mem_cons_self ..
    exact (mem_filter.mp this).1
   have f2':H5 D=some (.lst ((u :: ur).map V.int)):=by rw [<- eu];exact f2
   have sg:=Dk F (s:=s - got.length - 1) cl
   rw [show s - got.length - 1+1=s - got.length by ac_nf,eu] at sg
   have p5:=f3 _ _ p4
   have l5:=f3 _ _ l4
   have s5:=s4.trans f3
   and_intros
   refine ⟨D,_,_,_,rfl,rfl,SqL.of f2',(show atI _ ((0:Nat):Int)=_ from atN rfl),?_⟩
   and_intros
   refine ⟨.inl ⟨rfl,_,SqL.of p5⟩,?_⟩
   and_intros
   refine ⟨p,_,_,rfl,rfl,p5,(by rw [length_map];exact A9 (by ac_nf)),?_⟩
   have l6:(upd H5 p (.lst (got.map V.int++[V.int u]))) l=some (.lst (left.map V.int)):=by rw [Aj lp];exact l5
   have p6:(upd H5 p (.lst (got.map V.int++[V.int u]))) p=some (.lst ((got++[u]).map V.int)):=by rw [Ab,map_append];rfl
   have s6:=A3 (o:=.lst (got.map V.int++[V.int u])) s5 hp
   generalize upd H5 p (.lst (got.map V.int++[V.int u]))=H6 at l6 p6 s6 ⊢
   and_intros
   refine ⟨.inl ⟨rfl,_,SqL.of l6⟩,?_⟩
   and_intros
   refine ⟨l,left,u,rfl,rfl,l6,um,?_⟩
   rw [<- FY]
   refine ⟨_,left.erase u,got++[u],rfl,A3 s6 hlH,by rw [Aj (Ne.symm lp)];exact p6,Ab,fun z mz=>sub z (mem_of_mem_erase mz),by rw [length_append];show got.length+1<=s;omega,?_,by rw [length_erase_of_mem um];omega,by ac_nf⟩
   rw [length_append,show s - (got.length+[u].length)=s - got.length - 1 from (by show s - (got.length+1)=_;omega),append_assoc]
   show got++(u :: Ay F (s - got.length - 1) (left.erase u))=_
   rw [<- pk,sg]
   rfl
  ·refine ifF (decide_eq_false (by rw [length_map];omega)) ?_
   and_intros
   exact fin (by rw [show s - got.length=0 by ac_nf];exact Dl F _)
theorem Hu (T:Tx K mg base ad):AI P w K mg base CX0 3 ad.f_shown_from ad.d_shown_from ["reached","x"] K8:=by
 refine T.F_shown_from.ok EK (fun vs H Q E h=>?_) (fun cdv A outer s H vs Q E hr h=>?_)
 ·obtain ⟨t,h,x,L,be,rfl,_⟩:=h
  rfl
 obtain ⟨t,h,x,L,be,rfl,td,hx,h12,q⟩:=h
 refine ⟨_,(@Ae _ _ _ _ _ (Di (j:=2) (fsc:=Ad B1) (N:=["reached","x","others"]) (Nc:=["reached","x","others","y"]) rfl rfl ⟨rfl,by decide +kernel,by decide +kernel,rfl,by decide +kernel,rfl,by decide +kernel,rfl,by decide +kernel⟩ rfl EK.nd rfl rfl (A1 rfl T.z_range (@Aa _ _ _ _ _ (@Ao _ _ _ _ _ _ _ _ _ Ax (by rfl) T.z_len PySem.boot_len (@Aa _ _ _ _ _ (@Am _ _ _ _ _ _ _ Bl (pv 0) Ag (fun _ _=>rfl)) Ac (by rfl)) (by decide) (by decide) (by rfl) (by rfl)) Ac (by rfl))) (fun _ _ _ _=>(ED (@As _ _ _ _ _ _ _ _ Dv (pv 3) (pv 1) (Au _)))) (fun _ _ _ _=>(pv 3)) rfl) (@Ah _ _ _ (@Aq _ _ _ _ (B7 (fsc:=Ad B1) (N:=["reached","x","others"]) (Nc:=["reached","x","others","y"]) rfl rfl ⟨rfl,by decide +kernel,by decide +kernel,rfl,by decide +kernel,rfl,by decide +kernel,rfl,by decide +kernel⟩ rfl (AJ (pv 2)) (fun _ _ _ _=>AK) (fun _ _ _ _=>(@BY _ _ _ _ _ (@Aa _ _ _ _ _ (pv 1) (@Aa _ _ _ _ _ (pv 3) (@Aa _ _ _ _ _ (@Am _ _ _ _ _ _ _ (Bn K) (@Am _ _ _ _ _ _ _ (Gy K) (pv 0) Ag (fun _ _=>rfl)) (pv 3) (fun _ _=>rfl)) (@Aa _ _ _ _ _ (@Ai _ _ _ _ _ _ _ _ _ _ _ _ _ _ _ _ (HJ T) (hr.mono (by decide)) rfl T.m_way_by T.F_way_by.kp T.b_way_by .nil Aw (@Aa _ _ _ _ _ (pv 0) (@Aa _ _ _ _ _ (pv 1) (@Aa _ _ _ _ _ (pv 3) Ac (by rfl)) (by rfl)) (by rfl)) (by decide) (by rfl) (by rfl)) (@Aa _ _ _ _ _ (@Ai _ _ _ _ _ _ _ _ _ _ _ _ _ _ _ _ (HP T) (hr.mono (by decide)) rfl T.m_cut_by T.F_cut_by.kp T.b_cut_by .nil Aw (@Aa _ _ _ _ _ (pv 0) (@Aa _ _ _ _ _ (pv 1) (@Aa _ _ _ _ _ (pv 3) Ac (by rfl)) (by rfl)) (by rfl)) (by decide) (by rfl) (by rfl)) Ac (by rfl)) (by rfl)) (by rfl)) (by rfl)) (by rfl)))))))),?_⟩
 obtain ⟨b,f,bf,et,eb,ef,re⟩:=id td.is
 have bl:=re.lenb
 and_intros
 refine ⟨by ac_nf,by rw [length_map];omega,?_⟩
 rw [length_map,bl,Int.toNat_natCast]
 refine Bv (AH (by ac_nf)) (fun D i ys J=>ys=(CI i x).map V.int/\J=upd H D (.lst ys)) (fun D hD=>⟨rfl,rfl⟩) (fun D i ys J hq_=>by obtain ⟨g1,g2⟩:=hq_;exact ⟨by rw [g2];exact Ab,by rw [g1,length_map];unfold CI;rw [length_map];exact Nat.le_trans (length_filter_le _ _) (by rw [length_range];exact Nat.le_refl _)⟩) ?_ ?_
 ·rintro D i ys J K1 K2 hD hi ⟨g1,rfl⟩ k1 k2
  have e0:(0:Int)+(i:Int)=(i:Int):=Int.zero_add _
  rw [e0]
  and_intros
  by_cases c:i=x
  ·refine ifF (FI (by rw [c])) ?_
   exact k2 _ ⟨by rw [g1,E7,if_pos c,append_nil],rfl⟩
  ·refine ifT (L4 fun e=>c (Int.ofNat.inj e)) ?_
   refine ⟨_,rfl,?_⟩
   exact k1 _ _ Ab ⟨by rw [g1,E7,if_neg c,map_append];rfl,by rw [B3]⟩
 rintro l ys H1 hl ⟨rfl,rfl⟩
 have s1:=Af hl (.lst ((CI h x).map V.int))
 have e1:(upd H l (.lst ((CI h x).map V.int))) l=some (.lst ((CI h x).map V.int)):=Ab
 generalize upd H l (.lst ((CI h x).map V.int))=H1 at s1 e1 ⊢
 rw [Nz] at e1
 have nl:(Iw h x).length<=h:=Nat.le_trans (length_filter_le _ _) (by rw [length_range];exact Nat.le_refl _)
 and_intros
 refine ⟨⟨_,SqL.of e1⟩,?_⟩
 refine AS (xs:=(Bx (Iw h x)).map V.int) (by rw [length_map];unfold Bx;rw [length_map];exact AH (by ac_nf)) (fun D i ys J=>∃rows:List Rw,ys=vrw rows/\rows.length=i/\J D=some (.lst ys)/\Av H1 J/\(∀q∈rows,FS h L (fun _ y=>be.getD y 0) J q/\q.x=x/\H1 q.t=none/\H1 q.w=none/\q.t≠D/\q.w≠D)/\rows.map (fun q=>(q.x,q.y))=((Iw h x).take i).map fun y=>(x,y)) (fun D hD=>⟨[],rfl,rfl,Ab,Af hD _,(fun _ m=>absurd m List.not_mem_nil),rfl⟩) (fun D i ys J hq_=>by obtain ⟨rows,g1,g2,g3,_⟩:=hq_;exact ⟨g3,by rw [g1];unfold vrw;rw [length_map,g2];exact Nat.le_refl _⟩) (fun D i ys J hD hq_=>by obtain ⟨_,_,_,_,g4,_⟩:=hq_;exact SqL.of (g4 _ _ e1)) ?_ ?_
 ·rintro D i w ys J K1 K2 hD hw ⟨rows,rfl,g2,g3,g4,g5,g6⟩ k1 k2
  obtain ⟨z,hz,rfl⟩:=int_at hw
  unfold Bx at hz
  rw [List.getElem?_map] at hz
  obtain ⟨y,hy0,rfl⟩:=Option.map_eq_some_iff.mp hz
  obtain ⟨hy,yx⟩:y < h/\y≠x:=by
   have:=mem_filter.mp (mem_of_getElem? hy0)
   exact ⟨mem_range.mp this.1,of_decide_eq_true this.2⟩
  have sJ:=s1.trans g4
  have et':=sJ _ _ et
  refine yes (ifT rfl ?_)
  refine ⟨_,rfl,_,rfl,_,rfl,t,_,_,_,rfl,rfl,SqT.of et',rfl,?_⟩
  refine ⟨_,rfl,b,_,_,_,rfl,rfl,SqL.of (sJ _ _ eb),atG (by ac_nf),?_⟩
  refine ⟨_,rfl,_,rfl,_,rfl,t,h,x,y,L,be,rfl,td.same sJ,hy,yx,h12,fun wr ws H2 hwr s2 e2 iw=>?_⟩
  refine ⟨_,rfl,_,rfl,_,rfl,t,h,x,y,L,be,rfl,(td.same sJ).same s2,hx,hy,h12,fun H3 s3=>?_⟩
  refine ⟨(by show 5<=sizeLine;decide),fun t5 ht5=>?_⟩
  have s4:=Af ht5 (.tup [V.int (x:Int),V.int (y:Int),V.int (be.getD y 0),V.ref wr,V.int (A4 h (Ev x y be))])
  have e5:(upd H3 t5 (.tup [V.int (x:Int),V.int (y:Int),V.int (be.getD y 0),V.ref wr,V.int (A4 h (Ev x y be))])) t5=some (.tup [V.int (x:Int),V.int (y:Int),V.int (be.getD y 0),V.ref wr,V.int (A4 h (Ev x y be))]):=Ab
  have s24:=(s2.trans s3).trans s4
  have w5:=(s3.trans s4) _ _ e2
  have D5:=s24 _ _ g3
  have wD:wr≠D:=fun z=>by rw [z,g3] at hwr;cases hwr
  have tD:t5≠D:=fun z=>by rw [z,(s2.trans s3) _ _ g3] at ht5;cases ht5
  have nt:=none_of (g4.trans (s2.trans s3)) ht5
  generalize upd H3 t5 (.tup [V.int (x:Int),V.int (y:Int),V.int (be.getD y 0),V.ref wr,V.int (A4 h (Ev x y be))])=H5 at s24 e5 w5 D5 ⊢
  refine k1 _ _ D5 ⟨rows++[⟨t5,x,y,be.getD y 0,wr,ws,A4 h (Ev x y be)⟩],by unfold vrw;rw [map_append];rfl,by rw [length_append,g2];rfl,Ab,A3 (g4.trans s24) hD,fun q0 m=>?_,by rw [map_append,g6,take_add_one,hy0,map_append];rfl⟩
  rcases mem_append.mp m with m | m
  ·obtain ⟨r0,r1,r2,r3,r4,r5⟩:=g5 q0 m
   exact ⟨⟨by rw [Aj r4];exact s24 _ _ r0.tup,by rw [Aj r5];exact s24 _ _ r0.way,r0.hx,r0.hy,r0.ne,r0.str,r0.isw,r0.cutE⟩,r1,r2,r3,r4,r5⟩
  ·rw [mem_singleton.mp m]
   exact ⟨⟨by rw [Aj tD];exact e5,by rw [Aj wD];exact w5,hx,hy,yx,rfl,iw,rfl⟩,rfl,nt,none_of g4 hwr,tD,wD⟩
 rintro D ys H2 hD ⟨rows,rfl,g2,g3,g4,g5,g6⟩
 rw [length_map,Ip,take_of_length_le (Nat.le_refl _)] at g6
 exact q D rows H2 (none_of s1 hD) (s1.trans g4) g3 (fun q0 m=>⟨(g5 q0 m).1,(g5 q0 m).2.1,none_of s1 (g5 q0 m).2.2.1,none_of s1 (g5 q0 m).2.2.2.1⟩) g6
theorem II (T:Tx K mg base ad):AI P w K mg base CX0 3 ad.f_law_sheet ad.d_law_sheet ["_law_script","_law_at","_law_hands","_law_lines","_law_most"] (Nj K):=by
 refine T.F_law_sheet.ok BE (fun vs H Q E h=>?_) (fun cdv A outer s H vs Q E hr h=>?_)
 ·obtain ⟨p,ns,k,n,m,most,rfl,_⟩:=h
  rfl
 obtain ⟨p,ns,k,n,m,most,rfl,hS,h63,k0,k9,n1,n12,m1,m12,mo1,mo9,q⟩:=h
 refine ⟨_,(@Ae _ _ _ _ _ (Di (j:=5) (fsc:=Ad B4) (N:=["_law_script","_law_at","_law_hands","_law_lines","_law_most","_law_slips","_law_many","_law_k","_law_slip_here","_law_lead"]) (Nc:=["_law_script","_law_at","_law_hands","_law_lines","_law_most","_law_slips","_law_many",".s7","_law_slip_here","_law_lead","_law_k"]) rfl rfl ⟨rfl,by decide +kernel,by decide +kernel,rfl,by decide +kernel,rfl,by decide +kernel,rfl,by decide +kernel⟩ rfl BE.nd rfl rfl (A1 rfl T.z_range (@Aa _ _ _ _ _ (pv 3) Ac (by rfl))) (fun _ _ _ _=>AK) (fun _ _ _ _=>(@Ai _ _ _ _ _ _ _ _ _ _ _ _ _ _ _ _ (Kc T) (hr.mono (by decide)) rfl T.m_law_slip T.F_law_slip.kp T.b_law_slip .nil Aw (@Aa _ _ _ _ _ (@Ai _ _ _ _ _ _ _ _ _ _ _ _ _ _ _ _ (Br T) (hr.mono (by decide)) rfl T.m_law_cell T.F_law_cell.kp T.b_law_cell .nil Aw (@Aa _ _ _ _ _ (pv 0) (@Aa _ _ _ _ _ (@Ak _ _ _ _ _ _ _ _ B5 (pv 1) (pv 10)) Ac (by rfl)) (by rfl)) (by decide) (by rfl) (by rfl)) (@Aa _ _ _ _ _ (pv 2) Ac (by rfl)) (by rfl)) (by decide) (by rfl) (by rfl))) rfl) (@Ae _ _ _ _ _ (@At _ _ (6) _ _ _ _ BE.nd rfl (Or.inr rfl) N8 (by rfl) (by first | exact .inl rfl | exact .inr rfl | assumption)) (@Ae _ _ _ _ _ (Be PassesOwn.never rfl (A1 rfl T.z_range (@Aa _ _ _ _ _ (@Ao _ _ _ _ _ _ _ _ _ (DM rfl) (by rfl) T.z_max PyProof.Rows.boot_max (@Aa _ _ _ _ _ (pv 3) (@Aa _ _ _ _ _ (@Ao _ _ _ _ _ _ _ _ _ (Ft rfl) (by rfl) T.z_min PyProof.Rows.boot_min (@Aa _ _ _ _ _ Ag (@Aa _ _ _ _ _ (@Ak _ _ _ _ _ _ _ _ CF (@Ao _ _ _ _ _ _ _ _ _ Ax (by rfl) T.z_len PySem.boot_len (@Aa _ _ _ _ _ (pv 0) Ac (by rfl)) (by decide) (by decide) (by rfl) (by rfl)) (pv 1)) Ac (by rfl)) (by rfl)) (by decide) (by decide) (by rfl) (by rfl)) Ac (by rfl)) (by rfl)) (by decide) (by decide) (by rfl) (by rfl)) Ac (by rfl))) (A0 (i:=7) BE.nd rfl (Or.inl rfl)) (@Ae _ _ _ _ _ (@At _ _ (8) _ _ _ _ BE.nd rfl (Or.inl rfl) (@Am _ _ _ _ _ _ _ Al (pv 5) (@Ak _ _ _ _ _ _ _ _ Bb (pv 7) (pv 3)) (fun _ _=>rfl)) (by rfl) (by first | exact .inl rfl | exact .inr rfl | assumption)) (@Ah _ _ _ (G3 (u1 hr.units) (pv 6) (pv 8) (@Ak _ _ _ _ _ _ _ _ B5 (@Ak _ _ _ _ _ _ _ _ B5 (GI (u1 hr.units) (pv 6) (pv 8) Ag ⟨rfl,rfl,rfl,rfl⟩) Ag) (@Ak _ _ _ _ _ _ _ _ Bb (@Ak _ _ _ _ _ _ _ _ Bb (@Ak _ _ _ _ _ _ _ _ B5 (@Ak _ _ _ _ _ _ _ _ Cj (@Ai _ _ _ _ _ _ _ _ _ _ _ _ _ _ _ _ (Br T) (hr.mono (by decide)) rfl T.m_law_cell T.F_law_cell.kp T.b_law_cell .nil Aw (@Aa _ _ _ _ _ (pv 0) (@Aa _ _ _ _ _ (@Ak _ _ _ _ _ _ _ _ B5 (pv 1) (pv 7)) Ac (by rfl)) (by rfl)) (by decide) (by rfl) (by rfl)) Ag) Ag) Ag) (pv 4))) rfl)))) (@Ae _ _ _ _ _ (@At _ _ (9) _ _ _ _ BE.nd rfl (Or.inl rfl) (@Ai _ _ _ _ _ _ _ _ _ _ _ _ _ _ _ _ (Ea T) (hr.mono (by decide)) rfl T.m_law_mixed T.F_law_mixed.kp T.b_law_mixed .nil Aw (@Aa _ _ _ _ _ (@Ai _ _ _ _ _ _ _ _ _ _ _ _ _ _ _ _ (Br T) (hr.mono (by decide)) rfl T.m_law_cell T.F_law_cell.kp T.b_law_cell .nil Aw (@Aa _ _ _ _ _ (pv 0) (@Aa _ _ _ _ _ (pv 1) Ac (by rfl)) (by rfl)) (by decide) (by rfl) (by rfl)) (@Aa _ _ _ _ _ Ag Ac (by rfl)) (by rfl)) (by decide) (by rfl) (by rfl)) (by rfl) (by first | exact .inl rfl | exact .inr rfl | assumption)) (@Ae _ _ _ _ _ (@FV _ _ _ _ _ _ _ _ (@As _ _ _ _ _ _ _ _ Ef (@Ak _ _ _ _ _ _ _ _ Bb (pv 9) Ag) Ag (Au _)) (@Ae _ _ _ _ _ (@At _ _ (8) _ _ _ _ BE.nd rfl (Or.inl rfl) (@BK _ _ _ _ _ _ _ _ _ EL (by rfl) T.z_tuple PyProof.Rows.boot_tuple (@Aa _ _ _ _ _ (B7 (fsc:=Ad B4) (N:=["_law_script","_law_at","_law_hands","_law_lines","_law_most","_law_slips","_law_many","_law_k","_law_slip_here","_law_lead"]) (Nc:=["_law_script","_law_at","_law_hands","_law_lines","_law_most","_law_slips","_law_many","_law_k","_law_slip_here","_law_lead","_law_hand"]) rfl rfl ⟨rfl,by decide +kernel,by decide +kernel,rfl,by decide +kernel,rfl,by decide +kernel,rfl,by decide +kernel⟩ rfl (AJ (@Ai _ _ _ _ _ _ _ _ _ _ _ _ _ _ _ _ (Gk T) (hr.mono (by decide)) rfl T.m_law_lots T.F_law_lots.kp T.b_law_lots .nil Aw (@Aa _ _ _ _ _ (@Ak _ _ _ _ _ _ _ _ BI (pv 9) Ag) (@Aa _ _ _ _ _ (pv 2) Ac (by rfl)) (by rfl)) (by decide) (by rfl) (by rfl))) (fun _ _ _ _=>AK) (fun _ _ _ _=>(@Ak _ _ _ _ _ _ _ _ Dd Ag (pv 10)))) Ac (by rfl)) (by decide) (by decide) (by rfl) (by rfl)) (by rfl) (by first | exact .inl rfl | exact .inr rfl | assumption)) (@Ah _ _ _ (G3 (u1 hr.units) (pv 6) (pv 8) (@Ak _ _ _ _ _ _ _ _ B5 (@Ak _ _ _ _ _ _ _ _ B5 (GI (u1 hr.units) (pv 6) (pv 8) Ag ⟨rfl,rfl,rfl,rfl⟩) Ag) (@Ak _ _ _ _ _ _ _ _ Bb (@Ak _ _ _ _ _ _ _ _ BI (pv 9) Ag) (@Ak _ _ _ _ _ _ _ _ Cj Ag (pv 4)))) rfl))) A2) (@Ah _ _ _ (@Aq _ _ _ _ (B7 (fsc:=Ad B4) (N:=["_law_script","_law_at","_law_hands","_law_lines","_law_most","_law_slips","_law_many","_law_k","_law_slip_here","_law_lead"]) (Nc:=["_law_script","_law_at","_law_hands","_law_lines","_law_most","_law_slips","_law_many","_law_k",".s8","_law_lead","_law_slip_here"]) rfl rfl ⟨rfl,by decide +kernel,by decide +kernel,rfl,by decide +kernel,rfl,by decide +kernel,rfl,by decide +kernel⟩ rfl (AJ (@Ao _ _ _ _ _ _ _ _ _ (Ht rfl hr.units) (by rfl) T.z_sorted PyProof.Rows.boot_sorted (@Aa _ _ _ _ _ (pv 6) Ac (by rfl)) (by decide) (by decide) (by rfl) (by rfl))) (fun _ _ _ _=>AK) (fun _ _ _ _=>(@BY _ _ _ _ _ (@Aa _ _ _ _ _ (pv 10) (@Aa _ _ _ _ _ (Mb (u1 hr.units) (pv 6) (pv 10) (fun _ _=>rfl)) Ac (by rfl)) (by rfl)))))))))))),?_⟩
 have hl':(ns.map V.int).length=ns.length:=length_map _
 and_intros
 refine ⟨by ac_nf,by ac_nf,?_⟩
 rw [Int.toNat_natCast]
 refine Bv (AH (by ac_nf)) (fun D i ys H'=>∃zs:List (Addr × List Int),ys=(zs.map fun z=>V.ref z.1)/\zs.length=i/\H' D=some (.lst ys)/\Av H H'/\∀z∈zs,H' z.1=some (.tup (z.2.map V.int))/\OkA n z.2) (fun D hD=>⟨[],rfl,rfl,Ab,Af hD _,fun _ m=>absurd m List.not_mem_nil⟩) (fun D i ys H' hq_=>by obtain ⟨zs,f1,f2,f3,_⟩:=hq_;exact ⟨f3,by rw [f1,length_map,f2];exact Nat.le_refl _⟩) ?_ ?_
 ·rintro D i ys H' K1 K2 hD hi ⟨zs,rfl,f2,f3,f4,f5⟩ k1 k2
  refine yes (ifT rfl ?_)
  and_intros
  refine ⟨p,ns,k+(0+(i:Int)),rfl,f4.seq hS,h63,by ac_nf,by ac_nf,fun z z0 z1=>?_⟩
  and_intros
  refine ⟨z,n,rfl,Gw z0 z1,n1,n12,fun t ts H5 ht s5 et ok=>?_⟩
  have tD:t≠D:=fun z=>by rw [z,f3] at ht;cases ht
  refine k1 _ _ (s5 _ _ f3) ⟨zs++[(t,ts)],by rw [map_append];rfl,by rw [length_append,f2];rfl,Ab,A3 (f4.trans s5) hD,fun z m=>?_⟩
  rcases mem_append.mp m with m | m
  ·have:=f5 z m
   exact ⟨by rw [Aj (DQ (s5 _ _ this.1) (s5 _ _ f3) (fun z=>by cases z))];exact s5 _ _ this.1,this.2⟩
  ·rw [mem_singleton.mp m]
   exact ⟨by rw [Aj tD];exact et,ok⟩
 rintro sl ys H1 hsl ⟨zs,rfl,zl,esl,s1,zok⟩
 and_intros
 intro d hd
 have s2:=Af hd (.dT [])
 have e2:(upd H1 d (.dT [])) d=some (.dT []):=Ab
 generalize upd H1 d (.dT [])=H2 at s2 e2 ⊢
 have hdH:=none_of s1 hd
 have s12:=s1.trans s2
 and_intros
 refine ⟨p,_,rfl,.inl (s12.seq hS),?_⟩
 and_intros
 refine ⟨_,_,rfl,?_⟩
 refine ⟨_,_,rfl,?_⟩
 have hM:(m:Int)<=(if (if ((ns.map V.int).length:Int) - k < 60 then ((ns.map V.int).length:Int) - k else 60) > (m:Int) then (if ((ns.map V.int).length:Int) - k < 60 then ((ns.map V.int).length:Int) - k else 60) else (m:Int))/\(if (if ((ns.map V.int).length:Int) - k < 60 then ((ns.map V.int).length:Int) - k else 60) > (m:Int) then (if ((ns.map V.int).length:Int) - k < 60 then ((ns.map V.int).length:Int) - k else 60) else (m:Int))<=60:=by
  split <;> split at*<;> omega
 generalize (if (if ((ns.map V.int).length:Int) - k < 60 then ((ns.map V.int).length:Int) - k else 60) > (m:Int) then (if ((ns.map V.int).length:Int) - k < 60 then ((ns.map V.int).length:Int) - k else 60) else (m:Int))=M at hM ⊢
 refine ⟨M,rfl,by ac_nf,by ac_nf,AN (fun i σ' J=>∃(v7 v8:Option V) (ds:Ds) (kvs:List (List Key × V)),σ'=[some (.ref p),some (.int k),some (.int (n:Int)),some (.int (m:Int)),some (.int most),some (.ref sl),some (.ref d),v7,v8,none]/\Av H J/\Av H1 J/\J d=some (.dT kvs)/\DictOf ds kvs/\(∀q∈ds,q.1∈zs.map (·.2))/\ds.length=i/\∀q∈ds,1<=q.2/\q.2<=most) ⟨none,none,[],[],rfl,s12,s2,e2,DictOf.nil,(fun _ m=>absurd m List.not_mem_nil),rfl,(fun _ m=>absurd m List.not_mem_nil)⟩ ?_ ?_⟩
 ·rintro i σ' J hi ⟨v7,v8,ds,kvs,rfl,sJ,sJ1,eD,dk,sub,dl,po⟩
  have my:=Bp (0+(i:Int)) (show (0:Int) < (m:Int) by ac_nf)
  obtain ⟨j,hj⟩:∃j:Nat,(0+(i:Int)).fmod (m:Int)=(j:Int):=⟨((0+(i:Int)).fmod (m:Int)).toNat,by ac_nf⟩
  obtain ⟨z,ez⟩:∃z,zs[j]?=some z:=⟨_,List.getElem?_eq_getElem (by ac_nf)⟩
  have zm:=mem_of_getElem? ez
  and_intros
  refine ⟨(by show (_:Int)≠0;ac_nf),?_⟩
  refine ⟨sl,_,_,_,rfl,rfl,SqL.of (sJ1 _ _ esl),(by rw [hj];exact C6 (by rw [List.getElem?_map,ez];rfl)),?_⟩
  have kt:J z.1=some (.tup ((z.2.map Sum.inl:List Key).map kV)):=by rw [GO];exact sJ1 _ _ (zok z zm).1
  have lim:=dk.len sub
  rw [length_map] at lim
  and_intros
  refine ⟨.inr ⟨_,.inl eD⟩,?_⟩
  refine ⟨_,rfl,_,Fk.t eD kt,?_⟩
  rw [LN dk]
  and_intros
  refine ⟨p,ns,k+(0+(i:Int)),rfl,sJ.seq hS,h63,by ac_nf,by ac_nf,fun c c0 c1=>?_⟩
  have szc:=Gw c0 c1
  and_intros
  refine ⟨(by show most≠0;ac_nf),?_⟩
  have fm:=Bp ((c*48271+5).fmod 1000000007) (show (0:Int) < most by ac_nf)
  dsimp only
  generalize ((c*48271+5).fmod 1000000007).fmod most=y0 at fm ⊢
  obtain ⟨y,ey⟩:∃y,y=1+y0:=⟨_,rfl⟩
  have y1:1<=y:=by ac_nf
  have y2:y<=most:=by ac_nf
  refine ⟨_,_,rfl,rfl,?_⟩
  dsimp only
  rw [Int.add_assoc,<- ey]
  refine ⟨_,rfl,_,rfl,d,_,rfl,Hz.t eD kt (A9 (by ac_nf)),?_⟩
  refine ⟨_,_,ds++[(z.2,y)],_,rfl,A3 sJ hdH,A3 sJ1 hd,Ab,dk.put z.2 y,fun q m=>?_,by rw [length_append,dl];rfl,fun q m=>?_⟩
  ·rcases mem_append.mp m with m | m
   ·exact sub q m
   ·rw [mem_singleton.mp m]
    exact mem_map.mpr ⟨z,zm,rfl⟩
  ·rcases mem_append.mp m with m | m
   ·exact po q m
   ·rw [mem_singleton.mp m]
    exact ⟨y1,y2⟩
 rintro σ' J ⟨v7,v8,ds,kvs,rfl,sJ,sJ1,eD,dk,sub,dl,po⟩
 have pos:Pos ds:=fun q m=>(po q m).1
 have bnd:∀ts,tot ds ts<=60*most:=fun ts=>by
  have a:=KK (ts:=ts) po (by ac_nf)
  have b:(ds.length:Int)*most<=60*most:=Int.mul_le_mul_of_nonneg_right (by ac_nf) (by ac_nf)
  omega
 have ne:ds≠[]:=fun z=>by rw [z] at dl;have:M.toNat=0:=dl.symm;omega
 have okp:∀t∈zs.map (·.2),OkA n t:=fun t tm=>by
  obtain ⟨z,zm,rfl⟩:=mem_map.mp tm
  exact (zok z zm).2
 have pl:(zs.map (·.2)).length<=12:=by rw [length_map];omega
 and_intros
 refine ⟨p,ns,k,rfl,sJ.seq hS,h63,by ac_nf,by ac_nf,fun c c0 c1=>?_⟩
 and_intros
 refine ⟨c,3,rfl,Gw c0 c1,by decide,by decide,fun y y0 y1=>?_⟩
 have szy:Sz 200 y:=Gw y0 (Int.lt_trans y1 (by decide))
 and_intros
 refine ⟨fun σ' J=>∃(v8:Option V) (ds:Ds) (kvs:List (List Key × V)) (pp:List (List Int)),σ'=[some (.ref p),some (.int k),some (.int (n:Int)),some (.int (m:Int)),some (.int most),some (.ref sl),some (.ref d),v7,v8,some (.int y)]/\Av H J/\J d=some (.dT kvs)/\DictOf ds kvs/\(∀q∈ds,q.1∈pp)/\(∀t∈pp,OkA n t)/\pp.length<=13/\ds≠[]/\Pos ds/\∀ts,tot ds ts<=70*most,?_,?_⟩
 ·and_intros
  refine Qo (fun _=>?_) (fun _=>?_)
  ·have mb:=Bp (y.fdiv 36) (show (0:Int) < 6*most by ac_nf)
   have szo:Sz 64 most:=Go (by ac_nf) (by ac_nf)
   and_intros
   refine ⟨y.fdiv 3,(n:Int),rfl,by trivial,by ac_nf,by ac_nf,fun lo os J2 s3 eo pm=>?_⟩
   rw [Int.toNat_natCast] at pm
   have ol:os.length=n:=by rw [pm.length_eq];unfold ups;rw [length_map,length_range]
   have oin:∀h∈os,0<=h/\h < 12:=fun h m=>by
    obtain ⟨i,im,rfl⟩:=mem_map.mp (pm.mem_iff.mp m)
    have:=mem_range.mp im
    omega
   refine ⟨lo,rfl,⟨_,SqL.of eo⟩,?_⟩
   refine AS (xs:=os.map V.int) (by rw [length_map];exact AH (by ac_nf)) (fun D i ys H'=>ys=((os.take i).map fun h=>(1:Int)*2 ^ h.toNat).map V.int/\H'=upd J2 D (.lst ys)) (fun D hD=>⟨rfl,rfl⟩) (fun D i ys H' hq_=>by obtain ⟨f1,f2⟩:=hq_;exact ⟨by rw [f2];exact Ab,by rw [f1,length_map,length_map];exact length_take_le _ _⟩) (fun D i ys H' hD hq_=>by obtain ⟨_,f2⟩:=hq_;rw [f2];exact SqL.of (Af hD _ _ _ eo)) ?_ ?_
   ·rintro D i x ys H' K1 K2 hD hx ⟨f1,rfl⟩ k1 k2
    obtain ⟨z,hz,rfl⟩:=int_at hx
    have et:os.take (i+1)=os.take i++[z]:=by rw [take_succ,hz];rfl
    obtain ⟨z0,z64⟩:=oin z (mem_of_getElem? hz)
    refine yes (ifT rfl ?_)
    refine ⟨_,rfl,_,_,rfl,rfl,⟨by ac_nf,by ac_nf,by decide⟩,?_⟩
    refine k1 _ _ Ab ⟨?_,by rw [B3]⟩
    rw [f1,et,map_append,map_append]
    rfl
   rintro D ys G hD ⟨rfl,rfl⟩
   rw [length_map,take_length]
   have okl:=OO n12 pm
   generalize (os.map fun h=>(1:Int)*2 ^ h.toNat)=lt at okl ⊢
   have s4:=s3.trans (Af hD (.lst (lt.map V.int)))
   have e4:(upd J2 D (.lst (lt.map V.int))) D=some (.lst (lt.map V.int)):=Ab
   generalize upd J2 D (.lst (lt.map V.int))=J4 at s4 e4 ⊢
   refine ⟨D,_,rfl,.inl ⟨SqL.of e4,fun t ht=>?_⟩⟩
   have s5:=Af ht (.tup (lt.map V.int))
   have et:(upd J4 t (.tup (lt.map V.int))) t=some (.tup (lt.map V.int)):=Ab
   generalize upd J4 t (.tup (lt.map V.int))=J5 at s5 et ⊢
   have s45:=s4.trans s5
   have eD2:=s45 _ _ eD
   have kt:J5 t=some (.tup ((lt.map Sum.inl:List Key).map kV)):=by rw [GO];exact et
   have lim:=dk.len sub
   and_intros
   refine ⟨.inr ⟨_,.inl eD2⟩,?_⟩
   refine ⟨_,rfl,_,Fk.t eD2 kt,?_⟩
   rw [LN dk]
   and_intros
   refine ⟨(by show (_:Int)≠0;ac_nf),?_⟩
   dsimp only
   refine ⟨_,_,rfl,rfl,?_⟩
   dsimp only
   rw [Int.add_assoc]
   refine ⟨_,rfl,_,rfl,d,_,rfl,Hz.t eD2 kt (A9 (by ac_nf)),?_⟩
   refine ⟨_,ds++[(lt,1+(y.fdiv 36).fmod (6*most))],_,zs.map (·.2)++[lt],rfl,A3 (sJ.trans s45) hdH,Ab,dk.put _ _,fun q m=>?_,fun t m=>?_,by rw [length_append];exact Nat.succ_le_succ pl,fun z=>ne (append_eq_nil_iff.mp z).1,fun q m=>?_,fun ts=>?_⟩
   ·rcases mem_append.mp m with m | m
    ·exact mem_append_left _ (sub q m)
    ·rw [mem_singleton.mp m]
     exact mem_append_right _ (mem_singleton.mpr rfl)
   ·rcases mem_append.mp m with m | m
    ·exact okp t m
    ·rw [mem_singleton.mp m]
     exact okl
   ·rcases mem_append.mp m with m | m
    ·exact pos q m
    ·rw [mem_singleton.mp m]
     show 1<=1+(y.fdiv 36).fmod (6*most)
     omega
   ·rw [EQ]
    have b:=bnd ts
    show _+((if lt=ts then 1+(y.fdiv 36).fmod (6*most) else 0)+0)<=_
    split <;> omega
  ·exact ⟨_,ds,kvs,zs.map (·.2),rfl,sJ,eD,dk,sub,okp,by ac_nf,ne,pos,fun ts=>by have:=bnd ts;omega⟩
 clear sJ sJ1 eD dk sub dl po pos bnd ne okp pl
 rintro σ' J ⟨v8,ds,kvs,pp,rfl,sJ,eD,dk,sub,okp,pl,ne,pos,bnd⟩
 have fin:∀(D:Addr) (ms:Ls) (H2:Hp),J D=none->Av J H2->H2 D=some (.lst (vls ms))->Cc H2 ms->Ih ds (DP ms)->ms.length < 64->Q (.ref D) H2:=fun D ms H2 hD s e g sh _=>q D ms H2 (none_of sJ hD) (sJ.trans s) e g (sh.drawnP pos sub okp pl ne fun ts=>by have:=bnd ts;omega)
 have k64:=dk.len sub
 obtain ⟨ks,k1,k2,knd,kmem⟩:=dk.vd.keys
 and_intros
 refine ⟨d,kvs,ks,rfl,.inl eD,k1,by ac_nf,fun l2 rs r1 r2 r3 hl2=>?_⟩
 have sl:=Af hl2 (.lst (rs.map fun q=>V.ref q.1))
 have el:(upd J l2 (.lst (rs.map fun q=>V.ref q.1))) l2=some (.lst (rs.map fun q=>V.ref q.1)):=Ab
 generalize upd J l2 (.lst (rs.map fun q=>V.ref q.1))=G1 at sl el ⊢
 have rl:rs.length=ks.length:=by
  have:=r2.length_eq
  rw [length_map] at this
  exact this
 have ov:∀r∈rs,B2 kvs (r.2.map Sum.inl:List Key)=some (.int (Np kvs r.2)):=fun r m=>by
  obtain ⟨n,e⟩:=(kmem r.2).mp (r2.mem_iff.mp (mem_map.mpr ⟨r,m,rfl⟩))
  unfold Np
  rw [e]
 refine ⟨l2,rfl,⟨_,SqL.of el⟩,?_⟩
 refine AS (xs:=rs.map fun q=>V.ref q.1) (by rw [length_map];exact AH (by ac_nf)) (fun D i ys H2=>∃ms:Ls,ys=vls ms/\ms.length=i/\H2 D=some (.lst ys)/\Av G1 H2/\Cc H2 ms/\DP ms=(rs.take i).map fun r=>(r.2,Np kvs r.2)) (fun D hD=>⟨[],rfl,rfl,Ab,Af hD _,(fun _ m=>absurd m List.not_mem_nil),rfl⟩) (fun D i ys H2 hq_=>by obtain ⟨ms,f1,f2,f3,_⟩:=hq_;exact ⟨f3,by rw [f1,Fb,f2];exact Nat.le_refl _⟩) (fun D i ys H2 hD hq_=>by obtain ⟨ms,_,_,_,f4,_⟩:=hq_;exact SqL.of (f4 _ _ el)) ?_ ?_
 ·rintro D i x ys H2 K1 K2 hD hx ⟨ms,rfl,f2,f3,f4,f5,f6⟩ kk1 kk2
  rw [List.getElem?_map] at hx
  obtain ⟨r,er,rfl⟩:=Option.map_eq_some_iff.mp hx
  have rm:=mem_of_getElem? er
  have et:rs.take (i+1)=rs.take i++[r]:=by rw [take_succ,er];rfl
  have sH:=sl.trans f4
  have ek:=sH _ _ (r1 r rm)
  have dg:=Fk.t (k:=(r.2.map Sum.inl:List Key)) (sH _ _ eD) (by rw [GO];exact ek)
  rw [ov r rm] at dg
  refine yes (ifT rfl ?_)
  refine ⟨_,rfl,_,rfl,_,rfl,d,_,rfl,dg,(by show 2<=sizeLine;decide),fun t ht=>?_⟩
  have s6:=Af ht (.tup [V.ref r.1,V.int (Np kvs r.2)])
  refine kk1 _ _ (s6 _ _ f3) ⟨ms++[(t,r.1,r.2,Np kvs r.2)],by rw [Lg];rfl,by rw [length_append,f2];rfl,Ab,A3 (f4.trans s6) hD,?_,?_⟩
  ·refine Cc.upd (s6 _ _ f3) ((f5.same s6).append fun q m=>?_)
   rw [mem_singleton.mp m]
   exact ⟨Ab,s6 _ _ ek⟩
  ·rw [Ku,f6,et,map_append]
   rfl
 ·rintro D ys H2 hD ⟨ms,rfl,f2,f3,f4,f5,f6⟩
  rw [length_map] at f2 f6
  rw [take_length] at f6
  have rnd:(rs.map (·.2)).Nodup:=r2.nodup_iff.mpr knd
  have pv:∀(ts:List Int) (n:Int),B2 kvs (ts.map Sum.inl)=some (.int n)->0 < n:=fun ts n e=>by
   rw [dk.val] at e
   by_cases c:ts∈ds.map (·.1)
   ·rw [if_pos c] at e
    injection e with e
    injection e with e
    rw [<- e]
    exact Iy pos c
   ·rw [if_neg c] at e
    cases e
  refine fin D ms H2 (none_of sl hD) (sl.trans f4) f3 f5 (dk.sheet pos ?_ (fun ts n=>?_)) (by ac_nf)
  ·rw [f6,pairwise_map]
   have nd2:rs.Pairwise (fun x y=>x.2≠y.2):=pairwise_map.mp rnd
   exact (r3.and nd2).imp fun ⟨h1,h2⟩=>LQ h1 h2
  ·rw [f6]
   constructor
   ·intro m
    obtain ⟨r,rm,e⟩:=mem_map.mp m
    injection e with e1 e2
    subst e1
    subst e2
    exact ⟨ov r rm,pv _ _ (ov r rm)⟩
   ·rintro ⟨e,n0⟩
    have tk:ts∈ks:=(kmem ts).mpr ⟨n,e⟩
    obtain ⟨r,rm,rfl⟩:=mem_map.mp (r2.mem_iff.mpr tk)
    have o:=ov r rm
    rw [e] at o
    injection o with o
    injection o with o
    exact mem_map.mpr ⟨r,rm,by rw [<- o]⟩
theorem ER (T:Tx K mg base ad):AI P w K mg base CX0 3 ad.f_law_paper_right ad.d_law_paper_right ["_law_paper","_law_due","_law_links","_law_lots_here"] Ox:=by
 refine T.F_law_paper_right.ok AW (fun vs H Q E h=>?_) (fun cdv A outer s H vs Q E hr h=>?_)
 ·obtain ⟨p,du,b,lo,bs,h,L,F,os,rows,ps,rfl,_⟩:=h
  rfl
 obtain ⟨p,du,b,lo,bs,h,L,F,os,rows,ps,rfl,hp,gr,hdu,gp,em,l144,hb,tb,h1,h12,hlo,pm,st,big,q⟩:=h
 refine ⟨_,(@Ae _ _ _ _ _ (@At _ _ (4) _ _ _ _ AW.nd rfl (Or.inl rfl) (@Ai _ _ _ _ _ _ _ _ _ _ _ _ _ _ _ _ (FJ T) (hr.mono (by decide)) rfl T.m_law_strengths T.F_law_strengths.kp T.b_law_strengths .nil Aw (@Aa _ _ _ _ _ (pv 2) Ac (by rfl)) (by decide) (by rfl) (by rfl)) (by rfl) (by first | exact .inl rfl | exact .inr rfl | assumption)) (@Ae _ _ _ _ _ (@Bs _ _ _ _ _ _ _ _ (PW.pt (@Cv _ _ _ _ _ _ _ (@Bw _ _ _ _ (@By _ _ _ (@Ao _ _ _ _ _ _ _ _ _ C5 (by rfl) T.z_isinstance PyProof.Rows.boot_isinstance (@Aa _ _ _ _ _ (pv 0) (@Aa _ _ _ _ _ (Dm (v:=.ty "list") rfl T.z_list PyProof.Rows.boot_list rfl) Ac (by rfl)) (by rfl)) (by decide) (by decide) (by rfl) (by rfl)) (by intro _;rfl))) (@Du _ _ _ _ (@As _ _ _ _ _ _ _ _ Dv (@Ao _ _ _ _ _ _ _ _ _ Ax (by rfl) T.z_len PySem.boot_len (@Aa _ _ _ _ _ (pv 0) Ac (by rfl)) (by decide) (by decide) (by rfl) (by rfl)) (@Ao _ _ _ _ _ _ _ _ _ Ax (by rfl) T.z_len PySem.boot_len (@Aa _ _ _ _ _ (pv 1) Ac (by rfl)) (by decide) (by decide) (by rfl) (by rfl)) (Au _))))) (@Ah _ _ _ (@Aq _ _ _ _ Cp)) A2) (@Ae _ _ _ _ _ (Be PassesOwn.never rfl (A1 rfl T.z_range (@Aa _ _ _ _ _ (@Ao _ _ _ _ _ _ _ _ _ Ax (by rfl) T.z_len PySem.boot_len (@Aa _ _ _ _ _ (pv 1) Ac (by rfl)) (by decide) (by decide) (by rfl) (by rfl)) Ac (by rfl))) (A0 (i:=5) AW.nd rfl (Or.inl rfl)) (@Ae _ _ _ _ _ (Et (@Am _ _ _ _ _ _ _ Al (pv 1) (pv 5) (fun _ _=>rfl)) (DY rfl (AC (A0 (i:=6) AW.nd rfl (Or.inl rfl)) (AC (A0 (i:=7) AW.nd rfl (Or.inl rfl)) Dn)))) (@Ae _ _ _ _ _ (@Bs _ _ _ _ _ _ _ _ (PW.pt (@Cv _ _ _ _ _ _ _ (@Bw _ _ _ _ (@By _ _ _ (@Ao _ _ _ _ _ _ _ _ _ C5 (by rfl) T.z_isinstance PyProof.Rows.boot_isinstance (@Aa _ _ _ _ _ (@Am _ _ _ _ _ _ _ Al (pv 0) (pv 5) (fun _ _=>rfl)) (@Aa _ _ _ _ _ (Dm (v:=.ty "tuple") rfl T.z_tuple PyProof.Rows.boot_tuple rfl) Ac (by rfl)) (by rfl)) (by decide) (by decide) (by rfl) (by rfl)) (by intro _;rfl))) (@Cv _ _ _ _ _ _ _ (@As _ _ _ _ _ _ _ _ Dv (@Ao _ _ _ _ _ _ _ _ _ Ax (by rfl) T.z_len PySem.boot_len (@Aa _ _ _ _ _ (@Am _ _ _ _ _ _ _ Al (pv 0) (pv 5) (fun _ _=>rfl)) Ac (by rfl)) (by decide) (by decide) (by rfl) (by rfl)) Ag (Au _)) (@Du _ _ _ _ (@As _ _ _ _ _ _ _ _ (FQ (K:=K) hr.units) (Oi Qw (@Am _ _ _ _ _ _ _ Al (pv 0) (pv 5) (fun _ _=>rfl)) Ps (Pa Ag)) (@Am _ _ _ _ _ _ _ Al (pv 1) (pv 5) (fun _ _=>rfl)) (Au _)))))) (@Ah _ _ _ (@Aq _ _ _ _ Cp)) A2) (@Ae _ _ _ _ _ (@Bs _ _ _ _ _ _ _ _ (PW.pt (@Cv _ _ _ _ _ _ _ (@Bw _ _ _ _ (@By _ _ _ (@Ai _ _ _ _ _ _ _ _ _ _ _ _ _ _ _ _ (Cb T) (hr.mono (by decide)) rfl T.m_law_whole T.F_law_whole.kp T.b_law_whole .nil Aw (@Aa _ _ _ _ _ (@Am _ _ _ _ _ _ _ Bl (@Am _ _ _ _ _ _ _ Al (pv 0) (pv 5) (fun _ _=>rfl)) Ag (fun _ _=>rfl)) Ac (by rfl)) (by decide) (by rfl) (by rfl)) (by intro _;rfl))) (@Du _ _ _ _ (@Bw _ _ _ _ (@By _ _ _ (@Ai _ _ _ _ _ _ _ _ _ _ _ _ _ _ _ _ (Cb T) (hr.mono (by decide)) rfl T.m_law_whole T.F_law_whole.kp T.b_law_whole .nil Aw (@Aa _ _ _ _ _ (@Am _ _ _ _ _ _ _ Bl (@Am _ _ _ _ _ _ _ Al (pv 0) (pv 5) (fun _ _=>rfl)) Ag (fun _ _=>rfl)) Ac (by rfl)) (by decide) (by rfl) (by rfl)) (by intro _;rfl)))))) (@Ah _ _ _ (@Aq _ _ _ _ Cp)) A2) (@Ae _ _ _ _ _ (@Bs _ _ _ _ _ _ _ _ (@Bw _ _ _ _ (@By _ _ _ (@Ai _ _ _ _ _ _ _ _ _ _ _ _ _ _ _ _ (FG T) (hr.mono (by decide)) rfl T.m_law_way_right T.F_law_way_right.kp T.b_law_way_right .nil Aw (@Aa _ _ _ _ _ (@Am _ _ _ _ _ _ _ Bl (@Am _ _ _ _ _ _ _ Al (pv 0) (pv 5) (fun _ _=>rfl)) Ag (fun _ _=>rfl)) (@Aa _ _ _ _ _ (pv 2) (@Aa _ _ _ _ _ (pv 6) (@Aa _ _ _ _ _ (pv 7) (@Aa _ _ _ _ _ (@Am _ _ _ _ _ _ _ Al (@Am _ _ _ _ _ _ _ Al (pv 4) (pv 6) (fun _ _=>rfl)) (pv 7) (fun _ _=>rfl)) Ac (by rfl)) (by rfl)) (by rfl)) (by rfl)) (by rfl)) (by decide) (by rfl) (by rfl)) (by intro _;rfl))) (@Ah _ _ _ (@Aq _ _ _ _ Cp)) A2) (@Ae _ _ _ _ _ (@Bs _ _ _ _ _ _ _ _ (@Bw _ _ _ _ (@By _ _ _ (@Ai _ _ _ _ _ _ _ _ _ _ _ _ _ _ _ _ (FC T) (hr.mono (by decide)) rfl T.m_law_cut_right T.F_law_cut_right.kp T.b_law_cut_right .nil Aw (@Aa _ _ _ _ _ (@Am _ _ _ _ _ _ _ Bl (@Am _ _ _ _ _ _ _ Al (pv 0) (pv 5) (fun _ _=>rfl)) Ag (fun _ _=>rfl)) (@Aa _ _ _ _ _ (pv 2) (@Aa _ _ _ _ _ (pv 6) (@Aa _ _ _ _ _ (pv 7) (@Aa _ _ _ _ _ (@Am _ _ _ _ _ _ _ Al (@Am _ _ _ _ _ _ _ Al (pv 4) (pv 7) (fun _ _=>rfl)) (pv 6) (fun _ _=>rfl)) Ac (by rfl)) (by rfl)) (by rfl)) (by rfl)) (by rfl)) (by decide) (by rfl) (by rfl)) (by intro _;rfl))) (@Ah _ _ _ (@Aq _ _ _ _ Cp)) A2) (@Ae _ _ _ _ _ (@At _ _ (8) _ _ _ _ AW.nd rfl (Or.inl rfl) (@Ca _ _ _ _ _ _ _ _ EI (CW PySem.F.plainAttrs_list PySem.F.slot_list_index PySem.F.type_list_index (Fh (K:=K)) (pv 3) (@Aa _ _ _ _ _ (pv 7) Ac (by rfl))) (CW PySem.F.plainAttrs_list PySem.F.slot_list_index PySem.F.type_list_index (Fh (K:=K)) (pv 3) (@Aa _ _ _ _ _ (pv 6) Ac (by rfl))) (Au _)) (by rfl) (by first | exact .inl rfl | exact .inr rfl | assumption)) (@Ah _ _ _ (@Bs _ _ _ _ _ _ _ _ (@Bw _ _ _ _ (@By _ _ _ (@Ai _ _ _ _ _ _ _ _ _ _ _ _ _ _ _ _ (IH T) (hr.mono (by decide)) rfl T.m_law_needs T.F_law_needs.kp T.b_law_needs .nil Aw (@Aa _ _ _ _ _ (@Am _ _ _ _ _ _ _ Bl (@Am _ _ _ _ _ _ _ Al (pv 0) (pv 5) (fun _ _=>rfl)) Ag (fun _ _=>rfl)) (@Aa _ _ _ _ _ (@Am _ _ _ _ _ _ _ Al (@Am _ _ _ _ _ _ _ Al (pv 4) (pv 6) (fun _ _=>rfl)) (pv 7) (fun _ _=>rfl)) (@Aa _ _ _ _ _ (@Am _ _ _ _ _ _ _ Al (@Am _ _ _ _ _ _ _ Al (pv 4) (pv 7) (fun _ _=>rfl)) (pv 6) (fun _ _=>rfl)) (@Aa _ _ _ _ _ (pv 8) Ac (by rfl)) (by rfl)) (by rfl)) (by rfl)) (by decide) (by rfl) (by rfl)) (by intro _;rfl))) (@Ah _ _ _ (@Aq _ _ _ _ Cp)) A2))))))))) (@Ah _ _ _ (@Aq _ _ _ _ Cp))))),?_⟩
 have pl:ps.length=rows.length:=by
  have:=congrArg List.length em
  rwa [length_map,length_map] at this
 have vl:(vrm rows).length=rows.length:=length_map _
 have ql:(vpq ps).length=rows.length:=(D1 ps).trans pl
 have nin:∀{i:Nat},i < h->(i:Int)∈os:=fun hi=>pm.mem_iff.mpr (mem_map.mpr ⟨_,mem_range.mpr hi,rfl⟩)
 and_intros
 refine ⟨b,bs,h,L,rfl,hb,tb,h12,fun c cs H1 s1 ec tc=>?_⟩
 have hp1:=s1 _ _ hp
 have hdu1:=s1 _ _ hdu
 and_intros
 refine ⟨_,_,_,_,rfl,Dw.lst hp1,DC,?_⟩
 and_intros
 refine ifF (FI (by rw [vl,ql])) ?_
 and_intros
 rw [ql]
 refine ⟨L6z,U6z (by ac_nf),AN (fun k σ' J=>∃(v5 v6 v7 v8:Option V),σ'=[some (.ref p),some (.ref du),some (.ref b),some (.ref lo),some (.ref c),v5,v6,v7,v8]/\Av H1 J) ⟨none,none,none,none,rfl,Av.refl _⟩ ?_ ?_⟩
 ·rintro k σ' J hk ⟨v5,v6,v7,v8,rfl,sJ⟩
  have hk':k < rows.length:=by ac_nf
  have ek:(0:Int)+(k:Int)=(k:Int):=Int.zero_add _
  obtain ⟨r,hr'⟩:∃r,rows[k]?=some r:=⟨_,List.getElem?_eq_getElem hk'⟩
  obtain ⟨q0,hq0⟩:∃q0,ps[k]?=some q0:=⟨_,List.getElem?_eq_getElem (by ac_nf)⟩
  have e0:q0.2=((r.x:Int),(r.y:Int)):=by
   have a:(ps.map (·.2))[k]?=(rows.map fun q=>((q.x:Int),(q.y:Int)))[k]?:=by rw [em]
   rw [List.getElem?_map,List.getElem?_map,hq0,hr'] at a
   exact Option.some.inj a
  have s1J:=s1.trans sJ
  have ok:=(gr r (mem_of_getElem? hr')).same s1J
  have eq0:=s1J _ _ (gp q0 (mem_of_getElem? hq0))
  rw [show q0.2.1=(r.x:Int) from by rw [e0],show q0.2.2=(r.y:Int) from by rw [e0]] at eq0
  have hpJ:=s1J _ _ hp
  have hduJ:=s1J _ _ hdu
  have ap:atI (vrm rows) (0+(k:Int))=some (.ref r.t):=by rw [ek];exact Nw hr'
  have ad':atI (vpq ps) (0+(k:Int))=some (.ref q0.1):=by rw [ek];exact QR hq0
  and_intros
  refine ⟨du,_,_,_,rfl,rfl,SqL.of hduJ,ad',?_⟩
  refine ⟨q0.1,_,rfl,SqT.of eq0,rfl,_,_,rfl,_,_,rfl,rfl,?_⟩
  and_intros
  refine ⟨p,_,_,_,rfl,rfl,SqL.of hpJ,ap,?_⟩
  and_intros
  refine ⟨_,_,_,_,rfl,Dw.tup ok.tup,Ek,?_⟩
  and_intros
  refine ⟨p,_,_,_,rfl,rfl,SqL.of hpJ,ap,?_⟩
  have okt:=ok.tup
  and_intros
  refine ⟨p,_,_,_,rfl,rfl,SqL.of hpJ,ap,?_⟩
  and_intros
  refine ⟨r.t,_,rfl,SqT.of okt,(show ¬ (HT.sIx 5 0 none=0/\HT.sIx 5 5 (some 2)=5) by decide),fun t2 ht2=>?_⟩
  rw [show O0 [V.int (r.x:Int),V.int (r.y:Int),V.ref r.w,V.int (A4 h r.g),V.int r.nd] none (some 2)=[V.int (r.x:Int),V.int (r.y:Int)] from rfl]
  have j2:=Af ht2 (.tup [V.int (r.x:Int),V.int (r.y:Int)])
  have et2:(upd J t2 (.tup [V.int (r.x:Int),V.int (r.y:Int)])) t2=some (.tup [V.int (r.x:Int),V.int (r.y:Int)]):=Ab
  generalize upd J t2 (.tup [V.int (r.x:Int),V.int (r.y:Int)])=J2 at j2 et2 ⊢
  have hdu2:=j2 _ _ hduJ
  have hp2:=j2 _ _ hpJ
  have okt2:=j2 _ _ okt
  and_intros
  refine ⟨du,_,_,_,rfl,rfl,SqL.of hdu2,ad',?_⟩
  refine ⟨.tuple ([(r.x:Int),(r.y:Int)].map .int),.tuple ([(r.x:Int),(r.y:Int)].map .int),.tup (SqT.of et2) (.ints [(r.x:Int),(r.y:Int)]),.tup (SqT.of (j2 _ _ eq0)) (.ints [(r.x:Int),(r.y:Int)]),(B6 _).1,(B6 _).1,?_⟩
  rw [show PyData.eqv (.tuple ([(r.x:Int),(r.y:Int)].map .int)) (.tuple ([(r.x:Int),(r.y:Int)].map .int))=true from by show PyData.eqvAll _ _=true;rw [DL];exact decide_eq_true rfl]
  and_intros
  refine ⟨p,_,_,_,rfl,rfl,SqL.of hp2,ap,?_⟩
  and_intros
  refine ⟨p,_,_,_,rfl,rfl,SqL.of hp2,ap,?_⟩
  and_intros
  have xy:r.y≠r.x:=fun z=>by
   have a:=ok.gy
   rw [z,ok.gx] at a
   cases a
  have f1:=PP st ok.hx ok.hy xy
  have f2:=PP st ok.hy ok.hx (Ne.symm xy)
  have s12:=sJ.trans j2
  have ec2:=s12 _ _ ec
  obtain ⟨ax,_,_,r3,r4⟩:=(tc.same s12).row ok.hx
  obtain ⟨ay,_,_,p3,p4⟩:=(tc.same s12).row ok.hy
  have cxy:=AQ (fwN L h r.x) ok.hy
  have cyx:=AQ (fwN L h r.y) ok.hx
  rw [f1] at cxy
  rw [f2] at cyx
  refine ⟨p,_,_,_,rfl,rfl,SqL.of hp2,ap,?_⟩
  and_intros
  refine ⟨c,_,_,_,rfl,rfl,SqL.of ec2,r3,?_⟩
  and_intros
  refine ⟨ax,_,_,_,rfl,rfl,SqL.of r4,cxy,?_⟩
  refine ⟨b,r.w,bs,h,r.x,r.y,L,F r.x r.y,r.ws,rfl,(s1J.trans j2) _ _ hb,tb.same (s1J.trans j2),h12,j2 _ _ ok.way,ok.isw,fun J3 j3=>?_⟩
  have s13:=s12.trans j3
  have t3:=s1.trans s13
  have hp3:=j3 _ _ hp2
  have okt3:=j3 _ _ okt2
  have ec3:=j3 _ _ ec2
  have hlo3:=t3 _ _ hlo
  have r43:=j3 _ _ r4
  have p43:=j3 _ _ p4
  and_intros
  refine ⟨p,_,_,_,rfl,rfl,SqL.of hp3,ap,?_⟩
  and_intros
  refine ⟨c,_,_,_,rfl,rfl,SqL.of ec3,p3,?_⟩
  and_intros
  refine ⟨ay,_,_,_,rfl,rfl,SqL.of p43,cyx,?_⟩
  refine ⟨b,bs,h,r.x,r.y,L,F r.y r.x,r.g,rfl,t3 _ _ hb,tb.same t3,h1,h12,ok.hx,ok.hy,ok.gx,ok.gy,ok.cut,ok.edge,?_⟩
  and_intros
  refine ⟨.inl ⟨rfl,_,SqL.of hlo3⟩,_,rfl,lo,os,(r.y:Int),rfl,rfl,SqL.of hlo3,nin ok.hy,?_⟩
  refine ⟨_,rfl,.inl ⟨rfl,_,SqL.of hlo3⟩,_,rfl,lo,os,(r.x:Int),rfl,rfl,SqL.of hlo3,nin ok.hx,?_⟩
  and_intros
  refine ⟨p,_,_,_,rfl,rfl,SqL.of hp3,ap,?_⟩
  and_intros
  refine ⟨c,_,_,_,rfl,rfl,SqL.of ec3,r3,?_⟩
  and_intros
  refine ⟨ax,_,_,_,rfl,rfl,SqL.of r43,cxy,?_⟩
  and_intros
  refine ⟨c,_,_,_,rfl,rfl,SqL.of ec3,p3,?_⟩
  and_intros
  refine ⟨ay,_,_,_,rfl,rfl,SqL.of p43,cyx,?_⟩
  have nf:=MA F os r.x r.y
  have n1:=Nx F os (r.x:Int) (r.y:Int)
  have b1:=Fl big h r.x r.y
  have b2:=Fl big h r.y r.x
  rw [f1] at b1
  rw [f2] at b2
  have nb:Cg F os (r.x:Int) (r.y:Int)<=1000000000000000:=by
   unfold Cg
   rw [Int.toNat_natCast,Int.toNat_natCast,Int.fdiv_eq_ediv_of_nonneg _ (by decide),Int.fdiv_eq_ediv_of_nonneg _ (by decide)]
   split <;> omega
  rw [<- ok.need] at nf n1 nb
  have ed:decide (((os.idxOf (r.y:Int):Nat):Int) < ((os.idxOf (r.x:Int):Nat):Int))=decide (os.idxOf (r.y:Int) < os.idxOf (r.x:Int)):=by congr 1;apply propext;omega
  and_intros
  refine ⟨r.nd,F r.x r.y,F r.y r.x,_,rfl,Go (by ac_nf) (by ac_nf),n1,by rw [ed];exact nf.1,by rw [ed];exact nf.2,?_⟩
  and_intros
  exact ⟨_,_,_,_,rfl,s13⟩
 ·rintro σ' J ⟨v5,v6,v7,v8,rfl,sJ⟩
  subst_eqs
  exact q _ (s1.trans sJ)
theorem EV (T:Tx K mg base ad):AI P w K mg base CX0 3 ad.f_law_slips_right ad.d_law_slips_right ["_law_margin","_law_hands"] (Jl ad.c_PairsMargin ad.c_Pairs):=by
 refine T.F_law_slips_right.ok AR (fun vs H Q E h=>?_) (fun cdv A outer s H vs Q E hr h=>?_)
 ·obtain ⟨g,a,h,s,ns,rfl,_⟩:=h
  rfl
 obtain ⟨g,a,h,s,ns,rfl,im,is,h2,h6,q⟩:=h
 refine ⟨_,(@Ae _ _ _ _ _ (Be PassesOwn.never rfl (A1 rfl T.z_range (@Aa _ _ _ _ _ (pv 1) Ac (by rfl))) (A0 (i:=2) AR.nd rfl (Or.inl rfl)) (@Ah _ _ _ (Be PassesOwn.never rfl (A1 rfl T.z_range (@Aa _ _ _ _ _ (pv 1) Ac (by rfl))) (A0 (i:=3) AR.nd rfl (Or.inl rfl)) (@Ae _ _ _ _ _ (@At _ _ (4) _ _ _ _ AR.nd rfl (Or.inl rfl) (@Ak _ _ _ _ _ _ _ _ CF (@Ak _ _ _ _ _ _ _ _ CF (@Ak _ _ _ _ _ _ _ _ CF (@Ak _ _ _ _ _ _ _ _ Dd Ag (pv 1)) Ag) (@Ak _ _ _ _ _ _ _ _ Dd Ag (pv 2))) (@Ak _ _ _ _ _ _ _ _ Dd Ag (pv 3))) (by rfl) (by first | exact .inl rfl | exact .inr rfl | assumption)) (@Ae _ _ _ _ _ (@At _ _ (5) _ _ _ _ AR.nd rfl (Or.inl rfl) (@BY _ _ _ _ _ (@Aa _ _ _ _ _ (@Ak _ _ _ _ _ _ _ _ Dd Ag (pv 3)) Ac (by rfl))) (by rfl) (by first | exact .inl rfl | exact .inr rfl | assumption)) (@Ae _ _ _ _ _ (@FV _ _ _ _ _ _ _ _ (@As _ _ _ _ _ _ _ _ Ef (pv 4) Ag (Au _)) (@Ah _ _ _ (@At _ _ (5) _ _ _ _ AR.nd rfl (Or.inl rfl) (@BY _ _ _ _ _ (@Aa _ _ _ _ _ (@Ak _ _ _ _ _ _ _ _ Dd Ag (pv 3)) (@Aa _ _ _ _ _ (pv 4) Ac (by rfl)) (by rfl))) (by rfl) (by first | exact .inl rfl | exact .inr rfl | assumption))) A2) (@Ah _ _ _ (@Bs _ _ _ _ _ _ _ _ (PW.pt (@DE _ _ _ _ _ _ _ (@As _ _ _ _ _ _ _ _ Dv (pv 2) (pv 3) (Au _)) (@Dj _ _ _ _ (@As _ _ _ _ _ _ _ _ (Qx hr.units) (C8 (pv 0) T.cl_PairsMargin T.me_PairsMargin_slip_for (DK T) (hr.mono (by decide)) T.b_PairsMargin_slip_for .nil Aw (@Aa _ _ _ _ _ (pv 2) (@Aa _ _ _ _ _ (pv 3) Ac (by rfl)) (by rfl))) (pv 5) (Au _))))) (@Ah _ _ _ (@Aq _ _ _ _ Cp)) A2)))))))) (@Ah _ _ _ (@Aq _ _ _ _ Cp))),?_⟩
 and_intros
 refine ⟨L6z,U6z (by ac_nf),AN (fun x σ' J=>∃(v2 v3 v4 v5:Option V),σ'=[some (.ref g),some (.int (h:Int)),v2,v3,v4,v5]/\Av H J) ⟨none,none,none,none,rfl,Av.refl _⟩ ?_ ?_⟩
 ·rintro x σ' J hx ⟨v2,v3,v4,v5,rfl,sJ⟩
  have hx':x < h:=by ac_nf
  have ex:(0:Int)+(x:Int)=(x:Int):=Int.zero_add _
  and_intros
  refine ⟨L6z,U6z (by ac_nf),AN (fun y σ' J=>∃(v3 v4 v5:Option V),σ'=[some (.ref g),some (.int (h:Int)),some (.int (0+(x:Int))),v3,v4,v5]/\Av H J) ⟨_,_,_,rfl,sJ⟩ ?_ ?_⟩
  ·rintro y σ' J hy ⟨v3,v4,v5,rfl,sJ⟩
   have hy':y < h:=by ac_nf
   have ey:(0:Int)+(y:Int)=(y:Int):=Int.zero_add _
   and_intros
   refine ⟨CL (by ac_nf),?_⟩
   and_intros
   refine ⟨(by rw [ex];exact CL (by ac_nf)),?_⟩
   and_intros
   refine ⟨(by rw [ey];exact CL (by ac_nf)),?_⟩
   and_intros
   refine ⟨(by rw [ey];exact CL (by ac_nf)),?_⟩
   dsimp only
   rw [ex,ey,Int.toNat_natCast,Int.toNat_natCast,Int.toNat_natCast,Int.one_mul,Int.one_mul,Int.one_mul]
   obtain ⟨o,eo⟩:∃o,o=(2:Int) ^ h - 1 - 2 ^ x - 2 ^ y:=⟨_,rfl⟩
   rw [<- eo]
   and_intros
   refine ⟨(by show 1<=sizeLine;decide),fun t ht=>?_⟩
   have s1:=Af ht (.tup [V.int (2 ^ y)])
   have e1:(upd J t (.tup [V.int (2 ^ y)])) t=some (.tup [V.int (2 ^ y)]):=Ab
   generalize upd J t (.tup [V.int (2 ^ y)])=J1 at s1 e1 ⊢
   and_intros
   refine ⟨fun σ' G=>∃t:Addr,σ'=[some (.ref g),some (.int (h:Int)),some (.int (x:Int)),some (.int (y:Int)),some (.int o),some (.ref t)]/\Av J1 G/\G t=some (.tup ((if 0 < o then [(2:Int) ^ y,o] else [(2:Int) ^ y]).map V.int)),?_,?_⟩
   ·and_intros
    by_cases c:0 < o
    ·refine ifT (decide_eq_true c) ?_
     and_intros
     refine ⟨CL (by ac_nf),?_⟩
     dsimp only
     rw [Int.toNat_natCast,Int.one_mul]
     and_intros
     refine ⟨(by show 2<=sizeLine;decide),fun t2 ht2=>?_⟩
     exact ⟨t2,rfl,Af ht2 _,by rw [Ab,if_pos c];rfl⟩
    ·refine ifF (decide_eq_false c) ?_
     exact ⟨t,rfl,Av.refl _,by rw [if_neg c];exact e1⟩
   rintro σ' G ⟨t',rfl,sG,eG⟩
   have sJG:=(sJ.trans s1).trans sG
   and_intros
   by_cases ne:x=y
   ·refine ifF (FI (by ac_nf)) ?_
    exact ⟨_,_,_,rfl,sJG⟩
   refine ifT (L4 (by ac_nf)) ?_
   obtain ⟨dg,hg⟩:=id (im.same sJG)
   and_intros
   refine ⟨g,dg,_,rfl,hg,rfl,?_⟩
   and_intros
   refine ⟨g,a,h,s,x,y,ns,rfl,im.same sJG,is.same81 sJG,h6,hx',hy',ne,fun t2 G2 sG2 e2=>?_⟩
   have l0:=(Pr ⟨h,by ac_nf⟩ ⟨x,by ac_nf⟩ ⟨y,by ac_nf⟩ hx' hy' (fun z=>ne (Fin.mk.inj z))).1
   dsimp only at l0
   rw [<- eo] at e2 l0
   have et:(if o=0 then [(2:Int) ^ y] else [(2:Int) ^ y,o])=if 0 < o then [(2:Int) ^ y,o] else [(2:Int) ^ y]:=by
    by_cases c:o=0
    ·rw [if_pos c,if_neg (by ac_nf)]
    ·rw [if_neg c,if_pos (by ac_nf)]
   rw [et] at e2
   and_intros
   refine ⟨t2,t',_,_,rfl,rfl,SqT.of e2,SqT.of (sG2 _ _ eG),?_⟩
   and_intros
   refine ifF (by rw [decide_eq_true rfl];rfl) ?_
   exact ⟨_,_,_,rfl,sJG.trans sG2⟩
  ·rintro σ' J ⟨v3,v4,v5,rfl,sJ⟩
   exact ⟨_,_,_,_,rfl,sJ⟩
 ·rintro σ' J ⟨v2,v3,v4,v5,rfl,sJ⟩
  subst_eqs
  exact q _ sJ
theorem DU (T:Tx K mg base ad):AI P w K mg base CX0 3 ad.f_PairsMargin_leads_in ad.d_PairsMargin_leads_in ["self","sheet"] (Nh ad.c_PairsMargin ad.c_Pairs):=by
 refine T.F_PairsMargin_leads_in.ok DJ (fun vs H Q E h=>?_) (fun cdv A outer s H vs Q E hr h=>?_)
 ·obtain ⟨g,a,l,h,s,ns,ls,rfl,_⟩:=h
  rfl
 obtain ⟨g,a,l,h,s,ns,ls,rfl,⟨dm,hg⟩,md,hl,gl,l60,q⟩:=h
 refine ⟨_,(@Ah _ _ _ (@Aq _ _ _ _ (@Ai _ _ _ _ _ _ _ _ _ _ _ _ _ _ _ _ (Gb T) (hr.mono (by decide)) rfl T.m_leads_of T.F_leads_of.kp T.b_leads_of .nil Aw (@Aa _ _ _ _ _ (@Ai _ _ _ _ _ _ _ _ _ _ _ _ _ _ _ _ (Jp T) (hr.mono (by decide)) rfl T.m_overs T.F_overs.kp T.b_overs .nil Aw (@Aa _ _ _ _ _ (pv 1) (@Aa _ _ _ _ _ (Bo (Bo (pv 0) rfl) rfl) Ac (by rfl)) (by rfl)) (by decide) (by rfl) (by rfl)) Ac (by rfl)) (by decide) (by rfl) (by rfl)))),?_⟩
 obtain ⟨dx,la,k1,k2⟩:=id md.is
 have h1:=md.h1
 have h12:=md.h12
 and_intros
 refine ⟨g,_,dm,_,_,rfl,hg,T.cl_PairsMargin,T.na_PairsMargin_way,rfl,?_⟩
 refine ⟨a,_,dx,_,_,rfl,k1,T.cl_Pairs,T.na_Pairs_hands,rfl,?_⟩
 refine ⟨l,ls,h,rfl,hl,gl,l60,h1,h12,fun b as H1 hb s1 nb wb eb tb=>?_⟩
 refine ⟨b,as,h,_,rfl,eb,tb,h12,fun c cs H2 hc nc wc s2 ec tc=>?_⟩
 exact q c cs H2 (s1.trans s2) ec tc
theorem Kn (T:Tx K mg base ad):AI P w K mg base CX0 3 ad.f_Way_init ad.d_Way_init ["self","hands","seats","lots"] (Lr K):=by
 refine T.F_Way_init.ok Kr (fun vs H Q E h=>?_) (fun cdv A outer s H vs Q E hr h=>?_)
 ·obtain ⟨a,C,dx,h,s,lv,ns,rfl,_⟩:=h
  rfl
 obtain ⟨a,C,dx,h,s,lv,ns,rfl,ha,cl,n1,n2,n3,h1,h12,s1,s60,lo,q⟩:=h
 refine ⟨_,(@Ae _ _ _ _ _ (@Bs _ _ _ _ _ _ _ _ (PW.pt (@Cv _ _ _ _ _ _ _ (@Bw _ _ _ _ (@By _ _ _ (@Ai _ _ _ _ _ _ _ _ _ _ _ _ _ _ _ _ (IJ T) (hr.mono (by decide)) rfl T.m_are_hands T.F_are_hands.kp T.b_are_hands .nil Aw (@Aa _ _ _ _ _ (pv 1) Ac (by rfl)) (by decide) (by rfl) (by rfl)) (by intro _;rfl))) (@Du _ _ _ _ (@Bw _ _ _ _ (@By _ _ _ (@Ai _ _ _ _ _ _ _ _ _ _ _ _ _ _ _ _ (IN T) (hr.mono (by decide)) rfl T.m_are_seats T.F_are_seats.kp T.b_are_seats .nil Aw (@Aa _ _ _ _ _ (pv 2) Ac (by rfl)) (by decide) (by rfl) (by rfl)) (by intro _;rfl)))))) (@Ah _ _ _ Ks) A2) (@Ae _ _ _ _ _ (@Bs _ _ _ _ _ _ _ _ (PW.pt (@DE _ _ _ _ _ _ _ (@As _ _ _ _ _ _ _ _ Pk (pv 3) D9 (Au _)) (@Dj _ _ _ _ (@Bw _ _ _ _ (@By _ _ _ (@Ai _ _ _ _ _ _ _ _ _ _ _ _ _ _ _ _ (JT T) (hr.mono (by decide)) rfl T.m_are_lots T.F_are_lots.kp T.b_are_lots .nil Aw (@Aa _ _ _ _ _ (pv 3) (@Aa _ _ _ _ _ (pv 1) Ac (by rfl)) (by rfl)) (by decide) (by rfl) (by rfl)) (by intro _;rfl)))))) (@Ah _ _ _ Ks) A2) (@Ae _ _ _ _ _ (IQ (pv 0) (pv 1) rfl) (@Ae _ _ _ _ _ (IQ (pv 0) (pv 2) rfl) (@Ah _ _ _ (IQ (pv 0) (Kf (@As _ _ _ _ _ _ _ _ Jk (pv 3) D9 (Au _)) (C3 rfl (by rfl) T.z_list (by rfl) T.z_range (pv 1)) (@BK _ _ _ _ _ _ _ _ _ BD (by rfl) T.z_list PyProof.Rows.boot_list (@Aa _ _ _ _ _ (pv 3) Ac (by rfl)) (by decide) (by decide) (by rfl) (by rfl))) rfl)))))),?_⟩
 refine ⟨_,rfl,(h:Int),rfl,by ac_nf,by ac_nf,?_⟩
 and_intros
 refine ⟨by ac_nf,by ac_nf,?_⟩
 and_intros
 rcases lo with ⟨rfl,rfl⟩ | ⟨l,rfl,hl,pm⟩
 ·and_intros
  obtain ⟨H1,eH⟩:∃H1,H1=H:=⟨_,rfl⟩
  rw [<- eH]
  have e1:Av H H1:=by rw [eH];exact fun _ _ e=>e
  have g1:=(FX H a).trans e1
  refine ⟨a,C,dx,[],rfl,e1 _ _ ha,cl,n1,(by simp only [length_cons,length_nil];decide),?_⟩
  rw [Rc]
  have g2:=Dx (o:=.ins C dx [("hands",.int (h:Int))]) g1
  have a2:(upd H1 a (.ins C dx [("hands",.int (h:Int))])) a=_:=Ab
  generalize upd H1 a (.ins C dx [("hands",.int (h:Int))])=H2 at g2 a2 ⊢
  and_intros
  refine ⟨a,C,dx,_,rfl,a2,cl,n2,(by simp only [length_cons,length_nil];decide),?_⟩
  rw [Ru]
  have g3:=Dx (o:=.ins C dx [("hands",.int (h:Int)),("seats",.int (s:Int))]) g2
  have a3:(upd H2 a (.ins C dx [("hands",.int (h:Int)),("seats",.int (s:Int))])) a=_:=Ab
  generalize upd H2 a (.ins C dx [("hands",.int (h:Int)),("seats",.int (s:Int))])=H3 at g3 a3 ⊢
  and_intros
  refine ⟨by ac_nf,fun b hb=>?_⟩
  rw [<- PR]
  have ba:b≠a:=fun z=>by rw [z,a3] at hb;cases hb
  have hbH:H b=none:=by
   cases e:H b with
   | none=>rfl
   | some o =>
     have:=g3 _ _ (Dp e ba)
     rw [hb] at this
     cases this
  have g4:=g3.trans (Af hb (.lst ((ups h).map V.int)))
  have a4:=Af hb (.lst ((ups h).map V.int)) _ _ a3
  have b4:(upd H3 b (.lst ((ups h).map V.int))) b=some (.lst ((ups h).map V.int)):=Ab
  generalize upd H3 b (.lst ((ups h).map V.int))=H4 at g4 a4 b4 ⊢
  and_intros
  refine ⟨a,C,dx,_,rfl,a4,cl,n3,(by simp only [length_cons,length_nil];decide),?_⟩
  rw [Ro]
  exact q b _ ba hbH (Dx g4) Ab (by rw [Aj ba];exact b4)
 ·and_intros
  refine ⟨l,ns,h,rfl,hl,pm,by ac_nf,fun H1 e1=>?_⟩
  and_intros
  have g1:=(FX H a).trans e1
  refine ⟨a,C,dx,[],rfl,e1 _ _ ha,cl,n1,(by simp only [length_cons,length_nil];decide),?_⟩
  rw [Rc]
  have g2:=Dx (o:=.ins C dx [("hands",.int (h:Int))]) g1
  have a2:(upd H1 a (.ins C dx [("hands",.int (h:Int))])) a=_:=Ab
  generalize upd H1 a (.ins C dx [("hands",.int (h:Int))])=H2 at g2 a2 ⊢
  and_intros
  refine ⟨a,C,dx,_,rfl,a2,cl,n2,(by simp only [length_cons,length_nil];decide),?_⟩
  rw [Ru]
  have g3:=Dx (o:=.ins C dx [("hands",.int (h:Int)),("seats",.int (s:Int))]) g2
  have a3:(upd H2 a (.ins C dx [("hands",.int (h:Int)),("seats",.int (s:Int))])) a=_:=Ab
  generalize upd H2 a (.ins C dx [("hands",.int (h:Int)),("seats",.int (s:Int))])=H3 at g3 a3 ⊢
  have la:l≠a:=fun z=>by rw [z,ha] at hl;cases hl
  have l3:=g3 _ _ (Dp hl la)
  and_intros
  intro b hb
  have ba:b≠a:=fun z=>by rw [z,a3] at hb;cases hb
  have hbH:H b=none:=by
   cases e:H b with
   | none=>rfl
   | some o =>
     have:=g3 _ _ (Dp e ba)
     rw [hb] at this
     cases this
  have g4:=g3.trans (Af hb (.lst (ns.map V.int)))
  have a4:=Af hb (.lst (ns.map V.int)) _ _ a3
  have b4:(upd H3 b (.lst (ns.map V.int))) b=some (.lst (ns.map V.int)):=Ab
  generalize upd H3 b (.lst (ns.map V.int))=H4 at g4 a4 b4 ⊢
  and_intros
  refine ⟨a,C,dx,_,rfl,a4,cl,n3,(by simp only [length_cons,length_nil];decide),?_⟩
  rw [Ro]
  exact q b _ ba hbH (Dx g4) Ab (by rw [Aj ba];exact b4)
theorem K5 (T:Tx K mg base ad):AI P w K mg base CX0 4 ad.f_law_hall ad.d_law_hall ["_law_script"] (QK K):=by
 refine T.F_law_hall.ok CZ (fun vs H Q E h=>?_) (fun cdv A outer s H vs Q E hr h=>?_)
 ·obtain ⟨p,xs,rfl,_⟩:=h
  rfl
 obtain ⟨p,xs,rfl,hS,h63,q⟩:=h
 refine ⟨_,(@Ae _ _ _ _ _ (@At _ _ (1) _ _ _ _ CZ.nd rfl (Or.inl rfl) (@Am _ _ _ _ _ _ _ Al (@BM _ _ _ _ (@Aa _ _ _ _ _ Ag (@Aa _ _ _ _ _ Ag (@Aa _ _ _ _ _ Ag (@Aa _ _ _ _ _ Ag (@Aa _ _ _ _ _ Ag (@Aa _ _ _ _ _ Ag Ac (by rfl)) (by rfl)) (by rfl)) (by rfl)) (by rfl)) (by rfl))) (@Ak _ _ _ _ _ _ _ _ Bb (@Ai _ _ _ _ _ _ _ _ _ _ _ _ _ _ _ _ (Br T) (hr.mono (by decide)) rfl T.m_law_cell T.F_law_cell.kp T.b_law_cell .nil Aw (@Aa _ _ _ _ _ (pv 0) (@Aa _ _ _ _ _ Ag Ac (by rfl)) (by rfl)) (by decide) (by rfl) (by rfl)) Ag) (fun _ _=>rfl)) (by rfl) (by first | exact .inl rfl | exact .inr rfl | assumption)) (@Ae _ _ _ _ _ (@At _ _ (2) _ _ _ _ CZ.nd rfl (Or.inl rfl) (@Ak _ _ _ _ _ _ _ _ B5 Ag (@Ak _ _ _ _ _ _ _ _ Bb (@Ak _ _ _ _ _ _ _ _ BI (@Ai _ _ _ _ _ _ _ _ _ _ _ _ _ _ _ _ (Br T) (hr.mono (by decide)) rfl T.m_law_cell T.F_law_cell.kp T.b_law_cell .nil Aw (@Aa _ _ _ _ _ (pv 0) (@Aa _ _ _ _ _ Ag Ac (by rfl)) (by rfl)) (by decide) (by rfl) (by rfl)) Ag) (@Ak _ _ _ _ _ _ _ _ CF (pv 1) Ag))) (by rfl) (by first | exact .inl rfl | exact .inr rfl | assumption)) (@Ae _ _ _ _ _ (@At _ _ (3) _ _ _ _ CZ.nd rfl (Or.inl rfl) (@Am _ _ _ _ _ _ _ Al (@BM _ _ _ _ (@Aa _ _ _ _ _ Ag (@Aa _ _ _ _ _ (@Ak _ _ _ _ _ _ _ _ IS Ag Ag) Ac (by rfl)) (by rfl))) (@Ak _ _ _ _ _ _ _ _ Bb (@Ak _ _ _ _ _ _ _ _ BI (@Ai _ _ _ _ _ _ _ _ _ _ _ _ _ _ _ _ (Br T) (hr.mono (by decide)) rfl T.m_law_cell T.F_law_cell.kp T.b_law_cell .nil Aw (@Aa _ _ _ _ _ (pv 0) (@Aa _ _ _ _ _ Ag Ac (by rfl)) (by rfl)) (by decide) (by rfl) (by rfl)) Ag) Ag) (fun _ _=>rfl)) (by rfl) (by first | exact .inl rfl | exact .inr rfl | assumption)) (@Ae _ _ _ _ _ (@At _ _ (4) _ _ _ _ CZ.nd rfl (Or.inl rfl) (@Ai _ _ _ _ _ _ _ _ _ _ _ _ _ _ _ _ (II T) (hr.mono (by decide)) rfl T.m_law_sheet T.F_law_sheet.kp T.b_law_sheet .nil Aw (@Aa _ _ _ _ _ (pv 0) (@Aa _ _ _ _ _ Ag (@Aa _ _ _ _ _ (pv 1) (@Aa _ _ _ _ _ (@Ak _ _ _ _ _ _ _ _ B5 Ag (@Ak _ _ _ _ _ _ _ _ Bb (@Ak _ _ _ _ _ _ _ _ BI (@Ai _ _ _ _ _ _ _ _ _ _ _ _ _ _ _ _ (Br T) (hr.mono (by decide)) rfl T.m_law_cell T.F_law_cell.kp T.b_law_cell .nil Aw (@Aa _ _ _ _ _ (pv 0) (@Aa _ _ _ _ _ Ag Ac (by rfl)) (by rfl)) (by decide) (by rfl) (by rfl)) Ag) Ag)) (@Aa _ _ _ _ _ (pv 3) Ac (by rfl)) (by rfl)) (by rfl)) (by rfl)) (by rfl)) (by decide) (by rfl) (by rfl)) (by rfl) (by first | exact .inl rfl | exact .inr rfl | assumption)) (@Ah _ _ _ (@Aq _ _ _ _ (@BY _ _ _ _ _ (@Aa _ _ _ _ _ (pv 1) (@Aa _ _ _ _ _ (pv 2) (@Aa _ _ _ _ _ (@Ai _ _ _ _ _ _ _ _ _ _ _ _ _ _ _ _ (Gk T) (hr.mono (by decide)) rfl T.m_law_lots T.F_law_lots.kp T.b_law_lots .nil Aw (@Aa _ _ _ _ _ (@Ai _ _ _ _ _ _ _ _ _ _ _ _ _ _ _ _ (Br T) (hr.mono (by decide)) rfl T.m_law_cell T.F_law_cell.kp T.b_law_cell .nil Aw (@Aa _ _ _ _ _ (pv 0) (@Aa _ _ _ _ _ Ag Ac (by rfl)) (by rfl)) (by decide) (by rfl) (by rfl)) (@Aa _ _ _ _ _ (pv 1) Ac (by rfl)) (by rfl)) (by decide) (by rfl) (by rfl)) (@Aa _ _ _ _ _ (pv 4) Ac (by rfl)) (by rfl)) (by rfl)) (by rfl))))))))),?_⟩
 and_intros
 refine ⟨(by show 6<=sizeLine;decide),fun a6 ha6=>?_⟩
 have s1:=Af ha6 (.lst [V.int 2,V.int 3,V.int 4,V.int 3,V.int 5,V.int 6])
 have e1:(upd H a6 (.lst [V.int 2,V.int 3,V.int 4,V.int 3,V.int 5,V.int 6])) a6=some (.lst [V.int 2,V.int 3,V.int 4,V.int 3,V.int 5,V.int 6]):=Ab
 generalize upd H a6 (.lst [V.int 2,V.int 3,V.int 4,V.int 3,V.int 5,V.int 6])=H1 at s1 e1 ⊢
 and_intros
 refine ⟨p,xs,0,rfl,s1.seq hS,h63,by decide,by decide,fun c c0 c1=>?_⟩
 and_intros
 have m6:=Bp c (show (0:Int) < 6 by decide)
 obtain ⟨n,hn,n2,n6⟩:=R0 m6.1 m6.2
 refine ⟨a6,_,_,_,rfl,rfl,SqL.of e1,hn,?_⟩
 and_intros
 refine ⟨p,xs,0,rfl,s1.seq hS,h63,by decide,by decide,fun c2 d0 d1=>?_⟩
 have szc2:=Gw d0 d1
 and_intros
 refine ⟨(by show (_:Int)≠0;ac_nf),?_⟩
 have ms:=Bp (c2.fdiv 6) (show (0:Int) < (n:Int) - 1 by ac_nf)
 dsimp only
 generalize (c2.fdiv 6).fmod ((n:Int) - 1)=s' at ms ⊢
 obtain ⟨s,rfl⟩:∃s:Nat,s'=(s:Int) - 1:=⟨(s'+1).toNat,by ac_nf⟩
 and_intros
 dsimp only
 rw [show (1:Int)+((s:Int) - 1)=(s:Int) by ac_nf]
 refine ⟨(by show 2<=sizeLine;decide),fun a2 ha2=>?_⟩
 have s2:=Af ha2 (.lst [V.int 12,V.int ((10:Int) ^ (9:Int).toNat)])
 have e2:(upd H1 a2 (.lst [V.int 12,V.int ((10:Int) ^ (9:Int).toNat)])) a2=some (.lst [V.int 12,V.int ((10:Int) ^ (9:Int).toNat)]):=Ab
 generalize upd H1 a2 (.lst [V.int 12,V.int ((10:Int) ^ (9:Int).toNat)])=H2 at s2 e2 ⊢
 have s12:=s1.trans s2
 and_intros
 refine ⟨p,xs,0,rfl,s12.seq hS,h63,by decide,by decide,fun c3 f0 f1=>?_⟩
 have szc3:=Gw f0 f1
 and_intros
 have m2:=Bp (c3.fdiv 36) (show (0:Int) < 2 by decide)
 obtain ⟨most,hm,o1,o9⟩:=Rn m2.1 m2.2
 refine ⟨a2,_,_,_,rfl,rfl,SqL.of e2,hm,?_⟩
 and_intros
 refine ⟨p,xs,0,rfl,s12.seq hS,h63,by decide,by decide,fun c4 g0 g1=>?_⟩
 have szc4:=Gw g0 g1
 and_intros
 have m4:=Bp (c4.fdiv 72) (show (0:Int) < 6 by decide)
 dsimp only
 generalize (c4.fdiv 72).fmod 6=m' at m4 ⊢
 obtain ⟨m,rfl⟩:∃m:Nat,m'=(m:Int) - 1:=⟨(m'+1).toNat,by ac_nf⟩
 refine ⟨p,xs,3,n,m,most,by rw [show (1:Int)+((m:Int) - 1)=(m:Int) by ac_nf];rfl,s12.seq hS,h63,by decide,by decide,by ac_nf,by ac_nf,by ac_nf,by ac_nf,o1,o9,fun l ls H3 hl s3 el gs dr=>?_⟩
 have s13:=s12.trans s3
 and_intros
 refine ⟨p,xs,1,rfl,s13.seq hS,h63,by decide,by decide,fun c5 k0 k1=>?_⟩
 and_intros
 refine ⟨c5,(n:Int),rfl,Gw k0 k1,by ac_nf,by ac_nf,fun lo os H4 s4 eo pm=>?_⟩
 rw [Int.toNat_natCast] at pm
 and_intros
 refine ⟨(by show 4<=sizeLine;decide),fun t ht=>?_⟩
 have s5:=Af ht (.tup [V.int (n:Int),V.int (s:Int),V.ref lo,V.ref l])
 have et:(upd H4 t (.tup [V.int (n:Int),V.int (s:Int),V.ref lo,V.ref l])) t=some (.tup [V.int (n:Int),V.int (s:Int),V.ref lo,V.ref l]):=Ab
 generalize upd H4 t (.tup [V.int (n:Int),V.int (s:Int),V.ref lo,V.ref l])=H5 at s5 et ⊢
 have s35:=s4.trans s5
 exact q t lo l n s os ls H5 (s13.trans s35) et (s5 _ _ eo) pm (s35 _ _ el) (gs.same s35) dr n2 n6 (by ac_nf) (by ac_nf)
theorem Fv (T:Tx K mg base ad):AI P w K mg base CX0 4 ad.f_Pairs_counted ad.d_Pairs_counted ["self","sheet"] (Ly ad.c_Pairs ad.lP):=by
 refine T.F_Pairs_counted.ok AY (fun vs H Q E h=>?_) (fun cdv A outer s H vs Q E hr h=>?_)
 ·obtain ⟨a,l,h,s,ns,ls,rfl,_⟩:=h
  rfl
 obtain ⟨a,l,h,s,ns,ls,rfl,md,hl,gl,l60,lt,q⟩:=h
 refine ⟨_,(@Ae _ _ _ _ _ (@At _ _ (2) _ _ _ _ AY.nd rfl (Or.inl rfl) (@Ai _ _ _ _ _ _ _ _ _ _ _ _ _ _ _ _ (Jp T) (hr.mono (by decide)) rfl T.m_overs T.F_overs.kp T.b_overs .nil Aw (@Aa _ _ _ _ _ (pv 1) (@Aa _ _ _ _ _ (Bo (pv 0) rfl) Ac (by rfl)) (by rfl)) (by decide) (by rfl) (by rfl)) (by rfl) (by first | exact .inl rfl | exact .inr rfl | assumption)) (@Ae _ _ _ _ _ (@At _ _ (3) _ _ _ _ AY.nd rfl (Or.inl rfl) (@Ai _ _ _ _ _ _ _ _ _ _ _ _ _ _ _ _ (Gb T) (hr.mono (by decide)) rfl T.m_leads_of T.F_leads_of.kp T.b_leads_of .nil Aw (@Aa _ _ _ _ _ (pv 2) Ac (by rfl)) (by decide) (by rfl) (by rfl)) (by rfl) (by first | exact .inl rfl | exact .inr rfl | assumption)) (@Ae _ _ _ _ _ (@At _ _ (4) _ _ _ _ AY.nd rfl (Or.inl rfl) (@BM _ _ _ _ Ac) (by rfl) (by first | exact .inl rfl | exact .inr rfl | assumption)) (@Ae _ _ _ _ _ (@At _ _ (5) _ _ _ _ AY.nd rfl (Or.inl rfl) (@BM _ _ _ _ Ac) (by rfl) (by first | exact .inl rfl | exact .inr rfl | assumption)) (@Ae _ _ _ _ _ (Be PassesOwn.never rfl (A1 rfl T.z_range (@Aa _ _ _ _ _ (Bo (pv 0) rfl) Ac (by rfl))) (A0 (i:=6) AY.nd rfl (Or.inl rfl)) (@Ae _ _ _ _ _ (@At _ _ (7) _ _ _ _ AY.nd rfl (Or.inl rfl) (@Ai _ _ _ _ _ _ _ _ _ _ _ _ _ _ _ _ (Eh T) (hr.mono (by decide)) rfl T.m_reached_from T.F_reached_from.kp T.b_reached_from .nil Aw (@Aa _ _ _ _ _ (pv 3) (@Aa _ _ _ _ _ (pv 6) Ac (by rfl)) (by rfl)) (by decide) (by rfl) (by rfl)) (by rfl) (by first | exact .inl rfl | exact .inr rfl | assumption)) (@Ae _ _ _ _ _ (@CB _ _ _ _ (CW PySem.F.plainAttrs_list PySem.F.slot_list_extend PySem.F.type_list_extend HQ (pv 4) (@Aa _ _ _ _ _ (@Ai _ _ _ _ _ _ _ _ _ _ _ _ _ _ _ _ (Hu T) (hr.mono (by decide)) rfl T.m_shown_from T.F_shown_from.kp T.b_shown_from .nil Aw (@Aa _ _ _ _ _ (pv 7) (@Aa _ _ _ _ _ (pv 6) Ac (by rfl)) (by rfl)) (by decide) (by rfl) (by rfl)) Ac (by rfl))) (by rfl)) (@Ah _ _ _ (@CB _ _ _ _ (CW PySem.F.plainAttrs_list PySem.F.slot_list_append PySem.F.type_list_append Cw (pv 5) (@Aa _ _ _ _ _ (@Am _ _ _ _ _ _ _ Bl (pv 7) Ag (fun _ _=>rfl)) Ac (by rfl))) (by rfl)))))) (@Ah _ _ _ (@Aq _ _ _ _ (@BY _ _ _ _ _ (@Aa _ _ _ _ _ (pv 2) (@Aa _ _ _ _ _ (pv 4) (@Aa _ _ _ _ _ (C8 (pv 0) T.cl_Pairs T.me_Pairs_picks_by (EX T) (hr.mono (by decide)) T.b_Pairs_picks_by .nil Aw (@Aa _ _ _ _ _ (pv 5) Ac (by rfl))) Ac (by rfl)) (by rfl)) (by rfl)))))))))),?_⟩
 obtain ⟨dx,la,k1,k2⟩:=id md.is
 have h1:=md.h1
 have h12:=md.h12
 and_intros
 refine ⟨a,_,dx,_,_,rfl,k1,T.cl_Pairs,T.na_Pairs_hands,rfl,?_⟩
 and_intros
 refine ⟨l,ls,h,rfl,hl,gl,l60,h1,h12,fun b as H1 hb s1 nb wb eb tb=>?_⟩
 and_intros
 refine ⟨b,as,h,_,rfl,eb,tb,h12,fun c cs H2 hc nc wc s2 ec tc=>?_⟩
 have eb:=s2 _ _ eb
 have tb:Ba H2 as h (ovF ls):=tb.same s2
 have tc:Ba H2 cs h (AZ ls):=tc
 have s2:=s1.trans s2
 have lt2:=lt.same s2
 subst_eqs
 refine ⟨(by show 0<=sizeLine;decide),fun sh hsh=>?_⟩
 have s3:=Af hsh (.lst [])
 have e3:(upd H2 sh (.lst [])) sh=some (.lst (vrw [])):=Ab
 generalize upd H2 sh (.lst [])=H3 at e3 s3 ⊢
 subst_eqs
 refine ⟨(by show 0<=sizeLine;decide),fun sg hsg=>?_⟩
 have s4:=Af hsg (.lst [])
 have e4:(upd H3 sg (.lst [])) sg=some (.lst (([]:Us).map fun r=>V.ref r.1)):=Ab
 have ss:sg≠sh:=fun z=>by rw [z,e3] at hsg;cases hsg
 have e34:=s4 _ _ e3
 have hsg2:=none_of s3 hsg
 have s4:=s3.trans s4
 generalize upd H3 sg (.lst [])=H4 at e4 e34 s4 ⊢
 subst_eqs
 refine ⟨_,rfl,a,_,dx,_,_,rfl,(s2.trans s4) _ _ k1,T.cl_Pairs,T.na_Pairs_hands,rfl,?_⟩
 refine ⟨(h:Int),rfl,by ac_nf,by ac_nf,AN (fun i σ' H'=>∃(v6 v7:Option V) (rows:List Rw) (us:Us),σ'=[some (V.ref a),some (.ref l),some (.ref b),some (.ref c),some (.ref sh),some (.ref sg),v6,v7]/\Sm H2 H'/\(Cd ad.lP h H2->Av H2 H')/\LT ad.lP H'/\(0 < i->Cd ad.lP h H')/\H' sh=some (.lst (vrw rows))/\H' sg=some (.lst (us.map fun r=>V.ref r.1))/\us.length=i/\(us.map (·.1)).Nodup/\rows.map (fun q=>(q.x,q.y))=pairsOf h i/\(∀q∈rows,FS h (AZ ls) (fU us) H' q/\q.x < i/\q.w≠sh/\q.w≠sg)/\(∀k r,us[k]?=some r->r.1≠sh/\r.1≠sg/\H' r.1=some (.lst (r.2.map V.int))/\∃bf,Dg h k (AZ ls) r.2 bf)) ⟨none,none,[],[],rfl,Sm.of s4,(fun _=>s4),lt2.same s4,(fun z=>absurd z (Nat.lt_irrefl 0)),e34,e4,rfl,nodup_nil,rfl,(fun _ m=>absurd m List.not_mem_nil),fun k r e=>by cases e⟩ ?_ ?_⟩
 ·rintro i σ' H5 hi ⟨v6,v7,rows,us,rfl,sm,sq,lt5,lq5,esh,esg,ul,und,rp,rok,uok⟩
  have ei:(0:Int)+(i:Int)=(i:Int):=Int.zero_add _
  have hi':i < h:=by ac_nf
  have rl:rows.length<=144:=by
   have a1:=congrArg List.length rp
   rw [length_map] at a1
   have a2:=Gm (h:=h) (n:=i) (by ac_nf)
   have a3:i*h<=12*12:=Nat.mul_le_mul (by ac_nf) h12
   omega
  and_intros
  refine ⟨c,cs,h,i,AZ ls,(by rw [ei];rfl),sm.lst ec,tc.sm sm,hi',h12,lt5,fun t bb f be bf H6 sm6 sq6 lq6 ht hbb hff bfn et ebb eff re=>?_⟩
  have bsh:bb≠sh:=fun z=>by rw [z,esh] at hbb;cases hbb
  have bsg:bb≠sg:=fun z=>by rw [z,esg] at hbb;cases hbb
  have nbu:bb ∉ us.map (·.1):=fun m=>by
   obtain ⟨r,mr,e⟩:=mem_map.mp m
   obtain ⟨k,hk⟩:=List.getElem?_of_mem mr
   have:=(uok k r hk).2.2.1
   rw [e,hbb] at this
   cases this
  have esh:=sm6.lst esh
  have esg:=sm6.lst esg
  and_intros
  refine ⟨.inl ⟨rfl,_,SqL.of esh⟩,?_⟩
  and_intros
  refine ⟨t,h,i,AZ ls,be,(by rw [ei];rfl),⟨bb,f,bf,et,ebb,eff,re⟩,hi',h12,fun r2 rows2 H7 hr2 s7 e7 ok7 mp7=>?_⟩
  have esh7:=s7 _ _ esh
  have esg7:=s7 _ _ esg
  have r2l:rows2.length<=12:=by
   have a1:=congrArg List.length mp7
   rw [length_map,length_map] at a1
   have:(Iw h i).length<=h:=Nat.le_trans (length_filter_le _ _) (by rw [length_range];exact Nat.le_refl _)
   omega
  refine ⟨sh,r2,_,_,rfl,rfl,esh7,e7,(by rw [LJ,LJ];exact Nat.le_of_lt (A9 (by ac_nf))),?_⟩
  rw [<- KQ]
  have t8:∀{z:Addr} {xs:List V},H7 z=some (.tup xs)->(upd H7 sh (.lst (vrw (rows++rows2)))) z=some (.tup xs):=fun e=>by rw [Aj (fun y=>by rw [y,esh7] at e;cases e)];exact e
  have l8:∀{z:Addr} {xs:List V},z≠sh->H7 z=some (.lst xs)->(upd H7 sh (.lst (vrw (rows++rows2)))) z=some (.lst xs):=fun n e=>by rw [Aj n];exact e
  have esh8:(upd H7 sh (.lst (vrw (rows++rows2)))) sh=some (.lst (vrw (rows++rows2))):=Ab
  have sm8:=((sm.trans sm6).trans (Sm.of s7)).put (o:=.lst (vrw (rows++rows2))) hsh
  have sq8:Cd ad.lP h H2->Av H2 (upd H7 sh (.lst (vrw (rows++rows2)))):=fun z=>A3 (((sq z).trans (sq6 (z.same (sq z)))).trans s7) hsh
  have lq8:Cd ad.lP h (upd H7 sh (.lst (vrw (rows++rows2)))):=(lq6.same s7).put esh7
  generalize upd H7 sh (.lst (vrw (rows++rows2)))=H8 at t8 l8 esh8 sm8 sq8 lq8 ⊢
  have esg8:=l8 ss esg7
  have et8:=t8 (s7 _ _ et)
  and_intros
  refine ⟨.inl ⟨rfl,_,SqL.of esg8⟩,?_⟩
  and_intros
  refine ⟨sg,_,_,rfl,rfl,esg8,(by rw [length_map];exact A9 (by ac_nf)),?_⟩
  have t9:∀{z:Addr} {xs:List V},H8 z=some (.tup xs)->(upd H8 sg (.lst (us.map (fun r=>V.ref r.1)++[V.ref bb]))) z=some (.tup xs):=fun e=>by rw [Aj (fun y=>by rw [y,esg8] at e;cases e)];exact e
  have l9:∀{z:Addr} {xs:List V},z≠sg->H8 z=some (.lst xs)->(upd H8 sg (.lst (us.map (fun r=>V.ref r.1)++[V.ref bb]))) z=some (.lst xs):=fun n e=>by rw [Aj n];exact e
  refine ⟨_,_,rows++rows2,us++[(bb,be)],rfl,sm8.put hsg2,(fun z=>A3 (sq8 z) hsg2),(lq8.put esg8).1,(fun _=>lq8.put esg8),l9 (Ne.symm ss) esh8,by rw [Ab,map_append];rfl,by rw [length_append,ul];rfl,?_,by rw [map_append,rp,mp7,Fd],fun q0 m=>?_,fun k r e=>?_⟩
  ·rw [map_append]
   exact nodup_append.mpr ⟨und,by simp,fun x mx y my e=>nbu (by rw [<- show y=bb from mem_singleton.mp my,<- e];exact mx)⟩
  ·rcases mem_append.mp m with m | m
   ·obtain ⟨r0,r1,r3,r4⟩:=rok q0 m
    have r0:=(r0.sm sm6).same s7
    have r0:=r0.congr (F':=fU (us++[(bb,be)])) fun y _=>(QM (by ac_nf) y).symm
    exact ⟨⟨t9 (t8 r0.tup),l9 r4 (l8 r3 r0.way),r0.hx,r0.hy,r0.ne,r0.str,r0.isw,r0.cutE⟩,by ac_nf,r3,r4⟩
   ·obtain ⟨r0,r1,r3,r4⟩:=ok7 q0 m
    have r5:q0.w≠sh:=fun z=>by rw [z,esh] at r4;cases r4
    have r6:q0.w≠sg:=fun z=>by rw [z,esg] at r4;cases r4
    have r0:=r0.congr (F':=fU (us++[(bb,be)])) fun y _=>by rw [r1,<- ul];exact (Qv (us:=us) (r:=(bb,be)) y).symm
    exact ⟨⟨t9 (t8 r0.tup),l9 r6 (l8 r5 r0.way),r0.hx,r0.hy,r0.ne,r0.str,r0.isw,r0.cutE⟩,by ac_nf,r5,r6⟩
  ·by_cases cc:k < us.length
   ·rw [List.getElem?_append_left cc] at e
    obtain ⟨u1,u2,u3,u4⟩:=uok k r e
    exact ⟨u1,u2,l9 u2 (l8 u1 (s7 _ _ (sm6.lst u3))),u4⟩
   ·rw [List.getElem?_append_right (by ac_nf)] at e
    have ek:k=i:=by
     have:=(List.getElem?_eq_some_iff.mp e).1
     rw [length_singleton] at this
     omega
    rw [ek,ul,Nat.sub_self] at e
    cases Option.some.inj e
    exact ⟨bsh,bsg,l9 bsg (l8 bsh (s7 _ _ ebb)),bf,by rw [ek];exact re⟩
 ·rintro σ' H5 ⟨v6,v7,rows,us,rfl,sm,sq,lt5,lq5,esh,esg,ul,und,rp,rok,uok⟩
  rw [Int.toNat_natCast] at ul rp lq5
  have tu:Ba H5 (us.map (·.1)) h (fU us):=⟨by rw [length_map,ul],und,fun x z hz=>by
   rw [List.getElem?_map] at hz
   obtain ⟨r,hr0,rfl⟩:=Option.map_eq_some_iff.mp hz
   obtain ⟨_,_,u3,bf,re⟩:=uok x r hr0
   rw [O5 hr0 re.lenb]
   exact u3⟩
  have st:AO h (AZ ls) (fU us):=fun x hx=>by
   obtain ⟨r,hr0⟩:∃r,us[x]?=some r:=⟨_,List.getElem?_eq_getElem (by ac_nf)⟩
   obtain ⟨_,_,_,bf,re⟩:=uok x r hr0
   exact ⟨bf,by rw [O5 hr0 re.lenb];exact re⟩
  have smH:=(Sm.of s2).trans sm
  have md5:=md.sm smH
  obtain ⟨dx5,la5,k15,k25⟩:=id md5.is
  and_intros
  refine ⟨a,dx5,_,rfl,k15,rfl,?_⟩
  and_intros
  refine ⟨a,sg,us.map (·.1),h,s,ns,AZ ls,fU us,rfl,md5,(by rw [esg,map_map];rfl),tu,st,fun pk H6 hpk s6 epk=>?_⟩
  refine ⟨(by show 3<=sizeLine;decide),fun p hp=>?_⟩
  have s7:=Af hp (.tup [V.ref b,V.ref sh,V.ref pk])
  have s67:=s6.trans s7
  exact q p (fU us) _ (smH.trans (Sm.of s67)) (fun z=>((s2.trans (sq (z.same s2))).trans s67)) ((lq5 h1).same s67) (smH.gone p (none_of s6 hp)) ⟨⟨b,sh,pk,as,rows,Ab,s67 _ _ (sm.lst eb),(tb.sm sm).same s67,s67 _ _ esh,fun q0 m=>(rok q0 m).1.same s67,rp,s7 _ _ epk⟩,st⟩
theorem Ex (T:Tx K mg base ad):AI P w K mg base CX0 5 ad.f_Way_outcome ad.d_Way_outcome ["self","sheet"] (Qr ad.c_Pairs ad.lP):=by
 refine T.F_Way_outcome.ok Hc (fun vs H Q E h=>?_) (fun cdv A outer s H vs Q E hr h=>?_)
 ·obtain ⟨a,l,h,s,ns,ls,rfl,_⟩:=h
  rfl
 obtain ⟨a,l,h,s,ns,ls,rfl,md,hl,gl,l60,lt,q⟩:=h
 refine ⟨_,(@Ah _ _ _ (@Aq _ _ _ _ (C8 (pv 0) T.cl_Pairs T.me_Pairs_told_by (Fu T) (hr.mono (by decide)) T.b_Pairs_told_by .nil Aw (@Aa _ _ _ _ _ (C8 (pv 0) T.cl_Pairs T.me_Pairs_counted (Fv T) (hr.mono (by decide)) T.b_Pairs_counted .nil Aw (@Aa _ _ _ _ _ (pv 1) Ac (by rfl))) Ac (by rfl))))),?_⟩
 obtain ⟨dx,la,k1,k2⟩:=id md.is
 refine ⟨_,rfl,a,dx,_,rfl,k1,rfl,?_⟩
 refine ⟨_,rfl,a,dx,_,rfl,k1,rfl,_,rfl,a,l,h,s,ns,ls,rfl,md,hl,gl,l60,lt,fun p F H1 sm sq lq hp pap=>?_⟩
 exact ⟨a,p,h,s,ns,ls,F,rfl,md.sm sm,pap,fun r H2 hr s2 e2=>q r F H2 (sm.trans (Sm.of s2)) (fun z=>(sq z).trans s2) (lq.same s2) e2 pap.strong⟩
theorem Ep (T:Tx K mg base ad):AI P w K mg base CX0 6 ad.f_PairsMargin_least ad.d_PairsMargin_least ["self","sheet"] (Na ad.c_PairsMargin ad.c_Pairs ad.lP):=by
 refine T.F_PairsMargin_least.ok AB (fun vs H Q E h=>?_) (fun cdv A outer s H vs Q E hr h=>?_)
 ·obtain ⟨g,a,l,h,s,ns,ls,rfl,_⟩:=h
  rfl
 obtain ⟨g,a,l,h,s,ns,ls,rfl,im,md,sh,hl,gl,l60,lt,q⟩:=h
 refine ⟨_,(@Ae _ _ _ _ _ (@At _ _ (2) _ _ _ _ AB.nd rfl (Or.inr rfl) (C8 (pv 0) T.cl_PairsMargin T.me_PairsMargin_leads_in (DU T) (hr.mono (by decide)) T.b_PairsMargin_leads_in .nil Aw (@Aa _ _ _ _ _ (pv 1) Ac (by rfl))) (by rfl) (by first | exact .inl rfl | exact .inr rfl | assumption)) (@Ae _ _ _ _ _ (Di (j:=3) (fsc:=Ad AA) (N:=["self","sheet","leads","reached","paper","x","y","needed"]) (Nc:=["self","sheet","leads","reached","paper","x","y","needed","hand"]) rfl rfl ⟨rfl,by decide +kernel,by decide +kernel,rfl,by decide +kernel,rfl,by decide +kernel,rfl,by decide +kernel⟩ rfl AB.nd rfl rfl (A1 rfl T.z_range (@Aa _ _ _ _ _ (Bo (Bo (pv 0) rfl) rfl) Ac (by rfl))) (fun _ _ _ _=>AK) (fun _ _ _ _=>(@Ai _ _ _ _ _ _ _ _ _ _ _ _ _ _ _ _ (Eh T) (hr.mono (by decide)) rfl T.m_reached_from T.F_reached_from.kp T.b_reached_from .nil Aw (@Aa _ _ _ _ _ (pv 2) (@Aa _ _ _ _ _ (pv 8) Ac (by rfl)) (by rfl)) (by decide) (by rfl) (by rfl))) rfl) (@Ae _ _ _ _ _ (@At _ _ (4) _ _ _ _ AB.nd rfl (Or.inl rfl) (@BM _ _ _ _ Ac) (by rfl) (by first | exact .inl rfl | exact .inr rfl | assumption)) (@Ae _ _ _ _ _ (Be PassesOwn.never rfl (AJ (@Ai _ _ _ _ _ _ _ _ _ _ _ _ _ _ _ _ (EY T) (hr.mono (by decide)) rfl T.m_pairs_by_seats T.F_pairs_by_seats.kp T.b_pairs_by_seats .nil Aw (@Aa _ _ _ _ _ (C8 (Bo (pv 0) rfl) T.cl_Pairs T.me_Pairs_outcome (Ex T) (hr.mono (by decide)) T.b_Way_outcome .nil Aw (@Aa _ _ _ _ _ (pv 1) Ac (by rfl))) Ac (by rfl)) (by decide) (by rfl) (by rfl))) (DY rfl (AC (A0 (i:=5) AB.nd rfl (Or.inl rfl)) (AC (A0 (i:=6) AB.nd rfl (Or.inl rfl)) Dn))) (@Ae _ _ _ _ _ (@At _ _ (7) _ _ _ _ AB.nd rfl (Or.inl rfl) (C8 (pv 0) T.cl_PairsMargin T.me_PairsMargin_need_of (Ed T) (hr.mono (by decide)) T.b_PairsMargin_need_of .nil Aw (@Aa _ _ _ _ _ (pv 5) (@Aa _ _ _ _ _ (pv 6) (@Aa _ _ _ _ _ (@Am _ _ _ _ _ _ _ Al (@Am _ _ _ _ _ _ _ Bl (@Am _ _ _ _ _ _ _ Al (pv 3) (pv 5) (fun _ _=>rfl)) Ag (fun _ _=>rfl)) (pv 6) (fun _ _=>rfl)) (@Aa _ _ _ _ _ (@Am _ _ _ _ _ _ _ Al (@Am _ _ _ _ _ _ _ Bl (@Am _ _ _ _ _ _ _ Al (pv 3) (pv 6) (fun _ _=>rfl)) Ag (fun _ _=>rfl)) (pv 5) (fun _ _=>rfl)) Ac (by rfl)) (by rfl)) (by rfl)) (by rfl))) (by rfl) (by first | exact .inl rfl | exact .inr rfl | assumption)) (@Ah _ _ _ (@CB _ _ _ _ (CW PySem.F.plainAttrs_list PySem.F.slot_list_append PySem.F.type_list_append Cw (pv 4) (@Aa _ _ _ _ _ (@BY _ _ _ _ _ (@Aa _ _ _ _ _ (pv 5) (@Aa _ _ _ _ _ (pv 6) (@Aa _ _ _ _ _ (@Ai _ _ _ _ _ _ _ _ _ _ _ _ _ _ _ _ (HJ T) (hr.mono (by decide)) rfl T.m_way_by T.F_way_by.kp T.b_way_by .nil Aw (@Aa _ _ _ _ _ (@Am _ _ _ _ _ _ _ Al (pv 3) (pv 5) (fun _ _=>rfl)) (@Aa _ _ _ _ _ (pv 5) (@Aa _ _ _ _ _ (pv 6) Ac (by rfl)) (by rfl)) (by rfl)) (by decide) (by rfl) (by rfl)) (@Aa _ _ _ _ _ (@Ai _ _ _ _ _ _ _ _ _ _ _ _ _ _ _ _ (HP T) (hr.mono (by decide)) rfl T.m_cut_by T.F_cut_by.kp T.b_cut_by .nil Aw (@Aa _ _ _ _ _ (@Am _ _ _ _ _ _ _ Al (pv 3) (pv 6) (fun _ _=>rfl)) (@Aa _ _ _ _ _ (pv 6) (@Aa _ _ _ _ _ (pv 5) Ac (by rfl)) (by rfl)) (by rfl)) (by decide) (by rfl) (by rfl)) (@Aa _ _ _ _ _ (pv 7) Ac (by rfl)) (by rfl)) (by rfl)) (by rfl)) (by rfl))) Ac (by rfl))) (by rfl))))) (@Ah _ _ _ (@Aq _ _ _ _ (@BY _ _ _ _ _ (@Aa _ _ _ _ _ (@Ao _ _ _ _ _ _ _ _ _ (Fz rfl) (by rfl) T.z_min PyProof.Rows.boot_min (@Aa _ _ _ _ _ (B7 (fsc:=Ad AA) (N:=["self","sheet","leads","reached","paper","x","y","needed"]) (Nc:=["self","sheet","leads","reached","paper","x","y","needed","row"]) rfl rfl ⟨rfl,by decide +kernel,by decide +kernel,rfl,by decide +kernel,rfl,by decide +kernel,rfl,by decide +kernel⟩ rfl (AJ (pv 4)) (fun _ _ _ _=>AK) (fun _ _ _ _=>(@Am _ _ _ _ _ _ _ (Gy K) (pv 8) Ag (fun _ _=>rfl)))) Ac (by rfl)) (by decide) (by decide) (by rfl) (by rfl)) (@Aa _ _ _ _ _ (pv 4) Ac (by rfl)) (by rfl))))))))),?_⟩
 obtain ⟨dm,hg⟩:=id im
 obtain ⟨dx,la,k1,k2⟩:=id md.is
 have h1:=md.h1
 have h12:=md.h12
 and_intros
 refine ⟨g,dm,_,rfl,hg,rfl,?_⟩
 and_intros
 refine ⟨g,a,l,h,s,ns,ls,rfl,im,md,hl,gl,l60,fun b bs H1 s1 eb tb=>?_⟩
 and_intros
 refine ⟨g,_,dm,_,_,rfl,s1 _ _ hg,T.cl_PairsMargin,T.na_PairsMargin_way,rfl,?_⟩
 refine ⟨a,_,dx,_,_,rfl,s1 _ _ k1,T.cl_Pairs,T.na_Pairs_hands,rfl,?_⟩
 refine ⟨_,rfl,by ac_nf,by ac_nf,?_⟩
 rw [Int.toNat_natCast]
 refine Bv (AH (by ac_nf)) (fun D i ys J=>∃rq:List (Addr × List Int),ys=(rq.map fun q=>V.ref q.1)/\rq.length=i/\J D=some (.lst ys)/\Sm H1 J/\(Cd ad.lP h H1->Av H1 J)/\LT ad.lP J/\(0 < i->Cd ad.lP h J)/\∀x r,rq[x]?=some r->Fr (off J D) r.1 h x (AZ ls) r.2) (fun D hD=>⟨[],rfl,rfl,Ab,Sm.of (Af hD _),(fun _=>Af hD _),(lt.same s1).same (Af hD _),(fun z=>absurd z (Nat.lt_irrefl 0)),fun x r e=>by cases e⟩) (fun D i ys J hq_=>by obtain ⟨rq,f1,f2,f3,_⟩:=hq_;exact ⟨f3,by rw [f1,length_map,f2];exact Nat.le_refl _⟩) ?_ ?_
 ·rintro D i ys J K1 K2 hD hi ⟨rq,rfl,f2,f3,f4,f5,f6,f7,f8⟩ kk1 kk2
  have ei:(0:Int)+(i:Int)=(i:Int):=Int.zero_add _
  refine yes (ifT rfl ?_)
  and_intros
  refine ⟨b,bs,h,i,AZ ls,(by rw [ei];rfl),f4.lst eb,tb.sm f4,hi,h12,f6,fun t bb f be bf H6 sm6 sq6 lq6 ht hbb hff bfn et ebb eff re=>?_⟩
  have tD:t≠D:=fun z=>by rw [z,f3] at ht;cases ht
  have bD:bb≠D:=fun z=>by rw [z,f3] at hbb;cases hbb
  have fD:f≠D:=fun z=>by rw [z,f3] at hff;cases hff
  have f36:=sm6.lst f3
  refine kk1 _ _ f36 ⟨rq++[(t,be)],by rw [map_append];rfl,by rw [length_append,f2];rfl,Ab,(f4.trans sm6).put hD,(fun z=>A3 ((f5 z).trans (sq6 (z.same (f5 z)))) hD),(lq6.put f36).1,(fun _=>lq6.put f36),fun x r e=>?_⟩
  rw [Jb]
  by_cases cc:x < rq.length
  ·rw [List.getElem?_append_left cc] at e
   exact (f8 x r e).on (OH sm6.keep)
  ·rw [List.getElem?_append_right (by ac_nf)] at e
   have ex:x=i:=by
    have:=(List.getElem?_eq_some_iff.mp e).1
    rw [length_singleton] at this
    omega
   subst ex
   rw [show x - rq.length=0 by ac_nf] at e
   cases e
   exact ⟨bb,f,bf,Dp et tD,Dp ebb bD,Dp eff fD,re⟩
 rintro D ys H2 hD ⟨rq,rfl,f2,f3,f4,f5,f6,f7,f8⟩
 have lq2:=f7 (by ac_nf)
 have told:∀x r,rq[x]?=some r->Fr H2 r.1 h x (AZ ls) r.2:=fun x r e=>(f8 x r e).same (FX _ _)
 clear f8
 subst_eqs
 refine ⟨(by show 0<=sizeLine;decide),fun pp hpp=>?_⟩
 have s3:=Af hpp (.lst [])
 have e3:(upd H2 pp (.lst [])) pp=some (.lst (vrm [])):=Ab
 generalize upd H2 pp (.lst [])=H3 at s3 e3 ⊢
 have sm3:Sm H H3:=((Sm.of s1).trans f4).trans (Sm.of s3)
 have sq3:Cd ad.lP h H->Av H H3:=fun z=>(s1.trans (f5 (z.same s1))).trans s3
 have im3:=im.sm sm3
 obtain ⟨dm3,hg3⟩:=id im3
 have md3:=md.sm sm3
 obtain ⟨dx3,la3,k13,k23⟩:=id md3.is
 have gl3:DO h H3 ls:=fun q m=>⟨sm3.tup (gl q m).1,sm3.tup (gl q m).2.1,(gl q m).2.2⟩
 and_intros
 refine ⟨g,_,dm3,_,_,rfl,hg3,T.cl_PairsMargin,T.na_PairsMargin_way,rfl,?_⟩
 refine ⟨a,dx3,_,rfl,k13,rfl,?_⟩
 and_intros
 refine ⟨a,l,h,s,ns,ls,rfl,md3,sm3.lst hl,gl3,l60,(lq2.same s3).1,fun r F H4 sm4 sq4 lq4 er st=>?_⟩
 have s34:=sq4 (lq2.same s3)
 refine ⟨r,BV h (Ay F s ns),rfl,er,by rw [Ew];omega,fun pl ps H5 hpl s5 ep gp em=>?_⟩
 have s35:=s34.trans s5
 have s25:=s3.trans s35
 have e5:=s35 _ _ e3
 have f35:=s25 _ _ f3
 have im5:=im3.same s35
 have md5:=md3.same s35
 have told5:∀x r,rq[x]?=some r->Fr H5 r.1 h x (AZ ls) r.2:=fun x r e=>(told x r e).same s25
 have pln:ps.length<=144:=by
  have a1:=congrArg List.length em
  rw [length_map] at a1
  have a2:=DG (BV h (Ay F s ns)) (BV h (Ay F s ns)).length
  rw [Ew] at a2
  have a3:=Nat.mul_le_mul h12 h12
  unfold De at a1
  rw [Ew] at a1
  omega
 have nin:∀{i:Nat},i < h->(i:Int)∈ns:=fun hi=>md.pm.mem_iff.mpr (mem_map.mpr ⟨_,mem_range.mpr hi,rfl⟩)
 refine ⟨pl,rfl,⟨_,SqL.of ep⟩,Dt (xs:=vpq ps) (fun i σ' J=>∃(v5 v6 v7:Option V) (rows:List Rm),σ'=[some (.ref g),some (.ref l),some (.ref b),some (.ref D),some (.ref pp),v5,v6,v7]/\Av (off H5 pp) J/\Av H2 J/\J pp=some (.lst (vrm rows))/\(∀q∈rows,GJ h (AZ ls) F ns J q/\H2 q.w=none/\q.w≠pp)/\rows.map (fun q=>((q.x:Int),(q.y:Int)))=(ps.take i).map (·.2)) ⟨none,none,none,[],rfl,FX _ _,s25,e5,(fun _ m=>absurd m List.not_mem_nil),rfl⟩ (fun i σ' J _ hq_=>by obtain ⟨_,_,_,_,_,e,_⟩:=hq_;exact SqL.of (e _ _ (Dp ep fun z=>by rw [z,s34 _ _ e3] at hpl;cases hpl))) ?_ ?_⟩
 ·rintro i x σ' J hx ⟨v5,v6,v7,rows,rfl,sJ,sJ2,eP,gr,em2⟩
  obtain ⟨q0,hq0,ex⟩:∃q0,ps[i]?=some q0/\x=.ref q0.1:=by
   unfold vpq at hx
   rw [List.getElem?_map] at hx
   cases e:ps[i]? with
   | none=>rw [e] at hx;cases hx
   | some q0=>rw [e] at hx;exact ⟨q0,rfl,(Option.some.inj hx).symm⟩
  subst ex
  have mq:=mem_of_getElem? hq0
  obtain ⟨u,v,hu,hv,euv,mu,mv⟩:=E8.mp (show q0.2∈De (BV h (Ay F s ns)) by rw [<- em];exact mem_map.mpr ⟨q0,mq,rfl⟩)
  have uv:v≠u:=fun z=>mv (by rw [z];exact mu)
  have eq0:=gp q0 mq
  have q0p:q0.1≠pp:=DQ eq0 e5 (fun z=>by cases z)
  have eqJ:=sJ _ _ (Dp eq0 q0p)
  rw [show q0.2.1=(u:Int) from by rw [euv],show q0.2.2=(v:Int) from by rw [euv]] at eqJ
  have offJ:∀{z:Addr} {o:HO},H5 z=some o->z≠pp->J z=some o:=fun e n=>sJ _ _ (Dp e n)
  obtain ⟨ru,hru⟩:∃r,rq[u]?=some r:=⟨_,List.getElem?_eq_getElem (by ac_nf)⟩
  obtain ⟨rv,hrv⟩:∃r,rq[v]?=some r:=⟨_,List.getElem?_eq_getElem (by ac_nf)⟩
  have tu:Fr J ru.1 h u (AZ ls) ru.2:=(told u ru hru).same sJ2
  have tv:Fr J rv.1 h v (AZ ls) rv.2:=(told v rv hrv).same sJ2
  obtain ⟨bu,fu,bfu,u1,u2,u3,u4⟩:=id tu.is
  obtain ⟨bv,fv,bfv,w1,w2,w3,w4⟩:=id tv.is
  have cu:ru.2.getD v 0=F u v:=(st.at u4 hu hv).symm
  have cv:rv.2.getD u 0=F v u:=(st.at w4 hv hu).symm
  have lu:v < ru.2.length:=by rw [u4.lenb];exact hv
  have lv:u < rv.2.length:=by rw [w4.lenb];exact hu
  have au:ru.2[v]?=some (F u v):=by rw [<- cu,getD_eq_getElem?_getD,List.getElem?_eq_getElem lu];rfl
  have av:rv.2[u]?=some (F v u):=by rw [<- cv,getD_eq_getElem?_getD,List.getElem?_eq_getElem lv];rfl
  have eDJ:=sJ2 _ _ f3
  obtain ⟨dmJ,hgJ⟩:IsM ad.c_PairsMargin J g a:=(im.same s1).sm f4 |>.same sJ2
  have mdJ:Dh ad.c_Pairs J a h s ns:=((md.same s1).sm f4).same sJ2
  refine ⟨q0.1,_,rfl,SqT.of eqJ,rfl,_,_,rfl,_,_,rfl,rfl,?_⟩
  and_intros
  refine ⟨g,dmJ,_,rfl,hgJ,rfl,?_⟩
  and_intros
  refine ⟨D,_,_,_,rfl,rfl,SqL.of eDJ,C6 (by rw [List.getElem?_map,hru];rfl),?_⟩
  and_intros
  refine ⟨bu,_,_,_,rfl,rfl,SqL.of u2,atN au,?_⟩
  and_intros
  refine ⟨D,_,_,_,rfl,rfl,SqL.of eDJ,C6 (by rw [List.getElem?_map,hrv];rfl),?_⟩
  and_intros
  refine ⟨bv,_,_,_,rfl,rfl,SqL.of w2,atN av,?_⟩
  refine ⟨g,a,h,s,ns,(u:Int),(v:Int),F u v,F v u,rfl,⟨dmJ,hgJ⟩,mdJ.is,nin hu,nin hv,?_⟩
  rw [show N1 ns (u:Int) (v:Int) (F u v) (F v u)=Cg F ns (u:Int) (v:Int) from rfl]
  and_intros
  refine ⟨.inl ⟨rfl,_,SqL.of eP⟩,?_⟩
  and_intros
  refine ⟨D,_,_,_,rfl,rfl,SqL.of eDJ,C6 (by rw [List.getElem?_map,hru];rfl),?_⟩
  and_intros
  refine ⟨ru.1,h,u,v,AZ ls,ru.2,rfl,tu,hv,uv,h12,fun r2 ws G1 hr2 g1 er2 isw=>?_⟩
  and_intros
  refine ⟨D,_,_,_,rfl,rfl,SqL.of (g1 _ _ eDJ),C6 (by rw [List.getElem?_map,hrv];rfl),?_⟩
  and_intros
  refine ⟨rv.1,h,v,u,AZ ls,rv.2,rfl,tv.same g1,hv,hu,h12,fun G2 g2=>?_⟩
  and_intros
  refine ⟨(by show 5<=sizeLine;decide),fun t ht=>?_⟩
  have g12:=g1.trans g2
  have g3:=Af ht (.tup [V.int (u:Int),V.int (v:Int),V.ref r2,V.int (A4 h (Ev v u rv.2)),V.int (Cg F ns (u:Int) (v:Int))])
  have et:(upd G2 t (.tup [V.int (u:Int),V.int (v:Int),V.ref r2,V.int (A4 h (Ev v u rv.2)),V.int (Cg F ns (u:Int) (v:Int))])) t=some (.tup [V.int (u:Int),V.int (v:Int),V.ref r2,V.int (A4 h (Ev v u rv.2)),V.int (Cg F ns (u:Int) (v:Int))]):=Ab
  have g13:=g12.trans g3
  have eP3:=g13 _ _ eP
  have rl:rows.length<=144:=by
   have a1:=congrArg List.length em2
   rw [length_map,length_map] at a1
   have:=length_take_le i ps
   rw [length_take] at a1
   omega
  refine ⟨pp,_,_,rfl,rfl,eP3,(by rw [show (vrm rows).length=rows.length from length_map _];exact A9 (by ac_nf)),?_⟩
  refine ⟨_,_,_,rows++[⟨t,u,v,r2,ws,Ev v u rv.2,Cg F ns (u:Int) (v:Int)⟩],rfl,Dx (sJ.trans g13),A3 (sJ2.trans g13) hpp,by rw [Ab];unfold vrm;rw [map_append];rfl,?_,?_⟩
  ·intro q m
   rcases mem_append.mp m with m | m
   ·obtain ⟨a1,a2,a3⟩:=gr q m
    exact ⟨(a1.same g13).upd eP3 a3,a2,a3⟩
   ·rw [mem_singleton.mp m]
    have rp:r2≠pp:=fun z=>by rw [z,eP] at hr2;cases hr2
    refine ⟨GJ.upd eP3 rp ⟨et,(g2.trans g3) _ _ er2,by rw [<- cu];exact isw,hu,hv,decide_eq_false fun z=>z.elim (fun z=>uv z.symm) (fun z=>Int.lt_irrefl _ z),decide_eq_true (.inl rfl),fun i j hi hj gi gj=>?_,?_,rfl⟩,none_of sJ2 hr2,rp⟩
    ·have gj:=of_decide_eq_false gj
     show AZ ls i j<=F v u
     rw [<- cv]
     exact w4.cut hi hj (of_decide_eq_true gi) ⟨fun z=>gj (.inl z),Int.not_lt.mp fun z=>gj (.inr z)⟩
    ·obtain ⟨i,j,a1,a2,a3,a4,a5⟩:=w4.edge hu (Ne.symm uv)
     exact ⟨i,j,a1,a2,a3,a4,a5.trans cv⟩
  ·rw [map_append,em2,take_succ,hq0,map_append]
   show _++[((u:Int),(v:Int))]=_++[q0.2]
   rw [euv]
 rintro σ' J ⟨v5,v6,v7,rows,rfl,sJ,sJ2,eP,gr,em2⟩
 rw [D1,take_length] at em2
 have rl:rows.length=ps.length:=by
  have:=congrArg List.length em2
  rwa [length_map,length_map] at this
 have vl:(vrm rows).length=rows.length:=length_map _
 and_intros
 refine ⟨⟨_,SqL.of eP⟩,?_⟩
 refine AS (xs:=vrm rows) (by rw [vl];exact Nat.le_of_lt (A9 (by ac_nf))) (fun D2 i ys G=>ys=((rows.take i).map (·.nd)).map V.int/\G=upd J D2 (.lst ys)) (fun D2 hD2=>⟨rfl,rfl⟩) (fun D2 i ys G hq_=>by obtain ⟨g1,g2⟩:=hq_;exact ⟨by rw [g2];exact Ab,by rw [g1,length_map,length_map];exact length_take_le _ _⟩) (fun D2 i ys G hD2 hq_=>by obtain ⟨_,g2⟩:=hq_;rw [g2];exact SqL.of (Af hD2 _ _ _ eP)) ?_ ?_
 ·rintro D2 i x ys G K1 K2 hD2 hx ⟨g1,rfl⟩ kk1 kk2
  obtain ⟨q0,hq0,ex⟩:∃q0,rows[i]?=some q0/\x=.ref q0.t:=by
   unfold vrm at hx
   rw [List.getElem?_map] at hx
   cases e:rows[i]? with
   | none=>rw [e] at hx;cases hx
   | some q0=>rw [e] at hx;exact ⟨q0,rfl,(Option.some.inj hx).symm⟩
  subst ex
  have qt:=(gr q0 (mem_of_getElem? hq0)).1.tup
  refine yes (ifT rfl ?_)
  refine ⟨_,rfl,q0.t,_,_,_,rfl,rfl,SqT.of (Af hD2 _ _ _ qt),rfl,?_⟩
  refine kk1 _ _ Ab ⟨?_,by rw [B3]⟩
  rw [g1,take_succ,hq0,map_append,map_append]
  rfl
 rintro D2 ys G hD2 ⟨rfl,rfl⟩
 rw [vl,take_length]
 have np:=HL st md.pm md.s1 sh
 rw [<- em] at np
 have pos:0 < ps.length:=length_pos_iff.mpr fun z=>np (by rw [z];rfl)
 refine ⟨D2,rows.map (·.nd),rfl,SqL.of Ab,by rw [length_map];omega,fun M mM lM=>?_⟩
 have s6:=Af hD2 (.lst ((rows.map (·.nd)).map V.int))
 generalize upd J D2 (.lst ((rows.map (·.nd)).map V.int))=J2 at s6 ⊢
 and_intros
 refine ⟨(by show 2<=sizeLine;decide),fun t ht=>?_⟩
 have s7:=s6.trans (Af ht (.tup [V.int M,V.ref pp]))
 rw [em] at em2
 have nH:∀{z:Addr},H2 z=none->H z=none:=fun {z} e=>none_of s1 (f4.gone z e)
 refine q t pp rows F M _ ((((Sm.of s1).trans f4).trans (Sm.of sJ2)).trans (Sm.of s7)) (fun z=>((s1.trans (f5 (z.same s1))).trans sJ2).trans s7) ((lq2.same sJ2).same s7) Ab (nH hpp) (s7 _ _ eP) (fun q m=>⟨(gr q m).1.same s7,nH (gr q m).2.1,(gr q m).2.2⟩) em2 st mM fun q m=>lM _ (mem_map.mpr ⟨q,m,rfl⟩)
theorem E5 (T:Tx K mg base ad):AI P w K mg base CX0 7 ad.f_law_told ad.d_law_told ["_law_margin","_law_sheet_here","_law_hands","_law_lots_here"] (NO ad.c_PairsMargin ad.c_Pairs ad.lP):=by
 refine T.F_law_told.ok BS (fun vs H Q E h=>?_) (fun cdv A outer s H vs Q E hr h=>?_)
 ·obtain ⟨g,a,l,lo,h,s,os,ls,rfl,_⟩:=h
  rfl
 obtain ⟨g,a,l,lo,h,s,os,ls,rfl,im,md,sh,hl,gs,okl,l60,hlo,lt,X0,big,q⟩:=h
 refine ⟨_,(@Ae _ _ _ _ _ (@At _ _ (4) _ _ _ _ BS.nd rfl (Or.inr rfl) (C8 (Bo (pv 0) rfl) T.cl_Pairs T.me_Pairs_outcome (Ex T) (hr.mono (by decide)) T.b_Way_outcome .nil Aw (@Aa _ _ _ _ _ (@BK _ _ _ _ _ _ _ _ _ BD (by rfl) T.z_list PyProof.Rows.boot_list (@Aa _ _ _ _ _ (pv 1) Ac (by rfl)) (by decide) (by decide) (by rfl) (by rfl)) Ac (by rfl))) (by rfl) (by first | exact .inl rfl | exact .inr rfl | assumption)) (@Ae _ _ _ _ _ (@At _ _ (5) _ _ _ _ BS.nd rfl (Or.inl rfl) (@BM _ _ _ _ Ac) (by rfl) (by first | exact .inl rfl | exact .inr rfl | assumption)) (@Ae _ _ _ _ _ (Be PassesOwn.never rfl (A1 rfl T.z_range (@Aa _ _ _ _ _ (pv 2) Ac (by rfl))) (A0 (i:=6) BS.nd rfl (Or.inr rfl)) (@Ah _ _ _ (@At _ _ (5) _ _ _ _ BS.nd rfl (Or.inl rfl) (@Ak _ _ _ _ _ _ _ _ Nu (pv 5) (B7 (fsc:=Ad BX) (N:=["_law_margin","_law_sheet_here","_law_hands","_law_lots_here","_law_outcome","_law_due","_law_x","_law_lent","_law_found"]) (Nc:=["_law_margin","_law_sheet_here","_law_hands","_law_lots_here","_law_outcome","_law_due","_law_x","_law_lent","_law_found","_law_y"]) rfl rfl ⟨rfl,by decide +kernel,by decide +kernel,rfl,by decide +kernel,rfl,by decide +kernel,rfl,by decide +kernel⟩ rfl (A1 rfl T.z_range (@Aa _ _ _ _ _ (pv 2) Ac (by rfl))) (fun _ _ _ _=>(ED (PW.pt (@DE _ _ _ _ _ _ _ (@As _ _ _ _ _ _ _ _ Ef (@Am _ _ _ _ _ _ _ (Bn K) (pv 4) (pv 6) (fun _ _=>rfl)) Ag (Au _)) (@Dj _ _ _ _ (@As _ _ _ _ _ _ _ _ CD (@Am _ _ _ _ _ _ _ (Bn K) (pv 4) (pv 9) (fun _ _=>rfl)) Ag (Au _))))))) (fun _ _ _ _=>(@BY _ _ _ _ _ (@Aa _ _ _ _ _ (pv 6) (@Aa _ _ _ _ _ (pv 9) Ac (by rfl)) (by rfl)))))) (by rfl) (by first | exact .inl rfl | exact .inr rfl | assumption)))) (@Ae _ _ _ _ _ (@At _ _ (7) _ _ _ _ BS.nd rfl (Or.inl rfl) (@BK _ _ _ _ _ _ _ _ _ BD (by rfl) T.z_list PyProof.Rows.boot_list (@Aa _ _ _ _ _ (pv 1) Ac (by rfl)) (by decide) (by decide) (by rfl) (by rfl)) (by rfl) (by first | exact .inl rfl | exact .inr rfl | assumption)) (@Ae _ _ _ _ _ (@Bs _ _ _ _ _ _ _ _ (@As _ _ _ _ _ _ _ _ OK (C8 (pv 0) T.cl_PairsMargin T.me_PairsMargin_possible (EM T) (hr.mono (by decide)) T.b_Margin_possible .nil Aw (@Aa _ _ _ _ _ (pv 7) Ac (by rfl))) Cp (Au _)) (@Ah _ _ _ (@Aq _ _ _ _ D9)) A2) (@Ae _ _ _ _ _ (@At _ _ (8) _ _ _ _ BS.nd rfl (Or.inl rfl) (C8 (pv 0) T.cl_PairsMargin T.me_PairsMargin_least (Ep T) (hr.mono (by decide)) T.b_PairsMargin_least .nil Aw (@Aa _ _ _ _ _ (pv 7) Ac (by rfl))) (by rfl) (by first | exact .inl rfl | exact .inr rfl | assumption)) (@Ae _ _ _ _ _ (@Bs _ _ _ _ _ _ _ _ (PW.pt (@Cv _ _ _ _ _ _ _ (@As _ _ _ _ _ _ _ _ (FQ (K:=K) hr.units) (pv 7) (pv 1) (Au _)) (@Cv _ _ _ _ _ _ _ (@Bw _ _ _ _ (@By _ _ _ (@Ao _ _ _ _ _ _ _ _ _ C5 (by rfl) T.z_isinstance PyProof.Rows.boot_isinstance (@Aa _ _ _ _ _ (pv 8) (@Aa _ _ _ _ _ (Dm (v:=.ty "tuple") rfl T.z_tuple PyProof.Rows.boot_tuple rfl) Ac (by rfl)) (by rfl)) (by decide) (by decide) (by rfl) (by rfl)) (by intro _;rfl))) (@Cv _ _ _ _ _ _ _ (@As _ _ _ _ _ _ _ _ Dv (@Ao _ _ _ _ _ _ _ _ _ Ax (by rfl) T.z_len PySem.boot_len (@Aa _ _ _ _ _ (pv 8) Ac (by rfl)) (by decide) (by decide) (by rfl) (by rfl)) Ag (Au _)) (@Du _ _ _ _ (@Bw _ _ _ _ (@By _ _ _ (@Ai _ _ _ _ _ _ _ _ _ _ _ _ _ _ _ _ (Cb T) (hr.mono (by decide)) rfl T.m_law_whole T.F_law_whole.kp T.b_law_whole .nil Aw (@Aa _ _ _ _ _ (@Am _ _ _ _ _ _ _ Bl (pv 8) Ag (fun _ _=>rfl)) Ac (by rfl)) (by decide) (by rfl) (by rfl)) (by intro _;rfl)))))))) (@Ah _ _ _ (@Aq _ _ _ _ D9)) A2) (@Ae _ _ _ _ _ (@Bs _ _ _ _ _ _ _ _ (@Bw _ _ _ _ (@By _ _ _ (@Ai _ _ _ _ _ _ _ _ _ _ _ _ _ _ _ _ (ER T) (hr.mono (by decide)) rfl T.m_law_paper_right T.F_law_paper_right.kp T.b_law_paper_right .nil Aw (@Aa _ _ _ _ _ (@Am _ _ _ _ _ _ _ Bl (pv 8) Ag (fun _ _=>rfl)) (@Aa _ _ _ _ _ (pv 5) (@Aa _ _ _ _ _ (@Ai _ _ _ _ _ _ _ _ _ _ _ _ _ _ _ _ (IA T) (hr.mono (by decide)) rfl T.m_law_leads T.F_law_leads.kp T.b_law_leads .nil Aw (@Aa _ _ _ _ _ (pv 1) (@Aa _ _ _ _ _ (pv 2) Ac (by rfl)) (by rfl)) (by decide) (by rfl) (by rfl)) (@Aa _ _ _ _ _ (pv 3) Ac (by rfl)) (by rfl)) (by rfl)) (by rfl)) (by decide) (by rfl) (by rfl)) (by intro _;rfl))) (@Ah _ _ _ (@Aq _ _ _ _ D9)) A2) (@Ae _ _ _ _ _ (@Bs _ _ _ _ _ _ _ _ (@As _ _ _ _ _ _ _ _ Dv (@Am _ _ _ _ _ _ _ Bl (pv 8) Ag (fun _ _=>rfl)) (@Ao _ _ _ _ _ _ _ _ _ (Fz rfl) (by rfl) T.z_min PyProof.Rows.boot_min (@Aa _ _ _ _ _ (B7 (fsc:=Ad BX) (N:=["_law_margin","_law_sheet_here","_law_hands","_law_lots_here","_law_outcome","_law_due","_law_x","_law_lent","_law_found"]) (Nc:=["_law_margin","_law_sheet_here","_law_hands","_law_lots_here","_law_outcome","_law_due","_law_x","_law_lent","_law_found","_law_one"]) rfl rfl ⟨rfl,by decide +kernel,by decide +kernel,rfl,by decide +kernel,rfl,by decide +kernel,rfl,by decide +kernel⟩ rfl (AJ (@Am _ _ _ _ _ _ _ Bl (pv 8) Ag (fun _ _=>rfl))) (fun _ _ _ _=>AK) (fun _ _ _ _=>(@Am _ _ _ _ _ _ _ (Gy K) (pv 9) Ag (fun _ _=>rfl)))) Ac (by rfl)) (by decide) (by decide) (by rfl) (by rfl)) (Au _)) (@Ah _ _ _ (@Aq _ _ _ _ D9)) A2) (@Ah _ _ _ (@Aq _ _ _ _ (pv 8)))))))))))),?_⟩
 obtain ⟨dm,hg⟩:=id im
 obtain ⟨dx,la,k1,k2⟩:=id md.is
 have h1:=md.h1
 have h12:=md.h12
 and_intros
 refine ⟨g,_,dm,_,_,rfl,hg,T.cl_PairsMargin,T.na_PairsMargin_way,rfl,?_⟩
 refine ⟨a,dx,_,rfl,k1,rfl,?_⟩
 and_intros
 intro lb hlb
 have s1:=Af hlb (.lst (vls ls))
 have e1:(upd H lb (.lst (vls ls))) lb=some (.lst (vls ls)):=Ab
 generalize upd H lb (.lst (vls ls))=H1 at s1 e1 ⊢
 refine ⟨a,lb,h,s,os,ls,rfl,md.same s1,e1,LU (gs.same s1) okl,l60,lt.same s1,fun r F H2 sm2 sq2 lq2 er st=>?_⟩
 have smH:Sm H H2:=(Sm.of s1).trans sm2
 have sqH:Cd ad.lP h H->Av H H2:=fun z=>s1.trans (sq2 (z.same s1))
 have im2:=im.sm smH
 have md2:=md.sm smH
 have hl2:=smH.lst hl
 have hlo2:=smH.lst hlo
 have gs2:Cc H2 ls:=fun q m=>⟨smH.tup (gs q m).1,smH.tup (gs q m).2⟩
 clear hlb e1 sm2 sq2 hg k1 k2
 obtain ⟨out,eo⟩:∃out,out=BV h (Ay F s os):=⟨_,rfl⟩
 have ol:out.length=h:=by rw [eo];exact Ew h _
 rw [<- eo] at er
 subst_eqs
 refine ⟨(by show 0<=sizeLine;decide),fun d0 hd0=>?_⟩
 have s3:=Af hd0 (.lst [])
 have e3:(upd H2 d0 (.lst [])) d0=some (.lst (vpq [])):=Ab
 generalize upd H2 d0 (.lst [])=H3 at s3 e3 ⊢
 and_intros
 refine ⟨L6z,U6z (by ac_nf),AN (fun x σ' J=>∃(d:Addr) (ps:Pq) (v6:Option V),σ'=[some (.ref g),some (.ref l),some (.int (h:Int)),some (.ref lo),some (.ref r),some (.ref d),v6,none,none]/\Av H2 J/\J d=some (.lst (vpq ps))/\Ck J ps/\ps.map (·.2)=Eo out x) ⟨d0,[],none,rfl,s3,e3,(fun _ m=>absurd m List.not_mem_nil),rfl⟩ ?_ ?_⟩
 ·rintro x σ' J hx ⟨d,ps,v6,rfl,sJ,eD,gp,em⟩
  have hx':x < h:=by ac_nf
  have ex:(0:Int)+(x:Int)=(x:Int):=Int.zero_add _
  obtain ⟨zx,hzx⟩:∃z,out[x]?=some z:=⟨_,List.getElem?_eq_getElem (by ac_nf)⟩
  have gx:out.getD x 0=zx:=by rw [getD_eq_getElem?_getD,hzx];rfl
  have erJ:=sJ _ _ er
  have pl:ps.length<=144:=by
   have a:=congrArg List.length em
   rw [length_map] at a
   have b:=DG out x
   have c:=Nat.mul_le_mul (show x<=12 by ac_nf) (show out.length<=12 by ac_nf)
   omega
  and_intros
  refine ⟨by ac_nf,by ac_nf,?_⟩
  rw [Int.toNat_natCast]
  refine Bv (AH (by ac_nf)) (fun D j ys G=>∃qs:Pq,ys=vpq qs/\G D=some (.lst ys)/\Av J G/\Ck G qs/\qs.map (·.2)=if 0 < zx then Hr out x j else []) (fun D hD=>⟨[],rfl,Ab,Af hD _,(fun _ m=>absurd m List.not_mem_nil),by split <;> rfl⟩) (fun D j ys G ⟨qs,f1,f2,_,_,f5⟩=>⟨f2,by
   rw [f1,D1,<- length_map (f:=(·.2)),f5]
   split
   ·exact Fe out x j
   ·exact Nat.zero_le _⟩) ?_ ?_
  ·rintro D j ys G K1 K2 hD hj ⟨qs,rfl,f2,f3,f4,f5⟩ kk1 kk2
   have ej:(0:Int)+(j:Int)=(j:Int):=Int.zero_add _
   obtain ⟨zy,hzy⟩:∃z,out[j]?=some z:=⟨_,List.getElem?_eq_getElem (by ac_nf)⟩
   have gj:out.getD j 0=zy:=by rw [getD_eq_getElem?_getD,hzy];rfl
   have erG:=f3 _ _ erJ
   and_intros
   refine ⟨r,_,_,_,rfl,rfl,SqL.of erG,(by rw [ex];exact atN hzx),?_⟩
   and_intros
   by_cases c1:0 < zx
   ·refine ifT (decide_eq_true c1) ?_
    rw [if_pos c1] at f5
    and_intros
    refine ⟨r,_,_,_,rfl,rfl,SqL.of erG,(by rw [ej];exact atN hzy),?_⟩
    and_intros
    by_cases c2:zy=0
    ·refine ifT (Hv c2) ?_
     and_intros
     refine ⟨(by show 2<=sizeLine;decide),fun t ht=>?_⟩
     rw [ex,ej]
     have s5:=Af ht (.tup [V.int (x:Int),V.int (j:Int)])
     have e5:(upd G t (.tup [V.int (x:Int),V.int (j:Int)])) t=some (.tup [V.int (x:Int),V.int (j:Int)]):=Ab
     generalize upd G t (.tup [V.int (x:Int),V.int (j:Int)])=G2 at s5 e5 ⊢
     have eD2:=s5 _ _ f2
     refine kk1 _ _ eD2 ⟨qs++[(t,(x:Int),(j:Int))],by unfold vpq;rw [map_append];rfl,Ab,A3 (f3.trans s5) hD,?_,by rw [if_pos c1,map_append,Fs,gj,if_pos c2,f5];rfl⟩
     have g5:Ck G2 (qs++[(t,(x:Int),(j:Int))]):=fun q m=>by
      rcases mem_append.mp m with m | m
      ·exact s5 _ _ (f4 q m)
      ·rw [mem_singleton.mp m];exact e5
     exact g5.upd eD2
    ·refine ifF (Lw c2) ?_
     exact kk2 _ ⟨qs,rfl,f2,f3,f4,by rw [if_pos c1,Fs,gj,if_neg c2,append_nil];exact f5⟩
   ·refine ifF (decide_eq_false c1) ?_
    exact kk2 _ ⟨qs,rfl,f2,f3,f4,by rw [if_neg c1] at f5 ⊢;exact f5⟩
  rintro D ys G hD ⟨qs,rfl,f2,f3,f4,f5⟩
  have ql:qs.length<=12:=by
   have a:=congrArg List.length f5
   rw [length_map] at a
   have b:=Fe out x h
   split at a
   ·omega
   ·rw [length_nil] at a;omega
  refine ⟨d,D,_,_,rfl,rfl,f3 _ _ eD,f2,(by rw [D1,D1];exact Nat.le_of_lt (A9 (by ac_nf))),fun c' hc'=>?_⟩
  have s6:=Af hc' (.lst (vpq ps++vpq qs))
  refine ⟨c',ps++qs,_,rfl,(sJ.trans f3).trans s6,by rw [Ab];unfold vpq;rw [map_append],fun q m=>s6 _ _ ((mem_append.mp m).elim (fun m=>f3 _ _ (gp q m)) (f4 q)),?_⟩
  rw [map_append,em,f5,DZ,gx,ol]
 ·rintro σ' J ⟨d,ps,v6,rfl,sJ,eD,gp,em⟩
  rw [Int.toNat_natCast] at em
  have hlJ:=sJ _ _ hl2
  and_intros
  intro c1 hc1
  have j1:=Af hc1 (.lst (vls ls))
  have ec1:(upd J c1 (.lst (vls ls))) c1=some (.lst (vls ls)):=Ab
  generalize upd J c1 (.lst (vls ls))=J1 at j1 ec1 ⊢
  have s21:=sJ.trans j1
  have im3:=im2.same s21
  obtain ⟨dm3,hg3⟩:=id im3
  have gl3:DO h J1 ls:=LU (gs2.same s21) okl
  and_intros
  refine ⟨g,dm3,_,rfl,hg3,rfl,?_⟩
  and_intros
  refine ⟨g,a,c1,h,s,os,ls,rfl,im3,md2.same s21,ec1,gl3,l60,fun J2 j2=>?_⟩
  rw [decide_eq_true X0,decide_eq_true sh]
  have s22:=s21.trans j2
  have im4:=im3.same j2
  obtain ⟨dm4,hg4⟩:=id im4
  have lq4:=lq2.same s22
  and_intros
  refine ⟨g,dm4,_,rfl,hg4,rfl,?_⟩
  and_intros
  refine ⟨g,a,c1,h,s,os,ls,rfl,im4,md2.same s22,sh,j2 _ _ ec1,gl3.same j2,l60,lq4.1,fun t p rows F2 z H7 sm7 sq7 lq7 et hp ep gr em7 st2 mz lz=>?_⟩
  have s7:=sq7 lq4
  have s27:=s22.trans s7
  have osub:∀w∈os,∃i:Nat,i < h/\w=(i:Int):=fun w m=>by
   obtain ⟨i,im,e⟩:=mem_map.mp (md.pm.mem_iff.mp m)
   exact ⟨i,mem_range.mp im,e.symm⟩
  have te:BV h (Ay F2 s os)=out:=by rw [eo];exact Mn st st2 osub fun x y _ _=>by ac_nf
  have pe:ps.map (·.2)=rows.map fun q=>((q.x:Int),(q.y:Int)):=by rw [em7,te,em];unfold De;rw [ol]
  have r144:rows.length<=144:=by
   have a:=congrArg List.length em7
   rw [length_map,te] at a
   have b:=DG out out.length
   have c:=Nat.mul_le_mul (show out.length<=12 by ac_nf) (show out.length<=12 by ac_nf)
   unfold De at a
   omega
  have rne:rows≠[]:=fun z=>HL st2 md.pm md.s1 sh (by rw [<- em7,z];rfl)
  have hl7:=s27 _ _ hl2
  have gs7:=gs2.same s27
  have rl:=Pf (K:=K) gs7
  have ec7:=(j2.trans s7) _ _ ec1
  clear hg3 hg4 im3 im4 gl3 hc1 ec1 e3 hd0 hlJ er sm7 sq7
  and_intros
  refine ⟨.list (ls.map lnD),.list (ls.map lnD),.lst (SqL.of ec7) rl,.lst (SqL.of hl7) rl,(Ir ls).shaped (by decide),(Ir ls).shaped (by decide),?_⟩
  rw [(Ir ls).eqv]
  and_intros
  refine ⟨_,_,_,_,rfl,Dw.tup et,Ek,?_⟩
  and_intros
  refine ⟨l,ls,h,rfl,hl7,gs7,okl,l60,h1,h12,fun b bs H8 s8 eb tb=>?_⟩
  have s28:=s27.trans s8
  have s2d:=(j1.trans (j2.trans s7)).trans s8
  and_intros
  refine ⟨p,d,b,lo,bs,h,AZ ls,F2,os,rows,ps,rfl,s8 _ _ ep,fun q m=>(gr q m).1.same s8,s2d _ _ eD,(fun q m=>s2d _ _ (gp q m)),pe,r144,eb,tb,h1,h12,s28 _ _ hlo2,md.pm,st2,big,fun H9 s9=>?_⟩
  have s79:=s8.trans s9
  have s29:=s27.trans s79
  have et9:=s79 _ _ et
  have ep9:=s79 _ _ ep
  clear et ep ec7 hl7 gs7 rl eb tb
  and_intros
  refine ⟨⟨_,SqL.of ep9⟩,?_⟩
  have vl:(vrm rows).length=rows.length:=length_map _
  refine AS (xs:=vrm rows) (by rw [vl];exact Nat.le_of_lt (A9 (by ac_nf))) (fun D2 i ys G=>ys=((rows.take i).map (·.nd)).map V.int/\G=upd H9 D2 (.lst ys)) (fun D2 hD2=>⟨rfl,rfl⟩) (fun D2 i ys G hq_=>by obtain ⟨g1,g2⟩:=hq_;exact ⟨by rw [g2];exact Ab,by rw [g1,length_map,length_map];exact length_take_le _ _⟩) (fun D2 i ys G hD2 hq_=>by obtain ⟨_,g2⟩:=hq_;rw [g2];exact SqL.of (Af hD2 _ _ _ ep9)) ?_ ?_
  ·rintro D2 i x ys G K1 K2 hD2 hx ⟨g1,rfl⟩ kk1 kk2
   obtain ⟨q0,hq0,ex⟩:∃q0,rows[i]?=some q0/\x=.ref q0.t:=by
    unfold vrm at hx
    rw [List.getElem?_map] at hx
    cases e:rows[i]? with
    | none=>rw [e] at hx;cases hx
    | some q0=>rw [e] at hx;exact ⟨q0,rfl,(Option.some.inj hx).symm⟩
   subst ex
   have qt:=s79 _ _ (gr q0 (mem_of_getElem? hq0)).1.tup
   refine yes (ifT rfl ?_)
   refine ⟨_,rfl,q0.t,_,_,_,rfl,rfl,SqT.of (Af hD2 _ _ _ qt),rfl,?_⟩
   refine kk1 _ _ Ab ⟨?_,by rw [B3]⟩
   rw [g1,take_succ,hq0,map_append,map_append]
   rfl
  rintro D2 ys G hD2 ⟨rfl,rfl⟩
  rw [vl,take_length]
  refine ⟨D2,rows.map (·.nd),rfl,SqL.of Ab,by rw [length_map];exact length_pos_iff.mpr rne,fun M mM lM=>?_⟩
  have s10:=Af hD2 (.lst ((rows.map (·.nd)).map V.int))
  generalize upd H9 D2 (.lst ((rows.map (·.nd)).map V.int))=G2 at s10 ⊢
  have eM:z=M:=by
   obtain ⟨q0,mq,e⟩:=mem_map.mp mM
   have a:=lz q0 mq
   have b:=lM z mz
   omega
  and_intros
  refine ifF (FI eM) ?_
  and_intros
  have s210:=s29.trans s10
  have nH:∀{x:Addr},J2 x=none->H x=none:=fun {x} e=>smH.gone x (none_of s22 e)
  refine q t p rows F2 z G2 (smH.trans (Sm.of s210)) (fun x=>(sqH x).trans s210) (lq2.same s210) (s10 _ _ et9) (nH hp) (s10 _ _ ep9) (fun q m=>⟨(gr q m).1.same (s79.trans s10),nH (gr q m).2.1,(gr q m).2.2⟩) rne r144 st2 ⟨?_,fun p mp=>?_⟩
  ·obtain ⟨q0,mq,e⟩:=mem_map.mp mz
   exact ⟨((q0.x:Int),(q0.y:Int)),by rw [<- em7];exact mem_map.mpr ⟨q0,mq,rfl⟩,by rw [<- e];exact (gr q0 mq).1.need⟩
  ·rw [<- em7] at mp
   obtain ⟨q0,mq,e⟩:=mem_map.mp mp
   rw [<- e]
   exact Int.le_trans (lz q0 mq) (Int.le_of_eq (gr q0 mq).1.need)
theorem QL (T:Tx K mg base ad):AI P w K mg base CX0 8 ad.f_law ad.d_law ["_law_script"] (LI K ad.lP):=by
 refine T.F_law.ok DD (fun vs H Q E h=>?_) (fun cdv A outer s H vs Q E hr h=>?_)
 ·obtain ⟨p,ns,rfl,_⟩:=h
  rfl
 obtain ⟨p,ns,rfl,hS,h63,hP,q⟩:=h
 refine ⟨_,(@Ae _ _ _ _ _ (Et (@Ai _ _ _ _ _ _ _ _ _ _ _ _ _ _ _ _ (K5 T) (hr.mono (by decide)) rfl T.m_law_hall T.F_law_hall.kp T.b_law_hall .nil Aw (@Aa _ _ _ _ _ (pv 0) Ac (by rfl)) (by decide) (by rfl) (by rfl)) (DY rfl (AC (A0 (i:=1) DD.nd rfl (Or.inl rfl)) (AC (A0 (i:=2) DD.nd rfl (Or.inl rfl)) (AC (A0 (i:=3) DD.nd rfl (Or.inl rfl)) (AC (A0 (i:=4) DD.nd rfl (Or.inl rfl)) Dn)))))) (@Ae _ _ _ _ _ (@At _ _ (5) _ _ _ _ DD.nd rfl (Or.inl rfl) (LW T.mk_PairsMargin (GS T) (hr.mono (by decide)) rfl T.m_PairsMargin T.b_Margin_init .nil Aw (@Aa _ _ _ _ _ (LW T.mk_Pairs (Kn T) (hr.mono (by decide)) rfl T.m_Pairs T.b_Way_init .nil Aw (@Aa _ _ _ _ _ (pv 1) (@Aa _ _ _ _ _ (pv 2) (@Aa _ _ _ _ _ (@BK _ _ _ _ _ _ _ _ _ BD (by rfl) T.z_list PyProof.Rows.boot_list (@Aa _ _ _ _ _ (pv 3) Ac (by rfl)) (by decide) (by decide) (by rfl) (by rfl)) Ac (by rfl)) (by rfl)) (by rfl))) Ac (by rfl))) (by rfl) (by first | exact .inl rfl | exact .inr rfl | assumption)) (@Ae _ _ _ _ _ (@At _ _ (6) _ _ _ _ DD.nd rfl (Or.inl rfl) (@Ai _ _ _ _ _ _ _ _ _ _ _ _ _ _ _ _ (E5 T) (hr.mono (by decide)) rfl T.m_law_told T.F_law_told.kp T.b_law_told .nil Aw (@Aa _ _ _ _ _ (pv 5) (@Aa _ _ _ _ _ (pv 4) (@Aa _ _ _ _ _ (pv 1) (@Aa _ _ _ _ _ (pv 3) Ac (by rfl)) (by rfl)) (by rfl)) (by rfl)) (by decide) (by rfl) (by rfl)) (by rfl) (by first | exact .inl rfl | exact .inr rfl | assumption)) (@Ae _ _ _ _ _ (@Bs _ _ _ _ _ _ _ _ (@As _ _ _ _ _ _ _ _ Jk (pv 6) D9 (Au _)) (@Ah _ _ _ (@Aq _ _ _ _ Cp)) A2) (@Ae _ _ _ _ _ (NP (j:=7) (fsc:=Ad EH) (N:=["_law_script","_law_hands","_law_seats","_law_lots_here","_law_sheet_here","_law_margin","_law_found","_law_kept","_law_other","_law_again"]) (Nc:=["_law_script","_law_hands","_law_seats","_law_lots_here","_law_sheet_here","_law_margin","_law_found","_law_kept","_law_other","_law_again","_law_x","_law_y","_law_some","_law_cut","_law_many"]) rfl rfl ⟨rfl,by decide +kernel,by decide +kernel,by decide +kernel,by decide +kernel,rfl,by decide +kernel,rfl,by decide +kernel⟩ rfl DD.nd rfl rfl (AJ (@Am _ _ _ _ _ _ _ Bl (pv 6) Ag (fun _ _=>rfl))) (fun _ _ _ _=>AK) (fun _ _ _ _=>(@BY _ _ _ _ _ (@Aa _ _ _ _ _ (pv 10) (@Aa _ _ _ _ _ (pv 11) (@Aa _ _ _ _ _ (@BK _ _ _ _ _ _ _ _ _ (EG K) (by rfl) T.z_list PyProof.Rows.boot_list (@Aa _ _ _ _ _ (pv 12) Ac (by rfl)) (by decide) (by decide) (by rfl) (by rfl)) (@Aa _ _ _ _ _ (pv 13) (@Aa _ _ _ _ _ (pv 14) Ac (by rfl)) (by rfl)) (by rfl)) (by rfl)) (by rfl)))) rfl) (@Ae _ _ _ _ _ (@At _ _ (8) _ _ _ _ DD.nd rfl (Or.inl rfl) (@BM _ _ _ _ (@Aa _ _ _ _ _ (@BY _ _ _ _ _ (@Aa _ _ _ _ _ (@BY _ _ _ _ _ (@Aa _ _ _ _ _ (@Ak _ _ _ _ _ _ _ _ Dd Ag (@Ak _ _ _ _ _ _ _ _ Bb (@Ai _ _ _ _ _ _ _ _ _ _ _ _ _ _ _ _ (Br T) (hr.mono (by decide)) rfl T.m_law_cell T.F_law_cell.kp T.b_law_cell .nil Aw (@Aa _ _ _ _ _ (pv 0) (@Aa _ _ _ _ _ Ag Ac (by rfl)) (by rfl)) (by decide) (by rfl) (by rfl)) (pv 1))) Ac (by rfl))) (@Aa _ _ _ _ _ Ag Ac (by rfl)) (by rfl))) Ac (by rfl))) (by rfl) (by first | exact .inl rfl | exact .inr rfl | assumption)) (@Ae _ _ _ _ _ (@FV _ _ _ _ _ _ _ _ (PW.pt (@DE _ _ _ _ _ _ _ (@As _ _ _ _ _ _ _ _ CD (@Ak _ _ _ _ _ _ _ _ Bb (@Ak _ _ _ _ _ _ _ _ BI (@Ai _ _ _ _ _ _ _ _ _ _ _ _ _ _ _ _ (Br T) (hr.mono (by decide)) rfl T.m_law_cell T.F_law_cell.kp T.b_law_cell .nil Aw (@Aa _ _ _ _ _ (pv 0) (@Aa _ _ _ _ _ Ag Ac (by rfl)) (by rfl)) (by decide) (by rfl) (by rfl)) Ag) Ag) Ag (Au _)) (@Dj _ _ _ _ (@As _ _ _ _ _ _ _ _ Jk (@Ai _ _ _ _ _ _ _ _ _ _ _ _ _ _ _ _ (E5 T) (hr.mono (by decide)) rfl T.m_law_told T.F_law_told.kp T.b_law_told .nil Aw (@Aa _ _ _ _ _ (pv 5) (@Aa _ _ _ _ _ (pv 8) (@Aa _ _ _ _ _ (pv 1) (@Aa _ _ _ _ _ (pv 3) Ac (by rfl)) (by rfl)) (by rfl)) (by rfl)) (by decide) (by rfl) (by rfl)) D9 (Au _))))) (@Ah _ _ _ (@Aq _ _ _ _ Cp)) A2) (@Ae _ _ _ _ _ (@Bs _ _ _ _ _ _ _ _ (@As _ _ _ _ _ _ _ _ (FQ (K:=K) hr.units) (@Am _ _ _ _ _ _ _ Bl (pv 6) Ag (fun _ _=>rfl)) (pv 7) (Au _)) (@Ah _ _ _ (@Aq _ _ _ _ Cp)) A2) (@Ae _ _ _ _ _ (@CB _ _ _ _ (CW PySem.F.plainAttrs_list PySem.F.slot_list_append PySem.F.type_list_append Cw (@Am _ _ _ _ _ _ _ Bl (@Am _ _ _ _ _ _ _ Al (@Am _ _ _ _ _ _ _ Bl (pv 6) Ag (fun _ _=>rfl)) Ag (fun _ _=>rfl)) Ag (fun _ _=>rfl)) (@Aa _ _ _ _ _ Ag Ac (by rfl))) (by rfl)) (@Ae _ _ _ _ _ (@CB _ _ _ _ (CW PySem.F.plainAttrs_list PySem.F.slot_list_append PySem.F.type_list_append Cw (@Am _ _ _ _ _ _ _ Bl (pv 6) Ag (fun _ _=>rfl)) (@Aa _ _ _ _ _ D9 Ac (by rfl))) (by rfl)) (@Ae _ _ _ _ _ (@At _ _ (9) _ _ _ _ DD.nd rfl (Or.inl rfl) (@Ai _ _ _ _ _ _ _ _ _ _ _ _ _ _ _ _ (E5 T) (hr.mono (by decide)) rfl T.m_law_told T.F_law_told.kp T.b_law_told .nil Aw (@Aa _ _ _ _ _ (pv 5) (@Aa _ _ _ _ _ (pv 4) (@Aa _ _ _ _ _ (pv 1) (@Aa _ _ _ _ _ (pv 3) Ac (by rfl)) (by rfl)) (by rfl)) (by rfl)) (by decide) (by rfl) (by rfl)) (by rfl) (by first | exact .inl rfl | exact .inr rfl | assumption)) (@Ae _ _ _ _ _ (@Bs _ _ _ _ _ _ _ _ (PW.pt (@Cv _ _ _ _ _ _ _ (@As _ _ _ _ _ _ _ _ Jk (pv 9) D9 (Au _)) (@Cv _ _ _ _ _ _ _ (@As _ _ _ _ _ _ _ _ Dv (@Am _ _ _ _ _ _ _ Bl (pv 9) Ag (fun _ _=>rfl)) (@Am _ _ _ _ _ _ _ Bl (pv 6) Ag (fun _ _=>rfl)) (Au _)) (@Du _ _ _ _ (@Bw _ _ _ _ (@By _ _ _ (@Ai _ _ _ _ _ _ _ _ _ _ _ _ _ _ _ _ (EV T) (hr.mono (by decide)) rfl T.m_law_slips_right T.F_law_slips_right.kp T.b_law_slips_right .nil Aw (@Aa _ _ _ _ _ (pv 5) (@Aa _ _ _ _ _ (pv 1) Ac (by rfl)) (by rfl)) (by decide) (by rfl) (by rfl)) (by intro _;rfl))))))) (@Ah _ _ _ (@Aq _ _ _ _ Cp)) A2) (@Ah _ _ _ (@Aq _ _ _ _ (@DW _ _ _ _ _ _ _ (@Ao _ _ _ _ _ _ _ _ _ (OF (K:=K)) (by rfl) T.z_isinstance PyProof.Rows.boot_isinstance (@Aa _ _ _ _ _ (pv 5) (@Aa _ _ _ _ _ (Jo (v:=.ref ad.c_Margin) rfl T.m_Margin rfl) Ac (by rfl)) (by rfl)) (by decide) (by decide) (by rfl) (by rfl)) (@DW _ _ _ _ _ _ _ (@Ca _ _ _ _ _ _ _ _ CD (Bo (Bo (pv 5) rfl) rfl) (pv 1) (Au _)) (@DB _ _ _ _ _ (@Ca _ _ _ _ _ _ _ _ CD (Bo (Bo (pv 5) rfl) rfl) (pv 2) (Au _))))))))))))))))))),?_⟩
 and_intros
 refine ⟨p,ns,rfl,hS,h63,fun t lo l n s os ls H1 s1 et eo pm el gs dr n2 n6 s0 sn=>?_⟩
 refine ⟨t,_,rfl,SqT.of et,rfl,_,_,rfl,_,_,rfl,_,_,rfl,_,_,rfl,rfl,?_⟩
 have nds:=NV dr.srt
 have lsl:ls.length<=13:=by have:=dr.len;unfold DP at this;rwa [length_map] at this
 have ls1:1<=ls.length:=by have:=dr.pos;unfold DP at this;rwa [length_map] at this
 have onn:os.Nodup:=pm.nodup_iff.mpr (Ld n)
 have osub:∀w∈os,∃i:Nat,i < n/\w=(i:Int):=fun w m=>by
  obtain ⟨i,im,e⟩:=mem_map.mp (pm.mem_iff.mp m)
  exact ⟨i,mem_range.mp im,e.symm⟩
 have ol:os.length=n:=by rw [pm.length_eq];unfold ups;rw [length_map,length_range]
 and_intros
 intro lc hlc
 have s2:=Af hlc (.lst (os.map V.int))
 have e2:(upd H1 lc (.lst (os.map V.int))) lc=some (.lst (os.map V.int)):=Ab
 generalize upd H1 lc (.lst (os.map V.int))=H2 at s2 e2 ⊢
 intro a dx ha hdx ne
 have k1:Av H2 (upd (upd H2 dx (.own a)) a (.ins ad.c_Pairs dx [])):=(Af hdx _).trans (Af (by rw [Aj (Ne.symm ne)];exact ha) _)
 refine ⟨a,ad.c_Pairs,dx,n,s,.ref lc,os,rfl,Ab,T.cl_Pairs,T.na_Pairs_hands,T.na_Pairs_seats,T.na_Pairs_lots,by ac_nf,by ac_nf,by ac_nf,by ac_nf,.inr ⟨lc,rfl,k1 _ _ e2,pm⟩,fun l' H3 _ _ s3 a3 l3=>?_⟩
 rw [Jb] at s3
 have s3:=(NN (Af hdx (.own a)) ha).trans s3
 clear k1
 refine ⟨rfl,?_⟩
 have md3:Dh ad.c_Pairs H3 a n s os:=⟨⟨dx,l',a3,l3⟩,pm,by ac_nf,by ac_nf,by ac_nf,by ac_nf⟩
 and_intros
 intro g dg hg hdg neg
 refine ⟨g,ad.c_PairsMargin,dg,a,rfl,Ab,T.cl_PairsMargin,T.na_PairsMargin_way,fun H4 s4 eg=>?_⟩
 rw [Jb] at s4
 have s4:=(NN (Af hdg (.own g)) hg).trans s4
 refine ⟨rfl,?_⟩
 have s14:=(s2.trans s3).trans s4
 have sH4:=s1.trans s14
 have im4:IsM ad.c_PairsMargin H4 g a:=⟨dg,eg⟩
 have md4:=md3.same s4
 have el4:=s14 _ _ el
 have gs4:=gs.same s14
 have lt4:LT ad.lP H4:=.inl (sH4 _ _ hP)
 have eo4:=s14 _ _ eo
 have hS4:=sH4.seq hS
 clear et eo e2 a3 l3 hlc hS el gs md3
 have okl:∀q∈DP ls,OkA n q.1:=fun q m=>(dr.ok q m).1
 have X0:0 < (ls.map fun q=>q.2.2.2).sum:=by
  have:=Mz fun q m=>(dr.ok q m).2
  omega
 have big:=HE (ls:=ls) (fun q m=>⟨by have:=(dr.ok q m).2;omega,dr.few q m⟩) dr.len
 and_intros
 refine ⟨g,a,l,lo,n,s,os,ls,rfl,im4,md4,sn,el4,gs4,okl,by ac_nf,eo4,lt4,X0,big,fun t1 p1 rows F z H5 sm5 _ lq5 et1 hp1 ep1 gr rne r144 st lw=>?_⟩
 and_intros
 have im5:=im4.sm sm5
 have md5:=md4.sm sm5
 have eo5:=sm5.lst eo4
 have hS5:=sm5.seq hS4
 have at5:∀q∈rows,JS n H5 q:=fun q m=>⟨(gr q m).1.tup,(gr q m).1.way⟩
 have vl:(vrm rows).length=rows.length:=length_map _
 refine ⟨⟨_,SqL.of ep1⟩,?_⟩
 refine Kd (zs:=vrm rows) rfl rfl rfl rfl rfl (by rw [vl];exact Nat.le_of_lt (A9 (by ac_nf))) (fun D i ys G=>∃ks:List Rm,ys=vrm ks/\G D=some (.lst ys)/\Av H5 G/\(∀q∈ks,JS n G q/\q.w≠D)/\ks.map (rmD n)=(rows.take i).map (rmD n)) (fun D hD=>⟨[],rfl,Ab,Af hD _,(fun _ m=>absurd m List.not_mem_nil),rfl⟩) (fun D i ys G ⟨ks,f1,f2,_,_,f5⟩=>⟨f2,by
  have a:=congrArg List.length f5
  rw [length_map,length_map] at a
  rw [f1,show (vrm ks).length=ks.length from length_map _,a]
  exact length_take_le _ _⟩) (fun D i ys G hD hq_=>by obtain ⟨_,_,_,f3,_⟩:=hq_;exact SqL.of (f3 _ _ ep1)) ?_ ?_
 ·rintro D i x ys G K1 K2 hD hx ⟨ks,rfl,f2,f3,f4,f5⟩ kk1 kk2
  obtain ⟨q0,hq0,ex⟩:∃q0,rows[i]?=some q0/\x=.ref q0.t:=by
   unfold vrm at hx
   rw [List.getElem?_map] at hx
   cases e:rows[i]? with
   | none=>rw [e] at hx;cases hx
   | some q0=>rw [e] at hx;exact ⟨q0,rfl,(Option.some.inj hx).symm⟩
  subst ex
  have qt:=(at5 q0 (mem_of_getElem? hq0)).same f3
  refine ⟨q0.t,_,_,_,_,_,rfl,SqT.of qt.1,?_⟩
  refine yes (ifT rfl ?_)
  have qw:=qt.2
  and_intros
  intro c hc
  have g1:=Af hc (.lst ((Bx q0.ws).map V.int))
  have ec:(upd G c (.lst ((Bx q0.ws).map V.int))) c=some (.lst ((Bx q0.ws).map V.int)):=Ab
  generalize upd G c (.lst ((Bx q0.ws).map V.int))=G1 at g1 ec ⊢
  and_intros
  refine ⟨(by show 5<=sizeLine;decide),fun t ht=>?_⟩
  have g2:=Af ht (.tup [V.int (q0.x:Int),V.int (q0.y:Int),V.ref c,V.int (A4 n q0.g),V.int q0.nd])
  have et:(upd G1 t (.tup [V.int (q0.x:Int),V.int (q0.y:Int),V.ref c,V.int (A4 n q0.g),V.int q0.nd])) t=some (.tup [V.int (q0.x:Int),V.int (q0.y:Int),V.ref c,V.int (A4 n q0.g),V.int q0.nd]):=Ab
  generalize upd G1 t (.tup [V.int (q0.x:Int),V.int (q0.y:Int),V.ref c,V.int (A4 n q0.g),V.int q0.nd])=G2 at g2 et ⊢
  have g12:=g1.trans g2
  have eD2:=g12 _ _ f2
  have cD:c≠D:=fun z=>by rw [z,f2] at hc;cases hc
  refine kk1 _ _ eD2 ⟨ks++[⟨t,q0.x,q0.y,c,q0.ws,q0.g,q0.nd⟩],by unfold vrm;rw [map_append];rfl,Ab,A3 (f3.trans g12) hD,fun q m=>?_,?_⟩
  ·have up:∀{q:Rm},JS n G2 q->q.w≠D->JS n (upd G2 D (.lst (vrm ks++[V.ref t]))) q:=fun {q} k n=>⟨by rw [Aj (DQ k.1 eD2 (fun z=>by cases z))];exact k.1,by rw [Aj n];exact k.2⟩
   rcases mem_append.mp m with m | m
   ·exact ⟨up ((f4 q m).1.same g12) (f4 q m).2,(f4 q m).2⟩
   ·rw [mem_singleton.mp m]
    exact ⟨up ⟨et,g2 _ _ ec⟩ cD,cD⟩
  ·rw [map_append,f5,take_succ,hq0,map_append]
   rfl
 rintro D ys H6 hD ⟨ks,rfl,eD,s6,gk,ek⟩
 rw [vl,take_length] at ek
 have hS6:=s6.seq hS5
 and_intros
 refine ⟨p,ns,2,rfl,hS6,h63,by decide,by decide,fun c c0 c1=>?_⟩
 and_intros
 obtain ⟨k,hk,ek2⟩:∃k:Nat,k < n/\c % (n:Int)=(k:Int):=by
  have a:=Int.emod_nonneg c (show (n:Int)≠0 by ac_nf)
  have b:=Int.emod_lt_of_pos c (show (0:Int) < (n:Int) by ac_nf)
  exact ⟨(c % (n:Int)).toNat,by ac_nf,by ac_nf⟩
 refine ⟨by ac_nf,?_⟩
 dsimp only
 rw [show Int.fmod c (n:Int)=c % (n:Int) from Int.fmod_eq_emod_of_nonneg _ (by ac_nf),ek2]
 and_intros
 refine ⟨CL (by ac_nf),?_⟩
 dsimp only
 rw [Int.toNat_natCast,Int.one_mul]
 and_intros
 refine ⟨(by show 1<=sizeLine;decide),fun sl hsl=>?_⟩
 have s7:=Af hsl (.tup [V.int (2 ^ k)])
 have esl:(upd H6 sl (.tup [V.int (2 ^ k)])) sl=some (.tup ([(2:Int) ^ k].map V.int)):=Ab
 generalize upd H6 sl (.tup [V.int (2 ^ k)])=H7 at s7 esl ⊢
 and_intros
 refine ⟨(by show 2<=sizeLine;decide),fun tl htl=>?_⟩
 have s8:=Af htl (.tup [V.ref sl,V.int 5])
 have etl:(upd H7 tl (.tup [V.ref sl,V.int 5])) tl=some (.tup [V.ref sl,V.int 5]):=Ab
 generalize upd H7 tl (.tup [V.ref sl,V.int 5])=H8 at s8 etl ⊢
 refine ⟨(by show 1<=sizeLine;decide),fun ol2 hol=>?_⟩
 have s9:=Af hol (.lst [V.ref tl])
 have eol:(upd H8 ol2 (.lst [V.ref tl])) ol2=some (.lst (vls [(tl,sl,[(2:Int) ^ k],5)])):=Ab
 generalize upd H8 ol2 (.lst [V.ref tl])=H9 at s9 eol ⊢
 have s59:=((s6.trans s7).trans s8).trans s9
 have hS9:=s59.seq hS5
 have im9:=im5.same s59
 have md9:=md5.same s59
 have eo9:=s59 _ _ eo5
 have lq9:=lq5.same s59
 have gs9:Cc H9 [(tl,sl,[(2:Int) ^ k],5)]:=fun q m=>by
  rw [mem_singleton.mp m]
  exact ⟨s9 _ _ etl,(s8.trans s9) _ _ esl⟩
 have okr:∀q∈DP [(tl,sl,[(2:Int) ^ k],5)],OkA n q.1:=fun q m=>by
  rw [mem_singleton.mp m]
  exact Pb hk
 have bigr:=HE (ls:=[(tl,sl,[(2:Int) ^ k],5)]) (fun q m=>by rw [mem_singleton.mp m];exact ⟨by show (0:Int)<=5;decide,by show (5:Int)<=1000000000000;decide⟩) (by show 1<=13;decide)
 and_intros
 refine ⟨fun σ' J=>σ'=[some (.ref p),some (.int (n:Int)),some (.int (s:Int)),some (.ref lo),some (.ref l),some (.ref g),some (.ref t1),some (.ref D),some (.ref ol2),none]/\Av H9 J,?_,?_⟩
 ·and_intros
  refine ⟨p,ns,2,rfl,hS9,h63,by decide,by decide,fun c' c0' c1'=>?_⟩
  and_intros
  by_cases b:Int.fmod (Int.fdiv c' 6) 2=1
  ·refine ifT (Hv b) ?_
   and_intros
   refine ⟨g,a,ol2,lo,n,s,os,[(tl,sl,[(2:Int) ^ k],5)],rfl,im9,md9,sn,eol,gs9,okr,by show 1<=60;decide,eo9,lq9.1,by show (0:Int) < 5+0;decide,bigr,fun t2 p2 rows2 F2 z2 G sm sq _ _ _ _ _ _ _ _ _=>?_⟩
   and_intros
   exact sq lq9
  ·refine ifF (Lw b) ?_
   exact ⟨rfl,Av.refl _⟩
 rintro σ' J ⟨rfl,sJ⟩
 clear eol gs9 okr bigr im9 md9 eo9 hS9 hS6 etl esl htl hsl hol
 have s5J:=s59.trans sJ
 have etJ:=s5J _ _ et1
 have epJ:=s5J _ _ ep1
 have s6J:=((s7.trans s8).trans s9).trans sJ
 have eDJ:=s6J _ _ eD
 have dl:Lay 3 (.list (rows.map (rmD n))):=GR (Iz (Qd n) rows)
 have rK:=LY (K:=K) fun q m=>(gk q m).1.same s6J
 rw [ek] at rK
 and_intros
 refine ⟨.list (rows.map (rmD n)),.list (rows.map (rmD n)),.lst (SqL.of epJ) (LY fun q m=>(at5 q m).same s5J),.lst (SqL.of eDJ) rK,dl.shaped (by decide),dl.shaped (by decide),?_⟩
 rw [dl.eqv]
 obtain ⟨r0,rows',er⟩:∃r0 rows',rows=r0 :: rows':=exists_cons_of_ne_nil rne
 have m0:r0∈rows:=by rw [er];exact mem_cons_self ..
 have a0:=(at5 r0 m0).same s5J
 have a1:=a0.1
 have a2:=a0.2
 clear dl rK eDJ ek gk eD
 and_intros
 refine ⟨p1,_,_,_,rfl,rfl,SqL.of epJ,Nw (k:=0) (r:=r0) (by rw [er];rfl),?_⟩
 and_intros
 refine ⟨.inl ⟨rfl,_,SqL.of a2⟩,?_⟩
 have iw:=(gr r0 m0).1.isw
 have n12:r0.ws.length<=1000:=by
  have:=Cz (xs:=Bx r0.ws) (ys:=ups n) (List.Pairwise.map _ (fun a b (ne:a≠b) e=>ne (Int.ofNat.inj e)) iw.nd) fun z mz=>by
   obtain ⟨u,mu,rfl⟩:=mem_map.mp mz
   exact mem_map.mpr ⟨u,mem_range.mpr (iw.all u mu),rfl⟩
  rw [Fq,D7] at this
  omega
 and_intros
 refine ⟨r0.w,_,_,rfl,rfl,a2,(by rw [length_map];unfold Bx;rw [length_map];exact A9 (by ac_nf)),?_⟩
 have w0:=(gr r0 m0).2.1
 have wp:=(gr r0 m0).2.2
 have smJ:=sm5.trans (Sm.of s5J)
 have lqJ:=lq5.same s5J
 have sm1:=smJ.put (o:=.lst ((Bx r0.ws).map V.int++[V.int 0])) w0
 have lq1:=lqJ.put (o:=.lst ((Bx r0.ws).map V.int++[V.int 0])) a2
 have et2:upd J r0.w (.lst ((Bx r0.ws).map V.int++[V.int 0])) t1=some (.tup [.int z,.ref p1]):=by rw [Aj (DQ etJ a2 (fun z=>by cases z))];exact etJ
 have ep2:upd J r0.w (.lst ((Bx r0.ws).map V.int++[V.int 0])) p1=some (.lst (vrm rows)):=by rw [Aj (Ne.symm wp)];exact epJ
 generalize upd J r0.w (.lst ((Bx r0.ws).map V.int++[V.int 0]))=J1 at sm1 lq1 et2 ep2 ⊢
 and_intros
 refine ⟨.inl ⟨rfl,_,SqL.of ep2⟩,?_⟩
 and_intros
 refine ⟨p1,_,_,rfl,rfl,ep2,(by rw [vl];exact A9 (by ac_nf)),?_⟩
 have sm2:=sm1.put (o:=.lst (vrm rows++[V.non])) hp1
 have lq2:=lq1.put (o:=.lst (vrm rows++[V.non])) ep2
 have et3:upd J1 p1 (.lst (vrm rows++[V.non])) t1=some (.tup [.int z,.ref p1]):=by rw [Aj (DQ et2 ep2 (fun z=>by cases z))];exact et2
 generalize upd J1 p1 (.lst (vrm rows++[V.non]))=J2 at sm2 lq2 et3 ⊢
 clear sm1 lq1 et2 ep2 a0 a1 a2 epJ etJ smJ lqJ
 have im6:=im4.sm sm2
 have md6:=md4.sm sm2
 have el6:=sm2.lst el4
 have eo6:=sm2.lst eo4
 have gs6:Cc J2 ls:=fun q m=>⟨sm2.tup (gs4 q m).1,sm2.tup (gs4 q m).2⟩
 and_intros
 refine ⟨g,a,l,lo,n,s,os,ls,rfl,im6,md6,sn,el6,gs6,okl,by ac_nf,eo6,lq2.1,X0,big,fun t3 p3 rows3 F3 z3 H7' _ sq7 _ et7 _ _ _ _ _ st3 lw3=>?_⟩
 have s27:=sq7 lq2
 have zz:z3=z:=by
  have te:BV n (Ay F3 s os)=BV n (Ay F s os):=Mn st st3 osub fun x y _ _=>by ac_nf
  rw [te] at lw3
  have:=O1 (t:=0) st st3 (by decide) (fun x y _ _=>by ac_nf) lw lw3
  omega
 have et8:=s27 _ _ et3
 and_intros
 refine ifF (FI zz) ?_
 and_intros
 refine ⟨g,a,n,s,os,rfl,im6.same s27,(md6.same s27).is,n2,n6,fun H8' s8'=>?_⟩
 have s28:=s27.trans s8'
 obtain ⟨dgz,hgz⟩:=id (im6.same s28)
 obtain ⟨dxz,laz,kz1,kz2⟩:=id (md6.same s28).is
 and_intros
 refine ⟨g,ad.c_PairsMargin,dgz,_,_,rfl,hgz,T.cl_PairsMargin,T.ia_PairsMargin_Margin,?_⟩
 and_intros
 refine ⟨g,_,dgz,_,_,rfl,hgz,T.cl_PairsMargin,T.na_PairsMargin_way,rfl,?_⟩
 refine ⟨a,_,dxz,_,_,rfl,kz1,T.cl_Pairs,T.na_Pairs_hands,rfl,?_⟩
 and_intros
 refine ifT (Hv rfl) ?_
 and_intros
 refine ⟨g,_,dgz,_,_,rfl,hgz,T.cl_PairsMargin,T.na_PairsMargin_way,rfl,?_⟩
 refine ⟨a,_,dxz,_,_,rfl,kz1,T.cl_Pairs,T.na_Pairs_seats,rfl,?_⟩
 and_intros
 show Q (.bl (decide (V.int (s:Int)=V.int (s:Int)))) H8'
 rw [decide_eq_true rfl]
 exact q H8'
end
theorem BN {α:Type} {P:List α->Prop} (h:∀x0,P [x0]):∀us:List α,us.length=1->P us
 | [_],_=>h _
theorem AM {α:Type} {P:List α->Prop} (h:∀x0 x1,P [x0,x1]):∀us:List α,us.length=2->P us
 | [_,_],_=>h _ _
theorem Fj {α:Type} {P:List α->Prop} (h:∀x0 x1 x2,P [x0,x1,x2]):∀us:List α,us.length=3->P us
 | [_,_,_],_=>h _ _ _
theorem Gz {α:Type} {P:List α->Prop} (h:∀x0 x1 x2 x3,P [x0,x1,x2,x3]):∀us:List α,us.length=4->P us
 | [_,_,_,_],_=>h _ _ _ _
theorem G0 {α:Type} {P:List α->Prop} (h:∀x0 x1 x2 x3 x4,P [x0,x1,x2,x3,x4]):∀us:List α,us.length=5->P us
 | [_,_,_,_,_],_=>h _ _ _ _ _
open PySem.W in
theorem all_mk {l:OpenLaw} {w:World} {K:Frag} {h:Heap} {mg:Str->Option Value} {fa f1 f2 f3 f4 f5 f6 f7 f8 f9 f10 f11 f12 f13 f14 f15 f16 f17 f18 f19 f20 f21 f22 f23 f24 f25 f26 f27 f28 f29 f30 f31 f32 f33 f34 f35 f36 f37 f38 f39 f40 f41 f42 f43 f44 f45 f46 f47 f48 f49 f50 f51 c_Pairs c_PairsMargin c_Margin lf lc lP:Addr} (X:K.In h) (G:h.Ns mainGlobals mg) (hfa:mg "law"=some (.ref fa)) (hlf:mg "reached_from"=some (.ref lf)) (hlT:∃o fd,h.get? lf=some o/\o.data=.func fd/\fd.code=.ref lc)
 {dT45:Addr} {dcl45:Value} {ddi45:Option Addr} {dn45:Nat} {dsl45:Array (Option Value)} {t_MOST_HANDS t_MOST_SEATS:Tok}
 (a1:nsIn K mainGlobals "all_of"=some (some (.ref f1)))
 (l1:K.lookup f1=some ⟨oc1,od1,.func (fnOf "all_of" "all_of" (Ap DI) (An DI) (Ad DI) .none kV1 dc1 pm1 an1 cd1 ct1),sl1⟩) (c1:codeIn K cd1 "all_of"=true) (k1:keepIn K (.ref f1)=true)
 (a2:nsIn K mainGlobals "with_one"=some (some (.ref f2)))
 (l2:K.lookup f2=some ⟨oc2,od2,.func (fnOf "with_one" "with_one" (Ap CG) (An CG) (Ad CG) .none kV2 dc2 pm2 an2 cd2 ct2),sl2⟩) (c2:codeIn K cd2 "with_one"=true) (k2:keepIn K (.ref f2)=true)
 (a3:nsIn K mainGlobals "without"=some (some (.ref f3)))
 (l3:K.lookup f3=some ⟨oc3,od3,.func (fnOf "without" "without" (Ap Do) (An Do) (Ad Do) .none kV3 dc3 pm3 an3 cd3 ct3),sl3⟩) (c3:codeIn K cd3 "without"=true) (k3:keepIn K (.ref f3)=true)
 (a4:nsIn K mainGlobals "members"=some (some (.ref f4)))
 (l4:K.lookup f4=some ⟨oc4,od4,.func (fnOf "members" "members" (Ap CV) (An CV) (Ad CV) .none kV4 dc4 pm4 an4 cd4 ct4),sl4⟩) (c4:codeIn K cd4 "members"=true) (k4:keepIn K (.ref f4)=true)
 (a5:nsIn K mainGlobals "is_whole"=some (some (.ref f5)))
 (l5:K.lookup f5=some ⟨oc5,od5,.func (fnOf "is_whole" "is_whole" (Ap CS) (An CS) (Ad CS) .none kV5 dc5 pm5 an5 cd5 ct5),sl5⟩) (c5:codeIn K cd5 "is_whole"=true) (k5:keepIn K (.ref f5)=true)
 (a6:nsIn K mainGlobals "down"=some (some (.ref f6)))
 (l6:K.lookup f6=some ⟨oc6,od6,.func (fnOf "down" "down" (Ap FA) (An FA) (Ad FA) .none kV6 dc6 pm6 an6 cd6 ct6),sl6⟩) (c6:codeIn K cd6 "down"=true) (k6:keepIn K (.ref f6)=true)
 (a7:nsIn K mainGlobals "up"=some (some (.ref f7)))
 (l7:K.lookup f7=some ⟨oc7,od7,.func (fnOf "up" "up" (Ap M1) (An M1) (Ad M1) .none kV7 dc7 pm7 an7 cd7 ct7),sl7⟩) (c7:codeIn K cd7 "up"=true) (k7:keepIn K (.ref f7)=true)
 (a8:nsIn K mainGlobals "ballots_in"=some (some (.ref f8)))
 (l8:K.lookup f8=some ⟨oc8,od8,.func (fnOf "ballots_in" "ballots_in" (Ap BF) (An BF) (Ad BF) .none kV8 dc8 pm8 an8 cd8 ct8),sl8⟩) (c8:codeIn K cd8 "ballots_in"=true) (k8:keepIn K (.ref f8)=true)
 (a9:nsIn K mainGlobals "pairs_by_seats"=some (some (.ref f9)))
 (l9:K.lookup f9=some ⟨oc9,od9,.func (fnOf "pairs_by_seats" "pairs_by_seats" (Ap AV) (An AV) (Ad AV) .none kV9 dc9 pm9 an9 cd9 ct9),sl9⟩) (c9:codeIn K cd9 "pairs_by_seats"=true) (k9:keepIn K (.ref f9)=true)
 (a10:nsIn K mainGlobals "hands_of"=some (some (.ref f10)))
 (l10:K.lookup f10=some ⟨oc10,od10,.func (fnOf "hands_of" "hands_of" (Ap CQ) (An CQ) (Ad CQ) .none kV10 dc10 pm10 an10 cd10 ct10),sl10⟩) (c10:codeIn K cd10 "hands_of"=true) (k10:keepIn K (.ref f10)=true)
 (a11:nsIn K mainGlobals "way_by"=some (some (.ref f11)))
 (l11:K.lookup f11=some ⟨oc11,od11,.func (fnOf "way_by" "way_by" (Ap DN) (An DN) (Ad DN) .none kV11 dc11 pm11 an11 cd11 ct11),sl11⟩) (c11:codeIn K cd11 "way_by"=true) (k11:keepIn K (.ref f11)=true)
 (a12:nsIn K mainGlobals "is_beaten"=some (some (.ref f12)))
 (l12:K.lookup f12=some ⟨oc12,od12,.func (fnOf "is_beaten" "is_beaten" (Ap BR) (An BR) (Ad BR) .none kV12 dc12 pm12 an12 cd12 ct12),sl12⟩) (c12:codeIn K cd12 "is_beaten"=true) (k12:keepIn K (.ref f12)=true)
 (a13:nsIn K mainGlobals "_law_cell"=some (some (.ref f13)))
 (l13:K.lookup f13=some ⟨oc13,od13,.func (fnOf "_law_cell" "_law_cell" (Ap CP) (An CP) (Ad CP) .none kV13 dc13 pm13 an13 cd13 ct13),sl13⟩) (c13:codeIn K cd13 "_law_cell"=true) (k13:keepIn K (.ref f13)=true)
 (a14:nsIn K mainGlobals "_law_mixed"=some (some (.ref f14)))
 (l14:K.lookup f14=some ⟨oc14,od14,.func (fnOf "_law_mixed" "_law_mixed" (Ap Cr) (An Cr) (Ad Cr) .none kV14 dc14 pm14 an14 cd14 ct14),sl14⟩) (c14:codeIn K cd14 "_law_mixed"=true) (k14:keepIn K (.ref f14)=true)
 (a15:nsIn K mainGlobals "_law_mask"=some (some (.ref f15)))
 (l15:K.lookup f15=some ⟨oc15,od15,.func (fnOf "_law_mask" "_law_mask" (Ap Cm) (An Cm) (Ad Cm) .none kV15 dc15 pm15 an15 cd15 ct15),sl15⟩) (c15:codeIn K cd15 "_law_mask"=true) (k15:keepIn K (.ref f15)=true)
 (a16:nsIn K mainGlobals "_law_whole"=some (some (.ref f16)))
 (l16:K.lookup f16=some ⟨oc16,od16,.func (fnOf "_law_whole" "_law_whole" (Ap Cs) (An Cs) (Ad Cs) .none kV16 dc16 pm16 an16 cd16 ct16),sl16⟩) (c16:codeIn K cd16 "_law_whole"=true) (k16:keepIn K (.ref f16)=true)
 (a17:nsIn K mainGlobals "_law_place"=some (some (.ref f17)))
 (l17:K.lookup f17=some ⟨oc17,od17,.func (fnOf "_law_place" "_law_place" (Ap C0) (An C0) (Ad C0) .none kV17 dc17 pm17 an17 cd17 ct17),sl17⟩) (c17:codeIn K cd17 "_law_place"=true) (k17:keepIn K (.ref f17)=true)
 (a18:nsIn K mainGlobals "_law_strengths"=some (some (.ref f18)))
 (l18:K.lookup f18=some ⟨oc18,od18,.func (fnOf "_law_strengths" "_law_strengths" (Ap Bk) (An Bk) (Ad Bk) .none kV18 dc18 pm18 an18 cd18 ct18),sl18⟩) (c18:codeIn K cd18 "_law_strengths"=true) (k18:keepIn K (.ref f18)=true)
 (a19:nsIn K mainGlobals "_law_fits"=some (some (.ref f19)))
 (l19:K.lookup f19=some ⟨oc19,od19,.func (fnOf "_law_fits" "_law_fits" (Ap CT) (An CT) (Ad CT) .none kV19 dc19 pm19 an19 cd19 ct19),sl19⟩) (c19:codeIn K cd19 "_law_fits"=true) (k19:keepIn K (.ref f19)=true)
 (l20:K.lookup f20=some ⟨oc20,od20,.func (fnOf "__init__" "Margin.__init__" (Ap BL) (An BL) (Ad BL) .none kV20 dc20 pm20 an20 cd20 ct20),sl20⟩) (c20:codeIn K cd20 "Margin.__init__"=true) (k20:keepIn K (.ref f20)=true)
 (l21:K.lookup f21=some ⟨oc21,od21,.func (fnOf "ahead" "Way.ahead" (Ap Cu) (An Cu) (Ad Cu) .none kV21 dc21 pm21 an21 cd21 ct21),sl21⟩) (c21:codeIn K cd21 "Way.ahead"=true) (k21:keepIn K (.ref f21)=true)
 (l22:K.lookup f22=some ⟨oc22,od22,.func (fnOf "told_by" "Pairs.told_by" (Ap Bj) (An Bj) (Ad Bj) .none kV22 dc22 pm22 an22 cd22 ct22),sl22⟩) (c22:codeIn K cd22 "Pairs.told_by"=true) (k22:keepIn K (.ref f22)=true)
 (a23:nsIn K mainGlobals "overs"=some (some (.ref f23)))
 (l23:K.lookup f23=some ⟨oc23,od23,.func (fnOf "overs" "overs" (Ap Dy) (An Dy) (Ad Dy) .none kV23 dc23 pm23 an23 cd23 ct23),sl23⟩) (c23:codeIn K cd23 "overs"=true) (k23:keepIn K (.ref f23)=true)
 (a24:nsIn K mainGlobals "leads_of"=some (some (.ref f24)))
 (l24:K.lookup f24=some ⟨oc24,od24,.func (fnOf "leads_of" "leads_of" (Ap BQ) (An BQ) (Ad BQ) .none kV24 dc24 pm24 an24 cd24 ct24),sl24⟩) (c24:codeIn K cd24 "leads_of"=true) (k24:keepIn K (.ref f24)=true)
 (a25:nsIn K mainGlobals "reached_from"=some (some (.ref f25)))
 (l25:K.lookup f25=some ⟨oc25,od25,.func (fnOf "reached_from" "reached_from" (Ap AL) (An AL) (Ad AL) .none kV25 dc25 pm25 an25 cd25 ct25),sl25⟩) (c25:codeIn K cd25 "reached_from"=true) (k25:keepIn K (.ref f25)=true)
 (a26:nsIn K mainGlobals "cut_by"=some (some (.ref f26)))
 (l26:K.lookup f26=some ⟨oc26,od26,.func (fnOf "cut_by" "cut_by" (Ap DV) (An DV) (Ad DV) .none kV26 dc26 pm26 an26 cd26 ct26),sl26⟩) (c26:codeIn K cd26 "cut_by"=true) (k26:keepIn K (.ref f26)=true)
 (a27:nsIn K mainGlobals "are_hands"=some (some (.ref f27)))
 (l27:K.lookup f27=some ⟨oc27,od27,.func (fnOf "are_hands" "are_hands" (Ap Ct) (An Ct) (Ad Ct) .none kV27 dc27 pm27 an27 cd27 ct27),sl27⟩) (c27:codeIn K cd27 "are_hands"=true) (k27:keepIn K (.ref f27)=true)
 (a28:nsIn K mainGlobals "are_seats"=some (some (.ref f28)))
 (l28:K.lookup f28=some ⟨oc28,od28,.func (fnOf "are_seats" "are_seats" (Ap Cy) (An Cy) (Ad Cy) .none kV28 dc28 pm28 an28 cd28 ct28),sl28⟩) (c28:codeIn K cd28 "are_seats"=true) (k28:keepIn K (.ref f28)=true)
 (a29:nsIn K mainGlobals "are_lots"=some (some (.ref f29)))
 (l29:K.lookup f29=some ⟨oc29,od29,.func (fnOf "are_lots" "are_lots" (Ap Cn) (An Cn) (Ad Cn) .none kV29 dc29 pm29 an29 cd29 ct29),sl29⟩) (c29:codeIn K cd29 "are_lots"=true) (k29:keepIn K (.ref f29)=true)
 (a30:nsIn K mainGlobals "_law_lots"=some (some (.ref f30)))
 (l30:K.lookup f30=some ⟨oc30,od30,.func (fnOf "_law_lots" "_law_lots" (Ap CK) (An CK) (Ad CK) .none kV30 dc30 pm30 an30 cd30 ct30),sl30⟩) (c30:codeIn K cd30 "_law_lots"=true) (k30:keepIn K (.ref f30)=true)
 (a31:nsIn K mainGlobals "_law_slip"=some (some (.ref f31)))
 (l31:K.lookup f31=some ⟨oc31,od31,.func (fnOf "_law_slip" "_law_slip" (Ap Cl) (An Cl) (Ad Cl) .none kV31 dc31 pm31 an31 cd31 ct31),sl31⟩) (c31:codeIn K cd31 "_law_slip"=true) (k31:keepIn K (.ref f31)=true)
 (a32:nsIn K mainGlobals "_law_leads"=some (some (.ref f32)))
 (l32:K.lookup f32=some ⟨oc32,od32,.func (fnOf "_law_leads" "_law_leads" (Ap BC) (An BC) (Ad BC) .none kV32 dc32 pm32 an32 cd32 ct32),sl32⟩) (c32:codeIn K cd32 "_law_leads"=true) (k32:keepIn K (.ref f32)=true)
 (a33:nsIn K mainGlobals "_law_needs"=some (some (.ref f33)))
 (l33:K.lookup f33=some ⟨oc33,od33,.func (fnOf "_law_needs" "_law_needs" (Ap Cq) (An Cq) (Ad Cq) .none kV33 dc33 pm33 an33 cd33 ct33),sl33⟩) (c33:codeIn K cd33 "_law_needs"=true) (k33:keepIn K (.ref f33)=true)
 (a34:nsIn K mainGlobals "_law_way_right"=some (some (.ref f34)))
 (l34:K.lookup f34=some ⟨oc34,od34,.func (fnOf "_law_way_right" "_law_way_right" (Ap Bm) (An Bm) (Ad Bm) .none kV34 dc34 pm34 an34 cd34 ct34),sl34⟩) (c34:codeIn K cd34 "_law_way_right"=true) (k34:keepIn K (.ref f34)=true)
 (a35:nsIn K mainGlobals "_law_cut_right"=some (some (.ref f35)))
 (l35:K.lookup f35=some ⟨oc35,od35,.func (fnOf "_law_cut_right" "_law_cut_right" (Ap Bz) (An Bz) (Ad Bz) .none kV35 dc35 pm35 an35 cd35 ct35),sl35⟩) (c35:codeIn K cd35 "_law_cut_right"=true) (k35:keepIn K (.ref f35)=true)
 (l36:K.lookup f36=some ⟨oc36,od36,.func (fnOf "possible" "Margin.possible" (Ap Bf) (An Bf) (Ad Bf) .none kV36 dc36 pm36 an36 cd36 ct36),sl36⟩) (c36:codeIn K cd36 "Margin.possible"=true) (k36:keepIn K (.ref f36)=true)
 (l37:K.lookup f37=some ⟨oc37,od37,.func (fnOf "slip_for" "PairsMargin.slip_for" (Ap AE) (An AE) (Ad AE) .none kV37 dc37 pm37 an37 cd37 ct37),sl37⟩) (c37:codeIn K cd37 "PairsMargin.slip_for"=true) (k37:keepIn K (.ref f37)=true)
 (l38:K.lookup f38=some ⟨oc38,od38,.func (fnOf "need_of" "PairsMargin.need_of" (Ap AF) (An AF) (Ad AF) .none kV38 dc38 pm38 an38 cd38 ct38),sl38⟩) (c38:codeIn K cd38 "PairsMargin.need_of"=true) (k38:keepIn K (.ref f38)=true)
 (l39:K.lookup f39=some ⟨oc39,od39,.func (fnOf "picks_by" "Pairs.picks_by" (Ap AX) (An AX) (Ad AX) .none kV39 dc39 pm39 an39 cd39 ct39),sl39⟩) (c39:codeIn K cd39 "Pairs.picks_by"=true) (k39:keepIn K (.ref f39)=true)
 (a40:nsIn K mainGlobals "shown_from"=some (some (.ref f40)))
 (l40:K.lookup f40=some ⟨oc40,od40,.func (fnOf "shown_from" "shown_from" (Ap B1) (An B1) (Ad B1) .none kV40 dc40 pm40 an40 cd40 ct40),sl40⟩) (c40:codeIn K cd40 "shown_from"=true) (k40:keepIn K (.ref f40)=true)
 (a41:nsIn K mainGlobals "_law_sheet"=some (some (.ref f41)))
 (l41:K.lookup f41=some ⟨oc41,od41,.func (fnOf "_law_sheet" "_law_sheet" (Ap B4) (An B4) (Ad B4) .none kV41 dc41 pm41 an41 cd41 ct41),sl41⟩) (c41:codeIn K cd41 "_law_sheet"=true) (k41:keepIn K (.ref f41)=true)
 (a42:nsIn K mainGlobals "_law_paper_right"=some (some (.ref f42)))
 (l42:K.lookup f42=some ⟨oc42,od42,.func (fnOf "_law_paper_right" "_law_paper_right" (Ap Bh) (An Bh) (Ad Bh) .none kV42 dc42 pm42 an42 cd42 ct42),sl42⟩) (c42:codeIn K cd42 "_law_paper_right"=true) (k42:keepIn K (.ref f42)=true)
 (a43:nsIn K mainGlobals "_law_slips_right"=some (some (.ref f43)))
 (l43:K.lookup f43=some ⟨oc43,od43,.func (fnOf "_law_slips_right" "_law_slips_right" (Ap Bg) (An Bg) (Ad Bg) .none kV43 dc43 pm43 an43 cd43 ct43),sl43⟩) (c43:codeIn K cd43 "_law_slips_right"=true) (k43:keepIn K (.ref f43)=true)
 (l44:K.lookup f44=some ⟨oc44,od44,.func (fnOf "leads_in" "PairsMargin.leads_in" (Ap AD) (An AD) (Ad AD) .none kV44 dc44 pm44 an44 cd44 ct44),sl44⟩) (c44:codeIn K cd44 "PairsMargin.leads_in"=true) (k44:keepIn K (.ref f44)=true)
 (l45:K.lookup f45=some ⟨oc45,od45,.func (fnOf "__init__" "Way.__init__" (Ap BH) (An BH) (Ad BH) (.ref dT45) kV45 dc45 pm45 an45 cd45 ct45),sl45⟩) (c45:codeIn K cd45 "Way.__init__"=true) (k45:keepIn K (.ref f45)=true)
 (dl45:K.lookup dT45=some ⟨dcl45,ddi45,.seq #[.none] dn45,dsl45⟩)
 (a46:nsIn K mainGlobals "_law_hall"=some (some (.ref f46)))
 (l46:K.lookup f46=some ⟨oc46,od46,.func (fnOf "_law_hall" "_law_hall" (Ap CH) (An CH) (Ad CH) .none kV46 dc46 pm46 an46 cd46 ct46),sl46⟩) (c46:codeIn K cd46 "_law_hall"=true) (k46:keepIn K (.ref f46)=true)
 (l47:K.lookup f47=some ⟨oc47,od47,.func (fnOf "counted" "Pairs.counted" (Ap B0) (An B0) (Ad B0) .none kV47 dc47 pm47 an47 cd47 ct47),sl47⟩) (c47:codeIn K cd47 "Pairs.counted"=true) (k47:keepIn K (.ref f47)=true)
 (l48:K.lookup f48=some ⟨oc48,od48,.func (fnOf "outcome" "Way.outcome" (Ap BJ) (An BJ) (Ad BJ) .none kV48 dc48 pm48 an48 cd48 ct48),sl48⟩) (c48:codeIn K cd48 "Way.outcome"=true) (k48:keepIn K (.ref f48)=true)
 (l49:K.lookup f49=some ⟨oc49,od49,.func (fnOf "least" "PairsMargin.least" (Ap AA) (An AA) (Ad AA) .none kV49 dc49 pm49 an49 cd49 ct49),sl49⟩) (c49:codeIn K cd49 "PairsMargin.least"=true) (k49:keepIn K (.ref f49)=true)
 (a50:nsIn K mainGlobals "_law_told"=some (some (.ref f50)))
 (l50:K.lookup f50=some ⟨oc50,od50,.func (fnOf "_law_told" "_law_told" (Ap BX) (An BX) (Ad BX) .none kV50 dc50 pm50 an50 cd50 ct50),sl50⟩) (c50:codeIn K cd50 "_law_told"=true) (k50:keepIn K (.ref f50)=true)
 (a51:nsIn K mainGlobals "law"=some (some (.ref f51)))
 (l51:K.lookup f51=some ⟨oc51,od51,.func (fnOf "law" "law" (Ap EH) (An EH) (Ad EH) .none kV51 dc51 pm51 an51 cd51 ct51),sl51⟩) (c51:codeIn K cd51 "law"=true) (k51:keepIn K (.ref f51)=true)
 (z0:nsIn K mainGlobals "all"=some none)
 (z1:nsIn K mainGlobals "any"=some none)
 (z2:nsIn K mainGlobals "bool"=some none)
 (z3:nsIn K mainGlobals "enumerate"=some none)
 (z4:nsIn K mainGlobals "int"=some none)
 (z5:nsIn K mainGlobals "isinstance"=some none)
 (z6:nsIn K mainGlobals "len"=some none)
 (z7:nsIn K mainGlobals "list"=some none)
 (z8:nsIn K mainGlobals "max"=some none)
 (z9:nsIn K mainGlobals "min"=some none)
 (z10:nsIn K mainGlobals "range"=some none)
 (z11:nsIn K mainGlobals "set"=some none)
 (z12:nsIn K mainGlobals "sorted"=some none)
 (z13:nsIn K mainGlobals "sum"=some none)
 (z14:nsIn K mainGlobals "tuple"=some none)
 (kc_MOST_HANDS:nsIn K mainGlobals "MOST_HANDS"=some (some (.int 12 t_MOST_HANDS)))
 (kc_MOST_SEATS:nsIn K mainGlobals "MOST_SEATS"=some (some (.int 60 t_MOST_SEATS)))
 (mc_Pairs:nsIn K mainGlobals "Pairs"=some (some (.ref c_Pairs))) (pg_Pairs:plainGet K c_Pairs Str.empty=true) (hd_Pairs:hasDictIn K c_Pairs=true) (po_Pairs:plainOver K c_Pairs=true) (sa_Pairs:findIn K (.ref c_Pairs) "__setattr__"=some (some (.builtin "object.__setattr__")))
 (mm_Pairs:makesIn K c_Pairs=true) (mi_Pairs:findIn K (.ref c_Pairs) "__init__"=some (some (.ref f45))) (mf_Pairs:isFn K (.ref f45)=true) (mk_Pairs:keepIn K (.ref c_Pairs)=true)
 (ma_Pairs_ahead:findIn K (.ref c_Pairs) "ahead"=some (some (.ref f21))) (mn_Pairs_ahead:isFn K (.ref f21)=true)
 (ma_Pairs_picks_by:findIn K (.ref c_Pairs) "picks_by"=some (some (.ref f39))) (mn_Pairs_picks_by:isFn K (.ref f39)=true)
 (ma_Pairs_counted:findIn K (.ref c_Pairs) "counted"=some (some (.ref f47))) (mn_Pairs_counted:isFn K (.ref f47)=true)
 (ma_Pairs_told_by:findIn K (.ref c_Pairs) "told_by"=some (some (.ref f22))) (mn_Pairs_told_by:isFn K (.ref f22)=true)
 (ma_Pairs_outcome:findIn K (.ref c_Pairs) "outcome"=some (some (.ref f48))) (mn_Pairs_outcome:isFn K (.ref f48)=true)
 (na_Pairs_hands:findIn K (.ref c_Pairs) "hands"=some none)
 (na_Pairs_seats:findIn K (.ref c_Pairs) "seats"=some none)
 (na_Pairs_lots:findIn K (.ref c_Pairs) "lots"=some none)
 (mc_PairsMargin:nsIn K mainGlobals "PairsMargin"=some (some (.ref c_PairsMargin))) (pg_PairsMargin:plainGet K c_PairsMargin Str.empty=true) (hd_PairsMargin:hasDictIn K c_PairsMargin=true) (po_PairsMargin:plainOver K c_PairsMargin=true) (sa_PairsMargin:findIn K (.ref c_PairsMargin) "__setattr__"=some (some (.builtin "object.__setattr__")))
 (mm_PairsMargin:makesIn K c_PairsMargin=true) (mi_PairsMargin:findIn K (.ref c_PairsMargin) "__init__"=some (some (.ref f20))) (mf_PairsMargin:isFn K (.ref f20)=true) (mk_PairsMargin:keepIn K (.ref c_PairsMargin)=true)
 (ma_PairsMargin_possible:findIn K (.ref c_PairsMargin) "possible"=some (some (.ref f36))) (mn_PairsMargin_possible:isFn K (.ref f36)=true)
 (ma_PairsMargin_leads_in:findIn K (.ref c_PairsMargin) "leads_in"=some (some (.ref f44))) (mn_PairsMargin_leads_in:isFn K (.ref f44)=true)
 (ma_PairsMargin_least:findIn K (.ref c_PairsMargin) "least"=some (some (.ref f49))) (mn_PairsMargin_least:isFn K (.ref f49)=true)
 (ma_PairsMargin_need_of:findIn K (.ref c_PairsMargin) "need_of"=some (some (.ref f38))) (mn_PairsMargin_need_of:isFn K (.ref f38)=true)
 (ma_PairsMargin_slip_for:findIn K (.ref c_PairsMargin) "slip_for"=some (some (.ref f37))) (mn_PairsMargin_slip_for:isFn K (.ref f37)=true)
 (na_PairsMargin_way:findIn K (.ref c_PairsMargin) "way"=some none)
 (ja_PairsMargin_Margin:findIn K (.ref c_PairsMargin) "__class__"=some (some (.builtin "object.__class__"))) (jb_PairsMargin_Margin:specialIn K (.builtin "object.__class__") "__get__"=some (some (.builtin "getset_descriptor.__get__"))) (jc_PairsMargin_Margin:takesIn K (.builtin "object.__class__")=some true) (jd_PairsMargin_Margin:mroIn K c_PairsMargin (.type "object")=some true) (je_PairsMargin_Margin:kitOne K (.ref c_PairsMargin) (.ref c_Margin)=some true)
 (mc_Margin:nsIn K mainGlobals "Margin"=some (some (.ref c_Margin))) (pg_Margin:plainGet K c_Margin Str.empty=true) (hd_Margin:hasDictIn K c_Margin=true) (po_Margin:plainOver K c_Margin=true) (sa_Margin:findIn K (.ref c_Margin) "__setattr__"=some (some (.builtin "object.__setattr__"))) :
 ∃fd:FuncData,(∀(s:Shared) (v:Value),BindsTo s fd ⟨[v],[]⟩ [("_law_script",v)])/\∀base:Heap,K.In base->base.Ns mainGlobals mg->GF base mg lc lP->AI l.prog w K mg base CX0 8 fa fd ["_law_script"] (LI K lP):=by
 have e:=hfa.symm.trans (mg_of X G a51)
 cases e
 have F1:=Az (st:=DI) l1 c1 k1
 have b1:=F1.binds (ps:=["hands"]) fun _ _ _ _ _ _=>BN fun _=>rfl
 have F2:=Az (st:=CG) l2 c2 k2
 have b2:=F2.binds (ps:=["mask","hand"]) fun _ _ _ _ _ _=>AM fun _ _=>rfl
 have F3:=Az (st:=Do) l3 c3 k3
 have b3:=F3.binds (ps:=["mask","hand"]) fun _ _ _ _ _ _=>AM fun _ _=>rfl
 have F4:=Az (st:=CV) l4 c4 k4
 have b4:=F4.binds (ps:=["mask"]) fun _ _ _ _ _ _=>BN fun _=>rfl
 have F5:=Az (st:=CS) l5 c5 k5
 have b5:=F5.binds (ps:=["thing"]) fun _ _ _ _ _ _=>BN fun _=>rfl
 have F6:=Az (st:=FA) l6 c6 k6
 have b6:=F6.binds (ps:=["top","bottom"]) fun _ _ _ _ _ _=>AM fun _ _=>rfl
 have F7:=Az (st:=M1) l7 c7 k7
 have b7:=F7.binds (ps:=["top","bottom"]) fun _ _ _ _ _ _=>AM fun _ _=>rfl
 have F8:=Az (st:=BF) l8 c8 k8
 have b8:=F8.binds (ps:=["sheet"]) fun _ _ _ _ _ _=>BN fun _=>rfl
 have F9:=Az (st:=AV) l9 c9 k9
 have b9:=F9.binds (ps:=["outcome"]) fun _ _ _ _ _ _=>BN fun _=>rfl
 have F10:=Az (st:=CQ) l10 c10 k10
 have b10:=F10.binds (ps:=["leads"]) fun _ _ _ _ _ _=>BN fun _=>rfl
 have F11:=Az (st:=DN) l11 c11 k11
 have b11:=F11.binds (ps:=["reached","x","y"]) fun _ _ _ _ _ _=>Fj fun _ _ _=>rfl
 have F12:=Az (st:=BR) l12 c12 k12
 have b12:=F12.binds (ps:=["strengths","hand","others"]) fun _ _ _ _ _ _=>Fj fun _ _ _=>rfl
 have F13:=Az (st:=CP) l13 c13 k13
 have b13:=F13.binds (ps:=["_law_script","_law_k"]) fun _ _ _ _ _ _=>AM fun _ _=>rfl
 have F14:=Az (st:=Cr) l14 c14 k14
 have b14:=F14.binds (ps:=["_law_cell_here","_law_by"]) fun _ _ _ _ _ _=>AM fun _ _=>rfl
 have F15:=Az (st:=Cm) l15 c15 k15
 have b15:=F15.binds (ps:=["_law_some"]) fun _ _ _ _ _ _=>BN fun _=>rfl
 have F16:=Az (st:=Cs) l16 c16 k16
 have b16:=F16.binds (ps:=["_law_found"]) fun _ _ _ _ _ _=>BN fun _=>rfl
 have F17:=Az (st:=C0) l17 c17 k17
 have b17:=F17.binds (ps:=["_law_slip_here","_law_hand"]) fun _ _ _ _ _ _=>AM fun _ _=>rfl
 have F18:=Az (st:=Bk) l18 c18 k18
 have b18:=F18.binds (ps:=["_law_links"]) fun _ _ _ _ _ _=>BN fun _=>rfl
 have F19:=Az (st:=CT) l19 c19 k19
 have b19:=F19.binds (ps:=["_law_many","_law_first","_law_second","_law_ahead"]) fun _ _ _ _ _ _=>Gz fun _ _ _ _=>rfl
 have F20:=Az (st:=BL) l20 c20 k20
 have b20:=F20.binds (ps:=["self","way"]) fun _ _ _ _ _ _=>AM fun _ _=>rfl
 have F21:=Az (st:=Cu) l21 c21 k21
 have b21:=F21.binds (ps:=["self","one","other"]) fun _ _ _ _ _ _=>Fj fun _ _ _=>rfl
 have F22:=Az (st:=Bj) l22 c22 k22
 have b22:=F22.binds (ps:=["self","paper"]) fun _ _ _ _ _ _=>AM fun _ _=>rfl
 have F23:=Az (st:=Dy) l23 c23 k23
 have b23:=F23.binds (ps:=["sheet","hands"]) fun _ _ _ _ _ _=>AM fun _ _=>rfl
 have F24:=Az (st:=BQ) l24 c24 k24
 have b24:=F24.binds (ps:=["many"]) fun _ _ _ _ _ _=>BN fun _=>rfl
 have F25:=Az (st:=AL) l25 c25 k25
 have b25:=F25.binds (ps:=["leads","x"]) fun _ _ _ _ _ _=>AM fun _ _=>rfl
 have F26:=Az (st:=DV) l26 c26 k26
 have b26:=F26.binds (ps:=["reached","x","y"]) fun _ _ _ _ _ _=>Fj fun _ _ _=>rfl
 have F27:=Az (st:=Ct) l27 c27 k27
 have b27:=F27.binds (ps:=["thing"]) fun _ _ _ _ _ _=>BN fun _=>rfl
 have F28:=Az (st:=Cy) l28 c28 k28
 have b28:=F28.binds (ps:=["thing"]) fun _ _ _ _ _ _=>BN fun _=>rfl
 have F29:=Az (st:=Cn) l29 c29 k29
 have b29:=F29.binds (ps:=["thing","hands"]) fun _ _ _ _ _ _=>AM fun _ _=>rfl
 have F30:=Az (st:=CK) l30 c30 k30
 have b30:=F30.binds (ps:=["_law_cell_here","_law_hands"]) fun _ _ _ _ _ _=>AM fun _ _=>rfl
 have F31:=Az (st:=Cl) l31 c31 k31
 have b31:=F31.binds (ps:=["_law_cell_here","_law_hands"]) fun _ _ _ _ _ _=>AM fun _ _=>rfl
 have F32:=Az (st:=BC) l32 c32 k32
 have b32:=F32.binds (ps:=["_law_sheet_here","_law_hands"]) fun _ _ _ _ _ _=>AM fun _ _=>rfl
 have F33:=Az (st:=Cq) l33 c33 k33
 have b33:=F33.binds (ps:=["_law_found","_law_first","_law_second","_law_ahead"]) fun _ _ _ _ _ _=>Gz fun _ _ _ _=>rfl
 have F34:=Az (st:=Bm) l34 c34 k34
 have b34:=F34.binds (ps:=["_law_some","_law_links","_law_x","_law_y","_law_worth"]) fun _ _ _ _ _ _=>G0 fun _ _ _ _ _=>rfl
 have F35:=Az (st:=Bz) l35 c35 k35
 have b35:=F35.binds (ps:=["_law_cut","_law_links","_law_x","_law_y","_law_worth"]) fun _ _ _ _ _ _=>G0 fun _ _ _ _ _=>rfl
 have F36:=Az (st:=Bf) l36 c36 k36
 have b36:=F36.binds (ps:=["self","sheet"]) fun _ _ _ _ _ _=>AM fun _ _=>rfl
 have F37:=Az (st:=AE) l37 c37 k37
 have b37:=F37.binds (ps:=["self","x","y"]) fun _ _ _ _ _ _=>Fj fun _ _ _=>rfl
 have F38:=Az (st:=AF) l38 c38 k38
 have b38:=F38.binds (ps:=["self","x","y","strong","back"]) fun _ _ _ _ _ _=>G0 fun _ _ _ _ _=>rfl
 have F39:=Az (st:=AX) l39 c39 k39
 have b39:=F39.binds (ps:=["self","strengths"]) fun _ _ _ _ _ _=>AM fun _ _=>rfl
 have F40:=Az (st:=B1) l40 c40 k40
 have b40:=F40.binds (ps:=["reached","x"]) fun _ _ _ _ _ _=>AM fun _ _=>rfl
 have F41:=Az (st:=B4) l41 c41 k41
 have b41:=F41.binds (ps:=["_law_script","_law_at","_law_hands","_law_lines","_law_most"]) fun _ _ _ _ _ _=>G0 fun _ _ _ _ _=>rfl
 have F42:=Az (st:=Bh) l42 c42 k42
 have b42:=F42.binds (ps:=["_law_paper","_law_due","_law_links","_law_lots_here"]) fun _ _ _ _ _ _=>Gz fun _ _ _ _=>rfl
 have F43:=Az (st:=Bg) l43 c43 k43
 have b43:=F43.binds (ps:=["_law_margin","_law_hands"]) fun _ _ _ _ _ _=>AM fun _ _=>rfl
 have F44:=Az (st:=AD) l44 c44 k44
 have b44:=F44.binds (ps:=["self","sheet"]) fun _ _ _ _ _ _=>AM fun _ _=>rfl
 have F45:=OW (st:=BH) l45 c45 k45
 have b45_0:A5 K _ ["self","hands","seats","lots"] []:=fun s us X hl=>match us,(show us.length=4 from Nat.add_right_cancel (m:=0) ((length_append ..).symm.trans hl)) with | [_,_,_,_],_=>binds_K (fd:=fnOf "__init__" "Way.__init__" (Ap BH) (An BH) (Ad BH) (.ref dT45) kV45 dc45 pm45 an45 cd45 ct45) X rfl dl45 rfl rfl rfl
 have F46:=Az (st:=CH) l46 c46 k46
 have b46:=F46.binds (ps:=["_law_script"]) fun _ _ _ _ _ _=>BN fun _=>rfl
 have F47:=Az (st:=B0) l47 c47 k47
 have b47:=F47.binds (ps:=["self","sheet"]) fun _ _ _ _ _ _=>AM fun _ _=>rfl
 have F48:=Az (st:=BJ) l48 c48 k48
 have b48:=F48.binds (ps:=["self","sheet"]) fun _ _ _ _ _ _=>AM fun _ _=>rfl
 have F49:=Az (st:=AA) l49 c49 k49
 have b49:=F49.binds (ps:=["self","sheet"]) fun _ _ _ _ _ _=>AM fun _ _=>rfl
 have F50:=Az (st:=BX) l50 c50 k50
 have b50:=F50.binds (ps:=["_law_margin","_law_sheet_here","_law_hands","_law_lots_here"]) fun _ _ _ _ _ _=>Gz fun _ _ _ _=>rfl
 have F51:=Az (st:=EH) l51 c51 k51
 have b51:=F51.binds (ps:=["_law_script"]) fun _ _ _ _ _ _=>BN fun _=>rfl
 have e:=hlf.symm.trans (mg_of X G a25)
 cases e
 obtain ⟨_,_,e1,e2,e3⟩:=hlT
 rw [X _ _ l25] at e1
 cases e1
 cases e2
 have T:∀base:Heap,GF base mg lc lP->Tx K mg base (⟨f1,_,f2,_,f3,_,f4,_,f5,_,f6,_,f7,_,f8,_,f9,_,f10,_,f11,_,f12,_,f13,_,f14,_,f15,_,f16,_,f17,_,f18,_,f19,_,f20,_,f21,_,f22,_,f23,_,f24,_,f25,_,f26,_,f27,_,f28,_,f29,_,f30,_,f31,_,f32,_,f33,_,f34,_,f35,_,f36,_,f37,_,f38,_,f39,_,f40,_,f41,_,f42,_,f43,_,f44,_,f45,_,f46,_,f47,_,f48,_,f49,_,f50,_,fa,_,c_Pairs,c_PairsMargin,c_Margin,t_MOST_HANDS,t_MOST_SEATS,lc,lP⟩:Ads):=fun base LB=>⟨F1,b1,mg_of X G a1,F2,b2,mg_of X G a2,F3,b3,mg_of X G a3,F4,b4,mg_of X G a4,F5,b5,mg_of X G a5,F6,b6,mg_of X G a6,F7,b7,mg_of X G a7,F8,b8,mg_of X G a8,F9,b9,mg_of X G a9,F10,b10,mg_of X G a10,F11,b11,mg_of X G a11,F12,b12,mg_of X G a12,F13,b13,mg_of X G a13,F14,b14,mg_of X G a14,F15,b15,mg_of X G a15,F16,b16,mg_of X G a16,F17,b17,mg_of X G a17,F18,b18,mg_of X G a18,F19,b19,mg_of X G a19,F20,b20,F21,b21,F22,b22,F23,b23,mg_of X G a23,F24,b24,mg_of X G a24,F25,b25,mg_of X G a25,F26,b26,mg_of X G a26,F27,b27,mg_of X G a27,F28,b28,mg_of X G a28,F29,b29,mg_of X G a29,F30,b30,mg_of X G a30,F31,b31,mg_of X G a31,F32,b32,mg_of X G a32,F33,b33,mg_of X G a33,F34,b34,mg_of X G a34,F35,b35,mg_of X G a35,F36,b36,F37,b37,F38,b38,F39,b39,F40,b40,mg_of X G a40,F41,b41,mg_of X G a41,F42,b42,mg_of X G a42,F43,b43,mg_of X G a43,F44,b44,F45,b45_0,F46,b46,mg_of X G a46,F47,b47,F48,b48,F49,b49,F50,b50,mg_of X G a50,F51,b51,mg_of X G a51,mg_none_of X G z0,mg_none_of X G z1,mg_none_of X G z2,mg_none_of X G z3,mg_none_of X G z4,mg_none_of X G z5,mg_none_of X G z6,mg_none_of X G z7,mg_none_of X G z8,mg_none_of X G z9,mg_none_of X G z10,mg_none_of X G z11,mg_none_of X G z12,mg_none_of X G z13,mg_none_of X G z14,mg_of X G kc_MOST_HANDS,mg_of X G kc_MOST_SEATS,mg_of X G mc_Pairs,⟨pg_Pairs,hd_Pairs,po_Pairs,sa_Pairs⟩,⟨mm_Pairs,mi_Pairs,mf_Pairs,mk_Pairs⟩,⟨ma_Pairs_ahead,mn_Pairs_ahead,k21⟩,⟨ma_Pairs_picks_by,mn_Pairs_picks_by,k39⟩,⟨ma_Pairs_counted,mn_Pairs_counted,k47⟩,⟨ma_Pairs_told_by,mn_Pairs_told_by,k22⟩,⟨ma_Pairs_outcome,mn_Pairs_outcome,k48⟩,na_Pairs_hands,na_Pairs_seats,na_Pairs_lots,mg_of X G mc_PairsMargin,⟨pg_PairsMargin,hd_PairsMargin,po_PairsMargin,sa_PairsMargin⟩,⟨mm_PairsMargin,mi_PairsMargin,mf_PairsMargin,mk_PairsMargin⟩,⟨ma_PairsMargin_possible,mn_PairsMargin_possible,k36⟩,⟨ma_PairsMargin_leads_in,mn_PairsMargin_leads_in,k44⟩,⟨ma_PairsMargin_least,mn_PairsMargin_least,k49⟩,⟨ma_PairsMargin_need_of,mn_PairsMargin_need_of,k38⟩,⟨ma_PairsMargin_slip_for,mn_PairsMargin_slip_for,k37⟩,na_PairsMargin_way,⟨ja_PairsMargin_Margin,jb_PairsMargin_Margin,jc_PairsMargin_Margin,jd_PairsMargin_Margin,je_PairsMargin_Margin⟩,mg_of X G mc_Margin,⟨pg_Margin,hd_Margin,po_Margin,sa_Margin⟩,LB,e3⟩
 exact ⟨fnOf "law" "law" (Ap EH) (An EH) (Ad EH) .none kV51 dc51 pm51 an51 cd51 ct51,fun s v=>.of_eq rfl,fun base _ _ LB=>QL (T base LB)⟩
theorem walk {l:PySem.W.OpenLaw} {q:Program} {loose:List Str} {XP:(Str->Option Value)->Heap->Prop} {YP:World->Heap->Prop} {d dn:DefRec} {K:Params->PySem.W.Frag} (hn:l.most=some 63) (hdf:d.params.defaults=[])
 (hY:∀(w:World) (h:Heap),YP w h->(K w.params).In h) (hnt:∀p,Mj (K p)=true) (hdn:(PyProof.Rows.recsOf q).find? (fun e=>e.name == ("reached_from":Str))=some dn)
 (F:∀(w:World) (mg:Str->Option Value) (fa f c Pt:Addr) (h:Heap),(K w.params).In h->h.Ns mainGlobals mg->mg d.name=some (.ref fa)->mg "reached_from"=some (.ref f)->(∃o fd,h.get? f=some o/\o.data=.func fd/\fd.code=.ref c) ->
  ∃fd:FuncData,(∀(s:Shared) (u:Value),BindsTo s fd ⟨[u],[]⟩ [("_law_script",u)])/\∀base:Heap,(K w.params).In base->base.Ns mainGlobals mg->GF base mg c Pt->AI l.prog w (K w.params) mg base CX0 8 fa fd ["_law_script"] (LI (K w.params) Pt)) :
 PySem.W.WalkO q loose XP YP l.row.toRowW d [] (fun f vs=>PySem.call f vs) :=
 L2.walk_of1 (n:=63) (k:=8) (x:="_law_script") (dn:=dn) (CX:=fun _=>CX0) (sp:=fun w Pt=>LI (K w.params) Pt) hn (by decide) hdf ⟨rfl,by decide,by decide⟩ hY hnt (mem_of_find?_eq_some hdn) (fun w mg fa f c Pt h k1 k2 k3 k4 k5=>F w mg fa f c Pt h k1 k2 k3 (by rw [<- show dn.name="reached_from" from beq_iff_eq.mp (List.find?_some (p:=fun e:DefRec=>e.name == ("reached_from":Str)) hdn)];exact k4) k5) (fun _ _ _ a ns hl hP hS=>⟨a,ns,rfl,hS,hl,hP,fun _=>rfl⟩) fun _ _ _ _ _ z=>z
end Law
open PySem PySem.W PyProof.Rows
set_option maxRecDepth 100000 in
set_option maxHeartbeats 0 in
theorem PySem.Challenge.cw_pollproof_k81_ways_and_cuts_of_margins_holds : PySem.Challenge.rw_pollproof_k81_ways_and_cuts_of_margins.Holds := by
 refine Head.top ?_
 k_fill
 refine Law.walk (l:=PySem.Challenge.rw_pollproof_k81_ways_and_cuts_of_margins) (dn:=((recsOf Head.q0).find? fun e=>e.name == ("reached_from":Str)).get (by decide +kernel)) rfl rfl (fun w h Y=>PySem.W.km_in_of Y) ?nt (Option.some_get _).symm ?F
 case nt=>exact fun p=>by kernel_rfl
 case F =>
  intro w mg fa lf lc lP h KX G hmg hlf hlT
  refine' Law.all_mk KX G hmg hlf hlT ?a1 ?l1 ?c1 ?k1 ?a2 ?l2 ?c2 ?k2 ?a3 ?l3 ?c3 ?k3 ?a4 ?l4 ?c4 ?k4 ?a5 ?l5 ?c5 ?k5 ?a6 ?l6 ?c6 ?k6 ?a7 ?l7 ?c7 ?k7 ?a8 ?l8 ?c8 ?k8 ?a9 ?l9 ?c9 ?k9 ?a10 ?l10 ?c10 ?k10 ?a11 ?l11 ?c11 ?k11 ?a12 ?l12 ?c12 ?k12 ?a13 ?l13 ?c13 ?k13 ?a14 ?l14 ?c14 ?k14 ?a15 ?l15 ?c15 ?k15 ?a16 ?l16 ?c16 ?k16 ?a17 ?l17 ?c17 ?k17 ?a18 ?l18 ?c18 ?k18 ?a19 ?l19 ?c19 ?k19 ?l20 ?c20 ?k20 ?l21 ?c21 ?k21 ?l22 ?c22 ?k22 ?a23 ?l23 ?c23 ?k23 ?a24 ?l24 ?c24 ?k24 ?a25 ?l25 ?c25 ?k25 ?a26 ?l26 ?c26 ?k26 ?a27 ?l27 ?c27 ?k27 ?a28 ?l28 ?c28 ?k28 ?a29 ?l29 ?c29 ?k29 ?a30 ?l30 ?c30 ?k30 ?a31 ?l31 ?c31 ?k31 ?a32 ?l32 ?c32 ?k32 ?a33 ?l33 ?c33 ?k33 ?a34 ?l34 ?c34 ?k34 ?a35 ?l35 ?c35 ?k35 ?l36 ?c36 ?k36 ?l37 ?c37 ?k37 ?l38 ?c38 ?k38 ?l39 ?c39 ?k39 ?a40 ?l40 ?c40 ?k40 ?a41 ?l41 ?c41 ?k41 ?a42 ?l42 ?c42 ?k42 ?a43 ?l43 ?c43 ?k43 ?l44 ?c44 ?k44 ?l45 ?c45 ?k45 ?dl45 ?a46 ?l46 ?c46 ?k46 ?l47 ?c47 ?k47 ?l48 ?c48 ?k48 ?l49 ?c49 ?k49 ?a50 ?l50 ?c50 ?k50 ?a51 ?l51 ?c51 ?k51 ?z0 ?z1 ?z2 ?z3 ?z4 ?z5 ?z6 ?z7 ?z8 ?z9 ?z10 ?z11 ?z12 ?z13 ?z14 ?kc_MOST_HANDS ?kc_MOST_SEATS ?mc_Pairs ?pg_Pairs ?hd_Pairs ?po_Pairs ?sa_Pairs ?mm_Pairs ?mi_Pairs ?mf_Pairs ?mk_Pairs ?ma_Pairs_ahead ?mn_Pairs_ahead ?ma_Pairs_picks_by ?mn_Pairs_picks_by ?ma_Pairs_counted ?mn_Pairs_counted ?ma_Pairs_told_by ?mn_Pairs_told_by ?ma_Pairs_outcome ?mn_Pairs_outcome ?na_Pairs_hands ?na_Pairs_seats ?na_Pairs_lots ?mc_PairsMargin ?pg_PairsMargin ?hd_PairsMargin ?po_PairsMargin ?sa_PairsMargin ?mm_PairsMargin ?mi_PairsMargin ?mf_PairsMargin ?mk_PairsMargin ?ma_PairsMargin_possible ?mn_PairsMargin_possible ?ma_PairsMargin_leads_in ?mn_PairsMargin_leads_in ?ma_PairsMargin_least ?mn_PairsMargin_least ?ma_PairsMargin_need_of ?mn_PairsMargin_need_of ?ma_PairsMargin_slip_for ?mn_PairsMargin_slip_for ?na_PairsMargin_way ?ja_PairsMargin_Margin ?jb_PairsMargin_Margin ?jc_PairsMargin_Margin ?jd_PairsMargin_Margin ?je_PairsMargin_Margin ?mc_Margin ?pg_Margin ?hd_Margin ?po_Margin ?sa_Margin
  (case a1=>k_is)
  (case l1=>k_is)
  (case c1=>k_is)
  (case k1=>k_is)
  (case a2=>k_is)
  (case l2=>k_is)
  (case c2=>k_is)
  (case k2=>k_is)
  (case a3=>k_is)
  (case l3=>k_is)
  (case c3=>k_is)
  (case k3=>k_is)
  (case a4=>k_is)
  (case l4=>k_is)
  (case c4=>k_is)
  (case k4=>k_is)
  (case a5=>k_is)
  (case l5=>k_is)
  (case c5=>k_is)
  (case k5=>k_is)
  (case a6=>k_is)
  (case l6=>k_is)
  (case c6=>k_is)
  (case k6=>k_is)
  (case a7=>k_is)
  (case l7=>k_is)
  (case c7=>k_is)
  (case k7=>k_is)
  (case a8=>k_is)
  (case l8=>k_is)
  (case c8=>k_is)
  (case k8=>k_is)
  (case a9=>k_is)
  (case l9=>k_is)
  (case c9=>k_is)
  (case k9=>k_is)
  (case a10=>k_is)
  (case l10=>k_is)
  (case c10=>k_is)
  (case k10=>k_is)
  (case a11=>k_is)
  (case l11=>k_is)
  (case c11=>k_is)
  (case k11=>k_is)
  (case a12=>k_is)
  (case l12=>k_is)
  (case c12=>k_is)
  (case k12=>k_is)
  (case a13=>k_is)
  (case l13=>k_is)
  (case c13=>k_is)
  (case k13=>k_is)
  (case a14=>k_is)
  (case l14=>k_is)
  (case c14=>k_is)
  (case k14=>k_is)
  (case a15=>k_is)
  (case l15=>k_is)
  (case c15=>k_is)
  (case k15=>k_is)
  (case a16=>k_is)
  (case l16=>k_is)
  (case c16=>k_is)
  (case k16=>k_is)
  (case a17=>k_is)
  (case l17=>k_is)
  (case c17=>k_is)
  (case k17=>k_is)
  (case a18=>k_is)
  (case l18=>k_is)
  (case c18=>k_is)
  (case k18=>k_is)
  (case a19=>k_is)
  (case l19=>k_is)
  (case c19=>k_is)
  (case k19=>k_is)
  (case a23=>k_is)
  (case l23=>k_is)
  (case c23=>k_is)
  (case k23=>k_is)
  (case a24=>k_is)
  (case l24=>k_is)
  (case c24=>k_is)
  (case k24=>k_is)
  (case a25=>k_is)
  (case l25=>k_is)
  (case c25=>k_is)
  (case k25=>k_is)
  (case a26=>k_is)
  (case l26=>k_is)
  (case c26=>k_is)
  (case k26=>k_is)
  (case a27=>k_is)
  (case l27=>k_is)
  (case c27=>k_is)
  (case k27=>k_is)
  (case a28=>k_is)
  (case l28=>k_is)
  (case c28=>k_is)
  (case k28=>k_is)
  (case a29=>k_is)
  (case l29=>k_is)
  (case c29=>k_is)
  (case k29=>k_is)
  (case a30=>k_is)
  (case l30=>k_is)
  (case c30=>k_is)
  (case k30=>k_is)
  (case a31=>k_is)
  (case l31=>k_is)
  (case c31=>k_is)
  (case k31=>k_is)
  (case a32=>k_is)
  (case l32=>k_is)
  (case c32=>k_is)
  (case k32=>k_is)
  (case a33=>k_is)
  (case l33=>k_is)
  (case c33=>k_is)
  (case k33=>k_is)
  (case a34=>k_is)
  (case l34=>k_is)
  (case c34=>k_is)
  (case k34=>k_is)
  (case a35=>k_is)
  (case l35=>k_is)
  (case c35=>k_is)
  (case k35=>k_is)
  (case a40=>k_is)
  (case l40=>k_is)
  (case c40=>k_is)
  (case k40=>k_is)
  (case a41=>k_is)
  (case l41=>k_is)
  (case c41=>k_is)
  (case k41=>k_is)
  (case a42=>k_is)
  (case l42=>k_is)
  (case c42=>k_is)
  (case k42=>k_is)
  (case a43=>k_is)
  (case l43=>k_is)
  (case c43=>k_is)
  (case k43=>k_is)
  (case a46=>k_is)
  (case l46=>k_is)
  (case c46=>k_is)
  (case k46=>k_is)
  (case a50=>k_is)
  (case l50=>k_is)
  (case c50=>k_is)
  (case k50=>k_is)
  (case a51=>k_is)
  (case l51=>k_is)
  (case c51=>k_is)
  (case k51=>k_is)
  (case z0=>k_is)
  (case z1=>k_is)
  (case z2=>k_is)
  (case z3=>k_is)
  (case z4=>k_is)
  (case z5=>k_is)
  (case z6=>k_is)
  (case z7=>k_is)
  (case z8=>k_is)
  (case z9=>k_is)
  (case z10=>k_is)
  (case z11=>k_is)
  (case z12=>k_is)
  (case z13=>k_is)
  (case z14=>k_is)
  (case kc_MOST_HANDS=>k_is)
  (case kc_MOST_SEATS=>k_is)
  (case mc_Pairs=>k_is)
  (case pg_Pairs=>k_is)
  (case hd_Pairs=>k_is)
  (case po_Pairs=>k_is)
  (case sa_Pairs=>k_is)
  (case mm_Pairs=>k_is)
  (case mi_Pairs=>k_is)
  (case mf_Pairs=>k_is)
  (case mk_Pairs=>k_is)
  (case ma_Pairs_ahead=>k_is)
  (case mn_Pairs_ahead=>k_is)
  (case ma_Pairs_picks_by=>k_is)
  (case mn_Pairs_picks_by=>k_is)
  (case ma_Pairs_counted=>k_is)
  (case mn_Pairs_counted=>k_is)
  (case ma_Pairs_told_by=>k_is)
  (case mn_Pairs_told_by=>k_is)
  (case ma_Pairs_outcome=>k_is)
  (case mn_Pairs_outcome=>k_is)
  (case na_Pairs_hands=>k_is)
  (case na_Pairs_seats=>k_is)
  (case na_Pairs_lots=>k_is)
  (case mc_PairsMargin=>k_is)
  (case pg_PairsMargin=>k_is)
  (case hd_PairsMargin=>k_is)
  (case po_PairsMargin=>k_is)
  (case sa_PairsMargin=>k_is)
  (case mm_PairsMargin=>k_is)
  (case mi_PairsMargin=>k_is)
  (case mf_PairsMargin=>k_is)
  (case mk_PairsMargin=>k_is)
  (case ma_PairsMargin_possible=>k_is)
  (case mn_PairsMargin_possible=>k_is)
  (case ma_PairsMargin_leads_in=>k_is)
  (case mn_PairsMargin_leads_in=>k_is)
  (case ma_PairsMargin_least=>k_is)
  (case mn_PairsMargin_least=>k_is)
  (case ma_PairsMargin_need_of=>k_is)
  (case mn_PairsMargin_need_of=>k_is)
  (case ma_PairsMargin_slip_for=>k_is)
  (case mn_PairsMargin_slip_for=>k_is)
  (case na_PairsMargin_way=>k_is)
  (case ja_PairsMargin_Margin=>k_is)
  (case jb_PairsMargin_Margin=>k_is)
  (case jc_PairsMargin_Margin=>k_is)
  (case jd_PairsMargin_Margin=>k_is)
  (case je_PairsMargin_Margin=>kernel_rfl)
  (case mc_Margin=>k_is)
  (case pg_Margin=>k_is)
  (case hd_Margin=>k_is)
  (case po_Margin=>k_is)
  (case sa_Margin=>k_is)
  (case l20=>k_is)
  (case c20=>k_is)
  (case k20=>k_is)
  (case l21=>k_is)
  (case c21=>k_is)
  (case k21=>k_is)
  (case l22=>k_is)
  (case c22=>k_is)
  (case k22=>k_is)
  (case l36=>k_is)
  (case c36=>k_is)
  (case k36=>k_is)
  (case l37=>k_is)
  (case c37=>k_is)
  (case k37=>k_is)
  (case l38=>k_is)
  (case c38=>k_is)
  (case k38=>k_is)
  (case l39=>k_is)
  (case c39=>k_is)
  (case k39=>k_is)
  (case l44=>k_is)
  (case c44=>k_is)
  (case k44=>k_is)
  (case l45=>k_is)
  (case c45=>k_is)
  (case k45=>k_is)
  (case dl45=>k_is)
  (case l47=>k_is)
  (case c47=>k_is)
  (case k47=>k_is)
  (case l48=>k_is)
  (case c48=>k_is)
  (case k48=>k_is)
  (case l49=>k_is)
  (case c49=>k_is)
  (case k49=>k_is)
#print axioms PySem.Challenge.cw_pollproof_k81_ways_and_cuts_of_margins_holds
