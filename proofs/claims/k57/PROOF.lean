import PyProof.Rows.All
import Wide.All
import OpenK.AllK
import Wide.FinOn
import Lean
import PyProof.EqAt
import PyProof.EqKinds
import PyProof.TupleCall
import PySem.Challenge.RW_pollproof_k57_other_papers_let_by
open List
set_option Elab.async false
set_option linter.all false
set_option maxRecDepth 100000
namespace Head
open PySem PySem.W PyProof.Rows
def OZ (p:Program) (w:World) (n0:Nat) (ann:Option Value):Nat->SharedT->Thread->Option SharedT
 | 0,_,_=>none
 | n+1,s,t=>match through t with
   | true=>some s
   | false=>match stepOk n0 ann t with
     | false=>none
     | true=>match stepT (denote treeTable) p w s t with
       | some (s',t')=>OZ p w n0 ann n s' t'
       | none=>none
theorem L4 {p:Program} {w:World} {n0:Nat} {ann:Option Value}:∀{n:Nat} {s s':SharedT} {t:Thread},OZ p w n0 ann n s t=some s'->topRun treeTable p w n0 ann n s.abs t=some s'.abs
 | 0,_,_,_,h=>by cases h
 | n+1,s,s',t,h=>by
   unfold OZ at h
   unfold topRun
   cases he:through t with
   | true=>rw [he] at h;cases h;rfl
   | false =>
     rw [he] at h
     cases hk:stepOk n0 ann t with
     | false=>rw [hk] at h;cases h
     | true =>
       rw [hk] at h
       cases hs:stepT (denote treeTable) p w s t with
       | none=>rw [hs] at h;cases h
       | some r=>obtain ⟨s2,t2⟩:=r;rw [hs] at h;rw [stepT_spec hs];exact L4 h
def ML:List Obj->Nat->BT->Option BT
 | [],_,t=>some t
 | o :: os,n,t=>match ((t.ins n o).get n).isSome with
   | true=>ML os (n+1) (t.ins n o)
   | false=>none
theorem L6 {life:Life}:∀{os:List Obj} {n:Nat} {t t':BT} {xs:List Obj},(absHeap t n life)=⟨xs.toArray,life⟩->ML os n t=some t'->absHeap t' (n+os.length) life=⟨(xs++os).toArray,life⟩
 | [],n,t,t',xs,a,h=>by
   cases h
   rw [append_nil]
   exact a
 | o :: os,n,t,t',xs,a,h=>by
   unfold ML at h
   cases g:((t.ins n o).get n).isSome with
   | false=>rw [g] at h;cases h
   | true =>
     rw [g] at h
     have b:absHeap (t.ins n o) (n+1) life=⟨(xs++[o]).toArray,life⟩:=by
      rw [absHeap_ins g,a]
      show (⟨xs.toArray.push o,life⟩:Heap)=_
      rw [push_toArray]
     have c:=L6 b h
     rw [append_assoc] at c
     rw [length_cons,show n+(os.length+1)=n+1+os.length by omega]
     exact c
theorem OH {H:Heap} {T:BT} (h:ML H.objs.toList 0 .nil=some T):absHeap T H.objs.size H.life=H:=by
 have c:=L6 (life:=H.life) (n:=0) (t:=.nil) (xs:=[]) rfl h
 rw [Nat.zero_add,Array.length_toList] at c
 rw [c]
 obtain ⟨a,l⟩:=H
 show (⟨([]++a.toList).toArray,l⟩:Heap)=⟨a,l⟩
 rw [nil_append,Array.toArray_toList]
theorem left {p q:Program} {loose:List PySem.Str} {Xt:Shared->Bool} {α:Type} {Yf:Shared->α} {Ya:World->α} {N:Nat} {g0:Bool}
 (e:opening p=plainProg p.main.scope.names) (hN:Nat.ble 600 N=true) (f:∀s,fenceModules? p s=some s)
 (h:∀(w:World) (os:OsState),((ML (boot_heap w.params).objs.toList 0 .nil).bind fun T=>(OZ p w (boot_heap w.params).objs.size ((boot_heap w.params).nsMap mainGlobals "__annotations__") N ⟨T,(boot_heap w.params).objs.size,(boot_heap w.params).life,Array.mk [],boot_drawn,boot_toks,os⟩ (topStub p)).map fun s =>
  (((boot_heap w.params).isNs mainGlobals,staticsOk (importedModules p.main.body) (boot_heap w.params) s.abs.heap && namesBound p s.abs.heap && gensDone s.abs && laidKept (boot_heap w.params) s.abs.heap),openSeen q loose (importedModules p.main.body) Xt g0 s.abs,Yf s.abs)) =
  some ((true,true),openGood q loose,Ya w)):LeftO p q loose Xt Yf Ya N g0:=fun w=>by
 obtain ⟨⟨hp,gs,d,k,os⟩,e1,e2⟩:=Option.map_eq_some_iff.mp (boot_open e hN f w)
 obtain ⟨rfl,rfl,rfl,rfl⟩:hp=boot_heap w.params/\gs=Array.mk []/\d=boot_drawn/\k=boot_toks:=by simpa using e2
 have z:=h w os
 cases gT:ML (boot_heap w.params).objs.toList 0 .nil with
 | none=>rw [gT] at z;cases z
 | some T =>
   rw [gT] at z
   obtain ⟨s,r,y⟩:=Option.map_eq_some_iff.mp z
   have r':=L4 r
   injection y with y1 y2
   injection y1 with y3 y4
   injection y2 with y5 y6
   have a:(⟨T,(boot_heap w.params).objs.size,(boot_heap w.params).life,Array.mk [],boot_drawn,boot_toks,os⟩:SharedT).abs=⟨boot_heap w.params,Array.mk [],boot_drawn,boot_toks,os⟩:=by
    unfold SharedT.abs
    rw [OH gT]
   rw [a] at r'
   unfold openEnds
   rw [e1]
   show (topFrom treeTable p w N _).map _=_
   have t:topFrom treeTable p w N ⟨boot_heap w.params,Array.mk [],boot_drawn,boot_toks,os⟩=some s.abs:=by
    unfold topFrom
    dsimp only
    rw [y3,r']
    show (match staticsOk (importedModules p.main.body) (boot_heap w.params) s.abs.heap && namesBound p s.abs.heap && gensDone s.abs && laidKept (boot_heap w.params) s.abs.heap with | true=>_ | false=>_)=_
    rw [y4]
   rw [t]
   exact congrArg some (Prod.ext y5 y6)
end Head
namespace Head
open PySem PySem.W PyProof.Rows
abbrev q0:Program:=view PySem.Challenge.pw_pollproof_k57_other_papers_let_by [10,57]
abbrev r0:OpenRow:=OpenLaw.row PySem.Challenge.rw_pollproof_k57_other_papers_let_by
local macro_rules | `(tactic| o_head $H)=>do
 let (hl,hw,hc):=(Lean.mkIdent `hl,Lean.mkIdent `hw,Lean.mkIdent `hc)
 `(tactic| (
   refine holds_open (r:=r0) (q:=q0) (loose:=[PySem.Str.ofString "_wall",PySem.Str.ofString "all_of",PySem.Str.ofString "holds",PySem.Str.ofString "with_one",PySem.Str.ofString "members",PySem.Str.ofString "overs",PySem.Str.ofString "hands_of",PySem.Str.ofString "leads_of",PySem.Str.ofString "way_by",PySem.Str.ofString "cut_by",PySem.Str.ofString "is_way",PySem.Str.ofString "is_cut",PySem.Str.ofString "least_link",PySem.Str.ofString "greatest_link",PySem.Str.ofString "PollError",PySem.Str.ofString "NoWay",PySem.Str.ofString "is_whole",PySem.Str.ofString "MOST_HANDS",PySem.Str.ofString "MOST_SEATS",PySem.Str.ofString "are_hands",PySem.Str.ofString "are_seats",PySem.Str.ofString "are_lots",PySem.Str.ofString "Way",PySem.Str.ofString "Checker",PySem.Str.ofString "pairs_in_order",PySem.Str.ofString "is_shown",PySem.Str.ofString "strengths_in",PySem.Str.ofString "PairsChecker",PySem.Str.ofString "shown_from",PySem.Str.ofString "is_beaten",PySem.Str.ofString "Pairs",PySem.Str.ofString "_law_whole",PySem.Str.ofString "_law_cell",PySem.Str.ofString "_law_mixed",PySem.Str.ofString "_law_order",PySem.Str.ofString "_law_ranks",PySem.Str.ofString "_law_slip",PySem.Str.ofString "_law_votes",PySem.Str.ofString "_law_sheet",PySem.Str.ofString "_law_leads",PySem.Str.ofString "_law_place",PySem.Str.ofString "_law_overs",PySem.Str.ofString "_law_reach",PySem.Str.ofString "_law_way_back",PySem.Str.ofString "_law_copy",PySem.Str.ofString "_law_other",PySem.Str.ofString "_law_let_by",PySem.Str.ofString "_law_two_sheets"]) (N:=100000)
    (Xt:=fun s=>xlAt q0 [] s && recOk (RowW.records (OpenRow.toRowW r0)) s)
    (XP:=XL q0 []) (Yf:=Hook.obs $H) (Ya:=Hook.val $H) (YP:=Hook.says $H)
    ?$hl (Hook.of $H) (Hook.keeps $H) (fun s e=>xl_of s (Bool.and_eq_true_iff.mp e).1) XL.keeps
    (by rfl) (by rfl) (by rfl) (fun s e=>recFacts_of (Bool.and_eq_true_iff.mp e).2) (by rfl) (by assumption)
    (by decide +kernel) ⟨rfl,rfl,rfl,rfl,rfl,by decide +kernel⟩ ?$hw ?$hc;
   (next=>(exact left (by kernel_rfl) (by decide) (fun s=>by kernel_rfl) (fun w os=>by kernel_rfl)))))
set_option maxRecDepth 100000 in
set_option maxHeartbeats 0 in
open_top top for PySem.Challenge.rw_pollproof_k57_other_papers_let_by
end Head
namespace L2
open PySem PySem.Spec PyProof.Rows
abbrev Key:=Sum Int Str
def Iz:Key->Value->Bool
 | .inl k,v=>Value.isInt k v
 | .inr x,v=>Value.isStrOf x v
def Su (w:World):Key->Int
 | .inl k=>hashInt k
 | .inr x=>hashStr w x
theorem Bt:∀{k:Key} {v:Value},Iz k v=true->(∃i t,k=Sum.inl i/\v=Value.int i t)\/(∃x t,k=Sum.inr x/\v=Value.str x t)
 | .inl i,v,h=>by
   obtain ⟨t,e⟩:=Value.isInt_shape (k:=i) (v:=v) h
   exact .inl ⟨i,t,rfl,e⟩
 | .inr x,v,h=>by
   obtain ⟨t,e⟩:=Value.isStrOf_shape (x:=x) (v:=v) h
   exact .inr ⟨x,t,rfl,e⟩
theorem MR (i:Int) (t:Tok):Iz (.inl i) (.int i t)=true:=by simp [Iz,Value.isInt]
theorem LS (x:Str) (t:Tok):Iz (.inr x) (.str x t)=true:=by simp [Iz,Value.isStrOf]
theorem QQ (a b:Int):decide ((Sum.inl a:Key)=Sum.inl b)=(a == b):=by
 by_cases e:a=b
 ·subst e;simp
 ·have h:¬ (Sum.inl a:Key)=Sum.inl b:=fun q=>e (Sum.inl.inj q)
  rw [decide_eq_false h]
  exact (beq_eq_false_iff_ne.mpr e).symm
theorem Qn (a b:Str):decide ((Sum.inr a:Key)=Sum.inr b)=decide (a=b):=by
 by_cases e:a=b
 ·subst e;simp
 ·have h:¬ (Sum.inr a:Key)=Sum.inr b:=fun q=>e (Sum.inr.inj q)
  rw [decide_eq_false h,decide_eq_false e]
theorem QU (a:Int) (b:Str):decide ((Sum.inl a:Key)=Sum.inr b)=false:=decide_eq_false (fun q=>nomatch q)
theorem QW (a:Str) (b:Int):decide ((Sum.inr a:Key)=Sum.inl b)=false:=decide_eq_false (fun q=>nomatch q)
def Bw (prog:Program) (w:World):PySem.KeyKind prog w Key where
 is:=Iz
 hash:=Su w
 inj:=fun v a b ha hb=>by
  rcases Bt ha with ⟨i,t,rfl,rfl⟩ | ⟨x,t,rfl,rfl⟩
  ·rcases Bt hb with ⟨j,u,rfl,e⟩ | ⟨y,u,rfl,e⟩
   ·injection e with e1 _;rw [e1]
   ·exact nomatch e
  ·rcases Bt hb with ⟨j,u,rfl,e⟩ | ⟨y,u,rfl,e⟩
   ·exact nomatch e
   ·injection e with e1 _;rw [e1]
 byValue:=fun k v h=>by
  rcases Bt h with ⟨i,t,rfl,rfl⟩ | ⟨x,t,rfl,rfl⟩ <;> rfl
 pyHash:=fun hv h=>by
  rcases Bt hv with ⟨i,t,rfl,rfl⟩ | ⟨x,t,rfl,rfl⟩
  ·exact wpAny_pyHash_int h
  ·exact wpAny_pyHash_str h
 eqBool:=fun hu hv h=>by
  rcases Bt hu with ⟨i,t,rfl,rfl⟩ | ⟨x,t,rfl,rfl⟩
  ·rcases Bt hv with ⟨j,u,rfl,rfl⟩ | ⟨y,u,rfl,rfl⟩
   ·rw [QQ] at h;exact wpAny_eqBool_int h
   ·rw [QU] at h;exact SeqAt.EqAt.int_str i t y u _ _ _ _ h
  ·rcases Bt hv with ⟨j,u,rfl,rfl⟩ | ⟨y,u,rfl,rfl⟩
   ·rw [QW] at h;exact SeqAt.EqAt.str_int x t j u _ _ _ _ h
   ·rw [Qn] at h;exact wpAny_eqBool_str h
 «strs»:=fun k x t v h=>by
  rcases Bt h with ⟨i,u,rfl,e⟩ | ⟨y,u,rfl,e⟩
  ·exact nomatch e
  ·injection e with e1 _
   subst e1
   cases v <;> rfl
theorem Ke (prog:Program) (w:World) (i:Int) (t:Tok):(Bw prog w).is (.inl i) (.int i t)=true:=MR i t
theorem JD (prog:Program) (w:World) (x:Str) (t:Tok):(Bw prog w).is (.inr x) (.str x t)=true:=LS x t
end L2
namespace L2
open PySem PySem.Spec PyProof.Rows
inductive V where
 | non | bl (b:Bool) | int (i:Int) | str (x:Str) | byt (b:Array UInt8) | flt (b:UInt64) | ref (a:Addr) | ty (n:String)
 deriving DecidableEq
def A8:V->Value->Prop
 | .non,u=>u=Value.none
 | .bl b,u=>u=Value.bool b
 | .int i,u=>∃t,u=Value.int i t
 | .str x,u=>∃t,u=Value.str x t
 | .byt b,u=>∃t,u=Value.bytes b t
 | .flt b,u=>∃t,u=Value.float b t
 | .ref a,u=>u=Value.ref a
 | .ty n,u=>u=Value.type n
abbrev A6:List V->List Value->Prop:=Paired A8
theorem A6.length {xs:List V} {us:List Value} (r:A6 xs us):xs.length=us.length:=Paired.length r
theorem A6.get:∀{xs:List V} {us:List Value} {i:Nat} {x:V},A6 xs us->xs[i]?=some x->∃u,us[i]?=some u/\A8 x u
 | _,_,_,_,.nil,e=>by simp at e
 | _,_,0,_,.cons r _,e=>by simp at e;subst e;exact ⟨_,rfl,r⟩
 | _,_,i+1,x,.cons _ t,e=>by
   obtain ⟨u,h1,h2⟩:=A6.get (i:=i) (x:=x) t (by simpa using e)
   exact ⟨u,by simpa using h1,h2⟩
theorem A6.set {x:V} {u:Value} (r:A8 x u):∀{xs:List V} {us:List Value} (i:Nat),A6 xs us->A6 (xs.set i x) (us.set i u)
 | _,_,_,.nil=>.nil
 | _,_,0,.cons _ t=>.cons r t
 | _,_,i+1,.cons q t=>.cons q (A6.set r i t)
theorem A6.append:∀{xs ys:List V} {us ws:List Value},A6 xs us->A6 ys ws->A6 (xs++ys) (us++ws)
 | _,_,_,_,.nil,s=>s
 | _,_,_,_,.cons r t,s=>.cons r (A6.append t s)
theorem A6.take:∀{xs:List V} {us:List Value} (n:Nat),A6 xs us->A6 (xs.take n) (us.take n)
 | _,_,0,_=>.nil
 | _,_,_+1,.nil=>.nil
 | _,_,n+1,.cons r t=>.cons r (A6.take n t)
theorem A6.drop:∀{xs:List V} {us:List Value} (n:Nat),A6 xs us->A6 (xs.drop n) (us.drop n)
 | _,_,0,r=>r
 | _,_,_+1,.nil=>.nil
 | _,_,n+1,.cons _ t=>A6.drop n t
def DV:Option V->Option Value->Prop
 | some v,some u=>A8 v u
 | none,none=>True
 | _,_=>False
def KV {κ:Type}:List (κ × V)->List (κ × Value)->Prop:=Paired fun (p:κ × V) (q:κ × Value)=>p.1=q.1/\A8 p.2 q.2
def kV:Key->V
 | .inl i=>.int i
 | .inr x=>.str x
inductive HO where
 | lst (xs:List V)
 | tup (xs:List V)
 | dK (kvs:List (Key × V)) | dT (kvs:List (List Key × V))
 | set (S:Int->Bool) (n:Nat)
 | ins (C dx:Addr) (fs:List (Str × V))
 | own (x:Addr)
 | xd (fs:List (Str × V))
 | met (f x:Addr)
 | rng (lo hi:Int)
 | frz (o:Obj) (u:HO)
 | tbl (ps:Array Value)
 | ext (φ:Heap->Prop)
abbrev Hp:=Addr->Option HO
def upd (H:Hp) (a:Addr) (o:HO):Hp:=fun b=>if b=a then some o else H b
theorem Ab {H:Hp} {a:Addr} {o:HO}:upd H a o a=some o:=by unfold upd;rw [if_pos rfl]
theorem Ai {H:Hp} {a b:Addr} {o:HO} (h:b≠a):upd H a o b=H b:=by unfold upd;rw [if_neg h]
theorem AT {H:Hp} {a:Addr} {o u:HO}:upd (upd H a o) a u=upd H a u:=by
 funext b;unfold upd;split <;> rfl
theorem DZ {H:Hp} {a b:Addr} {o u:HO} (h:H a=some o) (h':H b=some u) (d:o≠u):a≠b:=by
 intro e;subst e;rw [h] at h';exact d (Option.some.inj h')
theorem AZ {H:Hp} {a b:Addr} {o:HO} (h:H a=some o) (h':H b=none):a≠b:=by
 intro e;subst e;rw [h] at h';cases h'
section
variable (P:Program) (w:World)
def Ba (H:Hp) (h:Heap) (a:Addr):HO->Prop
 | .lst xs=>xs.length<=sizeLine/\∃(its:List Value) (n:Nat),A6 xs its/\h.get? a=some { cls:=.type "list",data:=.seq its.toArray n }
 | .tup xs=>xs.length<=sizeLine/\∃its:List Value,A6 xs its/\IsTup h a its.toArray
 | .dK kvs=>kvs.length<=sizeLine/\(a == sysModules)=false/\∃vs,KV kvs vs/\h.DictOf (Bw P w) a vs
 | .dT kvs=>kvs.length<=sizeLine/\(a == sysModules)=false/\∃xs:List (List Key × Addr × Value),
  Paired (fun (p:List Key × V) (q:List Key × Addr × Value)=>p.1=q.1/\H q.2.1=some (.tup (p.1.map kV))/\A8 p.2 q.2.2) kvs xs /\
  ∃o es ep,h.get? a=some o/\o.ExactDict/\o.data=.dict es ep/\es.toList=xs.map (entryOfKey (tupleKind (Bw P w)))/\(xs.map (·.1)).Nodup
 | .set S n=>h.SetOf (intKind P w) a S n
 | .ins C dx fs=>H dx=some (.own a)/\fs.length<=1000/\dx≠a/\h.get? a=some (PySem.W.instObj C dx) /\
  ∃mA,h.Ns1 dx mA/\(∀f,DV (fs.lookup f) (mA f))/\PySem.Within mA (fs.map (·.1))
 | .own _=>∃o,h.get? a=some o
 | .xd fs=>∃mA,h.Ns1 a mA/\∀f,DV (fs.lookup f) (mA f)
 | .rng lo hi=>∃t u v,h.get? a=some { cls:=.type "range",data:=.fields #[.int lo t,.int hi u,.int 1 v] }
 | .frz o u=>h.get? a=some o/\Ba H h a u
 | .tbl ps=>h.get? a=some { cls:=.none,data:=.fields ps }
 | .met f x=>h.get? a=some (PySem.W.methodObj (.ref f) (.ref x))
 | .ext φ=>φ h/\(∃o,h.get? a=some o)/\∀h1 h2:Heap,φ h1->(∀o,h1.get? a=some o->h2.get? a=some o)->φ h2
def HOk (H:Hp) (h:Heap):Prop:=∀a o,H a=some o->Ba P w H h a o
end
section
variable {P:Program} {w:World} {H H':Hp} {h h':Heap} {a:Addr} {o:HO}
theorem Ba.lt (x:Ba P w H h a o):a < h.objs.size:=by
 cases o with
 | lst xs=>obtain ⟨_,_,_,_,e⟩:=x;exact Heap.lt_size e
 | tup xs=>obtain ⟨_,_,_,p⟩:=x;exact p.lt
 | dK kvs=>obtain ⟨_,_,_,_,o,_,_,e,_⟩:=x;exact Heap.lt_size e
 | dT kvs=>obtain ⟨_,_,_,_,o,_,_,e,_⟩:=x;exact Heap.lt_size e
 | set S n=>obtain ⟨o,_,_,_,e,_⟩:=x;exact Heap.lt_size e
 | ins C dx fs=>obtain ⟨_,_,_,e,_⟩:=x;exact Heap.lt_size e
 | own y=>obtain ⟨_,e⟩:=x;exact Heap.lt_size e
 | xd fs=>obtain ⟨_,⟨_,_,_,e,_⟩,_⟩:=x;exact Heap.lt_size e
 | rng lo hi=>obtain ⟨_,_,_,e⟩:=x;exact Heap.lt_size e
 | frz ob u=>obtain ⟨e,_⟩:=x;exact Heap.lt_size e
 | tbl ps=>exact Heap.lt_size (show h.get? a=some _ from x)
 | met f y=>exact Heap.lt_size (show h.get? a=some _ from x)
 | ext φ=>obtain ⟨_,⟨_,e⟩,_⟩:=x;exact Heap.lt_size e
theorem Paired.mapP {α β:Type} {F G:α->β->Prop}:∀{l₁:List α} {l₂:List β},Paired F l₁ l₂->(∀a b,F a b->G a b)->Paired G l₁ l₂
 | _,_,.nil,_=>.nil
 | _,_,.cons r t,f=>.cons (f _ _ r) (Paired.mapP t f)
theorem Ba.stay (x:Ba P w H h a o) (k:∀b u,(b=a\/H b=some (.own a))->h.get? b=some u->h'.get? b=some u)
 (ho:∀b,H b=some (.own a)->H' b=some (.own a)) (ht:∀b xs,H b=some (.tup xs)->H' b=some (.tup xs)):Ba P w H' h' a o:=by
 induction o with
 | lst xs=>obtain ⟨z,its,n,r,e⟩:=x;exact ⟨z,its,n,r,k _ _ (.inl rfl) e⟩
 | tup xs=>obtain ⟨z,its,r,ob,e,c⟩:=x;exact ⟨z,its,r,ob,k _ _ (.inl rfl) e,c⟩
 | dK kvs=>obtain ⟨z,y,vs,r,ob,es,ep,e,c⟩:=x;exact ⟨z,y,vs,r,ob,es,ep,k _ _ (.inl rfl) e,c⟩
 | dT kvs =>
   obtain ⟨z,y,xs,r,ob,es,ep,e,c⟩:=x
   exact ⟨z,y,xs,Paired.mapP r fun p q z=>⟨z.1,ht _ _ z.2.1,z.2.2⟩,ob,es,ep,k _ _ (.inl rfl) e,c⟩
 | set S n=>obtain ⟨ob,es,ep,t,e,c⟩:=x;exact ⟨ob,es,ep,t,k _ _ (.inl rfl) e,c⟩
 | ins C dx fs =>
   obtain ⟨d,z,ne,e,mA,⟨od,es,ep,e2,c⟩,r⟩:=x
   exact ⟨ho _ d,z,ne,k _ _ (.inl rfl) e,mA,⟨od,es,ep,k _ _ (.inr d) e2,c⟩,r⟩
 | own y=>obtain ⟨ob,e⟩:=x;exact ⟨ob,k _ _ (.inl rfl) e⟩
 | xd fs=>obtain ⟨mA,⟨od,es,ep,e,c⟩,r⟩:=x;exact ⟨mA,⟨od,es,ep,k _ _ (.inl rfl) e,c⟩,r⟩
 | rng lo hi=>obtain ⟨t,u,v,e⟩:=x;exact ⟨t,u,v,k _ _ (.inl rfl) e⟩
 | frz ob u ih=>obtain ⟨e,q⟩:=x;exact ⟨k _ _ (.inl rfl) e,ih q⟩
 | tbl ps =>
   have e:h.get? a=some { cls:=.none,data:=.fields ps }:=x
   show h'.get? a=some { cls:=.none,data:=.fields ps }
   exact k a _ (.inl rfl) e
 | met f y =>
   have e:h.get? a=some (PySem.W.methodObj (.ref f) (.ref y)):=x
   show h'.get? a=some (PySem.W.methodObj (.ref f) (.ref y))
   exact k a _ (.inl rfl) e
 | ext φ=>obtain ⟨p,⟨o,e⟩,st⟩:=x;exact ⟨st _ _ p fun o q=>k _ _ (.inl rfl) q,⟨o,k _ _ (.inl rfl) e⟩,st⟩
theorem HOk.lt (x:HOk P w H h) (e:H a=some o):a < h.objs.size:=(x a o e).lt
theorem HOk.fresh (x:HOk P w H h) (e:h.objs.size<=a):H a=none:=by
 cases q:H a with
 | none=>rfl
 | some u=>exact absurd (Nat.lt_of_lt_of_le (x.lt q) e) (Nat.lt_irrefl _)
theorem HOk.kept (x:HOk P w H h) (k:∀b u,h.get? b=some u->h'.get? b=some u):HOk P w H h':=fun a o e =>
 (x a o e).stay (fun b u _ q=>k b u q) (fun _ q=>q) fun _ _ q=>q
theorem HOk.laid (x:HOk P w H h) (k:∀b u,h.get? b=some u->h'.get? b=some u) (hp:h.objs.size<=a) (new:Ba P w (upd H a o) h' a o):HOk P w (upd H a o) h':=fun b u e=>by
 have hn:=x.fresh hp
 by_cases hb:b=a
 ·subst hb;rw [Ab] at e;cases e;exact new
 ·rw [Ai hb] at e
  exact (x b u e).stay (fun c v _ q=>k c v q) (fun c q=>by rw [Ai (AZ q hn)];exact q) fun c xs q=>by rw [Ai (AZ q hn)];exact q
end
def Rd (H:Hp) (a:Addr) (u:HO):Prop:=H a=some u\/∃o,H a=some (.frz o u)
theorem Rd.ok {P:Program} {w:World} {H:Hp} {h:Heap} {a:Addr} {u:HO} (r:Rd H a u) (x:HOk P w H h):Ba P w H h a u:=by
 rcases r with r | ⟨o,r⟩
 ·exact x a u r
 ·obtain ⟨_,q⟩:=x a _ r
  exact q
def Mut:Option HO->Prop
 | some (.lst _)=>True
 | some (.dK _)=>True
 | some (.dT _)=>True
 | some (.set _ _)=>True
 | some (.ins _ _ _)=>True
 | some (.ext _)=>True
 | _=>False
section
variable {P:Program} {w:World} {H:Hp} {h h':Heap} {x e:Addr} {o':HO}
theorem HOk.write (ok:HOk P w H h) (mu:Mut (H x)) (he:e=x\/H e=some (.own x)) (k:∀b u,b≠e->h.get? b=some u->h'.get? b=some u) (heo:∃u,h'.get? e=some u)
 (new:Ba P w (upd H x o') h' x o'):HOk P w (upd H x o') h':=fun b u q=>by
 have nown:∀c y,H c=some (.own y)->c≠x:=fun c y r z=>by subst z;rw [r] at mu;exact mu
 have ntup:∀c xs,H c=some (.tup xs)->c≠x:=fun c xs r z=>by subst z;rw [r] at mu;exact mu
 by_cases hb:b=x
 ·subst hb;rw [Ab] at q;cases q;exact new
 ·rw [Ai hb] at q
  by_cases hbe:b=e
  ·have q':H b=some (.own x):=by
    rcases he with z | z
    ·exact absurd (hbe.trans z) hb
    ·rw [hbe];exact z
   rw [q] at q';cases q'
   obtain ⟨v,hv⟩:=heo
   exact ⟨v,by rw [hbe];exact hv⟩
  ·refine (ok b u q).stay (fun c v hc r=>k c v ?_ r) (fun c r=>by rw [Ai (nown c b r)];exact r) fun c xs r=>by rw [Ai (ntup c xs r)];exact r
   rcases hc with rfl | hc
   ·exact hbe
   ·rintro rfl
    rcases he with z | z
    ·exact nown c b hc z
    ·rw [hc] at z;cases z;exact hb rfl
end
structure Un (fs ex:List Addr) (H H':Hp) (h h':Heap):Prop where
 keep:∀b o,h.get? b=some o->H b=none->b ∉ fs->b ∉ ex->h'.get? b=some o
 slot:∀b o,h.get? b=some o->H b=none->b∈fs->b ∉ ex->∃sl,h'.get? b=some { o with slots:=sl }
 free:∀b o,h.get? b=some o->H b=none->b ∉ ex->H' b=none
 there:∀b o,h.get? b=some o->b ∉ ex->∃o',h'.get? b=some o'
 tups:∀b xs,H b=some (.tup xs)->H' b=some (.tup xs)
 frzs:∀b o u,H b=some (.frz o u)->H' b=some (.frz o u)
 tbls:∀b ps,H b=some (.tbl ps)->∃more,H' b=some (.tbl (ps++more))
section
variable {fs fs' ex ex':List Addr} {H H1 H2:Hp} {h h1 h2 h':Heap} {a x e:Addr} {o:HO}
theorem Un.any (u:Un fs ex H H1 h h1) {b:Addr} {ob:Obj} (q:h.get? b=some ob) (n:H b=none) (hx:b ∉ ex):∃sl,h1.get? b=some { ob with slots:=sl }:=by
 by_cases hb:b∈fs
 ·exact u.slot b ob q n hb hx
 ·exact ⟨ob.slots,u.keep b ob q n hb hx⟩
theorem Un.kept (k:∀b u,h.get? b=some u->h'.get? b=some u):Un fs ex H H h h' :=
 ⟨fun b ob q _ _ _=>k b ob q,fun b ob q _ _ _=>⟨ob.slots,k b ob q⟩,fun _ _ _ n _=>n,fun b ob q _=>⟨ob,k b ob q⟩,fun _ _ q=>q,fun _ _ _ q=>q,fun _ ps q=>⟨#[],by rw [q];simp⟩⟩
theorem Un.refl:Un fs ex H H h h:=Un.kept fun _ _ q=>q
theorem Un.laid (k:∀b u,h.get? b=some u->h'.get? b=some u) (hp:h.objs.size<=a) (hn:H a=none):Un fs ex H (upd H a o) h h' where
 keep:=fun b u q _ _ _=>k b u q
 slot:=fun b u q _ _ _=>⟨u.slots,k b u q⟩
 free:=fun b u q n _=>by rw [Ai (Nat.ne_of_lt (Nat.lt_of_lt_of_le (Heap.lt_size q) hp))];exact n
 there:=fun b u q _=>⟨u,k b u q⟩
 tups:=fun b xs q=>by rw [Ai (AZ q hn)];exact q
 frzs:=fun b u xs q=>by rw [Ai (AZ q hn)];exact q
 tbls:=fun b ps q=>⟨#[],by rw [Ai (AZ q hn),q];simp⟩
theorem Un.write (mu:Mut (H x)) (he:e=x\/H e=some (.own x)) (k:∀b u,b≠e->h.get? b=some u->h'.get? b=some u) (heo:∃u,h'.get? e=some u):Un fs ex H (upd H x o) h h':=by
 have hx:∀b,H b=none->b≠x:=fun b n z=>by subst z;rw [n] at mu;exact mu
 have hb:∀b,H b=none->b≠e:=fun b n z=>by
  subst z
  rcases he with r | r
  ·exact hx b n r
  ·rw [n] at r;cases r
 have hm:∀b u,H b=some u->¬ Mut (some u)->b≠x:=fun b u q nm z=>by subst z;rw [q] at mu;exact nm mu
 refine ⟨fun b u q n _ _=>k b u (hb b n) q,fun b u q n _ _=>⟨u.slots,k b u (hb b n) q⟩,fun b u q n _=>by rw [Ai (hx b n)];exact n,fun b u q _=>?_,
  fun b xs q=>by rw [Ai (hm b _ q fun z=>z)];exact q,fun b u xs q=>by rw [Ai (hm b _ q fun z=>z)];exact q,fun b ps q=>⟨#[],by rw [Ai (hm b _ q fun z=>z),q];simp⟩⟩
 by_cases hbe:b=e
 ·subst hbe;exact heo
 ·exact ⟨u,k b u hbe q⟩
end
def trk (h:Heap) (H:Hp):List Addr:=(List.range h.objs.size).filter fun a=>(H a).isSome
def G7 (h:Heap) (H:Hp):Heap:=PySem.W.hideAll h (trk h H)
theorem M5 (h:Heap) (H:Hp):(G7 h H).objs.size=h.objs.size:=PySem.W.hideAll_size _ _
theorem Oj {h:Heap} {H:Hp} {b:Addr} {o:Obj} (e:h.get? b=some o) (n:H b=none):(G7 h H).get? b=some o :=
 PySem.W.hideAll_get _ e fun hm=>by
  have q:(H b).isSome=true:=(mem_filter.mp hm).2
  rw [n] at q;simp at q
theorem LH {h:Heap} {H:Hp} {b:Addr} {o:Obj} (e:(G7 h H).get? b=some o):h.get? b=some o/\H b=none:=by
 have e':h.get? b=some o:=PySem.W.of_hideAll (trk h H) e
 refine ⟨e',?_⟩
 cases q:H b with
 | none=>rfl
 | some x =>
   have hm:b∈trk h H:=mem_filter.mpr ⟨mem_range.mpr (Heap.lt_size e'),by simp [q]⟩
   have z:(G7 h H).get? b=none:=PySem.W.hideAll_none (trk h H) hm
   rw [z] at e;cases e
end L2
namespace L2
open PySem PySem.Spec PyProof.Rows
structure Mod (K:PySem.W.Frag) (mg:Str->Option Value) (base:Heap):Prop where
 kin:K.In base
 glob:base.Ns mainGlobals mg
 blt:∃mb,base.Ns builtinsNs mb/\∀x:Str,x≠"__name__"->mb x=bootBuiltins x
 nolimit:base.NoLimit
structure Cx where
 prog:Program
 w:World
 K:PySem.W.Frag
 mg:Str->Option Value
 base:Heap
 A:Around
 N:List Str
 s₀:Shared
 H₀:Hp
 env:Env
 outer:List Env
 stack:List Env
 ex:List Addr
 fn:Str->Bool
 calm:Bool
 pn:List (Addr × Obj)
 xe:Value->Shared->Prop
def frs (l:List Env):List Addr:=l.filterMap (·.frame)
abbrev Cx.fs (X:Cx):List Addr:=frs X.outer
def Vis (sc:Scope) (x:Str):Prop:=sc.names.lookup x=some .local\/sc.names.lookup x=some .cell\/sc.names.lookup x=some .free
def Loc (sc:Scope) (x:Str):Prop:=sc.names.lookup x=some .local\/sc.names.lookup x=some .cell
def RX (env:Env) (h:Heap) (m:Str->Option Value) (x:Str) (u:Value):Prop :=
 (env.kindOf x=some .local/\m x=some u)\/((env.kindOf x=some .cell\/env.kindOf x=some .free)/\∃c,env.cells.lookup x=some c/\h.IsCell c (some u))
structure Cx.Ok (X:Cx):Prop where
 mod:Mod X.K X.mg X.base
 kind:X.env.scope.kind=.function
 glob:X.env.globals=mainGlobals
 blt:X.env.builtins=builtinsNs
 above:X.s₀.heap.objs.size<=X.env.locals
 inj:∀x y c,X.env.cells.lookup x=some c->X.env.cells.lookup y=some c->x=y
 has:∀x,(X.env.kindOf x=some .cell\/X.env.kindOf x=some .free)->∃c,X.env.cells.lookup x=some c
 cab:∀x c,X.fn x=true->X.env.cells.lookup x=some c->X.s₀.heap.objs.size<=c
 hd:X.calm=true->X.A.handled=none
 frames:X.A.frames=some X.stack
 stk:X.stack=X.outer\/(X.stack=X.env :: X.outer/\X.env.frame=some X.env.locals)
 exf:∀b∈X.ex,b≠X.env.locals/\∀x c,X.env.cells.lookup x=some c->c≠b
 bs:∀b o,X.base.get? b=some o->X.s₀.heap.get? b=some o/\X.H₀ b=none
 bsz:X.base.objs.size<=X.s₀.heap.objs.size
 noex:∀b o,X.base.get? b=some o->b ∉ X.ex
 exfs:∀b∈X.ex,b ∉ X.fs
 funs:X.s₀.heap.FunFrames X.base X.outer
 frf:∀b∈X.fs,X.H₀ b=none
structure Inv (X:Cx) (pins:List (Addr × Obj)) (σ:List (Option V)) (H:Hp) (s:Shared):Prop where
 ok:X.Ok
 os:s.os=X.s₀.os
 bare:AllBare s.gens
 base:Un X.fs X.ex X.H₀ H X.s₀.heap s.heap
 loc:∃m,s.heap.Ns X.env.locals m/\∀(i:Nat) (x:Str) (v:V),X.N[i]?=some x->σ[i]?=some (some v)->Vis X.env.scope x->∃u,A8 v u/\RX X.env s.heap m x u
 cell:∀x c,X.env.cells.lookup x=some c->∃v,s.heap.IsCell c v
 free:H X.env.locals=none
 freeC:∀x c,X.env.cells.lookup x=some c->H c=none
 pin:∀p∈X.pn++pins,s.heap.get? p.1=some p.2/\H p.1=none/\p.1≠X.env.locals/\p.1 ∉ X.fs/\∀v,p.2.data≠.cell v
 hok:HOk X.prog X.w H s.heap
 len:σ.length=X.N.length
section
variable {X:Cx} {pins:List (Addr × Obj)} {σ:List (Option V)} {H H':Hp} {s:Shared} {h':Heap}
theorem Cx.Ok.nofr (ok:X.Ok) {b:Addr} {o:Obj} (e:X.base.get? b=some o):b ∉ X.fs:=fun hb=>by
 have:=(ok.funs.mem hb).1
 rw [e] at this;cases this
theorem Inv.bs (I:Inv X pins σ H s):∀b o,X.base.get? b=some o->s.heap.get? b=some o/\H b=none:=fun b o e =>
 ⟨I.base.keep b o (I.ok.bs b o e).1 (I.ok.bs b o e).2 (I.ok.nofr e) (I.ok.noex b o e),I.base.free b o (I.ok.bs b o e).1 (I.ok.bs b o e).2 (I.ok.noex b o e)⟩
theorem Inv.bk (I:Inv X pins σ H s):∀b o,X.base.get? b=some o->s.heap.get? b=some o:=fun b o e=>(I.bs b o e).1
theorem Inv.mod (I:Inv X pins σ H s):Mod X.K X.mg X.base:=I.ok.mod
theorem Inv.kIn (I:Inv X pins σ H s):X.K.In s.heap:=I.ok.mod.kin.keeps I.bk
theorem Inv.nolimit (I:Inv X pins σ H s):s.heap.NoLimit:=I.ok.mod.nolimit.keeps I.bk
theorem Inv.lt (I:Inv X pins σ H s):X.env.locals < s.heap.objs.size:=let ⟨_,hn,_⟩:=I.loc;hn.lt
theorem Inv.sz (I:Inv X pins σ H s):X.s₀.heap.objs.size<=s.heap.objs.size:=Nat.le_trans I.ok.above (Nat.le_of_lt I.lt)
theorem Inv.nofs (I:Inv X pins σ H s) {a:Addr} (h:s.heap.objs.size<=a):a ∉ X.fs:=fun hb=>by
 obtain ⟨_,o,ho,_⟩:=I.ok.funs.mem hb
 exact absurd (Nat.lt_of_lt_of_le (Heap.lt_size ho) (Nat.le_trans I.sz h)) (Nat.lt_irrefl _)
theorem Inv.cne (I:Inv X pins σ H s):∀x c,X.env.cells.lookup x=some c->c≠X.env.locals:=fun x c e z=>by
 obtain ⟨v,o,ho,hd⟩:=I.cell x c e
 obtain ⟨m,⟨o',es,ep,ho',hd',_⟩,_⟩:=I.loc
 rw [z,ho'] at ho;cases ho;rw [hd'] at hd;cases hd
theorem Inv.funs (I:Inv X pins σ H s):s.heap.FunFrames X.base X.outer:=by
 have all:∀(l:List Env),(∀b∈frs l,b∈X.fs)->X.s₀.heap.FunFrames X.base l->s.heap.FunFrames X.base l:=by
  intro l
  induction l with
  | nil=>intro _ _;trivial
  | cons env r ih =>
    intro hs hl
    obtain ⟨hk,⟨L,o,hf,hn,ho,hd⟩,hr⟩:=hl
    have hL:L∈X.fs:=hs L (by unfold frs;rw [filterMap_cons,hf];exact mem_cons_self)
    obtain ⟨sl,e⟩:=I.base.slot L o ho (I.ok.frf L hL) hL fun z=>I.ok.exfs L z hL
    exact ⟨hk,⟨L,_,hf,hn,e,hd⟩,ih (fun b hb=>hs b (by unfold frs;rw [filterMap_cons,hf];exact mem_cons_of_mem _ hb)) hr⟩
 exact all X.outer (fun _ hb=>hb) I.ok.funs
theorem Inv.stack (I:Inv X pins σ H s):s.heap.FunFrames X.base X.stack:=by
 rcases I.ok.stk with e | ⟨e,hf⟩
 ·rw [e];exact I.funs
 ·rw [e]
  obtain ⟨m,hn,_⟩:=I.loc
  refine .cons (by rw [I.ok.kind];decide) hf hn ?_ I.funs
  exact Heap.get?_none_of_le (Nat.le_trans I.ok.bsz I.ok.above)
theorem Inv.stkSub (I:Inv X pins σ H s):∀b∈frs X.stack,b∈X.env.locals :: X.fs:=fun b hb=>by
 rcases I.ok.stk with e | ⟨e,hf⟩
 ·rw [e] at hb;exact mem_cons_of_mem _ hb
 ·rw [e] at hb
  unfold frs at hb
  rw [filterMap_cons,hf] at hb
  exact hb
theorem Inv.stkFree (I:Inv X pins σ H s):∀b∈frs X.stack,H b=none:=fun b hb=>by
 rcases mem_cons.mp (I.stkSub b hb) with e | hb
 ·rw [e];exact I.free
 ·obtain ⟨_,o,ho,_⟩:=I.ok.funs.mem hb
  exact I.base.free b o ho (I.ok.frf b hb) fun z=>I.ok.exfs b z hb
theorem Inv.step {g':Array GenState} {t':Nat} {d':Drawn} {ch:List Addr} (I:Inv X pins σ H s)
 (hch:∀b∈ch,(b∈X.ex\/X.s₀.heap.objs.size<=b)/\b≠X.env.locals/\(∀x c,X.env.cells.lookup x=some c->c≠b)/\∀p∈X.pn++pins,p.1≠b)
 (keep:∀b o,b≠X.env.locals->b ∉ X.fs->b ∉ ch->s.heap.get? b=some o->H b=none->h'.get? b=some o)
 (slot:∀b o,b≠X.env.locals->b∈X.fs->b ∉ ch->s.heap.get? b=some o->H b=none->∃sl,h'.get? b=some { o with slots:=sl }) (free:∀b o,b ∉ ch->s.heap.get? b=some o->H b=none->H' b=none)
 (there:∀b o,b ∉ ch->s.heap.get? b=some o->∃o',h'.get? b=some o')
 (tups:∀b xs,H b=some (.tup xs)->H' b=some (.tup xs)) (frzs:∀b o u,H b=some (.frz o u)->H' b=some (.frz o u)) (tbls:∀b ps,H b=some (.tbl ps)->∃more,H' b=some (.tbl (ps++more)))
 (ns:∀m,s.heap.Ns X.env.locals m->h'.Ns X.env.locals m) (hok:HOk X.prog X.w H' h') (hg:AllBare g') :
 Inv X pins σ H' { s with heap:=h',gens:=g',drawn:=d',toks:=t' }:=by
 have neL:∀b o,X.s₀.heap.get? b=some o->b≠X.env.locals:=fun b o e=>Nat.ne_of_lt (Nat.lt_of_lt_of_le (Heap.lt_size e) I.ok.above)
 have neC:∀b o,X.s₀.heap.get? b=some o->b ∉ X.ex->b ∉ ch:=fun b o e hx hb=>by
  rcases (hch b hb).1 with z | z
  ·exact hx z
  ·exact absurd (Nat.lt_of_lt_of_le (Heap.lt_size e) z) (Nat.lt_irrefl _)
 have cellK:∀x c,X.env.cells.lookup x=some c->∀v,s.heap.IsCell c v->h'.IsCell c v:=fun x c e v ⟨o,ho,hd⟩=>by
  have nch:c ∉ ch:=fun z=>(hch c z).2.2.1 x c e rfl
  by_cases hc:c∈X.fs
  ·obtain ⟨sl,q⟩:=slot c o (I.cne x c e) hc nch ho (I.freeC x c e)
   exact ⟨_,q,hd⟩
  ·exact ⟨o,keep c o (I.cne x c e) hc nch ho (I.freeC x c e),hd⟩
 refine ⟨I.ok,I.os,hg,⟨fun b o e n hb hx=>?_,fun b o e n hb hx=>?_,fun b o e n hx=>?_,fun b o e hx=>?_,fun b xs e=>tups b xs (I.base.tups b xs e),fun b o xs e=>frzs b o xs (I.base.frzs b o xs e),fun b ps e=>?_⟩,?_,fun x c e=>?_,?_,fun x c e=>?_,fun p hp=>?_,hok,I.len⟩
 ·exact keep b o (neL b o e) hb (neC b o e hx) (I.base.keep b o e n hb hx) (I.base.free b o e n hx)
 ·obtain ⟨sl,e1⟩:=I.base.slot b o e n hb hx
  obtain ⟨sl',e2⟩:=slot b _ (neL b o e) hb (neC b o e hx) e1 (I.base.free b o e n hx)
  exact ⟨sl',e2⟩
 ·obtain ⟨o',e1⟩:=I.base.there b o e hx
  exact free b o' (neC b o e hx) e1 (I.base.free b o e n hx)
 ·obtain ⟨o',e1⟩:=I.base.there b o e hx
  exact there b o' (neC b o e hx) e1
 ·obtain ⟨m1,e1⟩:=I.base.tbls b ps e
  obtain ⟨m2,e2⟩:=tbls b _ e1
  exact ⟨m1++m2,by rw [e2,Array.append_assoc]⟩
 ·obtain ⟨m,hn,hl⟩:=I.loc
  refine ⟨m,ns m hn,fun i x v e1 e2 e3=>?_⟩
  obtain ⟨u,r,l⟩:=hl i x v e1 e2 e3
  refine ⟨u,r,?_⟩
  rcases l with l | ⟨k,c,e,z⟩
  ·exact .inl l
  ·exact .inr ⟨k,c,e,cellK x c e _ z⟩
 ·obtain ⟨v,z⟩:=I.cell x c e
  exact ⟨v,cellK x c e v z⟩
 ·obtain ⟨m,⟨o,_,_,ho,_⟩,_⟩:=I.loc
  exact free _ o (fun z=>(hch _ z).2.1 rfl) ho I.free
 ·obtain ⟨v,o,ho,hd⟩:=I.cell x c e
  exact free c o (fun z=>(hch c z).2.2.1 x c e rfl) ho (I.freeC x c e)
 ·obtain ⟨e,n,ne,nf,d⟩:=I.pin p hp
  have nch:p.1 ∉ ch:=fun z=>(hch p.1 z).2.2.2 p hp rfl
  exact ⟨keep p.1 p.2 ne nf nch e n,free p.1 p.2 nch e n,ne,nf,d⟩
theorem Inv.un {t':Nat} (I:Inv X pins σ H s) (u:Un X.fs [] H H' s.heap h') (hok:HOk X.prog X.w H' h'):Inv X pins σ H' { s with heap:=h',toks:=t' }:=by
 obtain ⟨m,⟨o,es,ep,ho,r⟩,_⟩:=id I.loc
 obtain ⟨sl,hL⟩:=u.any ho I.free (by simp)
 exact I.step (g':=s.gens) (d':=s.drawn) (ch:=[]) (fun _ z=>nomatch z) (fun b o _ hb _ e n=>u.keep b o e n hb (by simp)) (fun b o _ hb _ e n=>u.slot b o e n hb (by simp)) (fun b o _ e n=>u.free b o e n (by simp)) (fun b o _ e=>u.there b o e (by simp)) u.tups u.frzs u.tbls (fun m' hm=>by
  obtain ⟨o',es',ep',ho',r'⟩:=hm
  rw [ho] at ho';cases ho'
  exact ⟨_,es',ep',hL,r'⟩) hok I.bare
theorem Inv.call {g':Array GenState} {t':Nat} {d':Drawn} {ch:List Addr} (I:Inv X pins σ H s) (u:Un (frs X.stack) ch H H' s.heap h') (hok:HOk X.prog X.w H' h') (hg:AllBare g')
 (hch:∀b∈ch,(b∈X.ex\/X.s₀.heap.objs.size<=b)/\b≠X.env.locals/\(∀x c,X.env.cells.lookup x=some c->c≠b)/\∀p∈X.pn++pins,p.1≠b) :
 Inv X pins σ H' { s with heap:=h',gens:=g',drawn:=d',toks:=t' }:=by
 obtain ⟨m,⟨o,es,ep,ho,r⟩,_⟩:=id I.loc
 obtain ⟨sl,hL⟩:=u.any ho I.free fun z=>(hch _ z).2.1 rfl
 exact I.step (ch:=ch) hch (fun b o hL hb hc e n=>u.keep b o e n (fun z=>(mem_cons.mp (I.stkSub b z)).elim hL hb) hc) (fun b o _ _ hc e n=>u.any e n hc) (fun b o hc e n=>u.free b o e n hc) (fun b o hc e=>u.there b o e hc) u.tups u.frzs u.tbls (fun m' hm=>by
  obtain ⟨o',es',ep',ho',r'⟩:=hm
  rw [ho] at ho';cases ho'
  exact ⟨_,es',ep',hL,r'⟩) hok hg
theorem Inv.turned {t':Nat} {it:Addr} (I:Inv X pins σ H s) (k:∀b o,b≠it->s.heap.get? b=some o->h'.get? b=some o) (hn:H it=none) (hL:it≠X.env.locals)
 (h1:it∈X.ex\/X.s₀.heap.objs.size<=it) (h2:∀x c,X.env.cells.lookup x=some c->c≠it) (h3:∀p∈X.pn++pins,p.1≠it):Inv X pins σ H { s with heap:=h',toks:=t' }:=by
 have nit:∀b u,H b=some u->b≠it:=fun b u e z=>by rw [z,hn] at e;cases e
 refine I.step (g':=s.gens) (d':=s.drawn) (ch:=[it]) (fun b hb=>?_) (fun b o _ _ hc e _=>k b o (fun z=>hc (by simp [z])) e) (fun b o _ _ hc e _=>⟨o.slots,k b o (fun z=>hc (by simp [z])) e⟩) (fun _ _ _ _ n=>n)
  (fun b o hc e=>⟨o,k b o (fun z=>hc (by simp [z])) e⟩) (fun _ _ e=>e) (fun _ _ _ e=>e) (fun b ps e=>⟨#[],by rw [e];simp⟩) (fun m hm=>?_) (fun b u e=>?_) I.bare
 ·have e:b=it:=by simpa using hb
  subst e
  exact ⟨h1,hL,h2,h3⟩
 ·obtain ⟨o,es,ep,ho,r⟩:=hm
  exact ⟨o,es,ep,k _ o (Ne.symm hL) ho,r⟩
 ·refine (I.hok b u e).stay (fun c v hc q=>k c v ?_ q) (fun _ q=>q) fun _ _ q=>q
  rcases hc with z | z
  ·rw [z];exact nit b u e
  ·exact nit c _ z
theorem Inv.tok (I:Inv X pins σ H s) (t:Nat):Inv X pins σ H { s with toks:=t }:=I.un (h':=s.heap) (t':=t) Un.refl I.hok
theorem Inv.kept {t':Nat} (I:Inv X pins σ H s) (k:∀b u,s.heap.get? b=some u->h'.get? b=some u):Inv X pins σ H { s with heap:=h',toks:=t' }:=I.un (Un.kept k) (I.hok.kept k)
theorem Inv.laid {a:Addr} {o:HO} {t':Nat} (I:Inv X pins σ H s) (k:∀b u,s.heap.get? b=some u->h'.get? b=some u) (hp:s.heap.objs.size<=a) (new:Ba X.prog X.w (upd H a o) h' a o) :
 Inv X pins σ (upd H a o) { s with heap:=h',toks:=t' }:=I.un (Un.laid k hp (I.hok.fresh hp)) (I.hok.laid k hp new)
theorem Inv.write {x e:Addr} {o:HO} {t':Nat} (I:Inv X pins σ H s) (mu:Mut (H x)) (he:e=x\/H e=some (.own x)) (k:∀b u,b≠e->s.heap.get? b=some u->h'.get? b=some u) (heo:∃u,h'.get? e=some u)
 (new:Ba X.prog X.w (upd H x o) h' x o):Inv X pins σ (upd H x o) { s with heap:=h',toks:=t' }:=I.un (Un.write mu he k heo) (I.hok.write mu he k heo new)
theorem Inv.pins_of {pins':List (Addr × Obj)} (I:Inv X pins σ H s) (h:∀p∈pins',s.heap.get? p.1=some p.2/\H p.1=none/\p.1≠X.env.locals/\p.1 ∉ X.fs/\∀v,p.2.data≠.cell v):Inv X pins' σ H s :=
 ⟨I.ok,I.os,I.bare,I.base,I.loc,I.cell,I.free,I.freeC,fun p hp=>(mem_append.mp hp).elim (fun z=>I.pin p (mem_append_left _ z)) (h p),I.hok,I.len⟩
theorem Ka {N:List Str} (hN:N.Nodup) {i j:Nat} {x:Str} (a:N[i]?=some x) (b:N[j]?=some x):i=j:=by
 obtain ⟨h1,e1⟩:=List.getElem?_eq_some_iff.mp a
 obtain ⟨h2,e2⟩:=List.getElem?_eq_some_iff.mp b
 exact (getElem_inj hN).mp (e1.trans e2.symm)
theorem HL {M:Model} {A:Around} {E:Value->Shared->Prop} {i:Nat} {x:Str} {v:V} {u:Value} {Q:Unit->Shared->Prop} (I:Inv X pins σ H s) (hN:X.N.Nodup) (hi:X.N[i]?=some x) (hx:Loc X.env.scope x) (r:A8 v u)
 (h:∀s',Inv X pins (σ.set i (some v)) H s'->(∃a,Heap.SameBut a s.heap s'.heap/\(a=X.env.locals\/X.env.cells.lookup x=some a))->Q () s') (hf:X.fn x=true\/X.env.scope.names.lookup x=some .local:=by first | exact .inl rfl | exact .inr rfl | assumption):wpAny M A (storeName X.env x u) Q E s:=by
 obtain ⟨m,hn,hl⟩:=id I.loc
 have hcls:(X.env.scope.kind == .class || (X.env.scope.kind == .module && X.env.locals != X.env.globals))=false:=by rw [I.ok.kind];rfl
 have hiσ:i < σ.length:=by rw [I.len];exact (List.getElem?_eq_some_iff.mp hi).1
 have cne:=I.cne
 have tracked:∀{a:Addr} {h':Heap},(∃o,s.heap.get? a=some o/\H a=none)->Heap.SameBut a s.heap h'->HOk X.prog X.w H h':=fun {a h'} ha hs b ob e=>by
  obtain ⟨_,_,hfree⟩:=ha
  refine (I.hok b ob e).stay (fun c w' hc q=>(hs.2 c ?_).trans q) (fun _ q=>q) fun _ _ q=>q
  rintro rfl
  rcases hc with rfl | hc
  ·rw [hfree] at e;cases e
  ·rw [hfree] at hc;cases hc
 rcases hx with hk | hk
 ·refine wpAny_storeName_local hk hn (fun h' hn' hs=>?_) hcls
  obtain ⟨oL,_,_,hoL,_⟩:=id hn
  refine h _ ⟨I.ok,I.os,I.bare,⟨fun b o e n hb hx=>?_,fun b o e n hb hx=>?_,I.base.free,fun b o e hx=>?_,I.base.tups,I.base.frzs,I.base.tbls⟩,⟨_,hn',fun j y v' e1 e2 e3=>?_⟩,fun y c e=>?_,I.free,I.freeC,fun p hp=>?_,tracked ⟨oL,hoL,I.free⟩ hs,by simpa using I.len⟩ ⟨_,hs,.inl rfl⟩
  ·exact (hs.2 b (Nat.ne_of_lt (Nat.lt_of_lt_of_le (Heap.lt_size e) I.ok.above))).trans (I.base.keep b o e n hb hx)
  ·obtain ⟨sl,e1⟩:=I.base.slot b o e n hb hx
   exact ⟨sl,(hs.2 b (Nat.ne_of_lt (Nat.lt_of_lt_of_le (Heap.lt_size e) I.ok.above))).trans e1⟩
  ·obtain ⟨o',e1⟩:=I.base.there b o e hx
   exact ⟨o',(hs.2 b (Nat.ne_of_lt (Nat.lt_of_lt_of_le (Heap.lt_size e) I.ok.above))).trans e1⟩
  ·by_cases hj:j=i
   ·subst hj
    rw [hi] at e1;cases e1
    rw [List.getElem?_set_self hiσ] at e2
    cases e2
    exact ⟨u,r,.inl ⟨hk,by simp⟩⟩
   ·rw [List.getElem?_set_ne (Ne.symm hj)] at e2
    obtain ⟨u',r',q⟩:=hl j y v' e1 e2 e3
    refine ⟨u',r',?_⟩
    rcases q with ⟨k,e⟩ | ⟨k,c,e,z⟩
    ·refine .inl ⟨k,?_⟩
     have:y≠x:=fun e=>hj (Ka hN e1 (e ▸ hi))
     simp [this,e]
    ·exact .inr ⟨k,c,e,z.sameBut hs (cne y c e)⟩
  ·obtain ⟨w',z⟩:=I.cell y c e
   exact ⟨w',z.sameBut hs (cne y c e)⟩
  ·obtain ⟨e,n,ne,nf,d⟩:=I.pin p hp
   exact ⟨(hs.2 p.1 ne).trans e,n,ne,nf,d⟩
 ·have hfn:X.fn x=true:=by
   rcases hf with z | z
   ·exact z
   ·rw [z] at hk;cases hk
  obtain ⟨c,hc⟩:=I.ok.has x (.inl hk)
  obtain ⟨w',z⟩:=I.cell x c hc
  refine wpAny_storeName_cell I.ok.kind hk hc z (fun h' hc' hs=>?_)
  obtain ⟨oc,hoc,hocd⟩:=id z
  refine h { s with heap:=h' } ⟨I.ok,I.os,I.bare,⟨fun b o e n hb hx=>?_,fun b o e n hb hx=>?_,I.base.free,fun b o e hx=>?_,I.base.tups,I.base.frzs,I.base.tbls⟩,⟨m,hn.sameBut hs (Ne.symm (cne x c hc)),fun j y v' e1 e2 e3=>?_⟩,fun y c' e=>?_,I.free,I.freeC,fun p hp=>?_,tracked ⟨oc,hoc,I.freeC x c hc⟩ hs,by simpa using I.len⟩ ⟨c,hs,.inr hc⟩
  ·exact (hs.2 b (Nat.ne_of_lt (Nat.lt_of_lt_of_le (Heap.lt_size e) (I.ok.cab x c hfn hc)))).trans (I.base.keep b o e n hb hx)
  ·obtain ⟨sl,e1⟩:=I.base.slot b o e n hb hx
   exact ⟨sl,(hs.2 b (Nat.ne_of_lt (Nat.lt_of_lt_of_le (Heap.lt_size e) (I.ok.cab x c hfn hc)))).trans e1⟩
  ·obtain ⟨o',e1⟩:=I.base.there b o e hx
   exact ⟨o',(hs.2 b (Nat.ne_of_lt (Nat.lt_of_lt_of_le (Heap.lt_size e) (I.ok.cab x c hfn hc)))).trans e1⟩
  ·by_cases hj:j=i
   ·subst hj
    rw [hi] at e1;cases e1
    rw [List.getElem?_set_self hiσ] at e2
    cases e2
    exact ⟨u,r,.inr ⟨.inl hk,c,hc,hc'⟩⟩
   ·rw [List.getElem?_set_ne (Ne.symm hj)] at e2
    obtain ⟨u',r',q⟩:=hl j y v' e1 e2 e3
    refine ⟨u',r',?_⟩
    rcases q with q | ⟨k,c',e,z'⟩
    ·exact .inl q
    ·refine .inr ⟨k,c',e,z'.sameBut hs ?_⟩
     rintro rfl
     exact hj (Ka hN e1 (I.ok.inj _ _ _ e hc ▸ hi))
  ·by_cases hcc:c'=c
   ·subst hcc;exact ⟨_,hc'⟩
   ·obtain ⟨w2,z2⟩:=I.cell y c' e
    exact ⟨w2,z2.sameBut hs hcc⟩
  ·obtain ⟨e,n,ne,nf,d⟩:=I.pin p hp
   refine ⟨(hs.2 p.1 ?_).trans e,n,ne,nf,d⟩
   intro q
   rw [q,hoc] at e
   have q':oc=p.2:=Option.some.inj e
   exact d w' (by rw [<- q'];exact hocd)
theorem Jy {M:Model} {A:Around} {E:Value->Shared->Prop} {i:Nat} {x:Str} {v:V} {u:Value} {Q:Unit->Shared->Prop} (I:Inv X pins σ H s) (hN:X.N.Nodup) (hi:X.N[i]?=some x) (hx:Loc X.env.scope x) (r:A8 v u)
 (h:∀s',Inv X pins (σ.set i (some v)) H s'->Q () s') (hf:X.fn x=true\/X.env.scope.names.lookup x=some .local:=by first | exact .inl rfl | exact .inr rfl | assumption):wpAny M A (storeName X.env x u) Q E s :=
 HL I hN hi hx r (fun s' I' _=>h s' I') hf
theorem Inv.call' {s':Shared} {ch:List Addr} (I:Inv X pins σ H s) (ho:s'.os=s.os) (u:Un (frs X.stack) ch H H' s.heap s'.heap) (hok:HOk X.prog X.w H' s'.heap) (hg:AllBare s'.gens)
 (hch:∀b∈ch,(b∈X.ex\/X.s₀.heap.objs.size<=b)/\b≠X.env.locals/\(∀x c,X.env.cells.lookup x=some c->c≠b)/\∀p∈X.pn++pins,p.1≠b):Inv X pins σ H' s':=by
 obtain ⟨h',g',d',t',o'⟩:=s'
 have e:o'=s.os:=ho
 subst e
 exact I.call (g':=g') (t':=t') (d':=d') u hok hg hch
end
abbrev XK:=Value->Option Addr->Hp->Prop
abbrev St:=List (Option V)
abbrev VK:=V->Hp->Prop
abbrev TE:=St->Hp->VK->Prop
abbrev TT:=St->Hp->(Bool->Hp->Prop)->Prop
abbrev TA:=St->Hp->(List V->Hp->Prop)->Prop
structure Jd where
 nx:St->Hp->Prop
 rt:VK
 bk:St->Hp->Prop:=fun _ _=>False
 ct:St->Hp->Prop:=fun _ _=>False
abbrev TS:=Jd->St->Hp->Prop
def EP (X:Cx) (pins:List (Addr × Obj)) (σ:St) (Q:VK) (u:Value) (s':Shared):Prop:=∃v H',Inv X pins σ H' s'/\A8 v u/\Q v H'
def TP (X:Cx) (pins:List (Addr × Obj)) (σ:St) (Q:Bool->Hp->Prop) (b:Bool) (s':Shared):Prop:=∃H',Inv X pins σ H' s'/\Q b H'
def AP (X:Cx) (pins:List (Addr × Obj)) (σ:St) (Q:List V->Hp->Prop) (us:List Value) (s':Shared):Prop:=∃vs H',Inv X pins σ H' s'/\A6 vs us/\Q vs H'
def SP (X:Cx) (pins:List (Addr × Obj)) (D:Jd) (f:Flow) (s':Shared):Prop :=
 match f with
 | .next=>∃σ' H',Inv X pins σ' H' s'/\D.nx σ' H'
 | .brk=>∃σ' H',Inv X pins σ' H' s'/\D.bk σ' H'
 | .cont=>∃σ' H',Inv X pins σ' H' s'/\D.ct σ' H'
 | .ret u=>∃v σ' H',Inv X pins σ' H' s'/\A8 v u/\D.rt v H'
def PE (X:Cx) (e:Expr) (t:TE):Prop :=
 ∀(pins:List (Addr × Obj)) (s:Shared) (σ:St) (H:Hp) (Q:VK),Inv X pins σ H s->t σ H Q->wpAny (model X.prog X.w) X.A (eval e X.env) (EP X pins σ Q) X.xe s
def PT (X:Cx) (e:Expr) (t:TT):Prop :=
 ∀(pins:List (Addr × Obj)) (s:Shared) (σ:St) (H:Hp) (Q:Bool->Hp->Prop),Inv X pins σ H s->t σ H Q->wpAny (model X.prog X.w) X.A (isTrue e X.env (eval e X.env)) (TP X pins σ Q) X.xe s
def PW (X:Cx) (e:Expr) (t:TT):Prop :=
 ∀(whole:Sem Value) (pins:List (Addr × Obj)) (s:Shared) (σ:St) (H:Hp) (Q:Bool->Hp->Prop),Inv X pins σ H s->t σ H Q->wpAny (model X.prog X.w) X.A (isTrue e X.env whole) (TP X pins σ Q) X.xe s
theorem PW.pt {X:Cx} {e:Expr} {t:TT} (h:PW X e t):PT X e t:=h _
def PA (X:Cx) (es:List Expr) (t:TA):Prop :=
 ∀(pos:Pos) (pins:List (Addr × Obj)) (s:Shared) (σ:St) (H:Hp) (Q:List V->Hp->Prop),Inv X pins σ H s->t σ H Q->wpAny (model X.prog X.w) X.A (spliced (backTo pos (starEach es X.env))) (AP X pins σ Q) X.xe s
def PS (X:Cx) (st:Stmt) (t:TS):Prop :=
 ∀(pins:List (Addr × Obj)) (s:Shared) (σ:St) (H:Hp) (D:Jd),Inv X pins σ H s->t D σ H->wpAny (model X.prog X.w) X.A (exec st X.env) (SP X pins D) X.xe s
def PSs (X:Cx) (st:List Stmt) (t:TS):Prop :=
 ∀(pins:List (Addr × Obj)) (s:Shared) (σ:St) (H:Hp) (D:Jd),Inv X pins σ H s->t D σ H->wpAny (model X.prog X.w) X.A (execs st X.env) (SP X pins D) X.xe s
theorem thn {α:Type} {t:Sem α} {Q Q':α->Shared->Prop} {M:Model} {A:Around} {E:Value->Shared->Prop} {s:Shared} (h:wpAny M A t Q E s) (hQ:∀a s,Q a s->Q' a s):wpAny M A t Q' E s:=wpAny_mono h hQ fun _ _ x=>x
end L2
namespace L2
open PySem PySem.Spec PyProof.Rows
section
variable {X:Cx}
def Rg (i:Nat):TE:=fun σ H Q=>∃v,σ[i]?=some (some v)/\Q v H
def tC (v:V):TE:=fun _ H Q=>Q v H
theorem Qz {i:Nat} {x:Str} {pos:Pos} (hN:X.N[i]?=some x) (hv:Vis X.env.scope x) (hd:(x == ("__debug__":Str))=false:=by decide) (hcd:(x == ("__classdict__":Str))=false:=by decide):PE X (.Name x pos) (Rg i):=by
 intro pins s σ H Q I h
 obtain ⟨v,e,h⟩:=h
 obtain ⟨m,hn,hl⟩:=I.loc
 obtain ⟨u,r,l⟩:=hl i x v hN e hv
 have fin:EP X pins σ Q u s:=⟨v,H,I,r,h⟩
 rcases l with ⟨hk,hm⟩ | ⟨hk,c,hc,hcell⟩
 ·exact wpAny_Name (wpAny_loadName_local I.ok.kind hk hn hm fin) hd
 ·rcases hk with hk | hk
  ·exact wpAny_Name (wpAny_loadName_cell I.ok.kind hk hc hcell fin) hd
  ·exact wpAny_Name (wpAny_loadName_free I.ok.kind hk hc hcell fin hcd) hd
theorem Ag {i j pos}:PE X (.Constant (.int i) j pos) (tC (.int i)):=fun _ _ _ H _ I h=>wpAny_Constant_int ⟨.int i,H,I.tok _,⟨_,rfl⟩,h⟩
theorem Cz {b j pos}:PE X (.Constant (.bool b) j pos) (tC (.bl b)):=fun _ _ _ H _ I h=>Constant_bool ⟨.bl b,H,I,rfl,h⟩
theorem N9 {j pos}:PE X (.Constant .none j pos) (tC .non):=fun _ _ _ H _ I h=>Constant_none ⟨.non,H,I,rfl,h⟩
def Gl (X:Cx) (x:Str):Prop:=X.env.kindOf x=some .globalImplicit
theorem IJ {E:Value->Shared->Prop} {pins:List (Addr × Obj)} {s:Shared} {σ:St} {H:Hp} {x:Str} {u:Value} {pos:Pos} {Q:Value->Shared->Prop} (I:Inv X pins σ H s) (hg:Gl X x) (hm:X.mg x=some u) (h:Q u s)
 (hd:(x == ("__debug__":Str))=false:=by decide):wpAny (model X.prog X.w) X.A (eval (.Name x pos) X.env) Q E s :=
 Calls.Name_function_global I.ok.kind hg (Calls.loadGlobal_global (by rw [I.ok.glob];exact I.mod.glob.keeps I.bk) hm h) hd
theorem Cf {E:Value->Shared->Prop} {pins:List (Addr × Obj)} {s:Shared} {σ:St} {H:Hp} {x:Str} {u:Value} {pos:Pos} {Q:Value->Shared->Prop} (I:Inv X pins σ H s) (hg:Gl X x) (hm:X.mg x=none) (hv:bootBuiltins x=some u) (h:Q u s)
 (hn:x≠"__name__":=by decide) (hd:(x == ("__debug__":Str))=false:=by decide):wpAny (model X.prog X.w) X.A (eval (.Name x pos) X.env) Q E s:=by
 obtain ⟨mb,h1,h2⟩:=I.mod.blt
 exact Calls.Name_function_global I.ok.kind hg (Calls.loadGlobal_builtin (by rw [I.ok.glob];exact I.mod.glob.keeps I.bk) hm (by rw [I.ok.blt];exact h1.keeps I.bk) ((h2 x hn).trans hv) h) hd
theorem IU {x:Str} {v:V} {u:Value} {pos:Pos} (hg:Gl X x) (hm:X.mg x=some u) (r:A8 v u) (hd:(x == ("__debug__":Str))=false:=by decide):PE X (.Name x pos) (tC v) :=
 fun _ _ _ H _ I h=>IJ I hg hm ⟨v,H,I,r,h⟩ hd
theorem Ft {x:Str} {v:V} {u:Value} {pos:Pos} (hg:Gl X x) (hm:X.mg x=none) (hv:bootBuiltins x=some u) (r:A8 v u) (hn:x≠"__name__":=by decide) (hd:(x == ("__debug__":Str))=false:=by decide):PE X (.Name x pos) (tC v) :=
 fun _ _ _ H _ I h=>Cf I hg hm hv ⟨v,H,I,r,h⟩ hn hd
variable {a b:Expr} {ta tb:TE} {pos:Pos}
def tB (t:TE):TT:=fun σ H Q=>t σ H fun x H1=>∃c,x=.bl c/\Q c H1
theorem Cl {e:Expr} {t:TE} (h:PE X e t) (he:∀whole,isTrue e X.env whole=(do let v <- whole;standAt e.pos;holding [v] (truthy v)):=by intro _;rfl):PT X e (tB t):=by
 intro pins s σ H Q I hw
 refine isTrue_plain (thn (h pins s σ H _ I hw) fun v s1 ⟨x,H1,I1,r1,q1⟩=>?_) (he _)
 obtain ⟨d,rfl,q⟩:=q1
 cases r1
 exact wpAny_truthy_bool ⟨H1,I1,q⟩
variable {tA tB':TT} {rest:List Expr}
def Se (t u:TT):TT:=fun σ H Q=>t σ H fun c H1=>if c=true then u σ H1 Q else Q false H1
def tOr (t u:TT):TT:=fun σ H Q=>t σ H fun c H1=>if c=true then Q true H1 else u σ H1 Q
def Sa (t:TT):TT:=fun σ H Q=>t σ H fun c H1=>Q (!c) H1
theorem EN (ha:PT X a tA):PW X (.BoolOp .And [a] pos) tA:=by
 intro wh pins s σ H Q I h
 refine isTrue_and (thn (ha pins s σ H Q I h) fun c s1 e=>?_)
 cases c with
 | true=>exact isTrue_and_nil e
 | false=>exact e
theorem EA (ha:PT X a tA):PW X (.BoolOp .Or [a] pos) tA:=by
 intro wh pins s σ H Q I h
 refine isTrue_or (thn (ha pins s σ H Q I h) fun c s1 e=>?_)
 cases c with
 | false=>exact isTrue_or_nil e
 | true=>exact e
theorem GR (ha:PT X a tA) (hb:PW X (.BoolOp .And (b :: rest) pos) tB'):PW X (.BoolOp .And (a :: b :: rest) pos) (Se tA tB'):=by
 intro wh pins s σ H Q I h
 refine isTrue_and (thn (ha pins s σ H _ I h) fun c s1 ⟨H1,I1,q1⟩=>?_)
 cases c with
 | true=>exact hb wh pins s1 σ H1 Q I1 q1
 | false=>exact ⟨H1,I1,q1⟩
theorem ET (ha:PT X a tA) (hb:PW X (.BoolOp .Or (b :: rest) pos) tB'):PW X (.BoolOp .Or (a :: b :: rest) pos) (tOr tA tB'):=by
 intro wh pins s σ H Q I h
 refine isTrue_or (thn (ha pins s σ H _ I h) fun c s1 ⟨H1,I1,q1⟩=>?_)
 cases c with
 | true=>exact ⟨H1,I1,q1⟩
 | false=>exact hb wh pins s1 σ H1 Q I1 q1
theorem Cj (ha:PT X a tA):PT X (.UnaryOp .Not a pos) (Sa tA):=by
 intro pins s σ H Q I h
 exact isTrue_not (ha pins s σ H (fun c H1=>Q (!c) H1) I h)
def RB (ta tb:TE):TE:=fun σ H Q=>ta σ H fun x H1=>∃c,x=.bl c/\if c=true then tb σ H1 Q else Q (.bl false) H1
def RE (ta:TE):TE:=fun σ H Q=>ta σ H fun x H1=>∃c,x=.bl c/\Q (.bl (!c)) H1
theorem DG {op} {t:TE} (h:PE X a t):PE X (.BoolOp op [a] pos) t:=fun pins s σ H Q I hw=>BoolOp_one (h pins s σ H Q I hw)
theorem Du (ha:PE X a ta) (hb:PE X (.BoolOp .And (b :: rest) pos) tb):PE X (.BoolOp .And (a :: b :: rest) pos) (RB ta tb):=by
 intro pins s σ H Q I h
 refine BoolOp_and (thn (ha pins s σ H _ I h) fun v s1 ⟨x,H1,I1,r1,q1⟩=>?_)
 obtain ⟨c,rfl,q1⟩:=q1
 cases r1
 refine wpAny_truthy_bool ?_
 cases c with
 | true=>exact hb pins s1 σ H1 Q I1 q1
 | false=>exact ⟨.bl false,H1,I1,rfl,q1⟩
theorem NX (ha:PE X a ta):PE X (.UnaryOp .Not a pos) (RE ta):=by
 intro pins s σ H Q I h
 refine UnaryOp_ (thn (ha pins s σ H _ I h) fun v s1 ⟨x,H1,I1,r1,q1⟩=>?_)
 obtain ⟨c,rfl,q1⟩:=q1
 cases r1
 exact not_of (wpAny_truthy_bool ⟨.bl (!c),H1,I1,rfl,q1⟩)
def tIf (t:TT) (ta tb:TE):TE:=fun σ H Q=>t σ H fun c H1=>if c=true then ta σ H1 Q else tb σ H1 Q
theorem JN {c:Expr} (hc:PT X c tA) (ha:PE X a ta) (hb:PE X b tb):PE X (.IfExp c a b pos) (tIf tA ta tb):=by
 intro pins s σ H Q I h
 refine wpAny_IfExp (thn (hc pins s σ H _ I h) fun d s1 ⟨H1,I1,q1⟩=>?_)
 cases d with
 | true=>exact ha pins s1 σ H1 Q I1 q1
 | false=>exact hb pins s1 σ H1 Q I1 q1
end
end L2
namespace L2
open PySem PySem.Spec PyProof.Rows
def SqL (K:PySem.W.Frag) (H:Hp) (a:Addr) (xs:List V):Prop :=
 Rd H a (.lst xs) \/
  ∃(o:Obj) (its:Array Value) (n:Nat),K.lookup a=some o/\o.cls=.type "list"/\o.dict=none/\o.data=.seq its n/\its.size<=sizeLine/\A6 xs its.toList
def SqT (K:PySem.W.Frag) (H:Hp) (a:Addr) (xs:List V):Prop :=
 Rd H a (.tup xs) \/
  ∃(o:Obj) (its:Array Value) (n:Nat),K.lookup a=some o/\o.cls=.type "tuple"/\o.data=.seq its n/\its.size<=sizeLine/\A6 xs its.toList
def RU:Value->Option V
 | .none=>some .non
 | .bool b=>some (.bl b)
 | .int i _=>some (.int i)
 | .str x _=>some (.str x)
 | .bytes b _=>some (.byt b)
 | .float b _=>some (.flt b)
 | .ref a=>some (.ref a)
 | .type n=>some (.ty n)
 | _=>none
theorem A8.abs {x:V} {u:Value} (r:A8 x u):RU u=some x:=by
 cases x with
 | non=>cases r;rfl
 | bl _=>cases r;rfl
 | int _=>obtain ⟨t,rfl⟩:=r;rfl
 | str _=>obtain ⟨t,rfl⟩:=r;rfl
 | byt _=>obtain ⟨t,rfl⟩:=r;rfl
 | flt _=>obtain ⟨t,rfl⟩:=r;rfl
 | ref _=>cases r;rfl
 | ty _=>cases r;rfl
theorem A8.inj {x y:V} {u:Value} (r:A8 x u) (q:A8 y u):x=y:=Option.some.inj (r.abs.symm.trans q.abs)
theorem A6.inj:∀{xs ys:List V} {us:List Value},A6 xs us->A6 ys us->xs=ys
 | _,_,_,.nil,.nil=>rfl
 | _,_,_,.cons r t,.cons r' t'=>by rw [r.inj r',A6.inj t t']
section
variable {X:Cx} {pins:List (Addr × Obj)} {σ:St} {H:Hp} {s:Shared} {a:Addr} {xs ys:List V}
theorem SqL.of {K:PySem.W.Frag} (h:H a=some (.lst xs)):SqL K H a xs:=.inl (.inl h)
theorem SqT.of {K:PySem.W.Frag} (h:H a=some (.tup xs)):SqT K H a xs:=.inl (.inl h)
theorem Inv.list (I:Inv X pins σ H s) (h:SqL X.K H a xs):∃its:List Value,A6 xs its/\PlainL s.heap a its.toArray/\xs.length<=sizeLine:=by
 rcases h with h | ⟨o,its,n,hk,hc,hd,hs,hz,r⟩
 ·obtain ⟨z,its,n,r,e⟩:=h.ok I.hok
  exact ⟨its,r,⟨_,n,e,rfl,rfl,rfl⟩,z⟩
 ·refine ⟨its.toList,r,⟨o,n,I.kIn a o hk,hc,hd,by simpa using hs⟩,?_⟩
  have e:=r.length
  simp only [Array.length_toList] at e
  omega
theorem Inv.tuple (I:Inv X pins σ H s) (h:SqT X.K H a xs):∃its:List Value,A6 xs its/\IsTup s.heap a its.toArray/\xs.length<=sizeLine:=by
 rcases h with h | ⟨o,its,n,hk,hc,hs,hz,r⟩
 ·obtain ⟨z,its,r,p⟩:=h.ok I.hok
  exact ⟨its,r,p,z⟩
 ·refine ⟨its.toList,r,⟨o,I.kIn a o hk,hc,n,by simpa using hs⟩,?_⟩
  have e:=r.length
  simp only [Array.length_toList] at e
  omega
theorem Inv.list_inj (I:Inv X pins σ H s) (h:SqL X.K H a xs) (h':SqL X.K H a ys):xs=ys:=by
 obtain ⟨its,r,⟨o,n,e,_,_,d⟩,_⟩:=I.list h
 obtain ⟨its',r',⟨o',n',e',_,_,d'⟩,_⟩:=I.list h'
 rw [e] at e';cases e'
 rw [d] at d'
 injection d' with d1 _
 have:its=its':=by simpa using congrArg Array.toList d1
 subst this
 exact r.inj r'
theorem Inv.tuple_inj (I:Inv X pins σ H s) (h:SqT X.K H a xs) (h':SqT X.K H a ys):xs=ys:=by
 obtain ⟨its,r,⟨o,e,_,n,d⟩,_⟩:=I.tuple h
 obtain ⟨its',r',⟨o',e',_,n',d'⟩,_⟩:=I.tuple h'
 rw [e] at e';cases e'
 rw [d] at d'
 injection d' with d1 _
 have:its=its':=by simpa using congrArg Array.toList d1
 subst this
 exact r.inj r'
end
abbrev Cx.wish (X:Cx) (E:Value->Shared->Prop):Cx:={ X with xe:=E }
abbrev Cx.nox (X:Cx):Cx:=X.wish fun _ _=>False
theorem Cx.Ok.wish {X:Cx} (ok:X.Ok) (E:Value->Shared->Prop):(X.wish E).Ok :=
 ⟨ok.mod,ok.kind,ok.glob,ok.blt,ok.above,ok.inj,ok.has,ok.cab,ok.hd,ok.frames,ok.stk,ok.exf,ok.bs,ok.bsz,ok.noex,ok.exfs,ok.funs,ok.frf⟩
theorem Cx.Ok.unwish {X:Cx} {E:Value->Shared->Prop} (ok:(X.wish E).Ok):X.Ok :=
 ⟨ok.mod,ok.kind,ok.glob,ok.blt,ok.above,ok.inj,ok.has,ok.cab,ok.hd,ok.frames,ok.stk,ok.exf,ok.bs,ok.bsz,ok.noex,ok.exfs,ok.funs,ok.frf⟩
section
variable {X:Cx} {pins:List (Addr × Obj)} {σ:St} {H:Hp} {s:Shared} {E:Value->Shared->Prop}
theorem Inv.wish (I:Inv X pins σ H s) (E:Value->Shared->Prop):Inv (X.wish E) pins σ H s:=⟨I.ok.wish E,I.os,I.bare,I.base,I.loc,I.cell,I.free,I.freeC,I.pin,I.hok,I.len⟩
theorem Inv.unwish (I:Inv (X.wish E) pins σ H s):Inv X pins σ H s:=⟨I.ok.unwish,I.os,I.bare,I.base,I.loc,I.cell,I.free,I.freeC,I.pin,I.hok,I.len⟩
theorem SP.unwish {D:Jd} {f:Flow} {s':Shared} (h:SP (X.wish E) pins D f s'):SP X pins D f s':=by
 cases f with
 | next=>obtain ⟨σ',H',I,q⟩:=h;exact ⟨σ',H',I.unwish,q⟩
 | brk=>obtain ⟨σ',H',I,q⟩:=h;exact ⟨σ',H',I.unwish,q⟩
 | cont=>obtain ⟨σ',H',I,q⟩:=h;exact ⟨σ',H',I.unwish,q⟩
 | ret u=>obtain ⟨v,σ',H',I,r,q⟩:=h;exact ⟨v,σ',H',I.unwish,r,q⟩
theorem PSs.nox {st:List Stmt} {t:TS} (h:PSs X.nox st t):PSs X st t:=fun pins s σ H D I hw =>
 wpAny_mono (h pins s σ H D (I.wish _) hw) (fun _ _ q=>q.unwish) fun _ _ z=>False.elim z
end
section
variable {X:Cx} {st:Stmt} {rest:List Stmt} {t u:TS} {e:Expr} {te:TE} {pos:Pos}
def Rq:TS:=fun D σ H=>D.nx σ H
def RR (t u:TS):TS:=fun D σ H=>t { D with nx:=u D } σ H
theorem AK:PSs X [] Rq:=fun _ _ σ H _ I h=>wpAny_execs_nil ⟨σ,H,I,h⟩
theorem Af (h1:PS X st t) (h2:PSs X rest u):PSs X (st :: rest) (RR t u):=by
 intro pins s σ H D I h
 refine wpAny_execs_cons (thn (h1 pins s σ H { D with nx:=u D } I h) fun f s1 q=>?_)
 cases f with
 | next =>
   obtain ⟨σ',H',I',q⟩:=q
   exact h2 pins s1 σ' H' D I' q
 | ret v=>exact q
 | brk=>exact q
 | cont=>exact q
theorem Ah (h1:PS X st t):PSs X [st] t:=by
 intro pins s σ H D I h
 refine wpAny_execs_cons (thn (h1 pins s σ H D I h) fun f s1 q=>?_)
 cases f with
 | next=>exact wpAny_execs_nil q
 | ret v=>exact q
 | brk=>exact q
 | cont=>exact q
theorem Inv.quiet {pins:List (Addr × Obj)} {σ:St} {H:Hp} {s:Shared} (I:Inv X pins σ H s):interactive X.env=false:=by simp [interactive,I.ok.kind]
def Rk (te:TE):TS:=fun D σ H=>te σ H fun _ H1=>D.nx σ H1
theorem Ci (he:PE X e te) (hs:swapsWith e none pos.line X.env=pure false:=by rfl):PS X (.Expr e pos) (Rk te):=by
 intro pins s σ H D I h
 exact wpAny_Expr_any (thn (he pins s σ H _ I h) fun v s1 ⟨x,H1,I1,r1,q1⟩=>⟨σ,H1,I1,q1⟩) I.quiet hs
def Sd (te:TE):TS:=fun D σ H=>te σ H D.rt
theorem As (he:PE X e te):PS X (.Return (some e) pos) (Sd te):=by
 intro pins s σ H D I h
 exact wpAny_Return_some (thn (he pins s σ H _ I h) fun v s1 ⟨x,H1,I1,r1,q1⟩=>⟨x,σ,H1,I1,r1,q1⟩)
def RV (c:TT) (t u:TS):TS:=fun D σ H=>c σ H fun b H1=>if b=true then t D σ H1 else u D σ H1
theorem Da {c:Expr} {a b:List Stmt} {tc:TT} (hc:PT X c tc) (ha:PSs X a t) (hb:PSs X b u):PS X (.If c a b pos) (RV tc t u):=by
 intro pins s σ H D I h
 refine wpAny_If (thn (hc pins s σ H _ I h) fun d s1 ⟨H1,I1,q1⟩=>?_)
 cases d with
 | true=>exact ha pins s1 σ H1 D I1 q1
 | false=>exact hb pins s1 σ H1 D I1 q1
def QI:TS:=fun _ _ _=>False
theorem Ks:PS X st QI:=fun _ _ _ _ _ _ h=>h.elim
end
abbrev TG:=V->St->Hp->(St->Hp->Prop)->Prop
abbrev TGs:=List V->St->Hp->(St->Hp->Prop)->Prop
def PG (X:Cx) (target:Expr) (t:TG):Prop :=
 ∀(pins:List (Addr × Obj)) (s:Shared) (σ:St) (H:Hp) (v:V) (u:Value) (Q:St->Hp->Prop),Inv X pins σ H s->A8 v u->t v σ H Q ->
  wpAny (model X.prog X.w) X.A (assign target X.env u) (fun _ s'=>∃σ' H',Inv X pins σ' H' s'/\Q σ' H') X.xe s
def PGs (X:Cx) (ts:List Expr) (t:TGs):Prop :=
 ∀(pins:List (Addr × Obj)) (s:Shared) (σ:St) (H:Hp) (vs:List V) (us:List Value) (Q:St->Hp->Prop),Inv X pins σ H s->A6 vs us->t vs σ H Q ->
  wpAny (model X.prog X.w) X.A (assignInOrder ((assignEach ts X.env).map (·.2)) us) (fun _ s'=>∃σ' H',Inv X pins σ' H' s'/\Q σ' H') X.xe s
abbrev QD:=V->V->V->Hp->(Hp->Prop)->Prop
def RK (X:Cx) (t:QD):Prop :=
 ∀(pins:List (Addr × Obj)) (s:Shared) (σ:St) (H:Hp) (o i v:V) (ov iv u:Value) (Q:Hp->Prop),Inv X pins σ H s->A8 o ov->A8 i iv->A8 v u->t o i v H Q ->
  wpAny (model X.prog X.w) X.A (setItem ov iv u) (fun _ s'=>∃H',Inv X pins σ H' s'/\Q H') X.xe s
section
variable {X:Cx} {pos:Pos}
def Et (i:Nat):TG:=fun v σ H Q=>Q (σ.set i (some v)) H
theorem AA {i:Nat} {x:Str} (hN:X.N.Nodup) (hi:X.N[i]?=some x) (hx:Loc X.env.scope x) (hf:X.fn x=true\/X.env.scope.names.lookup x=some .local:=by first | exact .inl rfl | exact .inr rfl | assumption):PG X (.Name x pos) (Et i):=by
 intro pins s σ H v u Q I r h
 exact wpAny_assign_Name (Jy I hN hi hx r (fun s' I'=>⟨_,H,I',h⟩) hf)
def Qx:TGs:=fun vs σ H Q=>vs=[]/\Q σ H
def JG (t:TG) (u:TGs):TGs:=fun vs σ H Q=>∃v r,vs=v :: r/\t v σ H fun σ' H'=>u r σ' H' Q
theorem Ew:PGs X [] Qx:=by
 intro pins s σ H vs us Q I r h
 obtain ⟨e,h⟩:=h
 subst e
 cases r
 exact assignInOrder_nil ⟨σ,H,I,h⟩
theorem Bp {e:Expr} {es:List Expr} {t:TG} {u:TGs} (h1:PG X e t) (h2:PGs X es u)
 (hs:(assignEach (e :: es) X.env).map (·.2)=assign e X.env :: (assignEach es X.env).map (·.2):=by rfl):PGs X (e :: es) (JG t u):=by
 intro pins s σ H vs us Q I r h
 obtain ⟨v,vr,e1,h⟩:=h
 subst e1
 cases r with
 | cons r rr =>
   rw [hs]
   refine assignInOrder_cons (thn (h1 pins s σ H _ _ _ I r h) fun _ s1 ⟨σ1,H1,I1,q1⟩=>?_)
   exact h2 pins s1 σ1 H1 _ _ Q I1 rr q1
def Q0 (K:PySem.W.Frag) (n:Nat) (t:TGs):TG:=fun v σ H Q=>∃a xs,v=.ref a/\SqT K H a xs/\xs.length=n/\t xs σ H Q
theorem FH {es:List Expr} {k:Nat} {t:TGs} {n:Nat} (hc:X.calm=true) (h:PGs X es t)
 (hn:(assignEach es X.env).length=n:=by rfl) (hst:(assignEach es X.env).findIdx? (·.1)=none:=by rfl):PG X (.Tuple es k pos) (Q0 X.K n t):=by
 intro pins s σ H v u Q I r hw
 obtain ⟨a,xs,e1,hq,hl,hw⟩:=hw
 subst e1
 cases r
 obtain ⟨its,rv,ht,hz⟩:=I.tuple hq
 refine assign_Tuple_tuple (I.ok.hd hc) ht (by simp [hn,<- hl,rv.length]) hst fun h' hx=>?_
 have I1:Inv X pins σ H { s with heap:=h' }:=I.kept (t':=s.toks) fun b o e=>hx b o (Nat.ne_of_lt (Heap.lt_size e)) e
 exact h pins _ σ H xs _ Q I1 (by simpa using rv) hw
def Ss (to ti:TE) (t:QD):TG:=fun v σ H Q=>to σ H fun o H1=>ti σ H1 fun i H2=>t o i v H2 fun H3=>Q σ H3
theorem GF {o i:Expr} {to ti:TE} {t:QD} (ho:PE X o to) (hi:PE X i ti) (hs:RK X t)
 (ha:∀v,assign (.Subscript o i pos) X.env v=(do
  let ov <- holding [v] (eval o X.env)
  let iv <- holding [v,ov] (eval i X.env)
  standAt pos
  holding [v,ov,iv] (setItem ov iv v)
  release [v,ov,iv] []):=by intro _;rfl):PG X (.Subscript o i pos) (Ss to ti t):=by
 intro pins s σ H v u Q I r h
 rw [ha]
 refine wpAny_bind (wpAny_holding (thn (ho pins s σ H _ I h) fun ov s1 ⟨x,H1,I1,r1,q1⟩=>?_))
 refine wpAny_bind (wpAny_holding (thn (hi pins s1 σ H1 _ I1 q1) fun iv s2 ⟨y,H2,I2,r2,q2⟩=>?_))
 refine wpAny_bind (wpAny_standAt (wpAny_bind (wpAny_holding (thn (hs pins s2 σ H2 x y v ov iv u _ I2 r1 r2 r q2) fun _ s3 ⟨H3,I3,q3⟩=>?_))))
 exact wpAny_release ⟨σ,H3,I3,q3⟩
def Qm (te:TE) (g:TG):TS:=fun D σ H=>te σ H fun x H1=>g x σ H1 D.nx
theorem Fy {tg e:Expr} {te:TE} {g:TG} (he:PE X e te) (hg:PG X tg g) (hs:swapsWithSole [tg] e pos.line X.env=pure false:=by rfl) (hw:swappedStores [tg] e X.env=pure none:=by rfl)
 (h1:(assignEach [tg] X.env).map (·.2)=[assign tg X.env]:=by rfl):PS X (.Assign [tg] e pos) (Qm te g):=by
 intro pins s σ H D I h
 refine wpAny_Assign_stores (thn (he pins s σ H _ I h) fun v s1 ⟨x,H1,I1,r1,q1⟩=>?_) hs hw
 rw [h1]
 exact thn (hg pins s1 σ H1 x v _ I1 r1 q1) fun _ s2 q=>q
theorem Ao {i:Nat} {x:Str} {e:Expr} {te:TE} {pos':Pos} (hN:X.N.Nodup) (hi:X.N[i]?=some x) (hx:Loc X.env.scope x) (he:PE X e te) (hs:swapsWith e (some (.Name x pos')) pos.line X.env=pure false:=by rfl) (hf:X.fn x=true\/X.env.scope.names.lookup x=some .local:=by first | exact .inl rfl | exact .inr rfl | assumption) :
 PS X (.Assign [.Name x pos'] e pos) (Qm te (Et i)):=by
 intro pins s σ H D I h
 refine wpAny_Assign_Name (thn (he pins s σ H _ I h) fun v s1 ⟨y,H1,I1,r1,q1⟩=>?_) hs
 exact Jy I1 hN hi hx r1 (fun s2 I2=>⟨_,H1,I2,q1⟩) hf
end
section
variable {X:Cx} {pos:Pos}
def QP (c:TT) (tb:TS):TS:=fun D σ H=>∃W:Nat->St->Hp->Prop,(∃m,W m σ H)/\∀m σ H,W m σ H ->
 c σ H fun b H1=>if b=true then ∃N:St->Hp->Prop,(∀σ' H',N σ' H'->∃m',m' < m/\W m' σ' H')/\tb { D with nx:=N,ct:=N,bk:=D.nx } σ H1 else D.nx σ H1
theorem Eh {c:Expr} {body:List Stmt} {tc:TT} {tb:TS} (hp:PassesOwn (model X.prog X.w) X.A X.env X.xe) (hc:PT X c tc) (hb:PSs X body tb):PS X (.While c body [] pos) (QP tc tb):=by
 intro pins s σ H D I h
 obtain ⟨W,⟨m0,w0⟩,turn⟩:=h
 refine wpAny_While (codeAny_whileLoop (fun n s'=>∃σ' H',Inv X pins σ' H' s'/\W n σ' H') ?_ m0 ⟨σ,H,I,w0⟩)
 rintro n s1 ⟨σ1,H1,I1,w1⟩
 refine wpAny_passesOwn hp (thn (hc pins s1 σ1 H1 _ I1 (turn n σ1 H1 w1)) fun b s2 ⟨H2,I2,q2⟩=>?_)
 cases b with
 | true =>
   obtain ⟨N,hN,q2⟩:=q2
   rw [if_pos rfl]
   refine wpAny_passesOwn hp (thn (hb pins s2 σ1 H2 _ I2 q2) fun f s3 q3=>?_)
   cases f with
   | next =>
     obtain ⟨σ3,H3,I3,n3⟩:=q3
     obtain ⟨m',hm,w3⟩:=hN σ3 H3 n3
     exact ⟨m',hm,σ3,H3,I3,w3⟩
   | cont =>
     obtain ⟨σ3,H3,I3,n3⟩:=q3
     obtain ⟨m',hm,w3⟩:=hN σ3 H3 n3
     exact ⟨m',hm,σ3,H3,I3,w3⟩
   | brk=>exact q3
   | ret v=>exact q3
 | false =>
   rw [if_neg Bool.false_ne_true]
   exact wpAny_execs_nil ⟨σ1,H2,I2,q2⟩
end
structure It where
 go:Nat->Hp->Prop
 yld:Nat->Hp->V->Hp->Prop
 stop:Nat->Hp->Prop
def Fs (X:Cx) (pins:List (Addr × Obj)) (H:Hp) (b:Addr):Prop :=
 H b=none/\b≠X.env.locals/\b ∉ X.fs/\(b∈X.ex\/X.s₀.heap.objs.size<=b)/\(∀x c,X.env.cells.lookup x=some c->c≠b)/\∀p∈X.pn++pins,p.1≠b
theorem Inv.fpOk {X:Cx} {pins:List (Addr × Obj)} {σ:St} {H H':Hp} {s:Shared} {b:Addr} (I:Inv X pins σ H s) (hb:s.heap.objs.size<=b) (hn:H' b=none):Fs X pins H' b:=by
 refine ⟨hn,Nat.ne_of_gt (Nat.lt_of_lt_of_le I.lt hb),I.nofs hb,.inr (Nat.le_trans I.sz hb),fun x c e z=>?_,fun p hp z=>?_⟩
 ·obtain ⟨v,q⟩:=I.cell x c e
  exact absurd (Nat.lt_of_lt_of_le q.lt (by rw [z];exact hb)) (Nat.lt_irrefl _)
 ·exact absurd (Nat.lt_of_lt_of_le (Heap.lt_size (I.pin p hp).1) (by rw [z];exact hb)) (Nat.lt_irrefl _)
structure IM (P:Program) (w:World) (K:PySem.W.Frag) (tg:Expr) (J:It) (fp:List Addr) (it:Addr) (tn:Nat->Heap->Prop):Prop where
 mem:it∈fp
 obj:∀i h,tn i h->∀b∈fp,∃o,h.get? b=some o/\∀v,o.data≠.cell v
 keep:∀i h h',tn i h->(∀b∈fp,∀o,h.get? b=some o->h'.get? b=some o)->tn i h'
 item:∀(X:Cx),X.prog=P->X.w=w->X.K=K->X.calm=true->∀(i:Nat) (pins:List (Addr × Obj)) (s:Shared) (σ:St) (H:Hp) (E:Value->Shared->Prop),Inv X pins σ H s->(∀b∈fp,Fs X pins H b)->tn i s.heap->J.go i H ->
  wpAny (model P w) X.A (pyNext (.ref it)) (fun r s1=>∃u,r=some u /\
   wpAny (model P w) X.A (letOwnedTupleGo tg (.ref it) u) (fun _ s2=>∃x H',Inv X pins σ H' s2/\A8 x u/\J.yld i H x H'/\tn (i+1) s2.heap/\∀b∈fp,H' b=none) E s1) E s
 done:∀(X:Cx),X.prog=P->X.w=w->X.K=K->X.calm=true->∀(i:Nat) (pins:List (Addr × Obj)) (s:Shared) (σ:St) (H:Hp) (E:Value->Shared->Prop),Inv X pins σ H s->(∀b∈fp,Fs X pins H b)->tn i s.heap->J.stop i H ->
  wpAny (model P w) X.A (pyNext (.ref it)) (fun r s1=>r=none/\Inv X pins σ H s1) E s
 self:∀(A:Around) (i:Nat) (s:Shared) (Q:Value->Shared->Prop) (E:Value->Shared->Prop),tn i s.heap->Q (.ref it) s->wpAny (model P w) A (pyIter (.ref it)) Q E s
abbrev TI:=St->Hp->(It->Hp->Prop)->Prop
def PIE (X:Cx) (pins:List (Addr × Obj)) (σ:St) (tg:Expr) (R:It->Hp->Prop) (itv:Value) (s2:Shared):Prop :=
 ∃(it:Addr) (fp:List Addr) (tn:Nat->Heap->Prop) (J:It) (H':Hp),itv=.ref it/\Inv X pins σ H' s2/\IM X.prog X.w X.K tg J fp it tn/\tn 0 s2.heap/\(∀b∈fp,Fs X pins H' b)/\R J H'
def PI (X:Cx) (tg iter:Expr) (wi:TI):Prop :=
 ∀(pins:List (Addr × Obj)) (s:Shared) (σ:St) (H:Hp) (R:It->Hp->Prop),Inv X pins σ H s->wi σ H R ->
  wpAny (model X.prog X.w) X.A (eval iter X.env) (fun v s1=>wpAny (model X.prog X.w) X.A (pyIter v) (PIE X pins σ tg R) X.xe s1) X.xe s
theorem Om {M:Model} {A:Around} {E:Value->Shared->Prop} {s:Shared} {tg:Expr} {it:Addr} {u:Value} {o:Obj} {n:String} {vs:Array Value} {Q:Unit->Shared->Prop} (ho:s.heap.get? it=some o) (hc:o.cls=.type n) (hd:o.data=.fields vs)
 (hn:["enumerate","zip","dict_itemiterator","dict_reverseitemiterator","odict_iterator","itertools.zip_longest","itertools.pairwise"].contains n=false) (hQ:Q () s):wpAny M A (letOwnedTupleGo tg (.ref it) u) Q E s:=by
 unfold letOwnedTupleGo
 cases tg <;> first
  | exact wpAny_pure hQ
  | (cases u <;> first
   | exact wpAny_pure hQ
   | (refine wpAny_bind (wpAny_load ho ?_)
      rw [hc,hd]
      show wpAny M A (if (["enumerate","zip","dict_itemiterator","dict_reverseitemiterator","odict_iterator","itertools.zip_longest","itertools.pairwise"].contains n && vs[0]? == some (rawInt _))=true then _ else _) Q E s
      rw [if_neg (by intro h;rw [hn,Bool.false_and] at h;cases h)]
      exact wpAny_pure hQ))
def Itl (K:PySem.W.Frag) (a:Addr):It :=
 ⟨fun i H=>∃xs x,SqL K H a xs/\xs[i]?=some x,fun i H x H'=>H'=H/\∀xs,SqL K H a xs->xs[i]?=some x,fun i H=>∃xs,SqL K H a xs/\xs.length<=i⟩
def Itt (K:PySem.W.Frag) (a:Addr):It :=
 ⟨fun i H=>∃xs x,SqT K H a xs/\xs[i]?=some x,fun i H x H'=>H'=H/\∀xs,SqT K H a xs->xs[i]?=some x,fun i H=>∃xs,SqT K H a xs/\xs.length<=i⟩
def Itr (lo:Int) (n:Nat):It:=⟨fun i _=>i < n,fun i H x H'=>H'=H/\x=.int (lo+i),fun i _=>n<=i⟩
theorem Mc {P:Program} {w:World} {K:PySem.W.Frag} {tg:Expr} (a it:Addr):IM P w K tg (Itl K a) [it] it (fun i h=>h.IsListIter it a i) where
 mem:=by simp
 obj:=fun i h st b hb=>by
  have e:b=it:=by simpa using hb
  subst e
  obtain ⟨o,e,c,d⟩:=st
  exact ⟨o,e,fun v z=>by rw [d] at z;cases z⟩
 keep:=fun i h h' st k=>st.at fun o e=>k it (by simp) o e
 item:=by
  intro X hP hw hK hc i pins s σ H E I hf st hg
  subst hP hw hK
  obtain ⟨xs,x,hq,hx⟩:=hg
  obtain ⟨its,rv,p,hz⟩:=I.list hq
  obtain ⟨u,hu,ru⟩:=rv.get hx
  obtain ⟨f0,f1,f2,f3,f4,f5⟩:=hf it (by simp)
  refine wpAny_pyNext_list_item st p.isList (x:=u) (by simpa using hu) fun h' st' sb=>?_
  have I1:Inv X pins σ H { s with heap:=h' }:=I.turned (t':=s.toks) (fun b o hb e=>(sb.2 b hb).trans e) f0 f1 f3 f4 f5
  obtain ⟨o,e,c,d⟩:=id st'
  exact ⟨u,rfl,Om (s:={ s with heap:=h' }) e c d (by decide) ⟨x,H,I1,ru,⟨rfl,fun ys hy=>by rw [I.list_inj hy hq];exact hx⟩,st',fun b hb=>(hf b hb).1⟩⟩
 done:=by
  intro X hP hw hK hc i pins s σ H E I hf st hg
  subst hP hw hK
  obtain ⟨xs,hq,hx⟩:=hg
  obtain ⟨its,rv,p,hz⟩:=I.list hq
  obtain ⟨f0,f1,f2,f3,f4,f5⟩:=hf it (by simp)
  have hl:=rv.length
  exact wpAny_pyNext_list_end (I.ok.hd hc) st p.isList (by simp;omega) fun h' eb=>⟨rfl,I.turned (t':=s.toks) (fun b o hb e=>eb b o hb e) f0 f1 f3 f4 f5⟩
 self:=fun _ _ _ _ _ st h=>wpAny_pyIter_listiter st h
theorem K6 {P:Program} {w:World} {K:PySem.W.Frag} {tg:Expr} (a it:Addr):IM P w K tg (Itt K a) [it] it (fun i h=>h.IsTupleIter it a i) where
 mem:=by simp
 obj:=fun i h st b hb=>by
  have e:b=it:=by simpa using hb
  subst e
  obtain ⟨o,e,c,d⟩:=st
  exact ⟨o,e,fun v z=>by rw [d] at z;cases z⟩
 keep:=fun i h h' st k=>st.at fun o e=>k it (by simp) o e
 item:=by
  intro X hP hw hK hc i pins s σ H E I hf st hg
  subst hP hw hK
  obtain ⟨xs,x,hq,hx⟩:=hg
  obtain ⟨its,rv,p,hz⟩:=I.tuple hq
  obtain ⟨u,hu,ru⟩:=rv.get hx
  obtain ⟨f0,f1,f2,f3,f4,f5⟩:=hf it (by simp)
  refine wpAny_pyNext_tuple_item st (show s.heap.IsTuple a its.toArray from p) (x:=u) (by simpa using hu) fun h' st' sb=>?_
  have I1:Inv X pins σ H { s with heap:=h' }:=I.turned (t':=s.toks) (fun b o hb e=>(sb.2 b hb).trans e) f0 f1 f3 f4 f5
  obtain ⟨o,e,c,d⟩:=id st'
  exact ⟨u,rfl,Om (s:={ s with heap:=h' }) e c d (by decide) ⟨x,H,I1,ru,⟨rfl,fun ys hy=>by rw [I.tuple_inj hy hq];exact hx⟩,st',fun b hb=>(hf b hb).1⟩⟩
 done:=by
  intro X hP hw hK hc i pins s σ H E I hf st hg
  subst hP hw hK
  obtain ⟨xs,hq,hx⟩:=hg
  obtain ⟨its,rv,p,hz⟩:=I.tuple hq
  obtain ⟨f0,f1,f2,f3,f4,f5⟩:=hf it (by simp)
  have hl:=rv.length
  exact wpAny_pyNext_tuple_end (I.ok.hd hc) st (show s.heap.IsTuple a its.toArray from p) (by simp;omega) fun h' eb=>⟨rfl,I.turned (t':=s.toks) (fun b o hb e=>eb b o hb e) f0 f1 f3 f4 f5⟩
 self:=fun _ _ _ _ _ st h=>wpAny_pyIter_tupleiter st h
theorem KB {P:Program} {w:World} {K:PySem.W.Frag} {tg:Expr} (it:Addr) (lo:Int) (n:Nat):IM P w K tg (Itr lo n) [it] it (fun i h=>IsRangeIter h it (lo+(i:Nat)*1) ((n:Int) - (i:Nat)) 1) where
 mem:=by simp
 obj:=fun i h st b hb=>by
  have e:b=it:=by simpa using hb
  subst e
  exact ⟨_,st,fun v z=>by
   have z':Data.fields _=Data.cell v:=z
   cases z'⟩
 keep:=fun i h h' st k=>k it (by simp) _ st
 item:=by
  intro X hP hw hK hc i pins s σ H E I hf st hg
  subst hP hw hK
  obtain ⟨f0,f1,f2,f3,f4,f5⟩:=hf it (by simp)
  have W:=Walks.range (prog:=X.prog) (w:=X.w) (I.ok.hd hc) it lo 1 n
  refine W.item i s _ _ hg st fun v h' tk hv st' kk=>?_
  obtain ⟨t,rfl⟩:=hv
  have I1:Inv X pins σ H { s with heap:=h',toks:=tk }:=I.turned (fun b o hb e=>kk b o (by simpa using hb) e) f0 f1 f3 f4 f5
  refine ⟨_,rfl,Om (s:={ s with heap:=h',toks:=tk }) (n:="range_iterator") st' rfl rfl (by decide) ⟨.int (lo+i),H,I1,⟨t,?_⟩,⟨rfl,rfl⟩,st',fun b hb=>(hf b hb).1⟩⟩
  rw [Int.mul_one]
 done:=by
  intro X hP hw hK hc i pins s σ H E I hf st hg
  subst hP hw hK
  obtain ⟨f0,f1,f2,f3,f4,f5⟩:=hf it (by simp)
  exact wpAny_pyNext_range_end (I.ok.hd hc) st (by have:n<=i:=hg;omega) fun h' eb=>⟨rfl,I.turned (t':=s.toks) (fun b o hb e=>eb b o hb e) f0 f1 f3 f4 f5⟩
 self:=fun _ _ _ _ _ st h=>wpAny_pyIter_rangeiter st h
end L2
namespace L2
open PySem PySem.Spec PyProof.Rows
section
variable {X:Cx} {tg:Expr}
def Qe (K:PySem.W.Frag) (tl:TE):TI:=fun σ H R=>tl σ H fun x H1=>∃a,x=.ref a/\(∃xs,SqL K H1 a xs)/\R (Itl K a) H1
def Si (K:PySem.W.Frag) (tl:TE):TI:=fun σ H R=>tl σ H fun x H1=>∃a,x=.ref a/\(∃xs,SqT K H1 a xs)/\R (Itt K a) H1
theorem A5 {l:Expr} {tl:TE} (hl:PE X l tl):PI X tg l (Qe X.K tl):=by
 intro pins s σ H R I h
 refine thn (hl pins s σ H _ I h) fun v s1 ⟨x,H1,I1,r1,q1⟩=>?_
 obtain ⟨a,e,⟨xs,hq⟩,q⟩:=q1
 subst e
 cases r1
 obtain ⟨its,rv,p,hz⟩:=I1.list hq
 refine wpAny_pyIter_list p.isList ?_
 refine ⟨s1.heap.objs.size,[s1.heap.objs.size],_,_,H1,rfl,I1.kept (t':=s1.toks) fun b o e=>Heap.get?_push_of_some _ e,Mc a _,⟨_,Heap.get?_push_size _ rfl,rfl,rfl⟩,fun b hb=>?_,q⟩
 have e:b=s1.heap.objs.size:=by simpa using hb
 subst e
 exact I1.fpOk (Nat.le_refl _) (I1.hok.fresh (Nat.le_refl _))
theorem QR {l:Expr} {tl:TE} (hl:PE X l tl):PI X tg l (Si X.K tl):=by
 intro pins s σ H R I h
 refine thn (hl pins s σ H _ I h) fun v s1 ⟨x,H1,I1,r1,q1⟩=>?_
 obtain ⟨a,e,⟨xs,hq⟩,q⟩:=q1
 subst e
 cases r1
 obtain ⟨its,rv,p,hz⟩:=I1.tuple hq
 refine wpAny_pyIter_tuple (show s1.heap.IsTuple a its.toArray from p) ?_
 refine ⟨s1.heap.objs.size,[s1.heap.objs.size],_,_,H1,rfl,I1.kept (t':=s1.toks) fun b o e=>Heap.get?_push_of_some _ e,K6 a _,⟨_,Heap.get?_push_size _ rfl,rfl,rfl⟩,fun b hb=>?_,q⟩
 have e:b=s1.heap.objs.size:=by simpa using hb
 subst e
 exact I1.fpOk (Nat.le_refl _) (I1.hok.fresh (Nat.le_refl _))
theorem JB {pins:List (Addr × Obj)} {σ:St} {H:Hp} {s:Shared} {R:It->Hp->Prop} {E:Value->Shared->Prop} {lo hi:Int} {t u v:Tok} {tk:Nat} (I:Inv X pins σ H s) (h1:-(2 ^ 62)<=lo) (h2:lo < 2 ^ 62) (h3:-(2 ^ 62)<=hi) (h4:hi < 2 ^ 62)
 (q:R (Itr lo (hi - lo).toNat) H):wpAny (model X.prog X.w) X.A (pyIter (.ref s.heap.objs.size)) (PIE X pins σ tg R) E { s with heap:=s.heap.push { cls:=.type "range",data:=.fields #[.int lo t,.int hi u,.int 1 v] },toks:=tk }:=by
 refine wpAny_pyIter_range (IsRange.new ..) (small_one h1 h2 h3 h4) ?_
 have I1:Inv X pins σ H { s with heap:=s.heap.push { cls:=.type "range",data:=.fields #[.int lo t,.int hi u,.int 1 v] },toks:=tk }:=I.kept fun b o e=>Heap.get?_push_of_some _ e
 refine ⟨(s.heap.push { cls:=.type "range",data:=.fields #[.int lo t,.int hi u,.int 1 v] }).objs.size,[(s.heap.push { cls:=.type "range",data:=.fields #[.int lo t,.int hi u,.int 1 v] }).objs.size],_,_,H,rfl,
  I1.kept (t':=tk) fun b o e=>Heap.get?_push_of_some _ e,KB _ lo (hi - lo).toNat,?_,fun b hb=>?_,q⟩
 ·have e1:lo+((0:Nat):Int)*1=lo:=by simp
  have e2:(((hi - lo).toNat:Nat):Int) - ((0:Nat):Int)=Builtin.Range.rangeSize lo hi 1:=by rw [rangeSize_one];split <;> omega
  show IsRangeIter _ _ (lo+((0:Nat):Int)*1) ((((hi - lo).toNat:Nat):Int) - ((0:Nat):Int)) 1
  rw [e1,e2]
  exact Heap.get?_push_size _ rfl
 ·have e:b=(s.heap.push { cls:=.type "range",data:=.fields #[.int lo t,.int hi u,.int 1 v] }).objs.size:=by simpa using hb
  subst e
  exact I1.fpOk (Nat.le_refl _) (I1.hok.fresh (Nat.le_refl _))
def RI (ta:TA):TI:=fun σ H R=>ta σ H fun vs H1=>∃j:Int,vs=[.int j]/\-(2 ^ 62)<=j/\j < 2 ^ 62/\R (Itr 0 j.toNat) H1
def Ra (ta:TA):TI:=fun σ H R=>ta σ H fun vs H1=>∃i j:Int,vs=[.int i,.int j]/\(-(2 ^ 62)<=i/\i < 2 ^ 62/\-(2 ^ 62)<=j/\j < 2 ^ 62)/\R (Itr i (j - i).toNat) H1
theorem AG {a:Expr} {ta:TA} {p pos:Pos} (hg:Gl X "range") (hm:X.mg "range"=none) (ha:PA X [a] ta) (hs:starEach [a] X.env=[(false,eval a X.env)]:=by rfl):PI X tg (.Call (.Name "range" p) [a] [] pos) (RI ta):=by
 intro pins s σ H R I h
 refine Call_ (Cf I hg hm boot_range (PyProof.Rows.callWith_type1 (thn (ha pos pins s σ H _ I h) fun us s1 ⟨vs,H1,I1,r1,q1⟩=>?_) hs rfl))
 obtain ⟨j,e,q1,q2,q⟩:=q1
 subst e
 cases r1 with
 | cons r rr =>
   cases rr
   obtain ⟨t,rfl⟩:=r
   exact call_range_1 (JB I1 (by omega) (by omega) q1 q2 (by simpa using q))
theorem MI {a b:Expr} {ta:TA} {p pos:Pos} (hg:Gl X "range") (hm:X.mg "range"=none) (ha:PA X [a,b] ta) (hs:starEach [a,b] X.env=[(false,eval a X.env),(false,eval b X.env)]:=by rfl) (hs2:starEach [b] X.env=[(false,eval b X.env)]:=by rfl) :
 PI X tg (.Call (.Name "range" p) [a,b] [] pos) (Ra ta):=by
 intro pins s σ H R I h
 refine Call_ (Cf I hg hm boot_range (PyProof.Rows.callWith_type1 (thn (ha pos pins s σ H _ I h) fun us s1 ⟨vs,H1,I1,r1,q1⟩=>?_) (by rw [hs,hs2]) (by rw [hs2];rfl)))
 obtain ⟨i,j,e,⟨q1,q2,q3,q4⟩,q⟩:=q1
 subst e
 cases r1 with
 | cons r rr =>
   cases rr with
   | cons r' rr =>
     cases rr
     obtain ⟨t,rfl⟩:=r
     obtain ⟨t',rfl⟩:=r'
     exact call_range_2 (JB I1 q1 q2 q3 q4 q)
def Sh (wi:TI) (g:TG) (tb:TS):TS:=fun D σ H=>wi σ H fun J H1=>∃W:Nat->Nat->St->Hp->Prop,(∃m,W 0 m σ H1)/\∀i m σ H,W i m σ H ->
 (J.stop i H/\D.nx σ H)\/(J.go i H/\∃N:St->Hp->Prop,(∀σ' H',N σ' H'->∃m',m' < m/\W (i+1) m' σ' H')/\∀x H',J.yld i H x H'->g x σ H' fun σ2 H2=>tb { D with nx:=N,ct:=N,bk:=D.nx } σ2 H2)
def EH (fp:List Addr) (h:Heap):List (Addr × Obj):=fp.filterMap fun b=>(h.get? b).map fun o=>(b,o)
theorem BP {fp:List Addr} {h:Heap} {b:Addr} {o:Obj} (hb:b∈fp) (e:h.get? b=some o):(b,o)∈EH fp h:=mem_filterMap.mpr ⟨b,hb,by rw [e];rfl⟩
theorem Nh {fp:List Addr} {h:Heap} {p:Addr × Obj} (hp:p∈EH fp h):p.1∈fp/\h.get? p.1=some p.2:=by
 obtain ⟨b,hb,e⟩:=mem_filterMap.mp hp
 cases q:h.get? b with
 | none=>rw [q] at e;cases e
 | some o =>
   rw [q] at e
   have e':(b,o)=p:=Option.some.inj e
   subst e'
   exact ⟨hb,q⟩
theorem Inv.pinned {pins:List (Addr × Obj)} {σ:St} {H:Hp} {s:Shared} {fp:List Addr} (I:Inv X pins σ H s) (hf:∀b∈fp,Fs X pins H b) (ho:∀b∈fp,∃o,s.heap.get? b=some o/\∀v,o.data≠.cell v):Inv X (pins++EH fp s.heap) σ H s :=
 I.pins_of fun p hp=>(mem_append.mp hp).elim (fun z=>I.pin p (mem_append_right _ z)) fun z=>by
  obtain ⟨hb,e⟩:=Nh z
  obtain ⟨f0,f1,f2,_⟩:=hf p.1 hb
  obtain ⟨o,e',d⟩:=ho p.1 hb
  rw [e] at e';cases e'
  exact ⟨e,f0,f1,f2,d⟩
theorem Inv.unpinned {pins pl:List (Addr × Obj)} {σ:St} {H:Hp} {s:Shared} (I:Inv X (pins++pl) σ H s):Inv X pins σ H s:=I.pins_of fun p hp=>I.pin p (mem_append_right _ (mem_append_left _ hp))
theorem B9 {iter:Expr} {body:List Stmt} {wi:TI} {g:TG} {tb:TS} {pos:Pos} (hp:PassesOwn (model X.prog X.w) X.A X.env X.xe) (hc:X.calm=true) (hi:PI X tg iter wi) (hg:PG X tg g) (hb:PSs X body tb)
 (hs:∀x,foldedSetIterable iter X.env x=pure x:=by intro _;rfl):PS X (.For tg iter body [] pos) (Sh wi g tb):=by
 intro pins s σ H D I h
 refine wpAny_For (thn (hi pins s σ H _ I h) fun v s1 h1=>thn h1 fun itv s2 h2=>?_) hs
 obtain ⟨it,fp,tn,J,H2,e,I2,T,st2,f2,W,⟨m0,w0⟩,turn⟩:=h2
 subst e
 have stat:∀{H':Hp},(∀b∈fp,H' b=none)->∀b∈fp,Fs X pins H' b:=fun hn b hb=>⟨hn b hb,(f2 b hb).2⟩
 refine codeAny_forLoop_any (fun n s'=>∃i σ' H',Inv X pins σ' H' s'/\tn i s'.heap/\(∀b∈fp,H' b=none)/\W i n σ' H') ?_ m0 ⟨0,σ,H2,I2,st2,fun b hb=>(f2 b hb).1,w0⟩
 rintro n s3 ⟨i,σ3,H3,I3,st3,fr3,w3⟩
 rcases turn i n σ3 H3 w3 with ⟨stop,qn⟩ | ⟨go,N,hN,step⟩
 ·refine wpAny_passesOwn hp (thn (T.done X rfl rfl rfl hc i pins s3 σ3 H3 X.xe I3 (stat fr3) st3 stop) fun r s4 ⟨hr,I4⟩=>?_)
  subst hr
  exact wpAny_execs_nil ⟨σ3,H3,I4,qn⟩
 ·refine wpAny_passesOwn hp (thn (T.item X rfl rfl rfl hc i pins s3 σ3 H3 X.xe I3 (stat fr3) st3 go) fun r s4 ⟨u,hr,h4⟩=>?_)
  subst hr
  refine wpAny_passesOwn hp (thn h4 fun _ s5 ⟨x,H5,I5,r5,y5,st5,fr5⟩=>?_)
  have I5':=I5.pinned (stat fr5) (T.obj _ _ st5)
  refine wpAny_passesOwn hp (thn (hg _ s5 σ3 H5 x u _ I5' r5 (step x H5 y5)) fun _ s6 ⟨σ6,H6,I6,q6⟩=>?_)
  refine wpAny_passesOwn hp (thn (hb _ s6 σ6 H6 _ I6 q6) fun f s7 q7=>?_)
  have again:∀{σ7:St} {H7:Hp},Inv X (pins++EH fp s5.heap) σ7 H7 s7->N σ7 H7->∃m,m < n/\∃i σ' H',Inv X pins σ' H' s7/\tn i s7.heap/\(∀b∈fp,H' b=none)/\W i m σ' H':=fun {σ7 H7} I7 n7=>by
   obtain ⟨m',hm,w7⟩:=hN σ7 H7 n7
   refine ⟨m',hm,i+1,σ7,H7,I7.unpinned,T.keep _ _ _ st5 fun b hb o e=>(I7.pin (b,o) (mem_append_right _ (mem_append_right _ (BP hb e)))).1,fun b hb=>?_,w7⟩
   obtain ⟨o,e,d⟩:=T.obj _ _ st5 b hb
   exact (I7.pin (b,o) (mem_append_right _ (mem_append_right _ (BP hb e)))).2.1
  cases f with
  | next=>obtain ⟨σ7,H7,I7,n7⟩:=q7;exact again I7 n7
  | cont=>obtain ⟨σ7,H7,I7,n7⟩:=q7;exact again I7 n7
  | brk=>obtain ⟨σ7,H7,I7,q7⟩:=q7;exact ⟨σ7,H7,I7.unpinned,q7⟩
  | ret v=>obtain ⟨x7,σ7,H7,I7,r7,q7⟩:=q7;exact ⟨x7,σ7,H7,I7.unpinned,r7,q7⟩
end
theorem BD {K:PySem.W.Frag} {a:Addr} {xs:List V} {g:TG} {tb:TS} {D:Jd} {σ:St} {H:Hp} (Pv:Nat->St->Hp->Prop) (h0:Pv 0 σ H) (hl:∀i σ H,i<=xs.length->Pv i σ H->SqL K H a xs)
 (hs:∀i x σ H,xs[i]?=some x->Pv i σ H->g x σ H fun σ2 H2=>tb { D with nx:=Pv (i+1),ct:=Pv (i+1),bk:=D.nx } σ2 H2) (hd:∀σ H,Pv xs.length σ H->D.nx σ H) :
 ∃W:Nat->Nat->St->Hp->Prop,(∃m,W 0 m σ H)/\∀i m σ H,W i m σ H ->
  ((Itl K a).stop i H/\D.nx σ H)\/((Itl K a).go i H/\∃N:St->Hp->Prop,(∀σ' H',N σ' H'->∃m',m' < m/\W (i+1) m' σ' H')/\∀x H',(Itl K a).yld i H x H'->g x σ H' fun σ2 H2=>tb { D with nx:=N,ct:=N,bk:=D.nx } σ2 H2):=by
 refine ⟨fun i m σ H=>m=xs.length - i/\i<=xs.length/\Pv i σ H,⟨xs.length,by simp,Nat.zero_le _,h0⟩,?_⟩
 rintro i m σ H ⟨rfl,hi,p⟩
 have q:=hl i σ H hi p
 by_cases hlt:i < xs.length
 ·refine .inr ⟨⟨xs,xs[i],q,by simp [hlt]⟩,Pv (i+1),fun σ' H' p'=>⟨xs.length - (i+1),by omega,rfl,hlt,p'⟩,fun x H' y=>?_⟩
  obtain ⟨e,y⟩:=y
  subst e
  exact hs i x σ _ (y xs q) p
 ·have e:i=xs.length:=by omega
  subst e
  exact .inl ⟨⟨xs,q,Nat.le_refl _⟩,hd σ H p⟩
theorem PM {K:PySem.W.Frag} {a:Addr} {xs:List V} {g:TG} {tb:TS} {D:Jd} {σ:St} {H:Hp} (Pv:Nat->St->Hp->Prop) (h0:Pv 0 σ H) (hl:∀i σ H,i<=xs.length->Pv i σ H->SqT K H a xs)
 (hs:∀i x σ H,xs[i]?=some x->Pv i σ H->g x σ H fun σ2 H2=>tb { D with nx:=Pv (i+1),ct:=Pv (i+1),bk:=D.nx } σ2 H2) (hd:∀σ H,Pv xs.length σ H->D.nx σ H) :
 ∃W:Nat->Nat->St->Hp->Prop,(∃m,W 0 m σ H)/\∀i m σ H,W i m σ H ->
  ((Itt K a).stop i H/\D.nx σ H)\/((Itt K a).go i H/\∃N:St->Hp->Prop,(∀σ' H',N σ' H'->∃m',m' < m/\W (i+1) m' σ' H')/\∀x H',(Itt K a).yld i H x H'->g x σ H' fun σ2 H2=>tb { D with nx:=N,ct:=N,bk:=D.nx } σ2 H2):=by
 refine ⟨fun i m σ H=>m=xs.length - i/\i<=xs.length/\Pv i σ H,⟨xs.length,by simp,Nat.zero_le _,h0⟩,?_⟩
 rintro i m σ H ⟨rfl,hi,p⟩
 have q:=hl i σ H hi p
 by_cases hlt:i < xs.length
 ·refine .inr ⟨⟨xs,xs[i],q,by simp [hlt]⟩,Pv (i+1),fun σ' H' p'=>⟨xs.length - (i+1),by omega,rfl,hlt,p'⟩,fun x H' y=>?_⟩
  obtain ⟨e,y⟩:=y
  subst e
  exact hs i x σ _ (y xs q) p
 ·have e:i=xs.length:=by omega
  subst e
  exact .inl ⟨⟨xs,q,Nat.le_refl _⟩,hd σ H p⟩
theorem D8 {lo:Int} {n:Nat} {g:TG} {tb:TS} {D:Jd} {σ:St} {H:Hp} (Pv:Nat->St->Hp->Prop) (h0:Pv 0 σ H)
 (hs:∀i σ H,i < n->Pv i σ H->g (.int (lo+i)) σ H fun σ2 H2=>tb { D with nx:=Pv (i+1),ct:=Pv (i+1),bk:=D.nx } σ2 H2) (hd:∀σ H,Pv n σ H->D.nx σ H) :
 ∃W:Nat->Nat->St->Hp->Prop,(∃m,W 0 m σ H)/\∀i m σ H,W i m σ H ->
  ((Itr lo n).stop i H/\D.nx σ H)\/((Itr lo n).go i H/\∃N:St->Hp->Prop,(∀σ' H',N σ' H'->∃m',m' < m/\W (i+1) m' σ' H')/\∀x H',(Itr lo n).yld i H x H'->g x σ H' fun σ2 H2=>tb { D with nx:=N,ct:=N,bk:=D.nx } σ2 H2):=by
 refine ⟨fun i m σ H=>m=n - i/\i<=n/\Pv i σ H,⟨n,by simp,Nat.zero_le _,h0⟩,?_⟩
 rintro i m σ H ⟨rfl,hi,p⟩
 by_cases hlt:i < n
 ·refine .inr ⟨hlt,Pv (i+1),fun σ' H' p'=>⟨n - (i+1),by omega,rfl,hlt,p'⟩,fun x H' y=>?_⟩
  obtain ⟨e,y⟩:=y
  subst e y
  exact hs i σ _ hlt p
 ·have e:i=n:=by omega
  subst e
  exact .inl ⟨Nat.le_refl _,hd σ H p⟩
end L2
namespace L2
open PySem PySem.Spec PyProof.Rows
abbrev R2:=V->V->Hp->VK->Prop
def OpR (X:Cx) (f:Value->Value->Sem Value) (r:R2):Prop :=
 ∀(pins:List (Addr × Obj)) (s:Shared) (σ:St) (H:Hp) (x y:V) (v u:Value) (Q:VK),Inv X pins σ H s->A8 x v->A8 y u->r x y H Q ->
  wpAny (model X.prog X.w) X.A (f v u) (EP X pins σ Q) X.xe s
def UnR (X:Cx) (f:Value->Sem Value) (r:V->Hp->VK->Prop):Prop :=
 ∀(pins:List (Addr × Obj)) (s:Shared) (σ:St) (H:Hp) (x:V) (v:Value) (Q:VK),Inv X pins σ H s->A8 x v->r x H Q ->
  wpAny (model X.prog X.w) X.A (f v) (EP X pins σ Q) X.xe s
def Ch (X:Cx) (f:Value) (r:List V->Hp->VK->Prop):Prop :=
 ∀(pins:List (Addr × Obj)) (s:Shared) (σ:St) (H:Hp) (xs:List V) (us:List Value) (Q:VK),Inv X pins σ H s->A6 xs us->r xs H Q ->
  wpAny (model X.prog X.w) X.A (call f us) (EP X pins σ Q) X.xe s
def tOp (r:R2) (ta tb:TE):TE:=fun σ H Q=>ta σ H fun x H1=>tb σ H1 fun y H2=>r x y H2 Q
def tUn (r:V->Hp->VK->Prop) (ta:TE):TE:=fun σ H Q=>ta σ H fun x H1=>r x H1 Q
def rI (C:Int->Int->Prop) (g:Int->Int->V):R2:=fun x y H Q=>∃i j,x=.int i/\y=.int j/\C i j/\Q (g i j) H
def rI0 (g:Int->Int->V):R2:=fun x y H Q=>∃i j,x=.int i/\y=.int j/\Q (g i j) H
def rU (g:Int->V):V->Hp->VK->Prop:=fun x H Q=>∃i,x=.int i/\Q (g i) H
section
variable {X:Cx} {a b c:Expr} {ta tb tc:TE} {pos:Pos}
theorem Qv (ha:PE X a ta) (hb:PE X b tb) {pins:List (Addr × Obj)} {s:Shared} {σ:St} {H:Hp} {R:V->V->Hp->Prop} (I:Inv X pins σ H s)
 (h:ta σ H fun x H1=>tb σ H1 fun y H2=>R x y H2) {Q:Value->Shared->Prop} {f:Value->Value->Sem Value}
 (hf:∀v u s2 x y H2,Inv X pins σ H2 s2->A8 x v->A8 y u->R x y H2->wpAny (model X.prog X.w) X.A (f v u) Q X.xe s2) :
 wpAny (model X.prog X.w) X.A (eval a X.env) (fun v s₁=>wpAny (model X.prog X.w) X.A (eval b X.env) (fun u s₂=>wpAny (model X.prog X.w) X.A (f v u) Q X.xe s₂) X.xe s₁) X.xe s:=by
 refine thn (ha pins s σ H _ I h) fun v s1 ⟨x,H1,I1,r1,q1⟩=>?_
 refine thn (hb pins s1 σ H1 _ I1 q1) fun u s2 ⟨y,H2,I2,r2,q2⟩=>?_
 exact hf v u s2 x y H2 I2 r1 r2 q2
theorem An {op:Operator} {r:R2} (ho:OpR X (binaryOp op) r) (ha:PE X a ta) (hb:PE X b tb):PE X (.BinOp a op b pos) (tOp r ta tb):=by
 intro pins s σ H Q I h
 exact wpAny_BinOp (Qv ha hb I h fun v u s2 x y H2 I2 rx ry q=>ho pins s2 σ H2 x y v u Q I2 rx ry q)
theorem LL {op:UnaryOp} {r:V->Hp->VK->Prop} (ho:UnR X (unaryOp op) r) (ha:PE X a ta):PE X (.UnaryOp op a pos) (tUn r ta):=by
 intro pins s σ H Q I h
 exact UnaryOp_ (thn (ha pins s σ H _ I h) fun v s1 ⟨x,H1,I1,r1,q1⟩=>ho pins s1 σ H1 x v Q I1 r1 q1)
theorem opI {f:Value->Value->Sem Value} {C:Int->Int->Prop} {g:Int->Int->Int}
 (rule:∀(i j:Int) (t u:Tok) (s:Shared) (Q:Value->Shared->Prop) (E:Value->Shared->Prop),C i j->Q (.int (g i j) s.toks) { s with toks:=s.toks+1 }->wpAny (model X.prog X.w) X.A (f (.int i t) (.int j u)) Q E s) :
 OpR X f (rI C fun i j=>.int (g i j)):=by
 intro pins s σ H x y v u Q I rx ry h
 obtain ⟨i,j,rfl,rfl,hc,q⟩:=h
 obtain ⟨t,rfl⟩:=rx
 obtain ⟨t',rfl⟩:=ry
 exact rule i j t t' s _ _ hc ⟨.int (g i j),H,I.tok _,⟨_,rfl⟩,q⟩
theorem Pp {f:Value->Value->Sem Value} {g:Int->Int->Int}
 (rule:∀(i j:Int) (t u:Tok) (s:Shared) (Q:Value->Shared->Prop) (E:Value->Shared->Prop),Q (.int (g i j) s.toks) { s with toks:=s.toks+1 }->wpAny (model X.prog X.w) X.A (f (.int i t) (.int j u)) Q E s) :
 OpR X f (rI0 fun i j=>.int (g i j)):=by
 intro pins s σ H x y v u Q I rx ry h
 obtain ⟨i,j,rfl,rfl,q⟩:=h
 obtain ⟨t,rfl⟩:=rx
 obtain ⟨t',rfl⟩:=ry
 exact rule i j t t' s _ _ ⟨.int (g i j),H,I.tok _,⟨_,rfl⟩,q⟩
theorem PV {f:Value->Value->Sem Value} {g:Int->Int->Bool}
 (rule:∀(i j:Int) (t u:Tok) (s:Shared) (Q:Value->Shared->Prop) (E:Value->Shared->Prop),Q (.bool (g i j)) s->wpAny (model X.prog X.w) X.A (f (.int i t) (.int j u)) Q E s) :
 OpR X f (rI0 fun i j=>.bl (g i j)):=by
 intro pins s σ H x y v u Q I rx ry h
 obtain ⟨i,j,rfl,rfl,q⟩:=h
 obtain ⟨t,rfl⟩:=rx
 obtain ⟨t',rfl⟩:=ry
 exact rule i j t t' s _ _ ⟨.bl (g i j),H,I,rfl,q⟩
def NH (i j:Int):Prop:=0<=j/\j<=1000000/\i.natAbs < 2 ^ 64
theorem KO (k:Nat):(0:Int)<=2 ^ k:=by
 rw [two_pow_cast]
 exact Int.natCast_nonneg _
theorem AX:OpR X (binaryOp .Add) (rI0 fun i j=>.int (i+j)):=Pp fun _ _ _ _ _ _ _ q=>add_int q
theorem IG:OpR X (binaryOp .Sub) (rI0 fun i j=>.int (i - j)):=Pp fun _ _ _ _ _ _ _ q=>sub_int q
theorem Be:OpR X (binaryOp .Mod) (rI (fun _ j=>j≠0) fun i j=>.int (i.fmod j)):=opI fun _ _ _ _ _ _ _ hc q=>mod_int' hc q
theorem Hr:OpR X (binaryOp .Pow) (rI NH fun i j=>.int (i ^ j.toNat)):=opI fun _ _ _ _ _ _ _ hc q=>pow_int_small hc.1 hc.2.1 hc.2.2 q
theorem Jm:OpR X (binaryOp .LShift) (rI NH fun i j=>.int (i*2 ^ j.toNat)):=opI fun _ _ _ _ _ _ _ hc q=>lshift_int_small hc.1 hc.2.1 hc.2.2 q
theorem Nq:OpR X (binaryOp .RShift) (rI (fun _ j=>0<=j) fun i j=>.int (i / 2 ^ j.toNat)):=opI fun i j _ _ _ _ _ hc q =>
 rshift_int hc (by rw [Int.fdiv_eq_ediv_of_nonneg i (KO _)];exact q)
theorem KJ:OpR X (binaryOp .BitAnd) (rI0 fun i j=>.int (Builtin.bitAnd i j)):=Pp fun _ _ _ _ _ _ _ q=>and_int q
theorem Rj:OpR X (binaryOp .BitOr) (rI0 fun i j=>.int (Builtin.bitOr i j)):=Pp fun _ _ _ _ _ _ _ q=>or_int q
theorem unI {f:Value->Sem Value} {g:Int->Int}
 (rule:∀(i:Int) (t:Tok) (s:Shared) (Q:Value->Shared->Prop) (E:Value->Shared->Prop),Q (.int (g i) s.toks) { s with toks:=s.toks+1 }->wpAny (model X.prog X.w) X.A (f (.int i t)) Q E s) :
 UnR X f (rU fun i=>.int (g i)):=by
 intro pins s σ H x v Q I rx h
 obtain ⟨i,rfl,q⟩:=h
 obtain ⟨t,rfl⟩:=rx
 exact rule i t s _ _ ⟨.int (g i),H,I.tok _,⟨_,rfl⟩,q⟩
theorem K5:UnR X (unaryOp .USub) (rU fun i=>.int (-i)):=unI fun _ _ _ _ _ q=>neg_int q
theorem Qs:UnR X (unaryOp .Invert) (rU fun i=>.int (Builtin.bitNot i)):=unI fun _ _ _ _ _ q=>invert_int q
end
def Rb:V->V->Bool
 | .non,.non=>true | .non,.int _=>true | .int _,.non=>true | .non,.bl _=>true | .bl _,.non=>true | .non,.str _=>true | .str _,.non=>true
 | .int _,.int _=>true | .bl _,.bl _=>true | .str _,.str _=>true | .byt _,.byt _=>true
 | .int _,.str _=>true | .str _,.int _=>true | .bl _,.str _=>true | .str _,.bl _=>true
 | _,_=>false
def rEq:R2:=fun x y H Q=>Rb x y=true/\Q (.bl (decide (x=y))) H
def rNe:R2:=fun x y H Q=>Rb x y=true/\Q (.bl (!decide (x=y))) H
theorem L9 {i j:Int}:decide (V.int i=V.int j)=(i == j):=by
 rw [Bool.eq_iff_iff]
 simp
theorem N3 {i j:Bool}:decide (V.bl i=V.bl j)=(i == j):=by
 rw [Bool.eq_iff_iff]
 simp
theorem LK {i j:Str}:decide (V.str i=V.str j)=(i == j):=by
 rw [Bool.eq_iff_iff]
 simp
theorem Lx {i j:Array UInt8}:decide (V.byt i=V.byt j)=(i.toList == j.toList):=by
 rw [Bool.eq_iff_iff]
 cases i
 cases j
 simp
section
variable {X:Cx} {a b c:Expr} {ta tb tc:TE} {pos:Pos}
theorem AI {pins:List (Addr × Obj)} {σ:St} {H:Hp} {s:Shared} {Q:VK} {k k':Bool} (I:Inv X pins σ H s) (q:Q (.bl k) H) (e:k=k'):EP X pins σ Q (.bool k') s:=by
 subst e
 exact ⟨.bl k,H,I,rfl,q⟩
theorem GS:OpR X (compareOp .Eq) rEq:=by
 intro pins s σ H x y v u Q I rx ry h
 obtain ⟨hs,q⟩:=h
 cases x with
 | non =>
   cases rx
   cases y with
   | non=>cases ry;exact PySem.EqNone.eq_none_none (AI I q (by simp))
   | bl j=>cases ry;exact PySem.EqNone.eq_none_bool (AI I q (by simp))
   | int j=>obtain ⟨t',rfl⟩:=ry;exact PySem.EqNone.eq_none_int (AI I q (by simp))
   | str j=>obtain ⟨t',rfl⟩:=ry;exact PySem.EqNone.eq_none_str (AI I q (by simp))
   | _=>exact absurd (show false=true from hs) Bool.false_ne_true
 | bl i =>
   cases rx
   cases y with
   | non=>cases ry;exact PySem.EqNone.eq_bool_none (AI I q (by simp))
   | bl j=>cases ry;exact eq_bool (AI I q N3)
   | str j=>obtain ⟨t',rfl⟩:=ry;exact PySem.EqMixed.eq_bool_str (AI I q (by simp))
   | _=>exact absurd (show false=true from hs) Bool.false_ne_true
 | int i =>
   obtain ⟨t,rfl⟩:=rx
   cases y with
   | non=>cases ry;exact PySem.EqNone.eq_int_none (AI I q (by simp))
   | int j=>obtain ⟨t',rfl⟩:=ry;exact eq_int (AI I q L9)
   | str j=>obtain ⟨t',rfl⟩:=ry;exact PySem.EqMixed.eq_int_str (AI I q (by simp))
   | _=>exact absurd (show false=true from hs) Bool.false_ne_true
 | str i =>
   obtain ⟨t,rfl⟩:=rx
   cases y with
   | non=>cases ry;exact PySem.EqNone.eq_str_none (AI I q (by simp))
   | bl j=>cases ry;exact PySem.EqMixed.eq_str_bool (AI I q (by simp))
   | int j=>obtain ⟨t',rfl⟩:=ry;exact PySem.EqMixed.eq_str_int (AI I q (by simp))
   | str j=>obtain ⟨t',rfl⟩:=ry;exact eq_str (AI I q LK)
   | _=>exact absurd (show false=true from hs) Bool.false_ne_true
 | byt i =>
   obtain ⟨t,rfl⟩:=rx
   cases y with
   | byt j=>obtain ⟨t',rfl⟩:=ry;exact PySem.W.eq_bytes (AI I q Lx)
   | _=>exact absurd (show false=true from hs) Bool.false_ne_true
 | _=>cases y <;> exact absurd (show false=true from hs) Bool.false_ne_true
theorem GU:OpR X (compareOp .NotEq) rNe:=by
 intro pins s σ H x y v u Q I rx ry h
 obtain ⟨hs,q⟩:=h
 cases x with
 | non =>
   cases rx
   cases y with
   | non=>cases ry;exact PySem.EqNone.ne_none_none (AI I q (by simp))
   | bl j=>cases ry;exact PySem.EqNone.ne_none_bool (AI I q (by simp))
   | int j=>obtain ⟨t',rfl⟩:=ry;exact PySem.EqNone.ne_none_int (AI I q (by simp))
   | str j=>obtain ⟨t',rfl⟩:=ry;exact PySem.EqNone.ne_none_str (AI I q (by simp))
   | _=>exact absurd (show false=true from hs) Bool.false_ne_true
 | bl i =>
   cases rx
   cases y with
   | non=>cases ry;exact PySem.EqNone.ne_bool_none (AI I q (by simp))
   | bl j=>cases ry;exact ne_bool (AI I q (congrArg not N3))
   | str j=>obtain ⟨t',rfl⟩:=ry;exact PySem.EqMixed.ne_bool_str (AI I q (by simp))
   | _=>exact absurd (show false=true from hs) Bool.false_ne_true
 | int i =>
   obtain ⟨t,rfl⟩:=rx
   cases y with
   | non=>cases ry;exact PySem.EqNone.ne_int_none (AI I q (by simp))
   | int j=>obtain ⟨t',rfl⟩:=ry;exact ne_int (AI I q (congrArg not L9))
   | str j=>obtain ⟨t',rfl⟩:=ry;exact PySem.EqMixed.ne_int_str (AI I q (by simp))
   | _=>exact absurd (show false=true from hs) Bool.false_ne_true
 | str i =>
   obtain ⟨t,rfl⟩:=rx
   cases y with
   | non=>cases ry;exact PySem.EqNone.ne_str_none (AI I q (by simp))
   | bl j=>cases ry;exact PySem.EqMixed.ne_str_bool (AI I q (by simp))
   | int j=>obtain ⟨t',rfl⟩:=ry;exact PySem.EqMixed.ne_str_int (AI I q (by simp))
   | str j=>obtain ⟨t',rfl⟩:=ry;exact ne_str (AI I q (congrArg not LK))
   | _=>exact absurd (show false=true from hs) Bool.false_ne_true
 | byt i =>
   obtain ⟨t,rfl⟩:=rx
   cases y with
   | byt j=>obtain ⟨t',rfl⟩:=ry;exact PySem.W.ne_bytes (AI I q (congrArg not Lx))
   | _=>exact absurd (show false=true from hs) Bool.false_ne_true
 | _=>cases y <;> exact absurd (show false=true from hs) Bool.false_ne_true
theorem G8:OpR X (compareOp .Lt) (rI0 fun i j=>.bl (decide (i < j))):=PV fun _ _ _ _ _ _ _ q=>lt_int q
theorem Fr:OpR X (compareOp .LtE) (rI0 fun i j=>.bl (decide (i<=j))):=PV fun _ _ _ _ _ _ _ q=>le_int q
theorem GN:OpR X (compareOp .Gt) (rI0 fun i j=>.bl (decide (j < i))):=PV fun _ _ _ _ _ _ _ q=>gt_int q
theorem R0:OpR X (compareOp .GtE) (rI0 fun i j=>.bl (decide (j<=i))):=PV fun _ _ _ _ _ _ _ q=>ge_int q
theorem Qo:OpR X (compareOp .Is) (fun x y H Q=>y=.non/\Q (.bl (decide (x=.non))) H):=by
 intro pins s σ H x y v u Q I rx ry h
 obtain ⟨rfl,q⟩:=h
 cases ry
 refine is_none_gen (AI I q ?_)
 cases x <;> first
  | (cases rx;rfl)
  | (obtain ⟨t,rfl⟩:=rx;rfl)
theorem OU:OpR X (compareOp .IsNot) (fun x y H Q=>y=.non/\Q (.bl (!decide (x=.non))) H):=by
 intro pins s σ H x y v u Q I rx ry h
 obtain ⟨rfl,q⟩:=h
 cases ry
 refine isnot_none_gen (AI I q ?_)
 cases x <;> first
  | (cases rx;rfl)
  | (obtain ⟨t,rfl⟩:=rx;rfl)
theorem Ax (b:Expr) {op:CmpOp} (h:op≠.In:=by decide) (h2:op≠.NotIn:=by decide):behindInMarks op b=false:=by
 have e1:(op == CmpOp.In)=false:=by cases op <;> first | rfl | exact absurd rfl h
 have e2:(op == CmpOp.NotIn)=false:=by cases op <;> first | rfl | exact absurd rfl h2
 cases b <;> simp [behindInMarks,e1,e2]
theorem BA {op:CmpOp} {r:R2} (ho:OpR X (compareOp op) r) (ha:PE X a ta) (hb:PE X b tb) (hm:behindInMarks op b=false):PE X (.Compare a [op] [b] pos) (tOp r ta tb):=by
 intro pins s σ H Q I h
 exact wpAny_Compare1 (Qv ha hb I h fun v u s2 x y H2 I2 rx ry q=>ho pins s2 σ H2 x y v u Q I2 rx ry q) hm
def Qd (t:TE):TT:=fun σ H Q=>t σ H fun x H'=>∃k,x=.bl k/\Q k H'
theorem Ay {op:CmpOp} {r:R2} (ho:OpR X (compareOp op) r) (ha:PE X a ta) (hb:PE X b tb) (hm:behindInMarks op b=false):PT X (.Compare a [op] [b] pos) (Qd (tOp r ta tb)):=by
 intro pins s σ H Q I h
 refine wpAny_isTrue_Compare1 (thn (ha pins s σ H _ I h) fun v s1 ⟨x,H1,I1,r1,q1⟩=>thn (hb pins s1 σ H1 _ I1 q1) fun u s2 ⟨y,H2,I2,r2,q2⟩ =>
  thn (ho pins s2 σ H2 x y v u _ I2 r1 r2 q2) fun c s3 ⟨z,H3,I3,r3,k,e,q3⟩=>?_) hm
 subst e
 cases r3
 exact wpAny_truthy_bool ⟨H3,I3,q3⟩
def Ol (r r':R2) (ta tb tc:TE):TE:=fun σ H Q=>ta σ H fun x H1=>tb σ H1 fun y H2=>r x y H2 fun z H3=>∃k,z=.bl k /\
 (if k=true then tc σ H3 fun w' H4=>r' y w' H4 Q else Q (.bl false) H3)
theorem Ff {op op':CmpOp} {r r':R2} (ho:OpR X (compareOp op) r) (ho':OpR X (compareOp op') r') (ha:PE X a ta) (hb:PE X b tb) (hc:PE X c tc)
 (hm:lastMarks [op,op'] [b,c]=false:=by with_unfolding_all rfl):PE X (.Compare a [op,op'] [b,c] pos) (Ol r r' ta tb tc):=by
 intro pins s σ H Q I h
 refine Compare_chain (thn (ha pins s σ H _ I h) fun v s1 ⟨x,H1,I1,r1,q1⟩=>chain_link (thn (hb pins s1 σ H1 _ I1 q1) fun u s2 ⟨y,H2,I2,r2,q2⟩ =>
  thn (ho pins s2 σ H2 x y v u _ I2 r1 r2 q2) fun d s3 ⟨z,H3,I3,r3,k,e,q3⟩=>?_)) hm
 subst e
 cases r3
 refine wpAny_truthy_bool ?_
 cases k with
 | false=>exact ite_ff ⟨.bl false,H3,I3,rfl,q3⟩
 | true=>exact ite_tt (chain_last (thn (hc pins s3 σ H3 _ I3 q3) fun w' s4 ⟨z',H4,I4,r4,q4⟩=>ho' pins s4 σ H4 y z' u w' Q I4 r2 r4 q4))
theorem Oz {op op':CmpOp} {r r':R2} (ho:OpR X (compareOp op) r) (ho':OpR X (compareOp op') r') (ha:PE X a ta) (hb:PE X b tb) (hc:PE X c tc)
 (hm:lastMarks [op,op'] [b,c]=false:=by with_unfolding_all rfl):PT X (.Compare a [op,op'] [b,c] pos) (Qd (Ol r r' ta tb tc)):=by
 intro pins s σ H Q I h
 refine isTrue_chain (thn (ha pins s σ H _ I h) fun v s1 ⟨x,H1,I1,r1,q1⟩=>test_link (thn (hb pins s1 σ H1 _ I1 q1) fun u s2 ⟨y,H2,I2,r2,q2⟩ =>
  thn (ho pins s2 σ H2 x y v u _ I2 r1 r2 q2) fun d s3 ⟨z,H3,I3,r3,k,e,q3⟩=>?_)) hm
 subst e
 cases r3
 refine wpAny_truthy_bool ?_
 cases k with
 | false =>
   obtain ⟨k',e',q'⟩:=q3
   cases e'
   exact ite_ff ⟨H3,I3,q'⟩
 | true =>
   refine ite_tt (test_last (thn (hc pins s3 σ H3 _ I3 q3) fun w' s4 ⟨z',H4,I4,r4,q4⟩=>thn (ho' pins s4 σ H4 y z' u w' _ I4 r2 r4 q4) fun d' s5 ⟨z2,H5,I5,r5,k2,e2,q5⟩=>?_))
   subst e2
   cases r5
   exact wpAny_truthy_bool ⟨H5,I5,q5⟩
theorem GJ:(sizeLine:Nat) < 2 ^ 63:=by rw [sizeLine_eq];decide
theorem D6 {x:V} {us:List Value} (r:A6 [x] us):∃u,us=[u]/\A8 x u:=by
 cases r with
 | cons r1 r2=>cases r2;exact ⟨_,rfl,r1⟩
theorem L8 {x y:V} {us:List Value} (r:A6 [x,y] us):∃u w',us=[u,w']/\A8 x u/\A8 y w':=by
 cases r with
 | cons r1 r2 =>
   cases r2 with
   | cons r3 r4=>cases r4;exact ⟨_,_,rfl,r1,r3⟩
theorem Md (hc:X.calm=true):Ch X (.builtin "max") (fun xs H Q=>∃i j,xs=[.int i,.int j]/\Q (.int (if j > i then j else i)) H):=by
 intro pins s σ H xs us Q I r h
 obtain ⟨i,j,rfl,q⟩:=h
 obtain ⟨u,w',rfl,⟨t,rfl⟩,⟨t',rfl⟩⟩:=L8 r
 refine max_two_ints (I.ok.hd hc) fun h' tk k=>⟨_,H,I.kept k,?_,q⟩
 by_cases hj:j > i
 ·rw [if_pos hj,if_pos hj];exact ⟨_,rfl⟩
 ·rw [if_neg hj,if_neg hj];exact ⟨_,rfl⟩
theorem Id (hc:X.calm=true):Ch X (.builtin "min") (fun xs H Q=>∃i j,xs=[.int i,.int j]/\Q (.int (if j < i then j else i)) H):=by
 intro pins s σ H xs us Q I r h
 obtain ⟨i,j,rfl,q⟩:=h
 obtain ⟨u,w',rfl,⟨t,rfl⟩,⟨t',rfl⟩⟩:=L8 r
 refine min_two_ints (I.ok.hd hc) fun h' tk k=>⟨_,H,I.kept k,?_,q⟩
 by_cases hj:j < i
 ·rw [if_pos hj,if_pos hj];exact ⟨_,rfl⟩
 ·rw [if_neg hj,if_neg hj];exact ⟨_,rfl⟩
theorem MJ:Ch X (.type "int") (fun xs H Q=>(∃i,xs=[.int i]/\Q (.int i) H)\/∃k,xs=[.bl k]/\Q (.int (if k then 1 else 0)) H):=by
 intro pins s σ H xs us Q I r h
 rcases h with ⟨i,rfl,q⟩ | ⟨k,rfl,q⟩
 ·obtain ⟨u,rfl,t,rfl⟩:=D6 r
  exact call_int_int ⟨.int i,H,I,⟨_,rfl⟩,q⟩
 ·obtain ⟨u,rfl,r1⟩:=D6 r
  cases r1
  exact call_int_bool ⟨.int (if k then 1 else 0),H,I.tok _,⟨_,rfl⟩,q⟩
def R9 (K:PySem.W.Frag) (x:V) (H:Hp) (n:Nat):Prop :=
 match x with
 | .str y=>y.length<=sizeLine/\n=y.length
 | .byt y=>y.size<=sizeLine/\n=y.size
 | .ref p=>(∃xs,SqL K H p xs/\n=xs.length)\/∃xs,SqT K H p xs/\n=xs.length
 | _=>False
theorem N1:Ch X (.builtin "len") (fun xs H Q=>∃x n,xs=[x]/\R9 X.K x H n/\Q (.int n) H):=by
 intro pins s σ H xs us Q I r h
 obtain ⟨x,n,rfl,e,q⟩:=h
 obtain ⟨u,rfl,rx⟩:=D6 r
 have hl:=GJ
 have hs:sizeLine=16777216:=sizeLine_eq
 cases x with
 | str y =>
   obtain ⟨t,rfl⟩:=rx
   obtain ⟨hy,e'⟩:y.length<=sizeLine/\n=y.length:=e
   subst e'
   exact len_str (by omega) ⟨.int _,H,I.tok _,⟨_,rfl⟩,q⟩
 | byt y =>
   obtain ⟨t,rfl⟩:=rx
   obtain ⟨hy,e'⟩:y.size<=sizeLine/\n=y.size:=e
   subst e'
   exact PySem.W.len_bytes (by omega) ⟨.int _,H,I.tok _,⟨_,rfl⟩,q⟩
 | ref p =>
   cases rx
   have e':(∃xs,SqL X.K H p xs/\n=xs.length)\/∃xs,SqT X.K H p xs/\n=xs.length:=e
   rcases e' with ⟨xs,hx,e'⟩ | ⟨xs,hx,e'⟩
   ·subst e'
    obtain ⟨its,r',pl,hz⟩:=I.list hx
    have hlen:=r'.length
    exact Calls.call_len_list pl.isList (by simp only [size_toArray];omega) ⟨.int xs.length,H,I.tok _,⟨_,by simp only [size_toArray];rw [hlen]⟩,q⟩
   ·subst e'
    obtain ⟨its,r',pl,hz⟩:=I.tuple hx
    have hlen:=r'.length
    exact len_tuple pl (by simp only [size_toArray];omega) ⟨.int xs.length,H,I.tok _,⟨_,by simp only [size_toArray];rw [hlen]⟩,q⟩
 | _=>exact (show False from e).elim
end
end L2
namespace L2
open PySem PySem.Spec PyProof.Rows
structure K4 (h:Heap) (x dx C:Addr) (mA:Str->Option Value):Prop where
 obj:h.get? x=some (PySem.W.instObj C dx)
 ns:h.Ns1 dx mA
 ne:dx≠x
theorem Ms {h:Heap} {dx:Addr} {mA:Str->Option Value} (n:h.Ns1 dx mA):∃od,h.get? dx=some od/\∀name,PySem.W.lookIn name od=some (mA name):=by
 obtain ⟨o,es,ep,ho,hd,hk,_,hm⟩:=n
 refine ⟨o,ho,fun name=>?_⟩
 have e:=hm name
 unfold nsFind findBy at e
 rw [<- Array.find?_toList] at e
 unfold PySem.W.lookIn
 rw [hd]
 dsimp only
 split
 ·rename_i y q
  rw [q] at e
  exact congrArg some e
 ·rename_i q
  rw [q] at e
  have a:es.toList.any (·.refKey)=false:=by
   rw [any_eq_false]
   intro y hy
   obtain ⟨z,t,hkey⟩:=hk y (Array.mem_toList_iff.mp hy)
   simp [DictEntry.refKey,hkey]
  have a':¬ es.toList.any (·.refKey)=true:=by rw [a];exact Bool.false_ne_true
  rw [if_neg a']
  exact congrArg some e
theorem K4.look {h:Heap} {x dx C:Addr} {mA:Str->Option Value} (I:K4 h x dx C mA):∃od,PySem.W.InstAt h x (PySem.W.instObj C dx) C (some od)/\∀name,PySem.W.lookIn name od=some (mA name) :=
 let ⟨od,ho,hl⟩:=Ms I.ns
 ⟨od,⟨I.obj,rfl,rfl,ho⟩,hl⟩
section
variable {prog:Program} {w:World} {A:Around} {E:Value->Shared->Prop} {s:Shared} {K:PySem.W.Frag} {x dx C f:Addr} {mA:Str->Option Value} {name:Str} {v:Value}
theorem PZ {expr:Bool} {Q:Value->Shared->Prop} (X:K.In s.heap) (I:K4 s.heap x dx C mA) (hg:PySem.W.plainGet K C name=true) (hh:PySem.W.hasDictIn K C=true)
 (ha:PySem.W.findIn K (.ref C) name=some none) (hv:mA name=some v) (hv':PySem.W.handedIn v=true) (h:Q v { s with toks:=s.toks+1 }) :
 wpAny (model prog w) A (getAttr (.ref x) name expr) Q E s:=by
 obtain ⟨od,J,hl⟩:=I.look
 exact PySem.W.get_value X J (PySem.W.plainGet_of hg).1 (PySem.W.findObj_own hh ha rfl (by rw [hl,hv])) hv' h
theorem NS {pl:Sem Bool} {Q:Value × List Value->Shared->Prop} (X:K.In s.heap) (I:K4 s.heap x dx C mA) (hg:PySem.W.plainGet K C name=true)
 (hf:PySem.W.findIn K (.ref C) name=some (some (.ref f))) (ht:PySem.W.isFn K (.ref f)=true) (hv:mA name=none) (h:Q (.ref f,[.ref x]) s) :
 wpAny (model prog w) A (getMethod (.ref x) name pl) Q E s:=by
 obtain ⟨od,J,hl⟩:=I.look
 exact PySem.W.method_fn X J (PySem.W.plainGet_of hg).1 (PySem.W.plainGet_of hg).2 hf (beq_iff_eq.mp ht) (by show (PySem.W.lookIn name od).map (·.isSome)=some false;rw [hl,hv];rfl) h
theorem set_map {ns:List Str} {Q:Unit->Shared->Prop} (X:K.In s.heap) (I:K4 s.heap x dx C mA)
 (hs:PySem.W.findIn K (.ref C) "__setattr__"=some (some (.builtin "object.__setattr__"))) (hp:PySem.W.plainOver K C=true) (ht:PySem.W.takerIn K C name=some none) (hh:PySem.W.hasDictIn K C=true)
 (hw:PySem.Within mA ns) (hsz:ns.length<=sizeLine)
 (h:∀h',K4 h' x dx C (fun y=>if y=name then some v else mA y)->Heap.SameBut dx s.heap h'->Q () { s with heap:=h',toks:=s.toks+2 }) :
 wpAny (model prog w) A (setAttr (.ref x) name v) Q E s:=by
 obtain ⟨od,J,hl⟩:=I.look
 refine PySem.W.set_plain X J hs (PySem.W.osa_open (s:={ s with toks:=s.toks+1 }) (r:=none) X J hp ht fun b=>?_)
 obtain ⟨cd,hc,hd'⟩:=PySem.W.any_some hh
 have hx:s.heap.get? x=some ⟨.ref C,some dx,.plain,#[]⟩:=I.obj
 refine wpAny_bind (wpAny_pure (wpAny_bind (wpAny_bind (wpAny_loadPart hx (wpAny_bind (PySem.W.Looks.here (s:={ s with toks:=s.toks+1 }) (PySem.W.looks_clsIn X hc) ?_))))))
 rw [hd']
 refine wpAny_pure (a:=some dx) (wpAny_bind (wpAny_pure (wpAny_bind ?_)))
 refine wpAny_nsSet1 (s:={ s with toks:=s.toks+1 }) I.ns fun h' hn2 hs2=>?_
 obtain ⟨oD,esD,epD,hoD,hdD,hcD⟩:=hn2.count (PySem.Within.cons name v hw)
 refine wpAny_bind (wpAny_lookBehind hoD (by rw [hdD];exact pastItsLine_dict (Nat.le_trans hcD (by rw [length_cons];omega))) ?_)
 exact wpAny_pure (h _ ⟨(hs2.2 _ (Ne.symm I.ne)).trans I.obj,hn2,I.ne⟩ hs2)
theorem Nz {R:Result->Shared->Prop} {vs:List Value} {kw:List (Str × Value)} (X:K.In s.heap) (hm:PySem.W.makesIn K C=true)
 (hi:PySem.W.findIn K (.ref C) "__init__"=some (some (.ref f))) (hf:PySem.W.typeIn K (.ref f)=some (.type "function"))
 (h:codeAny (model prog w) (A.under (.builtin "type.__call__" ⟨.ref C :: vs,kw⟩)) (.call (.ref f) ⟨.ref (s.heap.objs.size+1) :: vs,kw⟩) (PySem.W.InitBack (s.heap.objs.size+1) R)
  { s with heap:=(s.heap.push PySem.W.emptyDict).push (PySem.W.instObj C s.heap.objs.size) }) :
 codeAny (model prog w) A (.call (.ref C) ⟨vs,kw⟩) R s:=by
 obtain ⟨hh,g,d,t,os⟩:=s
 exact PySem.W.make_core (PySem.W.makes_of X hm) (PySem.W.looks_findIn X hi) (fun self=>PySem.W.bind_fn X self hf) (.inl rfl) h
end
def putF (f:Str) (v:V):List (Str × V)->List (Str × V)
 | []=>[(f,v)]
 | (g,x) :: r=>if g=f then (g,v) :: r else (g,x) :: putF f v r
theorem Gc (f g:Str) (v:V):∀fs:List (Str × V),(putF f v fs).lookup g=if g=f then some v else fs.lookup g
 | []=>by
   show List.lookup g [(f,v)]=_
   by_cases h:g=f
   ·have hb:(g == f)=true:=beq_iff_eq.mpr h
    simp only [List.lookup,hb,if_pos h]
   ·have hb:(g == f)=false:=beq_eq_false_iff_ne.mpr h
    simp only [List.lookup,hb,if_neg h]
 | (k,x) :: r=>by
   have ih:=Gc f g v r
   rw [show putF f v ((k,x) :: r)=(if k=f then (k,v) :: r else (k,x) :: putF f v r) from rfl]
   by_cases hk:k=f
   ·rw [if_pos hk]
    by_cases h:g=k
    ·have hb:(g == k)=true:=beq_iff_eq.mpr h
     simp only [List.lookup,hb,if_pos (h.trans hk)]
    ·have hb:(g == k)=false:=beq_eq_false_iff_ne.mpr h
     simp only [List.lookup,hb,if_neg (fun e:g=f=>h (e.trans hk.symm))]
   ·rw [if_neg hk]
    by_cases h:g=k
    ·have hb:(g == k)=true:=beq_iff_eq.mpr h
     simp only [List.lookup,hb,if_neg (fun e:g=f=>hk (h.symm.trans e))]
    ·have hb:(g == k)=false:=beq_eq_false_iff_ne.mpr h
     simp only [List.lookup,hb]
     exact ih
theorem FB (f:Str) (v:V):∀fs:List (Str × V),f∈(putF f v fs).map (·.1)/\∀g,g∈fs.map (·.1)->g∈(putF f v fs).map (·.1)
 | []=>⟨by simp [putF],fun g h=>by simp at h⟩
 | (k,x) :: r=>by
   obtain ⟨i1,i2⟩:=FB f v r
   rw [show putF f v ((k,x) :: r)=(if k=f then (k,v) :: r else (k,x) :: putF f v r) from rfl]
   by_cases hk:k=f
   ·rw [if_pos hk]
    subst hk
    exact ⟨by simp,fun g h=>by simpa using h⟩
   ·rw [if_neg hk]
    refine ⟨?_,fun g h=>?_⟩
    ·rw [map_cons]
     exact mem_cons_of_mem _ i1
    ·rw [map_cons] at h ⊢
     rcases mem_cons.mp h with e | e
     ·exact mem_cons.mpr (.inl e)
     ·exact mem_cons_of_mem _ (i2 g e)
theorem Ge (f:Str) (v:V):∀fs:List (Str × V),(putF f v fs).length<=fs.length+1
 | []=>by simp [putF]
 | (k,x) :: r=>by
   have ih:=Ge f v r
   rw [show putF f v ((k,x) :: r)=(if k=f then (k,v) :: r else (k,x) :: putF f v r) from rfl]
   by_cases hk:k=f
   ·rw [if_pos hk,length_cons,length_cons];omega
   ·rw [if_neg hk,length_cons,length_cons];omega
theorem DV.some_of {v:V} {o:Option Value} (r:DV (some v) o):∃u,o=some u/\A8 v u:=by
 cases o with
 | none=>exact (show False from r).elim
 | some u=>exact ⟨u,rfl,r⟩
theorem DV.none_of {o:Option Value} (r:DV none o):o=none:=by
 cases o with
 | none=>rfl
 | some u=>exact (show False from r).elim
theorem Me {v:V} {u:Value} (r:A8 v u):PySem.W.handedIn u=true:=by
 cases v with
 | non=>cases (show u=Value.none from r);rfl
 | bl b=>cases (show u=Value.bool b from r);rfl
 | int i=>obtain ⟨t,e⟩:=(show ∃t,u=Value.int i t from r);cases e;rfl
 | str x=>obtain ⟨t,e⟩:=(show ∃t,u=Value.str x t from r);cases e;rfl
 | byt b=>obtain ⟨t,e⟩:=(show ∃t,u=Value.bytes b t from r);cases e;rfl
 | flt b=>obtain ⟨t,e⟩:=(show ∃t,u=Value.float b t from r);cases e;rfl
 | ref a=>cases (show u=Value.ref a from r);rfl
 | ty n=>cases (show u=Value.type n from r);rfl
section
variable {P:Program} {w:World} {H H':Hp} {h h':Heap} {a C dx:Addr} {fs fs':List (Str × V)}
theorem Gw (hok:HOk P w H h) (e:H a=some (.ins C dx fs)):∃mA,K4 h a dx C mA/\(∀f,DV (fs.lookup f) (mA f))/\PySem.Within mA (fs.map (·.1))/\fs.length<=1000/\H dx=some (.own a):=by
 obtain ⟨d,z,ne,ob,mA,n,r,q⟩:=(show Ba P w H h a (.ins C dx fs) from hok a _ e)
 exact ⟨mA,⟨ob,n,ne⟩,r,q,z,d⟩
end
structure Cls (K:PySem.W.Frag) (C:Addr):Prop where
 pg:PySem.W.plainGet K C Str.empty=true
 hd:PySem.W.hasDictIn K C=true
 po:PySem.W.plainOver K C=true
 sa:PySem.W.findIn K (.ref C) "__setattr__"=some (some (.builtin "object.__setattr__"))
theorem Cls.get {K:PySem.W.Frag} {C:Addr} (c:Cls K C) (f:Str):PySem.W.plainGet K C f=true:=c.pg
def C4 (K:PySem.W.Frag) (C:Addr) (f:Str):Prop:=PySem.W.findIn K (.ref C) f=some none
theorem C4.taker {K:PySem.W.Frag} {C:Addr} {f:Str} (n:C4 K C f):PySem.W.takerIn K C f=some none:=by
 unfold PySem.W.takerIn
 rw [show PySem.W.findIn K (.ref C) f=some none from n]
 rfl
structure Kg (K:PySem.W.Frag) (C:Addr) (m:Str) (f:Addr):Prop where
 at_:PySem.W.findIn K (.ref C) m=some (some (.ref f))
 fn:PySem.W.isFn K (.ref f)=true
 kp:PySem.W.keepIn K (.ref f)=true
section
variable {X:Cx} {pins:List (Addr × Obj)} {σ:St} {H:Hp} {s:Shared} {a C dx:Addr} {fs:List (Str × V)} {f:Str} {v:V} {A:Around} {E:Value->Shared->Prop}
theorem KA {b:Bool} {Q:Value->Shared->Prop} (I:Inv X pins σ H s) (e:H a=some (.ins C dx fs)) (c:Cls X.K C) (n:C4 X.K C f) (l:fs.lookup f=some v)
 (h:∀u s',Inv X pins σ H s'->A8 v u->Q u s'):wpAny (model X.prog X.w) A (getAttr (.ref a) f b) Q E s:=by
 obtain ⟨mA,O,r,_,_,_⟩:=Gw I.hok e
 obtain ⟨u,hu,ru⟩:=DV.some_of (v:=v) (o:=mA f) (by rw [<- l];exact r f)
 exact PZ I.kIn O (c.get f) c.hd n hu (Me ru) (h u _ (I.tok _) ru)
theorem KI {m:Str} {g:Addr} {pl:Sem Bool} {Q:Value × List Value->Shared->Prop} (I:Inv X pins σ H s) (e:H a=some (.ins C dx fs)) (c:Cls X.K C) (k:Kg X.K C m g) (l:fs.lookup m=none)
 (h:Q (.ref g,[.ref a]) s):wpAny (model X.prog X.w) A (getMethod (.ref a) m pl) Q E s:=by
 obtain ⟨mA,O,r,_,_,_⟩:=Gw I.hok e
 have hn:mA m=none:=DV.none_of (by rw [<- l];exact r m)
 exact NS I.kIn O (c.get m) k.at_ k.fn hn h
theorem Lh {y:V} {u:Value} {Q:Unit->Shared->Prop} (I:Inv X pins σ H s) (e:H a=some (.ins C dx fs)) (c:Cls X.K C) (n:C4 X.K C f) (hl:fs.length < 1000) (ry:A8 y u)
 (h:∀s',Inv X pins σ (upd H a (.ins C dx (putF f y fs))) s'->Q () s'):wpAny (model X.prog X.w) A (setAttr (.ref a) f u) Q E s:=by
 obtain ⟨mA,O,r,wi,_,ho⟩:=Gw I.hok e
 have hz:(fs.map (·.1)).length<=sizeLine:=by rw [length_map,sizeLine_eq];omega
 refine set_map I.kIn O c.sa c.po n.taker c.hd wi hz fun h' O' sb=>h _ ?_
 have hd:∃o,h'.get? dx=some o:=let ⟨o,_,_,e',_⟩:=O'.ns;⟨o,e'⟩
 refine I.write (x:=a) (e:=dx) (by rw [e];exact True.intro) (.inr ho) (fun b q hb z=>(sb.2 b hb).trans z) hd ?_
 refine ⟨by rw [Ai O.ne];exact ho,?_,O.ne,O'.obj,_,O'.ns,fun g=>?_,fun g hg=>?_⟩
 ·have:=Ge f y fs;omega
 ·show DV ((putF f y fs).lookup g) (if g=f then some u else mA g)
  rw [Gc]
  by_cases q:g=f
  ·rw [if_pos q,if_pos q];exact ry
  ·rw [if_neg q,if_neg q];exact r g
 ·by_cases q:g=f
  ·rw [q];exact (FB f y fs).1
  ·refine (FB f y fs).2 g (wi g fun z=>hg ?_)
   show (if g=f then some u else mA g)=none
   rw [if_neg q];exact z
theorem Inv.made (I:Inv X pins σ H s):Inv X pins σ (upd (upd H s.heap.objs.size (.own (s.heap.objs.size+1))) (s.heap.objs.size+1) (.ins C s.heap.objs.size []))
 { s with heap:=(s.heap.push PySem.W.emptyDict).push (PySem.W.instObj C s.heap.objs.size) }:=by
 have e1:(s.heap.push PySem.W.emptyDict).get? s.heap.objs.size=some PySem.W.emptyDict:=Heap.get?_push_size s.heap rfl
 have e2:((s.heap.push PySem.W.emptyDict).push (PySem.W.instObj C s.heap.objs.size)).get? (s.heap.objs.size+1)=some (PySem.W.instObj C s.heap.objs.size):=by
  have:=Heap.get?_push_size (s.heap.push PySem.W.emptyDict) (o:=PySem.W.instObj C s.heap.objs.size) rfl
  rwa [Heap.size_push] at this
 have e3:(s.heap.push PySem.W.emptyDict).Ns s.heap.objs.size (fun _=>none):=⟨PySem.W.emptyDict,#[],_,e1,rfl,(fun e he=>absurd he (by simp)),fun _=>rfl⟩
 have I1:=I.laid (a:=s.heap.objs.size) (o:=.own (s.heap.objs.size+1)) (h':=s.heap.push PySem.W.emptyDict) (t':=s.toks) (fun b u q=>Heap.get?_push_of_some _ q) (Nat.le_refl _) ⟨_,e1⟩
 refine I1.laid (a:=s.heap.objs.size+1) (o:=.ins C s.heap.objs.size []) (t':=s.toks) (fun b u q=>Heap.get?_push_of_some _ q) (Nat.le_of_eq (Heap.size_push _ _)) ?_
 have ne:s.heap.objs.size≠s.heap.objs.size+1:=Nat.ne_of_lt (Nat.lt_succ_self _)
 refine ⟨by rw [Ai ne,Ab],Nat.zero_le _,ne,e2,fun _=>none,(Heap.Ns1.of_empty e3).at fun o q=>Heap.get?_push_of_some _ q,fun _=>True.intro,fun y hy=>absurd rfl hy⟩
theorem OY {prog:Program} {w:World} {env:Env} {e:Expr} {f:Str} {pos:Pos} {s:Shared} {Q:Value->Shared->Prop} (hb:attributeBase e f env (eval e env)=eval e env)
 (h:wpAny (model prog w) A (eval e env) (fun o s₁=>wpAny (model prog w) A (getAttr o f true) Q E s₁) E s):wpAny (model prog w) A (eval (.Attribute e f pos) env) Q E s :=
 Attribute_any_ h (by rw [arm_eval_Attribute,hb])
end
def Sj (K:PySem.W.Frag) (ta:TE) (f:Str):TE:=fun σ H Q=>ta σ H fun x H1=>∃a C dx fs v,x=.ref a/\H1 a=some (.ins C dx fs)/\Cls K C/\C4 K C f/\fs.lookup f=some v/\Q v H1
def So (K:PySem.W.Frag) (ta tv:TE) (f:Str):TS:=fun D σ H=>tv σ H fun y H1=>ta σ H1 fun x H2=>∃a C dx fs,x=.ref a/\H2 a=some (.ins C dx fs)/\Cls K C/\C4 K C f/\fs.length < 1000 /\
 D.nx σ (upd H2 a (.ins C dx (putF f y fs)))
section
variable {X:Cx} {o e value:Expr} {f:Str} {pos pos' tpos:Pos} {ta tv:TE}
theorem DO (he:PE X e ta) (hb:attributeBase e f X.env (eval e X.env)=eval e X.env):PE X (.Attribute e f pos) (Sj X.K ta f):=by
 intro pins s σ H Q I h
 refine OY hb (thn (he pins s σ H _ I h) fun u s1 ⟨x,H1,I1,rx,a,C,dx,fs,v,ex,ea,c,n,l,q⟩=>?_)
 subst ex
 obtain rfl:u=Value.ref a:=rx
 exact KA I1 ea c n l fun u' s2 I2 ru=>⟨v,H1,I2,ru,q⟩
theorem IS (ha:PE X o ta) (hv:PE X value tv) (hs:swapsWith value (some (.Attribute o f pos')) pos.line X.env=pure false):PS X (.Assign [.Attribute o f pos'] value pos) (So X.K ta tv f):=by
 intro pins s σ H D I h
 refine plainObj_wpAny_Assign_Attribute (thn (hv pins s σ H _ I h) fun u s1 ⟨y,H1,I1,ry,q⟩=>thn (ha pins s1 σ H1 _ I1 q) fun ov s2 ⟨x,H2,I2,rx,a,C,dx,fs,ex,ea,c,n,l,q2⟩=>?_) hs
 subst ex
 obtain rfl:ov=Value.ref a:=rx
 exact Lh I2 ea c n l ry fun s3 I3=>⟨σ,_,I3,q2⟩
end
section
variable {X:Cx} {pins:List (Addr × Obj)} {σ:St} {H:Hp} {s:Shared} {A:Around} {E:Value->Shared->Prop} {Q:Value->Shared->Prop} {c:Value} {b:Bool}
inductive DU (K:PySem.W.Frag) (H:Hp):V->Value->Prop where
 | non:DU K H .non (.type "NoneType")
 | bl (x:Bool):DU K H (.bl x) (.type "bool")
 | int (i:Int):DU K H (.int i) (.type "int")
 | str (x:Str):DU K H (.str x) (.type "str")
 | flt (x:UInt64):DU K H (.flt x) (.type "float")
 | lst {a:Addr} {xs:List V} (e:H a=some (.lst xs)):DU K H (.ref a) (.type "list")
 | frz {a:Addr} {o:Obj} {xs:List V} (e:H a=some (.frz o (.lst xs))):DU K H (.ref a) (.type "list")
 | tup {a:Addr} {xs:List V} (e:H a=some (.tup xs)):DU K H (.ref a) (.type "tuple")
 | dK {a:Addr} {kvs:List (Key × V)} (e:H a=some (.dK kvs)):DU K H (.ref a) (.type "dict")
 | dT {a:Addr} {kvs:List (List Key × V)} (e:H a=some (.dT kvs)):DU K H (.ref a) (.type "dict")
 | ins {a C dx:Addr} {fs:List (Str × V)} (e:H a=some (.ins C dx fs)) (cl:Cls K C) (ha:PySem.W.findIn K (.ref C) "__class__"=some (some (.builtin "object.__class__")))
  (hn:PySem.W.specialIn K (.builtin "object.__class__") "__get__"=some (some (.builtin "getset_descriptor.__get__"))) (htk:PySem.W.takesIn K (.builtin "object.__class__")=some true)
  (hm:PySem.W.mroIn K C (.type "object")=some true):DU K H (.ref a) (.ref C)
theorem HN {x:V} {u t:Value} (I:Inv X pins σ H s) (rx:A8 x u) (ty:DU X.K H x t) (e:PySem.W.kitOne X.K t c=some b) (h:∀tk,Q (.bool b) { s with toks:=tk }) :
 wpAny (model X.prog X.w) A (call (.builtin "isinstance") [u,c]) Q E s:=by
 cases ty with
 | non=>cases (show u=Value.none from rx);exact PySem.W.kia_one PySem.W.kitx_none I.kIn True.intro e (fun z=>nomatch z) h
 | bl y=>cases (show u=Value.bool y from rx);exact PySem.W.kia_one PySem.W.kitx_bool I.kIn True.intro e (fun z=>nomatch z) h
 | int i=>obtain ⟨t,q⟩:=(show ∃t,u=Value.int i t from rx);cases q;exact PySem.W.kia_one PySem.W.kitx_int I.kIn True.intro e (fun z=>nomatch z) h
 | str y=>obtain ⟨t,q⟩:=(show ∃t,u=Value.str y t from rx);cases q;exact PySem.W.kia_one PySem.W.kitx_str I.kIn True.intro e (fun z=>nomatch z) h
 | flt y=>obtain ⟨t,q⟩:=(show ∃t,u=Value.float y t from rx);cases q;exact PySem.W.kia_one PySem.W.kitx_float I.kIn True.intro e (fun z=>nomatch z) h
 | @lst a xs ea =>
   cases (show u=Value.ref a from rx)
   obtain ⟨_,_,n,_,h1⟩:=(show Ba X.prog X.w H s.heap a (.lst xs) from I.hok a _ ea)
   exact PySem.W.kia_one PySem.W.kitx_list I.kIn ⟨_,h1,rfl⟩ e (fun z=>nomatch z) h
 | @frz a ob xs ea =>
   cases (show u=Value.ref a from rx)
   obtain ⟨_,_,_,n,_,h1⟩:=(show Ba X.prog X.w H s.heap a (.frz ob (.lst xs)) from I.hok a _ ea)
   exact PySem.W.kia_one PySem.W.kitx_list I.kIn ⟨_,h1,rfl⟩ e (fun z=>nomatch z) h
 | @tup a xs ea =>
   cases (show u=Value.ref a from rx)
   obtain ⟨_,_,_,p⟩:=(show Ba X.prog X.w H s.heap a (.tup xs) from I.hok a _ ea)
   obtain ⟨o,h1,h2,_⟩:=p
   exact PySem.W.kia_one PySem.W.kitx_tuple I.kIn ⟨o,h1,h2⟩ e (fun z=>nomatch z) h
 | @dK a kvs ea =>
   cases (show u=Value.ref a from rx)
   obtain ⟨_,_,vs,_,p⟩:=(show Ba X.prog X.w H s.heap a (.dK kvs) from I.hok a _ ea)
   obtain ⟨o,es,ep,h1,h2,_⟩:=p
   exact PySem.W.kia_one PySem.W.kitx_dict I.kIn ⟨o,h1,h2.1⟩ e (fun z=>nomatch z) h
 | @dT a kvs ea =>
   cases (show u=Value.ref a from rx)
   obtain ⟨_,_,xs,_,o,es,ep,h1,h2,_⟩:=(show Ba X.prog X.w H s.heap a (.dT kvs) from I.hok a _ ea)
   exact PySem.W.kia_one PySem.W.kitx_dict I.kIn ⟨o,h1,h2.1⟩ e (fun z=>nomatch z) h
 | @ins a C dx fs ea cl ha hn htk hm =>
   cases (show u=Value.ref a from rx)
   obtain ⟨mA,O,_⟩:=Gw I.hok ea
   obtain ⟨od,J,_⟩:=O.look
   exact PySem.W.kia_one (PySem.W.kitx_own (cl.get _) cl.hd ha hn htk hm) I.kIn J e (fun z=>nomatch z) h
end
end L2
namespace L2
open PySem PySem.Spec PyProof.Rows
structure CN (k:Nat) (A:Around):Prop where
 hd:A.handled=none
 dp:A.depth+3*k+5 < recursionLimit
 un:A.units+16*k+200 < cLine
theorem CN.mono {j k:Nat} {A:Around} (r:CN k A) (h:j<=k):CN j A:=⟨r.hd,by have:=r.dp;omega,by have:=r.un;omega⟩
theorem CN.deeper {k:Nat} {A:Around} (r:CN (k+1) A) (env:Env):CN k (A.deeper env) :=
 ⟨r.hd,by have:=r.dp;show A.depth+1+3*k+5 < _;omega,by have:=r.un;show A.units+3+16*k+200 < _;omega⟩
theorem K8 {A:Around} {C:Addr} {us:List Value} {kw:List (Str × Value)}:(A.under (.builtin "type.__call__" ⟨.ref C :: us,kw⟩)).depth=A.depth+1:=by
 first | rfl | simp [Around.under,Code.weight,Code.isCreation,Code.isGuard,Code.isCaller,Code.frames,Code.isFrame,guardIds]
theorem Lj {A:Around} {C:Addr} {us:List Value} {kw:List (Str × Value)}:(A.under (.builtin "type.__call__" ⟨.ref C :: us,kw⟩)).units=A.units+1:=by
 first | rfl | simp [Around.under,Code.cUnits,Code.frames,Code.isFrame]
theorem CN.make {k:Nat} {A:Around} (r:CN (k+1) A) (C:Addr) (us:List Value) (kw:List (Str × Value)):CN k (A.under (.builtin "type.__call__" ⟨.ref C :: us,kw⟩)) :=
 ⟨r.hd,by have:=r.dp;rw [K8];omega,by have:=r.un;rw [Lj];omega⟩
theorem CN.depth {k:Nat} {A:Around} (r:CN k A):A.depth < recursionLimit:=by have:=r.dp;omega
theorem CN.units {k:Nat} {A:Around} (r:CN k A):A.units+64 < cLine:=by have:=r.un;omega
def RQ:TA:=fun _ H Q=>Q [] H
def RM (ta:TE) (tr:TA):TA:=fun σ H Q=>ta σ H fun x H1=>tr σ H1 fun xs H2=>Q (x :: xs) H2
section
variable {X:Cx} {e:Expr} {es:List Expr} {te:TE} {t:TA} {pos:Pos}
theorem Ae:PA X [] RQ:=fun _ _ _ _ H Q I h=>Calls.spliced_nil ⟨[],H,I,.nil,h⟩
theorem Aa (ha:PE X e te) (hr:PA X es t) (hs:starEach (e :: es) X.env=(false,eval e X.env) :: starEach es X.env:=by rfl):PA X (e :: es) (RM te t):=by
 intro pos pins s σ H Q I h
 rw [hs]
 show wpAny _ _ (spliced ((false,eval e X.env) :: backTo pos (starEach es X.env))) _ _ s
 refine Calls.spliced_cons (thn (ha pins s σ H _ I h) fun u s1 ⟨x,H1,I1,r1,q1⟩=>?_)
 exact thn (hr pos pins s1 σ H1 _ I1 q1) fun us s2 ⟨xs,H2,I2,r2,q2⟩=>⟨x :: xs,H2,I2,.cons r1 r2,q2⟩
def Sl (t:TA):TE:=fun σ H Q=>t σ H fun xs H1=>xs.length<=sizeLine/\∀p,H1 p=none->Q (.ref p) (upd H1 p (.tup xs))
def RS (t:TA):TE:=fun σ H Q=>t σ H fun xs H1=>xs.length<=sizeLine/\∀p,H1 p=none->Q (.ref p) (upd H1 p (.lst xs))
theorem CY {x1} (h:PA X es t):PE X (.Tuple es x1 pos) (Sl t):=by
 intro pins s σ H Q I hq
 refine wpAny_Tuple_spliced (thn (h pos pins s σ H _ I hq) fun us s1 ⟨xs,H1,I1,r,z,q⟩=>⟨by rw [<- r.length];exact z,?_⟩)
 have hf:H1 s1.heap.objs.size=none:=I1.hok.fresh (Nat.le_refl _)
 refine ⟨.ref s1.heap.objs.size,upd H1 s1.heap.objs.size (.tup xs),I1.laid (t':=s1.toks) (fun b u e=>Heap.get?_push_of_some _ e) (Nat.le_refl _) ?_,rfl,q _ hf⟩
 exact ⟨z,us,r,⟨_,Heap.get?_push_size _ rfl,rfl,_,rfl⟩⟩
theorem Bf (h:PA X es t):PE X (.List es pos) (RS t):=by
 intro pins s σ H Q I hq
 refine wpAny_List_spliced (thn (h pos pins s σ H _ I hq) fun us s1 ⟨xs,H1,I1,r,z,q⟩=>⟨by rw [<- r.length];exact z,?_⟩)
 have hf:H1 s1.heap.objs.size=none:=I1.hok.fresh (Nat.le_refl _)
 refine ⟨.ref s1.heap.objs.size,upd H1 s1.heap.objs.size (.lst xs),I1.laid (t':=s1.toks) (fun b u e=>Heap.get?_push_of_some _ e) (Nat.le_refl _) ?_,rfl,q _ hf⟩
 exact ⟨z,us,0,r,Heap.get?_push_size _ rfl⟩
end
abbrev Sp:=List V->Hp->VK->XK->Prop
abbrev CXT:=List Env->Hp->Shared->XK->Value->Shared->Prop
structure KG (P:Program) (w:World) (K:PySem.W.Frag) (mg:Str->Option Value) (base:Heap) (A:Around) (outer:List Env) (s:Shared) (H:Hp):Prop where
 frames:A.frames=some outer
 mod:Mod K mg base
 bs:∀b o,base.get? b=some o->s.heap.get? b=some o/\H b=none
 bsz:base.objs.size<=s.heap.objs.size
 funs:s.heap.FunFrames base outer
 frf:∀b∈frs outer,H b=none
 hok:HOk P w H s.heap
 bare:AllBare s.gens
def CE (outer:List Env) (P:Program) (w:World) (H:Hp) (s:Shared) (Q:VK) (u:Value) (s':Shared):Prop :=
 ∃v H',s'.os=s.os/\AllBare s'.gens/\Un (frs outer) [] H H' s.heap s'.heap/\HOk P w H' s'.heap/\A8 v u/\Q v H'
def CR (CX:CXT) (outer:List Env) (P:Program) (w:World) (H:Hp) (s:Shared) (Q:VK) (E:XK) (r:Result) (s':Shared):Prop :=
 match r with
 | .ok (.ret u)=>CE outer P w H s Q u s'
 | .ok _=>False
 | .error e=>CX outer H s E e s'
structure AN (P:Program) (w:World) (K:PySem.W.Frag) (mg:Str->Option Value) (base:Heap) (CX:CXT) (k:Nat) (f:Addr) (fd:FuncData) (ps:List Str) (sp:Sp):Prop where
 len:∀vs H Q E,sp vs H Q E->vs.length=ps.length
 run:∀(A:Around) (outer:List Env) (s:Shared) (H:Hp) (args:Args) (us:List Value) (vs:List V) (Q:VK) (E:XK),CN k A->KG P w K mg base A outer s H->BindsTo s fd args (ps.zip us)->A6 vs us->sp vs H Q E ->
  codeAny (model P w) A (.call (.ref f) args) (CR CX outer P w H s Q E) s
theorem KG.make {P:Program} {w:World} {K:PySem.W.Frag} {mg:Str->Option Value} {base:Heap} {A:Around} {outer:List Env} {s:Shared} {H:Hp} (e:KG P w K mg base A outer s H) (C:Addr) (us:List Value) (kw:List (Str × Value)) :
 KG P w K mg base (A.under (.builtin "type.__call__" ⟨.ref C :: us,kw⟩)) outer s H:=⟨by first | exact e.frames | (simpa [Around.under,Code.envs,Code.isFrame,pushEnvs] using e.frames),e.mod,e.bs,e.bsz,e.funs,e.frf,e.hok,e.bare⟩
section
variable {X:Cx} {pins:List (Addr × Obj)} {σ:St} {H:Hp} {s s':Shared}
theorem Inv.env0 (I:Inv X pins σ H s):KG X.prog X.w X.K X.mg X.base X.A X.stack s H :=
 ⟨I.ok.frames,I.ok.mod,I.bs,Nat.le_trans I.ok.bsz I.sz,I.stack,I.stkFree,I.hok,I.bare⟩
theorem Inv.after {Q:VK} {u:Value} (I:Inv X pins σ H s) (h:CE X.stack X.prog X.w H s Q u s'):EP X pins σ Q u s':=by
 obtain ⟨v,H',os,bare,un,hok,r,q⟩:=h
 obtain ⟨hh,g,d,t,os'⟩:=s'
 obtain rfl:os'=s.os:=os
 exact ⟨v,H',I.call (h':=hh) (g':=g) (d':=d) (t':=t) (ch:=[]) un hok bare (fun b z=>absurd z (by simp)),r,q⟩
end
def RC (sp:Sp) (dvs:List V) (E:XK) (t:TA):TE:=fun σ H Q=>t σ H fun vs H1=>sp (vs++dvs) H1 Q E
def RF (C:Addr) (m:Str) (sp:Sp) (dvs:List V) (E:XK) (ta:TE) (t:TA):TE:=fun σ H Q=>ta σ H fun x H1=>∃a dx fs,x=.ref a/\H1 a=some (.ins C dx fs)/\fs.lookup m=none /\
 t σ H1 fun vs H2=>sp (x :: (vs++dvs)) H2 Q E
def Rx (C:Addr) (sp:Sp) (dvs:List V) (E:XK) (t:TA):TE:=fun σ H Q=>t σ H fun vs H1=>∀x dx,H1 x=none->H1 dx=none->dx≠x ->
 sp (.ref x :: (vs++dvs)) (upd (upd H1 dx (.own x)) x (.ins C dx [])) (fun v H2=>v=.non/\Q (.ref x) H2) E
def A4 (K:PySem.W.Frag) (fd:FuncData) (ps:List Str) (ds:List Value):Prop :=
 ∀(s:Shared) (us:List Value),K.In s.heap->(us++ds).length=ps.length->BindsTo s fd ⟨us,[]⟩ (ps.zip (us++ds))
theorem A4.all {K:PySem.W.Frag} {fd:FuncData} {ps:List Str} (h:∀us:List Value,us.length=ps.length->bindArgs fd ⟨us,[]⟩=pure (ps.zip us)):A4 K fd ps []:=fun s us _ hl=>by
 rw [append_nil] at hl ⊢
 exact .of_eq (h us hl)
def FG (CX:CXT) (X:Cx) (E:XK):Prop:=∀(pins:List (Addr × Obj)) (σ:St) (H:Hp) (s:Shared) (e:Value) (s':Shared),Inv X pins σ H s->CX X.stack H s E e s'->X.xe e s'
section
variable {X:Cx} {CX:CXT} {k:Nat} {f C:Addr} {fd:FuncData} {ps:List Str} {sp:Sp} {dvs:List V} {ds:List Value} {E:XK} {x m:Str} {p pos apos:Pos} {e o:Expr} {es:List Expr} {ta:TE} {t:TA}
theorem Ov {pins:List (Addr × Obj)} {σ:St} {H:Hp} {s:Shared} {Q:VK} {us:List Value} {vs:List V} (F:AN X.prog X.w X.K X.mg X.base CX k f fd ps sp) (hr:CN k X.A) (hb:A4 X.K fd ps ds) (hd:A6 dvs ds) (hx:FG CX X E)
 (I:Inv X pins σ H s) (r:A6 vs us) (h:sp (vs++dvs) H Q E):wpAny (model X.prog X.w) X.A (call (.ref f) us) (EP X pins σ Q) X.xe s:=by
 have r2:A6 (vs++dvs) (us++ds):=r.append hd
 have hl:(us++ds).length=ps.length:=by rw [<- r2.length];exact F.len _ _ _ _ h
 refine wpAny_call (codeAny_mono (F.run X.A X.stack s H ⟨us,[]⟩ (us++ds) (vs++dvs) Q E hr I.env0 (hb s us I.kIn hl) r2 h) fun r s' hq=>?_)
 cases r with
 | error e=>exact hx pins σ H s e s' I hq
 | ok fl =>
   cases fl with
   | ret u=>exact I.after hq
   | next=>exact False.elim hq
   | brk=>exact False.elim hq
   | cont=>exact False.elim hq
theorem Aj (F:AN X.prog X.w X.K X.mg X.base CX k f fd ps sp) (hr:CN k X.A) (hg:Gl X x) (hm:X.mg x=some (.ref f)) (hk:PySem.W.keepIn X.K (.ref f)=true) (hb:A4 X.K fd ps ds) (hd:A6 dvs ds) (hx:FG CX X E)
 (ha:PA X (e :: es) t) (hdb:(x == ("__debug__":Str))=false:=by decide) (he:starEach (e :: es) X.env=(false,eval e X.env) :: starEach es X.env:=by rfl) (hpl:(backTo pos (starEach es X.env)).any (·.1)=false:=by rfl) :
 PE X (.Call (.Name x p) (e :: es) [] pos) (RC sp dvs E t):=by
 intro pins s σ H Q I h
 refine wpAny_Call_Name_kw (IJ I hg hm ?_ hdb)
 refine PySem.W.callWith_K (h₀:=X.base) I.ok.mod.kin hk (thn (ha pos pins s σ H _ I h) fun us s1 ⟨vs,H1,I1,r,q⟩=>⟨I1.kIn,?_⟩) he hpl
 exact Ov F hr hb hd hx I1 r q
theorem Bl {pl:Sem Bool} (he:PE X o ta) (c:Cls X.K C) (hm:Kg X.K C m f) (F:AN X.prog X.w X.K X.mg X.base CX k f fd ps sp) (hr:CN k X.A) (hb:A4 X.K fd ps ds) (hd:A6 dvs ds) (hx:FG CX X E) (ha:PA X (e :: es) t)
 (hst:starEach (e :: es) X.env=(false,eval e X.env) :: starEach es X.env:=by rfl) (hpl:(backTo pos (starEach es X.env)).any (·.1)=false:=by rfl)
 (ht:eval (.Call (.Attribute o m apos) (e :: es) [] pos) X.env=(do
  let ov <- eval o X.env
  standAt apos.atName
  let (f,first) <- holding [ov] (getMethod ov m pl)
  callWith pos f first (backTo pos (starEach (e :: es) X.env)) (backToKw pos (keywordEach [] X.env))):=by rfl) :
 PE X (.Call (.Attribute o m apos) (e :: es) [] pos) (RF C m sp dvs E ta t):=by
 intro pins s σ H Q I h
 refine PySem.W.methodCall_KW (pl:=pl) (thn (he pins s σ H _ I h) fun u s1 ⟨x,H1,I1,rx,a,dx,fs,ex,ea,l,q⟩=>?_) ht
 subst ex
 obtain rfl:u=Value.ref a:=rx
 refine KI I1 ea c hm l ?_
 refine PySem.W.callWith_K (first:=[.ref a]) (h₀:=X.base) I.ok.mod.kin hm.kp (thn (ha pos pins s1 σ H1 _ I1 q) fun us s2 ⟨vs,H2,I2,r,q2⟩=>⟨I2.kIn,?_⟩) hst hpl
 exact Ov (us:=.ref a :: us) (vs:=.ref a :: vs) F hr hb hd hx I2 (.cons rfl r) q2
structure Mk (K:PySem.W.Frag) (C f:Addr):Prop where
 makes:PySem.W.makesIn K C=true
 init:PySem.W.findIn K (.ref C) "__init__"=some (some (.ref f))
 fn:PySem.W.isFn K (.ref f)=true
 kp:PySem.W.keepIn K (.ref C)=true
theorem O8 {pins:List (Addr × Obj)} {σ:St} {H:Hp} {s:Shared} {Q:VK} {us:List Value} {vs:List V} (M:Mk X.K C f) (F:AN X.prog X.w X.K X.mg X.base CX k f fd ps sp) (hr:CN (k+1) X.A) (hb:A4 X.K fd ps ds) (hd:A6 dvs ds)
 (hx:FG CX X E) (I:Inv X pins σ H s) (r:A6 vs us)
 (h:∀x dx,H x=none->H dx=none->dx≠x->sp (.ref x :: (vs++dvs)) (upd (upd H dx (.own x)) x (.ins C dx [])) (fun v H2=>v=.non/\Q (.ref x) H2) E) :
 wpAny (model X.prog X.w) X.A (call (.ref C) us) (EP X pins σ Q) X.xe s:=by
 have hq:=h (s.heap.objs.size+1) s.heap.objs.size (I.hok.fresh (Nat.le_succ _)) (I.hok.fresh (Nat.le_refl _)) (Nat.ne_of_lt (Nat.lt_succ_self _))
 have I2:=Inv.made (C:=C) I
 have r2:A6 (V.ref (s.heap.objs.size+1) :: (vs++dvs)) (Value.ref (s.heap.objs.size+1) :: (us++ds)):=.cons rfl (r.append hd)
 have hl:(Value.ref (s.heap.objs.size+1) :: us++ds).length=ps.length:=by
  have e:=r2.length
  rw [F.len _ _ _ _ hq] at e
  exact e.symm
 refine wpAny_call (Nz (f:=f) I.kIn M.makes M.init (beq_iff_eq.mp M.fn) (codeAny_mono (F.run _ X.stack _ _ ⟨Value.ref (s.heap.objs.size+1) :: us,[]⟩ (Value.ref (s.heap.objs.size+1) :: (us++ds)) _ _ E (hr.make C us [])
  (I2.env0.make C us []) (hb _ (Value.ref (s.heap.objs.size+1) :: us) I2.kIn hl) r2 hq) fun r s' hq'=>?_))
 cases r with
 | error e=>exact hx pins σ _ _ e s' I2 hq'
 | ok fl =>
   cases fl with
   | ret u =>
     obtain ⟨v,H',I3,rv,ev,q3⟩:=I2.after hq'
     subst ev
     exact ⟨rv,⟨V.ref (s.heap.objs.size+1),H',I3,rfl,q3⟩⟩
   | next=>exact False.elim hq'
   | brk=>exact False.elim hq'
   | cont=>exact False.elim hq'
theorem Lw (M:Mk X.K C f) (F:AN X.prog X.w X.K X.mg X.base CX k f fd ps sp) (hr:CN (k+1) X.A) (hg:Gl X x) (hm:X.mg x=some (.ref C)) (hb:A4 X.K fd ps ds) (hd:A6 dvs ds) (hx:FG CX X E)
 (ha:PA X (e :: es) t) (hdb:(x == ("__debug__":Str))=false:=by decide) (he:starEach (e :: es) X.env=(false,eval e X.env) :: starEach es X.env:=by rfl) (hpl:(backTo pos (starEach es X.env)).any (·.1)=false:=by rfl) :
 PE X (.Call (.Name x p) (e :: es) [] pos) (Rx C sp dvs E t):=by
 intro pins s σ H Q I h
 refine wpAny_Call_Name_kw (IJ I hg hm ?_ hdb)
 refine PySem.W.callWith_K (h₀:=X.base) I.ok.mod.kin M.kp (thn (ha pos pins s σ H _ I h) fun us s1 ⟨vs,H1,I1,r,q⟩=>⟨I1.kIn,?_⟩) he hpl
 exact O8 M F hr hb hd hx I1 r q
end
section
variable {X:Cx} {CX:CXT} {k:Nat} {f C:Addr} {fd:FuncData} {ps ks:List Str} {sp:Sp} {E:XK} {x m:Str} {p pos apos kpos:Pos} {e o:Expr} {es:List Expr} {kws:List Keyword} {te ta:TE} {t tk:TA} {nm:Option Str}
variable {g:List Value->List Value->List Value} {gV:List V->List V->List V}
end
structure Ap (N P:List Str) (sc:Scope):Prop where
 kind:sc.kind=.function
 co:sc.isCoroutine=false
 gen:sc.isGenerator=false
 nd:N.Nodup
 pre:N.take P.length=P
 par:∀x∈P,sc.names.lookup x=some .local\/sc.names.lookup x=some .cell
 nofree:∀y∈sc.names,y.2≠.free
theorem Ie {kindOf:Str->Option NameKind} {x:Str}:∀{binds:List (Str × Value)} {m:Str->Option Value},(∀v,(x,v) ∉ binds)->bindL kindOf binds m x=m x
 | [],_,_=>rfl
 | (n,v) :: r,m,h=>by
   unfold bindL
   rw [Ie fun w hw=>h w (mem_cons_of_mem _ hw)]
   split
   ·have:x≠n:=by rintro rfl;exact h v mem_cons_self
    simp [this]
   ·rfl
theorem Iu {kindOf:Str->Option NameKind} {x:Str}:∀{binds:List (Str × Value)} {m:Str->Option Value},(∀v,(x,v) ∉ binds)->bindC kindOf binds m x=m x
 | [],_,_=>rfl
 | (n,v) :: r,m,h=>by
   unfold bindC
   rw [Iu fun w hw=>h w (mem_cons_of_mem _ hw)]
   split
   ·rfl
   ·have:x≠n:=by rintro rfl;exact h v mem_cons_self
    simp [this]
theorem HW {kindOf:Str->Option NameKind} {x:Str} {v:Value}:∀{P:List Str} {vs:List Value} {i:Nat} {m:Str->Option Value},P.Nodup->P[i]?=some x->vs[i]?=some v->kindOf x=some .local ->
 bindL kindOf (P.zip vs) m x=some v
 | [],_,_,_,_,h,_,_=>by simp at h
 | _ :: _,[],_,_,_,_,h,_=>by simp at h
 | p :: P,w :: vs,0,m,nd,h1,h2,hk=>by
   simp at h1 h2;subst h1;subst h2
   show bindL kindOf ((p,w) :: P.zip vs) m p=_
   unfold bindL
   rw [Ie fun v hv=>(nodup_cons.mp nd).1 (of_mem_zip hv).1,if_pos hk]
   simp
 | p :: P,w :: vs,i+1,m,nd,h1,h2,hk=>by
   show bindL kindOf ((p,w) :: P.zip vs) m x=_
   unfold bindL
   exact HW (i:=i) (nodup_cons.mp nd).2 (by simpa using h1) (by simpa using h2) hk
theorem Ih {kindOf:Str->Option NameKind} {x:Str} {v:Value}:∀{P:List Str} {vs:List Value} {i:Nat} {m:Str->Option Value},P.Nodup->P[i]?=some x->vs[i]?=some v->kindOf x≠some .local ->
 bindC kindOf (P.zip vs) m x=some v
 | [],_,_,_,_,h,_,_=>by simp at h
 | _ :: _,[],_,_,_,_,h,_=>by simp at h
 | p :: P,w :: vs,0,m,nd,h1,h2,hk=>by
   simp at h1 h2;subst h1;subst h2
   show bindC kindOf ((p,w) :: P.zip vs) m p=_
   unfold bindC
   rw [Iu fun v hv=>(nodup_cons.mp nd).1 (of_mem_zip hv).1,if_neg hk]
   simp
 | p :: P,w :: vs,i+1,m,nd,h1,h2,hk=>by
   show bindC kindOf ((p,w) :: P.zip vs) m x=_
   unfold bindC
   exact Ih (i:=i) (nodup_cons.mp nd).2 (by simpa using h1) (by simpa using h2) hk
def start (N:List Str) (vs:List V):St:=vs.map some++List.replicate (N.length - vs.length) none
def Kh (CX:CXT) (P:Program) (w:World) (K:PySem.W.Frag) (mg:Str->Option Value) (base:Heap) (N:List Str) (qual:Str) (scope:Scope) (f:Addr) (cd:Value) (A:Around) (outer:List Env) (s:Shared) (H:Hp) (E:XK):Cx where
 prog:=P
 w:=w
 K:=K
 mg:=mg
 base:=base
 A:=A.deeper (envOfC qual scope s.heap.objs.size f cd)
 N:=N
 s₀:=s
 H₀:=H
 env:=envOfC qual scope s.heap.objs.size f cd
 outer:=outer
 stack:=envOfC qual scope s.heap.objs.size f cd :: outer
 ex:=[]
 calm:=true
 fn:=fun _=>true
 pn:=[]
 xe:=fun e s'=>wpAny (model P w) (A.deeper (envOfC qual scope s.heap.objs.size f cd)) (leaving (envOfC qual scope s.heap.objs.size f cd) e) (fun _ s''=>CX outer H s E e s'') (fun e' s''=>CX outer H s E e' s'') s'
theorem Kn {sc:Scope} {n:Nat} {x:Str} (h:sc.names.lookup x=some .cell):∃c,(cellsFrom n sc.names []).lookup x=some c:=by
 have q:=PySem.W.cellsFrom_some sc.names n [] (.inl h)
 exact Option.isSome_iff_exists.mp q
theorem LV {CX:CXT} {P:Program} {w:World} {K:PySem.W.Frag} {mg:Str->Option Value} {base:Heap} {N ps:List Str} {qual:Str} {scope:Scope} {f:Addr} {cd:Value} {A:Around} {outer:List Env} {s s1:Shared} {H:Hp} {E:XK} {us:List Value} {vs:List V}
 (S:Ap N ps scope) (hd:A.handled=none) (e0:KG P w K mg base A outer s H) (hl:vs.length=ps.length) (r:A6 vs us)
 (x:InCallC s s.heap.objs.size (bindL (envOfC qual scope s.heap.objs.size f cd).kindOf (ps.zip us) fun _=>none) (cellsFrom (s.heap.objs.size+1) scope.names []) (bindC (envOfC qual scope s.heap.objs.size f cd).kindOf (ps.zip us) fun _=>none) s1) :
 Inv (Kh CX P w K mg base N qual scope f cd A outer s H E) [] (start N vs) H s1:=by
 have hpl:ps.length<=N.length:=by have:=congrArg List.length S.pre;rw [length_take] at this;omega
 obtain ⟨h1,tk,rfl,hk⟩:=x.done
 have noA:∀b:Addr,b ∉ (Kh CX P w K mg base N qual scope f cd A outer s H E).ex:=fun b z=>absurd (show b∈([]:List Addr) from z) (by simp)
 refine ⟨⟨e0.mod,S.kind,rfl,rfl,Nat.le_refl _,fun y z c h1 h2=>?_,fun y hy=>?_,fun y c _ h=>?_,fun _=>hd,Around.frames_deeper e0.frames,.inr ⟨rfl,rfl⟩,fun b z=>absurd z (noA b),e0.bs,e0.bsz,fun b _ _=>noA b,fun b z=>absurd z (noA b),e0.funs,e0.frf⟩,
  rfl,e0.bare,Un.kept hk,⟨_,x.toInCall.ns,fun i y v h1 h2 h3=>?_⟩,fun y c h=>⟨_,x.cell y c h⟩,e0.hok.fresh (Nat.le_refl _),fun y c h=>?_,fun p hp=>absurd (show p∈([]:List (Addr × Obj)) from hp) (by simp),e0.hok.kept hk,?_⟩
 ·exact name_of_addr x.apart (PySem.mem_of_lookup h1) (PySem.mem_of_lookup h2)
 ·have hy:scope.names.lookup y=some .cell\/scope.names.lookup y=some .free:=hy
  rcases hy with hy | hy
  ·exact Kn hy
  ·exact absurd rfl (S.nofree _ (PySem.mem_of_lookup hy))
 ·exact Nat.le_of_lt (x.above y c (PySem.mem_of_lookup h))
 ·have hi:i < vs.length:=by
   unfold start at h2
   by_cases hi:i < vs.length
   ·exact hi
   ·rw [List.getElem?_append_right (by simpa using hi)] at h2
    rw [List.getElem?_replicate] at h2
    split at h2 <;> cases h2
  have ha:vs[i]?=some v:=by
   unfold start at h2
   rw [List.getElem?_append_left (by simpa using hi),List.getElem?_map] at h2
   cases e:vs[i]? with
   | none=>rw [e] at h2;cases h2
   | some a=>rw [e] at h2;cases h2;rfl
  obtain ⟨u,hu,rv⟩:=r.get ha
  have hp:ps[i]?=some y:=by
   rw [<- S.pre,List.getElem?_take_of_lt (by omega)];exact h1
  have ndP:ps.Nodup:=by rw [<- S.pre];exact S.nd.sublist (take_sublist _ _)
  refine ⟨u,rv,?_⟩
  rcases S.par y (mem_of_getElem? hp) with k | k
  ·exact .inl ⟨k,HW ndP hp hu k⟩
  ·obtain ⟨c,e⟩:=Kn (n:=s.heap.objs.size+1) k
   refine .inr ⟨.inl k,c,e,?_⟩
   have q:=x.cell y c e
   rw [Ih ndP hp hu (by show scope.names.lookup y≠_;rw [k];decide)] at q
   exact q
 ·exact e0.hok.fresh (Nat.le_of_lt (x.above y c (PySem.mem_of_lookup h)))
 ·unfold start
  show _=N.length
  rw [length_append,length_map,length_replicate]
  omega
theorem Nw {CX:CXT} {P:Program} {w:World} {K:PySem.W.Frag} {mg:Str->Option Value} {base:Heap} {k:Nat} {f:Addr} {name qual:Str} {params:Arguments} {body:List Stmt} {scope:Scope} {dV kV doc pm cdv ct oc:Value} {an od:Option Addr}
 {osl:Array (Option Value)} {N ps:List Str} {sp:Sp} (lk:K.lookup f=some ⟨oc,od,.func (PySem.W.fnOf name qual params body scope dV kV doc pm an cdv ct),osl⟩) (hcd:PySem.W.codeIn K cdv qual=true) (S:Ap N ps scope)
 (len:∀vs H Q E,sp vs H Q E->vs.length=ps.length)
 (hbody:∀(A:Around) (outer:List Env) (s:Shared) (H:Hp) (vs:List V) (Q:VK) (E:XK),CN k (A.deeper (envOfC qual scope s.heap.objs.size f cdv))->sp vs H Q E ->
  ∃t,PSs (Kh CX P w K mg base N qual scope f cdv A outer s H E) body t/\t { nx:=fun _ H'=>Q .non H',rt:=Q } (start N vs) H) :
 AN P w K mg base CX (k+1) f (PySem.W.fnOf name qual params body scope dV kV doc pm an cdv ct) ps sp:=by
 refine ⟨len,fun A outer s H args us vs Q E hr e0 hb r hsp=>?_⟩
 have hl:=len _ _ _ _ hsp
 have KX:K.In s.heap:=e0.mod.kin.keeps fun b o e=>(e0.bs b o e).1
 have lim:s.heap.NoLimit:=e0.mod.nolimit.keeps fun b o e=>(e0.bs b o e).1
 have hkind:∀y∈ps.zip us,scope.names.lookup y.1=some .local\/(scope.names.lookup y.1=some .cell/\((cellsFrom (s.heap.objs.size+1) scope.names []).lookup y.1).isSome=true):=fun ⟨n,v⟩ hy=>by
  rcases S.par n (of_mem_zip hy).1 with q | q
  ·exact .inl q
  ·exact .inr ⟨q,PySem.W.cellsFrom_some _ _ _ (.inl q)⟩
 refine codeAny_call_function hr.depth (KX _ _ lk) rfl S.co S.gen rfl (PySem.W.codeRec_of KX hcd) (hb _ _ _ _ ?_)
 refine wpAny_newFunctionEnv_cells S.kind hkind fun env he s1 x=>?_
 subst he
 refine ⟨lim.keeps x.toInCall.keep,codeAny_func ?_⟩
 obtain ⟨t,ht,hq⟩:=hbody A outer s H vs Q E (hr.deeper _) hsp
 have I:Inv (Kh CX P w K mg base N qual scope f cdv A outer s H E) [] (start N vs) H s1:=LV S hr.hd e0 hl r x
 refine wpAny_mono (ht [] s1 (start N vs) H _ I hq) (fun fl s' hs=>?_) fun e s' hs=>hs
 have fin:∀{σ':St} {H':Hp} {v:V} {u:Value},Inv (Kh CX P w K mg base N qual scope f cdv A outer s H E) [] σ' H' s'->A8 v u->Q v H'->CE outer P w H s Q u s' :=
  fun {σ' H' v u} J rv q=>⟨v,H',J.os,J.bare,J.base,J.hok,rv,q⟩
 cases fl with
 | ret u =>
   obtain ⟨v,σ',H',J,rv,q⟩:=hs
   exact fin J rv q
 | next =>
   obtain ⟨σ',H',J,q⟩:=hs
   exact fin (v:=V.non) (u:=Value.none) J rfl q
 | brk =>
   obtain ⟨_,_,_,q⟩:=hs
   exact False.elim q
 | cont =>
   obtain ⟨_,_,_,q⟩:=hs
   exact False.elim q
end L2
namespace L2
open PySem PySem.Spec PyProof.Rows
section
variable {X:Cx} {x:Str} {p pos:Pos} {e:Expr} {es:List Expr} {t:TA} {id T:String} {r:List V->Hp->VK->Prop}
def tCB (r:List V->Hp->VK->Prop) (t:TA):TE:=fun σ H Q=>t σ H fun vs H1=>r vs H1 Q
theorem At (hc:Ch X (.builtin id) r) (hg:Gl X x) (hm:X.mg x=none) (hv:bootBuiltins x=some (.builtin id)) (ha:PA X (e :: es) t) (hn:x≠"__name__":=by decide) (hdb:(x == ("__debug__":Str))=false:=by decide)
 (he:starEach (e :: es) X.env=(false,eval e X.env) :: starEach es X.env:=by rfl) (hpl:(backTo pos (starEach es X.env)).any (·.1)=false:=by rfl):PE X (.Call (.Name x p) (e :: es) [] pos) (tCB r t):=by
 intro pins s σ H Q I h
 refine wpAny_Call_Name_kw (Cf I hg hm hv ?_ hn hdb)
 exact PyProof.Rows.callWith_builtin1 (thn (ha pos pins s σ H _ I h) fun us s1 ⟨vs,H1,I1,r1,q1⟩=>hc pins s1 σ H1 vs us Q I1 r1 q1) he hpl
theorem Bm (hc:Ch X (.type T) r) (hg:Gl X x) (hm:X.mg x=none) (hv:bootBuiltins x=some (.type T)) (ha:PA X (e :: es) t) (hn:x≠"__name__":=by decide) (hdb:(x == ("__debug__":Str))=false:=by decide)
 (he:starEach (e :: es) X.env=(false,eval e X.env) :: starEach es X.env:=by rfl) (hpl:(backTo pos (starEach es X.env)).any (·.1)=false:=by rfl):PE X (.Call (.Name x p) (e :: es) [] pos) (tCB r t):=by
 intro pins s σ H Q I h
 refine wpAny_Call_Name_kw (Cf I hg hm hv ?_ hn hdb)
 exact PyProof.Rows.callWith_type1 (thn (ha pos pins s σ H _ I h) fun us s1 ⟨vs,H1,I1,r1,q1⟩=>hc pins s1 σ H1 vs us Q I1 r1 q1) he hpl
end
end L2
namespace HT
open PySem PyProof.Rows
def lexLt:List Int->List Int->Bool
 | [],[]=>false
 | [],_ :: _=>true
 | _ :: _,[]=>false
 | x :: xs,y :: ys=>if x=y then lexLt xs ys else decide (x < y)
theorem lexLt_cons (x y:Int) (xs ys:List Int):lexLt (x :: xs) (y :: ys)=if x=y then lexLt xs ys else decide (x < y):=rfl
theorem HC:lexLt [] []=false:=rfl
theorem Hj (y:Int) (ys:List Int):lexLt [] (y :: ys)=true:=rfl
theorem Hb (x:Int) (xs:List Int):lexLt (x :: xs) []=false:=rfl
theorem OB (A:Around) (s:Shared) (a:Int) (t:Tok) (c:Int) (u:Tok):∃e,SeqAt.EqAt A s (.int a t) (.int c u) e/\(e=true↔a=c) :=
 ⟨(a == c),SeqAt.EqAt.int_int a t c u,by simp⟩
theorem O0 (A:Around) (s:Shared) (a:Int) (t:Tok) (c:Int) (u:Tok) (prog:Program) (w:World) (E:Value->Shared->Prop) (Q:Value->Shared->Prop) (h:Q (.bool (decide (a < c))) s) :
 wpAny (model prog w) A (richCompare .Lt (.int a t) (.int c u)) Q E s :=
 (PyProof.Rows.lt_int h:wpAny (model prog w) A (compareOp .Lt (.int a t) (.int c u)) Q E s)
section
open PySem.SeqAt
open PySem.AutoSeq1 (wpAny_loadPart')
open PySem.MeetsSeq PySem.MeetsSeq2 PySem.MeetsSeq3
theorem tuple_lt_ints (l b:Addr) (items items2:Array Value) (n n2:Nat) (dd dd2:Option Addr) (sl sl2:Array (Option Value)) (ns ms:List Int) (hi:IntsAre items.toList ns) (hj:IntsAre items2.toList ms) :
 Meets (Builtin.«tuple.__lt__» ⟨[.ref l,.ref b],[]⟩)
  (fun _ R s=>s.heap.get? l=some { cls:=.type "tuple",dict:=dd,data:=.seq items n,slots:=sl }/\s.heap.get? b=some { cls:=.type "tuple",dict:=dd2,data:=.seq items2 n2,slots:=sl2 } /\
   R (.ok (.ret (.bool (lexLt ns ms)))) s) :=
 .of_wp fun prog w A R s h=>by
  obtain ⟨hp,g,d,tk,os⟩:=s;obtain ⟨hl,hb,h⟩:=h
  have f2:=AutoSeq1.sub_tuple_tuple
  have z1:items.size=ns.length:=by rw [<- hi.length];simp
  have z2:items2.size=ms.length:=by rw [<- hj.length];simp
  wp_walk using wpAny_loadPart' hl,wpAny_loadPart' hb,wpAny_forIn_list _ (fun rest b s'=>b.1=none/\s'=⟨hp,g,d,tk,os⟩/\∃(vs ws:List Value) (ns' ms':List Int),rest=vs.zip ws /\
   IntsAre vs ns'/\IntsAre ws ms'/\ns'.length+items2.size=ms'.length+items.size/\R (.ok (.ret (.bool (lexLt ns' ms')))) ⟨hp,g,d,tk,os⟩) _
  case turn =>
   rintro ⟨y,x⟩ rest b s' ⟨hb',rfl,vs,ws,ns',ms',hz,hvi,hwi,hlen,hR⟩
   cases hvi with
   | nil=>rw [zip_nil_left] at hz;cases hz
   | cons a t hvi' =>
     cases hwi with
     | nil=>rw [zip_nil_right] at hz;cases hz
     | cons c u hwi' =>
       rw [zip_cons_cons] at hz
       injection hz with hyx hrest
       injection hyx with hy hx
       subst hy hx
       rw [lexLt_cons] at hR
       simp only [length_cons] at hlen
       obtain ⟨e,he,hiff⟩:=OB A.in1 ⟨hp,g,d,tk,os⟩ a t c u
       refine wpAny_bind (he prog w _ _ ?_)
       cases e with
       | true =>
         rw [if_pos (hiff.mp rfl)] at hR
         wp_walk
         exact ⟨rfl,rfl,_,_,_,_,hrest,hvi',hwi',by omega,hR⟩
       | false =>
         rw [if_neg (fun q=>absurd (hiff.mpr q) Bool.false_ne_true)] at hR
         have hri:=O0 A.in1 ⟨hp,g,d,tk,os⟩ a t c u prog w
         wp_walk using hri
         exact ⟨_,rfl,by simpa using hR⟩
  case fin =>
   rintro ⟨b1,b2⟩ s' ⟨hb',rfl,vs,ws,ns',ms',hz,hvi,hwi,hlen,hR⟩
   simp only at hb'
   subst hb'
   have hv:lexLt ns' ms'=decide (items.size < items2.size):=by
    cases hvi with
    | nil =>
      cases hwi with
      | nil =>
        simp only [length_nil] at hlen
        rw [HC]
        exact (decide_eq_false (by omega)).symm
      | cons c u hw =>
        simp only [length_nil,length_cons] at hlen
        rw [Hj]
        exact (decide_eq_true (by omega)).symm
    | cons a t hv =>
      cases hwi with
      | nil =>
        simp only [length_nil,length_cons] at hlen
        rw [Hb]
        exact (decide_eq_false (by omega)).symm
      | cons c u hw =>
        rw [zip_cons_cons] at hz
        cases hz
   rw [hv] at hR
   wp_walk
   exact ⟨_,rfl,by simpa [Builtin.Tuple.tupleCompareSizes] using hR⟩
  case h =>
   exact ⟨rfl,rfl,items.toList,items2.toList,ns,ms,rfl,hi,hj,by omega,h⟩
end
section
variable {prog:Program} {w:World} {A:Around} {E:Value->Shared->Prop} {s:Shared}
theorem lt_tupInts {l b:Addr} {items items2:Array Value} {ns ms:List Int} {Q:Value->Shared->Prop} (hl:IsTup s.heap l items) (hb:IsTup s.heap b items2) (hi:IntsAre items.toList ns) (hj:IntsAre items2.toList ms)
 (hu:A.units < cLine) (h:Q (.bool (lexLt ns ms)) s):wpAny (model prog w) A (compareOp .Lt (.ref l) (.ref b)) Q E s:=by
 obtain ⟨⟨cls,dd,data,sl⟩,ho,hc,n,hd⟩:=id hl
 obtain ⟨⟨cls2,dd2,data2,sl2⟩,ho2,hc2,n2,hd2⟩:=id hb
 simp only at hc hd hc2 hd2
 subst hc hd hc2 hd2
 exact richCompare_meets_room (op:=.Lt) ⟨_,ho,rfl⟩ ⟨_,ho2,rfl⟩ PySem.F.slot_tuple_lt PySem.F.entry_tuple_lt (PySem.F.args_tuple_lt_2 _ _) (tuple_lt_ints l b items items2 n n2 dd dd2 sl sl2 ns ms hi hj)
  ⟨ho,ho2,show Value.bool (lexLt ns ms)≠Value.notImplemented/\Q (.bool (lexLt ns ms)) s from ⟨(fun x=>nomatch x),h⟩⟩ hu
def sIx (n d:Nat):Option Int->Nat
 | none=>d
 | some v=>if v < 0 then (v+(n:Int)).toNat else min v.toNat n
theorem sIx_none (n d:Nat):sIx n d none=d:=rfl
theorem sIx_nat (n d k:Nat):sIx n d (some (k:Int))=min k n:=by
 show (if (k:Int) < 0 then ((k:Int)+(n:Int)).toNat else min (k:Int).toNat n)=min k n
 rw [if_neg (by omega),Int.toNat_natCast]
end
end HT
namespace L2
open PySem PySem.Spec PyProof.Rows
abbrev TO:=St->Hp->(Option Int->Hp->Prop)->Prop
def PO (X:Cx) (e:Option Expr) (t:TO):Prop :=
 ∀(pins:List (Addr × Obj)) (s:Shared) (σ:St) (H:Hp) (Q:Option Int->Hp->Prop),Inv X pins σ H s->t σ H Q ->
  wpAny (model X.prog X.w) X.A (evalPart e X.env) (fun u s'=>∃o H',Inv X pins σ H' s'/\IsPart u o/\Q o H') X.xe s
def Po:TO:=fun _ H Q=>Q none H
def QY (t:TE):TO:=fun σ H Q=>t σ H fun x H1=>∃i,x=.int i/\Q (some i) H1
theorem BO {ns:List Int}:∀{us:List Value},A6 (ns.map V.int) us->IntsAre us ns:=by
 induction ns with
 | nil=>intro us r;rw [map_nil] at r;cases r;exact .nil
 | cons n ns ih =>
   intro us r
   rw [map_cons] at r
   cases r with
   | cons r1 r2 =>
     obtain ⟨t,e⟩:=r1
     subst e
     exact .cons n t (ih r2)
section
variable {X:Cx} {e:Expr} {te:TE} {lo hi:Option Expr} {tl th:TO} {pos p2:Pos}
theorem E2:PO X none Po:=by
 intro pins s σ H Q I h
 rw [evalPart_none]
 exact wpAny_pure ⟨none,H,I,.none,h⟩
theorem Eu (h:PE X e te):PO X (some e) (QY te):=by
 intro pins s σ H Q I hw
 rw [evalPart_some]
 refine thn (h pins s σ H _ I hw) fun u s1 ⟨x,H1,I1,r1,q1⟩=>?_
 obtain ⟨i,rfl,q⟩:=q1
 obtain ⟨t,rfl⟩:=r1
 exact ⟨some i,H1,I1,.int i t,q⟩
def SlR (X:Cx) (r:V->Option Int->Option Int->Hp->VK->Prop):Prop :=
 ∀(pins:List (Addr × Obj)) (s:Shared) (σ:St) (H:Hp) (x:V) (v vl vu:Value) (lo hi:Option Int) (sl:Addr) (Q:VK),Inv X pins σ H s->A8 x v->s.heap.IsSliceOf sl vl vu .none->IsPart vl lo->IsPart vu hi->r x lo hi H Q ->
  ∃T id,typeLookup (.type T) "__getitem__"=pure (some (.builtin id))/\s.TypeIs v T/\wpAny (model X.prog X.w) X.A (getItem v (.ref sl)) (EP X pins σ Q) X.xe s
def tSl (r:V->Option Int->Option Int->Hp->VK->Prop) (te:TE) (tl th:TO):TE:=fun σ H Q=>te σ H fun x H1=>tl σ H1 fun l H2=>th σ H2 fun u H3=>r x l u H3 Q
theorem D9 {r:V->Option Int->Option Int->Hp->VK->Prop} (hr:SlR X r) (he:PE X e te) (hl:PO X lo tl) (hu:PO X hi th):PE X (.Subscript e (.Slice lo hi none p2) pos) (tSl r te tl th):=by
 intro pins s σ H Q I h
 refine Subscript_ (thn (he pins s σ H _ I h) fun v s1 ⟨x,H1,I1,r1,q1⟩=>?_)
 refine wpAny_Slice (thn (hl pins s1 σ H1 _ I1 q1) fun vl s2 ⟨l,H2,I2,pl,q2⟩=>thn (hu pins s2 σ H2 _ I2 q2) fun vu s3 ⟨u,H3,I3,pu,q3⟩=>?_)
 rw [evalPart_none]
 refine wpAny_pure ?_
 have I4:Inv X pins σ H3 { s3 with heap:=s3.heap.push { cls:=.type "slice",data:=.fields #[vl,vu,.none] } }:=I3.kept (t':=s3.toks) fun b ob q=>Heap.get?_push_of_some _ q
 obtain ⟨T,id,hT,ht,hg⟩:=hr pins { s3 with heap:=s3.heap.push { cls:=.type "slice",data:=.fields #[vl,vu,.none] } } σ H3 x v vl vu l u s3.heap.objs.size Q I4 r1 (Heap.IsSliceOf.new ..) pl pu q3
 show wpAny (model X.prog X.w) X.A (subscriptTail e (.Slice lo hi none p2) v (.ref s3.heap.objs.size)) (EP X pins σ Q) X.xe { s3 with heap:=s3.heap.push { cls:=.type "slice",data:=.fields #[vl,vu,.none] } }
 exact tail_any (ops:=[.ref s3.heap.objs.size,v]) ht hT hg (by with_unfolding_all rfl)
def Gs (xs:List V) (lo hi:Option Int):List V:=(xs.drop (HT.sIx xs.length 0 lo)).take (HT.sIx xs.length xs.length hi - HT.sIx xs.length 0 lo)
theorem Kj (xs:List V) (lo hi:Option Int):(Gs xs lo hi).length<=xs.length:=by
 unfold Gs
 rw [length_take,length_drop]
 omega
end
end L2
namespace L2
open PySem PySem.Spec PyProof.Rows
def ixN (n:Nat) (i:Int):Option Nat:=if 0<=i then (if i < n then some i.toNat else none) else if -(n:Int)<=i then some (i+n).toNat else none
def atI {α:Type} (xs:List α) (i:Int):Option α:=(ixN xs.length i).bind fun j=>xs[j]?
theorem Jb {n:Nat} {i:Int} {j:Nat} (h:ixN n i=some j):seqIndex? i n=some j/\j < n/\-(n:Int)<=i/\i < n:=by
 unfold ixN at h
 by_cases h0:0<=i
 ·rw [if_pos h0] at h
  by_cases h1:i < n
  ·rw [if_pos h1] at h
   have e:i.toNat=j:=Option.some.inj h
   exact ⟨by rw [seqIndex_of h0 h1,e],by omega,by omega,h1⟩
  ·rw [if_neg h1] at h;cases h
 ·rw [if_neg h0] at h
  by_cases h1:-(n:Int)<=i
  ·rw [if_pos h1] at h
   have e:(i+n).toNat=j:=Option.some.inj h
   exact ⟨by rw [seqIndex_neg (by omega) h1,e],by omega,h1,by omega⟩
  ·rw [if_neg h1] at h;cases h
theorem LI {α:Type} {xs:List α} {i:Int} {v:α} (h:atI xs i=some v):∃j,seqIndex? i xs.length=some j/\xs[j]?=some v/\j < xs.length/\-(xs.length:Int)<=i/\i < xs.length:=by
 unfold atI at h
 cases e:ixN xs.length i with
 | none=>rw [e] at h;cases h
 | some j =>
   rw [e] at h
   obtain ⟨h1,h2,h3,h4⟩:=Jb e
   exact ⟨j,h1,h,h2,h3,h4⟩
theorem DN {α:Type} {xs:List α} {j:Nat} {v:α} (h:xs[j]?=some v):atI xs (j:Int)=some v:=by
 have hj:j < xs.length:=(List.getElem?_eq_some_iff.mp h).1
 have e:ixN xs.length (j:Int)=some j:=by
  unfold ixN
  rw [if_pos (by omega),if_pos (by omega)];simp
 unfold atI;rw [e];exact h
def Pm (b:Expr):Prop:=∀o i,subscripted b false o i=operate [o,i] (getItem o i)
def IxR (X:Cx) (r:R2):Prop :=
 ∀(value slice:Expr) (pins:List (Addr × Obj)) (s:Shared) (σ:St) (H:Hp) (x y:V) (v u:Value) (Q:VK),Inv X pins σ H s->A8 x v->A8 y u->r x y H Q ->
  subscripted slice false v u=operate [v,u] (getItem v u)->wpAny (model X.prog X.w) X.A (subscriptTail value slice v u) (EP X pins σ Q) X.xe s
def MtR (X:Cx) (id:String) (r:V->List V->Hp->VK->Prop):Prop :=
 ∀(pins:List (Addr × Obj)) (s:Shared) (σ:St) (H:Hp) (x:V) (xs:List V) (v:Value) (us:List Value) (Q:VK),Inv X pins σ H s->A8 x v->A6 xs us->r x xs H Q ->
  wpAny (model X.prog X.w) X.A (call (.builtin id) (v :: us)) (EP X pins σ Q) X.xe s
section
variable {X:Cx} {a b:Expr} {ta tb:TE} {pos:Pos}
theorem Al {r:R2} (hr:IxR X r) (ha:PE X a ta) (hb:PE X b tb) (hs:Pm b):PE X (.Subscript a b pos) (tOp r ta tb):=by
 intro pins s σ H Q I h
 exact Subscript_ (Qv ha hb I h fun v u s2 x y H2 I2 rx ry q=>hr a b pins s2 σ H2 x y v u Q I2 rx ry q (hs _ _))
def Re (K:PySem.W.Frag):R2:=fun x y H Q=>∃p xs i v,x=.ref p/\y=.int i/\SqL K H p xs/\atI xs i=some v/\Q v H
def Rt (K:PySem.W.Frag):R2:=fun x y H Q=>∃p xs i v,x=.ref p/\y=.int i/\SqT K H p xs/\atI xs i=some v/\Q v H
theorem A3:IxR X (Re X.K):=by
 intro value slice pins s σ H x y v u Q I rx ry h hs
 obtain ⟨p,xs,i,z,rfl,rfl,hq,he,q⟩:=h
 cases rx
 obtain ⟨t,rfl⟩:=ry
 obtain ⟨its,r,pl,hz⟩:=I.list hq
 obtain ⟨j,h1,h2,h3,h4,h5⟩:=LI he
 obtain ⟨w,ew,rw'⟩:=r.get h2
 have hl:=r.length
 have hn:=GJ
 have fin:EP X pins σ Q w s:=⟨z,H,I,rw',q⟩
 by_cases h0:0<=i
 ·have hj:i.toNat=j:=by
   rw [seqIndex_of h0 h5] at h1
   exact Option.some.inj h1
  exact item_listR pl.isList h0 (by omega) (by rw [hj];simpa using ew) fin hs
 ·have hj:(i+(its.toArray.size:Int)).toNat=j:=by
   rw [seqIndex_neg (by omega) h4] at h1
   rw [size_toArray,<- hl]
   exact Option.some.inj h1
  exact subscriptTail_builtinR (x:=w) pl.isList.typeIs slot_list_getitem.lookup
   (wpAny_getItem_list_neg (Q:=fun r s'=>r=w/\EP X pins σ Q r s') pl.isList (by omega) (by rw [size_toArray] <;> omega) (by omega) (by rw [hj];simpa using ew) ⟨rfl,fin⟩) hs
theorem AE:IxR X (Rt X.K):=by
 intro value slice pins s σ H x y v u Q I rx ry h hs
 obtain ⟨p,xs,i,z,rfl,rfl,hq,he,q⟩:=h
 cases rx
 obtain ⟨t,rfl⟩:=ry
 obtain ⟨its,r,pl,hz⟩:=I.tuple hq
 obtain ⟨j,h1,h2,h3,h4,h5⟩:=LI he
 obtain ⟨w,ew,rw'⟩:=r.get h2
 have hl:=r.length
 have hn:=GJ
 have fin:EP X pins σ Q w s:=⟨z,H,I,rw',q⟩
 exact subscriptTail_builtinR (x:=w) pl.typeIs slot_tuple_getitem.lookup
  (getItem_tuple (j:=j) (Q:=fun r s'=>r=w/\EP X pins σ Q r s') pl (by omega) (by omega) (by rw [size_toArray,<- hl];exact h1) (by simpa using ew) ⟨rfl,fin⟩) hs
theorem Lb (its:List Value) (n j:Nat) (u:Value):Obj.mapSeq (·.setIfInBounds j u) { cls:=.type "list",data:=.seq its.toArray n }={ cls:=.type "list",data:=.seq (its.set j u).toArray n }:=by
 simp [Obj.mapSeq]
theorem Inv.lst {pins:List (Addr × Obj)} {σ:St} {H:Hp} {s:Shared} {p:Addr} {xs:List V} (I:Inv X pins σ H s) (h:H p=some (.lst xs)) :
 ∃(its:List Value) (n:Nat),A6 xs its/\s.heap.get? p=some { cls:=.type "list",data:=.seq its.toArray n }/\xs.length<=sizeLine:=by
 obtain ⟨z,its,n,r,e⟩:=I.hok p _ h
 exact ⟨its,n,r,e,z⟩
theorem Inv.lstUpd {pins:List (Addr × Obj)} {σ:St} {H:Hp} {s:Shared} {p:Addr} {xs ys:List V} {its its':List Value} {n n':Nat} {f:Obj->Obj} (I:Inv X pins σ H s) (h:H p=some (.lst xs))
 (ho:s.heap.get? p=some { cls:=.type "list",data:=.seq its.toArray n }) (hf:f { cls:=.type "list",data:=.seq its.toArray n }={ cls:=.type "list",data:=.seq its'.toArray n' }) (r:A6 ys its') (hz:ys.length<=sizeLine) (t:Nat) :
 Inv X pins σ (upd H p (.lst ys)) { s with heap:=s.heap.update p f,toks:=t }:=by
 have e:(s.heap.update p f).get? p=some { cls:=.type "list",data:=.seq its'.toArray n' }:=by
  rw [Heap.get?_update_self f ho (by rw [hf] <;> rfl),hf]
 refine I.write (x:=p) (e:=p) (by rw [h];trivial) (.inl rfl) (fun b u hb q=>(Heap.get?_update_other _ _ (Ne.symm hb)).trans q) ⟨_,e⟩ ?_
 exact ⟨hz,its',n',r,e⟩
def QZ:V->V->V->Hp->(Hp->Prop)->Prop:=fun o i v H Q=>∃p xs k j,o=.ref p/\i=.int k/\H p=some (.lst xs)/\ixN xs.length k=some j/\Q (upd H p (.lst (xs.set j v)))
theorem En:RK X QZ:=by
 intro pins s σ H o i v ov iv u Q I ro ri rv h
 obtain ⟨p,xs,k,j,rfl,rfl,hp,hj,q⟩:=h
 cases ro
 obtain ⟨t,rfl⟩:=ri
 obtain ⟨its,n,r,ho,hz⟩:=I.lst hp
 obtain ⟨h1,h2,h3,h4⟩:=Jb hj
 have hl:=r.length
 have hn:=GJ
 have I':Inv X pins σ (upd H p (.lst (xs.set j v))) { s with heap:=s.heap.update p (Obj.mapSeq (·.setIfInBounds j u)) } :=
  I.lstUpd hp ho (Lb its n j u) (r.set rv j) (by rw [length_set];exact hz) s.toks
 by_cases h0:0<=k
 ·have hk:k.toNat=j:=by
   rw [seqIndex_of h0 h4] at h1
   exact Option.some.inj h1
  exact PySem.W.ki_setAt ho h0 (by omega) (by rw [size_toArray,<- hl];exact h4) (by rw [hk];exact ⟨_,I',q⟩)
 ·have hk:(k+(its.toArray.size:Int)).toNat=j:=by
   rw [seqIndex_neg (by omega) h3] at h1
   rw [size_toArray,<- hl]
   exact Option.some.inj h1
  exact PySem.W.ki_setBack ho (by omega) (by rw [size_toArray,<- hl];exact h3) (by omega) (by rw [hk];exact ⟨_,I',q⟩)
theorem Jo (lo hi:Option Int) (n:Nat):(sliceBounds lo hi none n).1=((HT.sIx n 0 lo:Nat):Int)/\(sliceBounds lo hi none n).2.1=((HT.sIx n n hi:Nat):Int)/\(sliceBounds lo hi none n).2.2=1:=by
 refine ⟨?_,?_,rfl⟩
 ·cases lo with
  | none=>simp [sliceBounds,HT.sIx]
  | some i =>
    simp only [sliceBounds,HT.sIx,Option.getD_none,show (1:Int) > 0 by decide,if_true]
    by_cases h:i < 0
    ·simp only [h,if_true] <;> omega
    ·simp only [h,if_false] <;> omega
 ·cases hi with
  | none=>simp [sliceBounds,HT.sIx]
  | some i =>
    simp only [sliceBounds,HT.sIx,Option.getD_none,show (1:Int) > 0 by decide,if_true]
    by_cases h:i < 0
    ·simp only [h,if_true] <;> omega
    ·simp only [h,if_false] <;> omega
theorem HE (its:List Value) (lo hi:Option Int):slicePick its.toArray lo hi none=((its.drop (HT.sIx its.length 0 lo)).take (HT.sIx its.length its.length hi - HT.sIx its.length 0 lo)).toArray:=by
 obtain ⟨h1,h2,h3⟩:=Jo lo hi its.toArray.size
 unfold slicePick
 rw [h1,h2,h3]
 simp only [sliceRange_one,pick_run,size_toArray] <;> rfl
def Sb (K:PySem.W.Frag):V->Option Int->Option Int->Hp->VK->Prop:=fun x lo hi H Q=>∃a xs,x=.ref a/\SqL K H a xs/\∀p,H p=none->Q (.ref p) (upd H p (.lst (Gs xs lo hi)))
theorem Ex:SlR X (Sb X.K):=by
 intro pins s σ H x v vl vu lo hi sl Q I rx hs pl pu h
 obtain ⟨a,xs,rfl,hx,q⟩:=h
 cases rx
 obtain ⟨its,r,ht,hz⟩:=I.list hx
 have hlen:=r.length
 refine ⟨"list",_,slot_list_getitem.lookup,ht.isList.typeIs,?_⟩
 refine wpAny_getItem_list_slice ht.isList hs pl pu .none (by simp) ?_ (by rw [size_toArray] <;> omega)
 rw [HE,<- hlen]
 refine ⟨.ref s.heap.objs.size,_,I.laid (t':=s.toks) (o:=.lst (Gs xs lo hi)) (fun b ob q=>Heap.get?_push_of_some _ q) (Nat.le_refl _) ?_,rfl,q _ (I.hok.fresh (Nat.le_refl _))⟩
 exact ⟨Nat.le_trans (Kj xs lo hi) hz,_,0,(r.drop (HT.sIx xs.length 0 lo)).take (HT.sIx xs.length xs.length hi - HT.sIx xs.length 0 lo),Heap.get?_push_size _ rfl⟩
def Fh:V->Bool
 | .non=>true
 | .bl _=>true
 | .int _=>true
 | .str _=>true
 | _=>false
def eqV:V->V->Bool
 | .non,.non=>true
 | .bl a,.bl b=>a == b
 | .bl a,.int b=>(if a then 1 else 0) == b
 | .int a,.bl b=>a == (if b then 1 else 0)
 | .int a,.int b=>a == b
 | .str a,.str b=>a == b
 | _,_=>false
theorem QC {A:Around} {s:Shared} {y x:V} {u v:Value} (ry:A8 y u) (rx:A8 x v) (fy:Fh y=true) (fx:Fh x=true):SeqAt.EqAt A s u v (eqV y x):=by
 cases y with
 | non =>
   cases ry
   cases x with
   | non=>cases rx;exact SeqAt.EqAt.same _
   | bl b=>cases rx;exact SeqAt.EqAt.none_bool b
   | int b=>obtain ⟨t,rfl⟩:=rx;exact SeqAt.EqAt.none_int b t
   | str b=>obtain ⟨t,rfl⟩:=rx;exact SeqAt.EqAt.none_str b t
   | _=>exact absurd (show false=true from fx) Bool.false_ne_true
 | bl a =>
   cases ry
   cases x with
   | non=>cases rx;exact SeqAt.EqAt.bool_none a
   | bl b=>cases rx;exact SeqAt.EqAt.bool_bool a b
   | int b=>obtain ⟨t,rfl⟩:=rx;exact SeqAt.EqAt.bool_int a b t
   | str b=>obtain ⟨t,rfl⟩:=rx;exact SeqAt.EqAt.bool_str a b t
   | _=>exact absurd (show false=true from fx) Bool.false_ne_true
 | int a =>
   obtain ⟨t',rfl⟩:=ry
   cases x with
   | non=>cases rx;exact SeqAt.EqAt.int_none a t'
   | bl b=>cases rx;exact SeqAt.EqAt.int_bool a t' b
   | int b=>obtain ⟨t,rfl⟩:=rx;exact SeqAt.EqAt.int_int a t' b t
   | str b=>obtain ⟨t,rfl⟩:=rx;exact SeqAt.EqAt.int_str a t' b t
   | _=>exact absurd (show false=true from fx) Bool.false_ne_true
 | str a =>
   obtain ⟨t',rfl⟩:=ry
   cases x with
   | non=>cases rx;exact SeqAt.EqAt.str_none a t'
   | bl b=>cases rx;exact SeqAt.EqAt.str_bool a t' b
   | int b=>obtain ⟨t,rfl⟩:=rx;exact SeqAt.EqAt.str_int a t' b t
   | str b=>obtain ⟨t,rfl⟩:=rx;exact SeqAt.EqAt.str_str a t' b t
   | _=>exact absurd (show false=true from fx) Bool.false_ne_true
 | _=>exact absurd (show false=true from fy) Bool.false_ne_true
def eqU (x:V) (u:Value):Bool:=match u with
 | .none=>eqV .non x
 | .bool b=>eqV (.bl b) x
 | .int i _=>eqV (.int i) x
 | .str z _=>eqV (.str z) x
 | _=>false
theorem Nu {x y:V} {u:Value} (r:A8 y u) (f:Fh y=true):eqU x u=eqV y x:=by
 cases y with
 | non=>cases r;rfl
 | bl b=>cases r;rfl
 | int i=>obtain ⟨t,rfl⟩:=r;rfl
 | str z=>obtain ⟨t,rfl⟩:=r;rfl
 | _=>exact absurd (show false=true from f) Bool.false_ne_true
theorem IY {x:V}:∀{xs:List V} {us:List Value},A6 xs us->xs.all Fh=true->us.any (eqU x)=xs.any fun y=>eqV y x
 | _,_,.nil,_=>rfl
 | y :: xs,u :: us,.cons r t,f=>by
   rw [all_cons,Bool.and_eq_true] at f
   rw [any_cons,any_cons,Nu r f.1,IY t f.2]
theorem GC {A:Around} {s:Shared} {x:V} {v:Value} (rx:A8 x v) (fx:Fh x=true):∀{xs:List V} {us:List Value},A6 xs us->xs.all Fh=true->∀u∈us,SeqAt.EqAt A s u v (eqU x u)
 | _,_,.nil,_=>fun u hu=>by cases hu
 | y :: xs,u :: us,.cons r t,f=>fun u' hu=>by
   rw [all_cons,Bool.and_eq_true] at f
   rcases mem_cons.mp hu with rfl | hu
   ·rw [Nu r f.1];exact QC r rx f.1 fx
   ·exact GC rx fx t f.2 u' hu
def inV (x:V) (xs:List V):Bool:=xs.any fun y=>eqV y x
def rIn (K:PySem.W.Frag) (neg:Bool):R2:=fun x y H Q=>∃p xs,y=.ref p/\(SqL K H p xs\/SqT K H p xs)/\Fh x=true/\xs.all Fh=true/\Q (.bl (if neg then !inV x xs else inV x xs)) H
theorem LW:OpR X (compareOp .In) (rIn X.K false):=by
 intro pins s σ H x y v u Q I rx ry h
 obtain ⟨p,xs,rfl,hq,fx,fs,q⟩:=h
 cases ry
 rcases hq with hq | hq
 ·obtain ⟨its,r,pl,hz⟩:=I.list hq
  refine SeqAt.in_listAt (eqU x) pl.isList (fun w hw=>GC rx fx r fs w (by simpa using hw)) ⟨.bl _,H,I,rfl,?_⟩
  rw [show its.toArray.any (eqU x)=its.any (eqU x) by simp,IY r fs]
  exact q
 ·obtain ⟨its,r,pl,hz⟩:=I.tuple hq
  refine SeqAt.in_tupleAt (eqU x) pl (fun w hw=>GC rx fx r fs w (by simpa using hw)) ⟨.bl _,H,I,rfl,?_⟩
  rw [show its.toArray.any (eqU x)=its.any (eqU x) by simp,IY r fs]
  exact q
theorem A0:Ch X (.builtin "len") (fun xs H Q=>∃p ys,xs=[.ref p]/\(SqL X.K H p ys\/SqT X.K H p ys)/\Q (.int ys.length) H):=by
 intro pins s σ H xs us Q I r h
 obtain ⟨p,ys,rfl,hq,q⟩:=h
 obtain ⟨u,rfl,rx⟩:=D6 r
 cases rx
 have hn:=GJ
 rcases hq with hq | hq
 ·obtain ⟨its,r',pl,hz⟩:=I.list hq
  have hlen:=r'.length
  exact Calls.call_len_list pl.isList (by simp only [size_toArray] <;> omega) ⟨.int ys.length,H,I.tok _,⟨s.toks+1,by rw [size_toArray,hlen]⟩,q⟩
 ·obtain ⟨its,r',pl,hz⟩:=I.tuple hq
  have hlen:=r'.length
  exact len_tuple pl (by simp only [size_toArray] <;> omega) ⟨.int ys.length,H,I.tok _,⟨s.toks+1,by rw [size_toArray,hlen]⟩,q⟩
theorem Bk:Ch X (.type "list") (fun xs H Q=>∃p ys,xs=[.ref p]/\(SqL X.K H p ys\/SqT X.K H p ys)/\∀l,H l=none->Q (.ref l) (upd H l (.lst ys))):=by
 intro pins s σ H xs us Q I r h
 obtain ⟨p,ys,rfl,hq,q⟩:=h
 obtain ⟨u,rfl,rx⟩:=D6 r
 cases rx
 have fin:∀(its:List Value),A6 ys its->ys.length<=sizeLine->∀(h':Heap) (c':Nat),(∀b o',s.heap.get? b=some o'->h'.get? b=some o') ->
  h'.get? s.heap.objs.size=some { cls:=.type "list",dict:=none,data:=.seq its.toArray c',slots:=#[] }->EP X pins σ Q (.ref s.heap.objs.size) { s with heap:=h' }:=fun its r' hz h' c' kp e =>
  ⟨.ref s.heap.objs.size,_,I.laid (t':=s.toks) kp (Nat.le_refl _) (show Ba X.prog X.w _ h' _ (.lst ys) from ⟨hz,its,c',r',e⟩),rfl,q _ (I.hok.fresh (Nat.le_refl _))⟩
 rcases hq with hq | hq
 ·obtain ⟨its,r',pl,hz⟩:=I.list hq
  have hlen:=r'.length
  obtain ⟨o,ho,hc,n,hd⟩:=pl.isList
  exact call_list_seq p (.inl rfl) ho hc hd (fun h' c' kp e=>fin its r' hz h' c' kp e) (by simp only [size_toArray] <;> omega)
 ·obtain ⟨its,r',pl,hz⟩:=I.tuple hq
  have hlen:=r'.length
  obtain ⟨o,ho,hc,n,hd⟩:=pl
  exact call_list_seq p (.inr rfl) ho hc hd (fun h' c' kp e=>fin its r' hz h' c' kp e) (by simp only [size_toArray] <;> omega)
theorem Hz:Ch X (.type "tuple") (fun xs H Q=>∃p ys,xs=[.ref p]/\((SqL X.K H p ys/\∀l,H l=none->Q (.ref l) (upd H l (.tup ys)))\/(SqT X.K H p ys/\Q (.ref p) H))):=by
 intro pins s σ H xs us Q I r h
 obtain ⟨p,ys,rfl,h⟩:=h
 obtain ⟨u,rfl,rx⟩:=D6 r
 cases rx
 rcases h with ⟨hq,q⟩ | ⟨hq,q⟩
 ·obtain ⟨its,r',pl,hz⟩:=I.list hq
  have hlen:=r'.length
  refine call_tuple_list pl.isList (fun h' kp=>?_) (by simp only [size_toArray] <;> omega)
  have I1:Inv X pins σ H { s with heap:=h' }:=I.kept (t':=s.toks) kp
  have I2:Inv X pins σ (upd H h'.objs.size (.tup ys)) { s with heap:=h'.push { cls:=.type "tuple",data:=.seq its.toArray } } :=
   I1.laid (t':=s.toks) (fun b o e=>Heap.get?_push_of_some _ e) (Nat.le_refl _) (show Ba X.prog X.w _ _ _ (.tup ys) from ⟨hz,its,r',IsTup.new _ _⟩)
  exact ⟨.ref h'.objs.size,_,I2,rfl,q _ (I1.hok.fresh (Nat.le_refl _))⟩
 ·obtain ⟨its,r',pl,hz⟩:=I.tuple hq
  exact call_tuple_same pl ⟨.ref p,H,I,rfl,q⟩
def tyV (K:PySem.W.Frag) (T:String) (x:V) (H:Hp):Prop:=match x with
 | .str _=>T="str"
 | .int _=>T="int"
 | .ref p=>(T="list"/\∃xs,SqL K H p xs)\/(T="tuple"/\∃o,K.lookup p=some o/\o.cls=.type "tuple"/\o.dict=none) \/
  (T="dict"/\((∃kvs,H p=some (.dK kvs))\/∃kvs,H p=some (.dT kvs)))\/(T="set"/\∃S n,H p=some (.set S n))
 | _=>False
theorem NQ {pins:List (Addr × Obj)} {σ:St} {H:Hp} {s:Shared} {T:String} {x:V} {v:Value} (I:Inv X pins σ H s) (r:A8 x v) (ty:tyV X.K T x H) :
 s.TypeIs v T/\∀a,v=.ref a->∃ob,s.heap.get? a=some ob/\ob.dict=none:=by
 cases x with
 | str z =>
   obtain ⟨t,rfl⟩:=r
   cases (show T="str" from ty)
   exact ⟨typeIs_str s z t,fun _ e=>nomatch e⟩
 | int i =>
   obtain ⟨t,rfl⟩:=r
   cases (show T="int" from ty)
   exact ⟨typeIs_int s i t,fun _ e=>nomatch e⟩
 | ref p =>
   cases r
   rcases ty with ⟨rfl,xs,hq⟩ | ⟨rfl,o,hk,hc,hd⟩ | ⟨rfl,hk⟩ | ⟨rfl,S,n,hk⟩
   ·obtain ⟨its,_,pl,_⟩:=I.list hq
    refine ⟨pl.isList.typeIs,fun a e=>?_⟩
    cases e
    obtain ⟨o,n,e,c,hd,_⟩:=pl
    exact ⟨o,e,hd⟩
   ·refine ⟨⟨o,I.kIn p o hk,hc⟩,fun a e=>?_⟩
    cases e
    exact ⟨o,I.kIn _ o hk,hd⟩
   ·have z:∃o,s.heap.get? p=some o/\o.ExactDict:=by
     rcases hk with ⟨kvs,hk⟩ | ⟨kvs,hk⟩
     ·obtain ⟨_,_,_,_,o,_,_,e,ex,_⟩:=I.hok p _ hk
      exact ⟨o,e,ex⟩
     ·obtain ⟨_,_,_,_,o,_,_,e,ex,_⟩:=I.hok p _ hk
      exact ⟨o,e,ex⟩
    obtain ⟨o,e,ex⟩:=z
    refine ⟨⟨o,e,ex.1⟩,fun a e2=>?_⟩
    cases e2
    exact ⟨o,e,ex.2.1⟩
   ·obtain ⟨o,_,_,_,e,ex,_⟩:=I.hok p _ hk
    refine ⟨⟨o,e,ex.1⟩,fun a e2=>?_⟩
    cases e2
    exact ⟨o,e,ex.2.1⟩
 | _=>exact False.elim ty
def RT (K:PySem.W.Frag) (T:String) (r:V->List V->Hp->VK->Prop) (to:TE):TE:=fun σ H Q=>to σ H fun x H1=>tyV K T x H1/\r x [] H1 Q
def tBM (K:PySem.W.Frag) (T:String) (r:V->List V->Hp->VK->Prop) (to:TE) (t:TA):TE:=fun σ H Q=>to σ H fun x H1=>tyV K T x H1/\t σ H1 fun xs H2=>r x xs H2 Q
variable {o e:Expr} {es:List Expr} {to:TE} {t:TA} {name:Str} {apos cpos:Pos} {T id:String} {r:V->List V->Hp->VK->Prop}
theorem QH (pa:PlainAttrs T) (slot:Slot T name id) (hty:typeOf (.builtin id)=pure (.type "method_descriptor")) (hm:MtR X id r) (ho:PE X o to)
 (hbase:attributeBase o name X.env (eval o X.env)=eval o X.env:=by rfl) (hline:(apos.endLine == cpos.line)=true:=by rfl):PE X (.Call (.Attribute o name apos) [] [] cpos) (RT X.K T r to):=by
 intro pins s σ H Q I h
 refine wpAny_Call_method0_late hbase hline (thn (ho pins s σ H _ I h) fun v s1 ⟨x,H1,I1,r1,ty,q1⟩=>?_)
 obtain ⟨h1,h2⟩:=NQ I1 r1 ty
 exact ⟨T,id,pa,slot,hty,h1,h2,Calls.callWith_builtin rfl (PySem.evalArgs_none (hm pins s1 σ H1 x [] v [] Q I1 r1 .nil q1))⟩
theorem Dw (pa:PlainAttrs T) (slot:Slot T name id) (hty:typeOf (.builtin id)=pure (.type "method_descriptor")) (hm:MtR X id r) (ho:PE X o to) (ha:PA X (e :: es) t)
 (hbase:attributeBase o name X.env (eval o X.env)=eval o X.env:=by rfl)
 (hfew:((backTo cpos (starEach (e :: es) X.env)).all (fun x=>!x.1) && (backToKw cpos (keywordEach [] X.env)).all (fun x=>x.1.isSome)
  && decide ((e :: es).length+([]:List Keyword).length+(if ([]:List Keyword).isEmpty then 0 else 1) < 30))=true:=by rfl)
 (hline:(apos.endLine == cpos.line)=true:=by rfl) (hs:starEach (e :: es) X.env=(false,eval e X.env) :: starEach es X.env:=by rfl) (hplain:(backTo cpos (starEach es X.env)).any (·.1)=false:=by rfl) :
 PE X (.Call (.Attribute o name apos) (e :: es) [] cpos) (tBM X.K T r to t):=by
 intro pins s σ H Q I h
 refine wpAny_Call_method_late hbase hfew hline rfl (thn (ho pins s σ H _ I h) fun v s1 ⟨x,H1,I1,r1,ty,q1⟩=>?_)
 obtain ⟨h1,h2⟩:=NQ I1 r1 ty
 refine ⟨T,id,pa,slot,hty,h1,h2,?_⟩
 have hA:=ha cpos pins s1 σ H1 _ I1 q1
 rw [hs] at hA ⊢
 refine Calls.callWith_builtin (by show (false || (backTo cpos (starEach es X.env)).any (·.1))=false;rw [hplain] <;> rfl) (Calls.evalArgs_plain ?_)
 exact thn hA fun us s2 ⟨vs,H2,I2,r2,q2⟩=>hm pins s2 σ H2 x vs v us Q I2 r1 r2 q2
end
end L2
namespace L2
open PySem PySem.Spec PyProof.Rows
def MtM (X:Cx) (id:String) (r:V->List V->Hp->VK->Prop):Prop :=
 ∀(pins:List (Addr × Obj)) (s:Shared) (σ:St) (H:Hp) (x:V) (xs:List V) (v:Value) (us:List Value) (Q:VK),Inv X pins σ H s->A8 x v->A6 xs us->r x xs H Q ->
  wpAny (model X.prog X.w) X.A (call (.builtin id) (v :: us)) (EP X pins σ Q) X.xe s
theorem A6.one:∀{x:V} {us:List Value},A6 [x] us->∃u,us=[u]/\A8 x u
 | _,_,.cons r .nil=>⟨_,rfl,r⟩
theorem A6.eraseIdx:∀{xs:List V} {us:List Value} (i:Nat),A6 xs us->A6 (xs.eraseIdx i) (us.eraseIdx i)
 | _,_,_,.nil=>.nil
 | _,_,0,.cons _ t=>t
 | _,_,i+1,.cons r t=>.cons r (A6.eraseIdx i t)
theorem A6.reverse {xs:List V} {us:List Value} (h:A6 xs us):A6 xs.reverse us.reverse:=by
 induction h with
 | nil=>exact .nil
 | cons r t ih=>rw [reverse_cons,reverse_cons];exact A6.append ih (.cons r .nil)
theorem A6.rep {xs:List V} {us:List Value} (h:A6 xs us):∀k:Nat,A6 (List.replicate k xs).flatten (List.replicate k us).flatten
 | 0=>.nil
 | k+1=>by
   rw [replicate_succ,replicate_succ,flatten_cons,flatten_cons]
   exact A6.append h (A6.rep h k)
theorem FM {α:Type}:∀(l:List α) (i:Nat),(l.eraseIdx i).length<=l.length
 | [],_=>Nat.le_refl _
 | _ :: _,0=>Nat.le_succ _
 | _ :: r,i+1=>Nat.succ_le_succ (FM r i)
theorem HU (its:List Value):∀(k:Nat) (acc:List Value),
 List.foldl (fun x1 x2=>x1++x2) acc.toArray (List.replicate k its.toArray)=(acc++(List.replicate k its).flatten).toArray
 | 0,acc=>by simp
 | k+1,acc=>by
   have e:acc.toArray++its.toArray=(acc++its).toArray:=by simp
   have e2:(acc++its)++(List.replicate k its).flatten=acc++(List.replicate (k+1) its).flatten:=by
    rw [replicate_succ,flatten_cons,append_assoc]
   rw [<- e2,<- HU its k (acc++its),<- e,replicate_succ,foldl_cons]
section
variable {X:Cx} {pins:List (Addr × Obj)} {σ:St} {H:Hp} {s:Shared} {l b:Addr} {xs ys zs:List V}
theorem Inv.lset {its its':List Value} {n:Nat} {f:Array Value->Array Value} {t':Nat} (I:Inv X pins σ H s) (hH:H l=some (.lst xs))
 (e:s.heap.get? l=some { cls:=.type "list",data:=.seq its.toArray n }) (hf:f its.toArray=its'.toArray) (hv:A6 ys its') (hz:ys.length<=sizeLine) :
 Inv X pins σ (upd H l (.lst ys)) { s with heap:=s.heap.update l (Obj.mapSeq f),toks:=t' }:=by
 have q:=PySem.IsL.update e f
 rw [hf] at q
 refine I.write (x:=l) (e:=l) (by rw [hH];exact trivial) (.inl rfl) (fun b' u hb hu=>(Heap.get?_update_other s.heap (Obj.mapSeq f) (Ne.symm hb)).trans hu) ⟨_,q⟩ ?_
 exact ⟨hz,its',_,hv,q⟩
theorem Inv.lnew {its:List Value} {t':Nat} (I:Inv X pins σ H s) (hv:A6 ys its) (hz:ys.length<=sizeLine) :
 Inv X pins σ (upd H s.heap.objs.size (.lst ys)) { s with heap:=s.heap.push { cls:=.type "list",data:=.seq its.toArray },toks:=t' } :=
 I.laid (fun _ _ q=>Heap.get?_push_of_some _ q) (Nat.le_refl _) ⟨hz,its,0,hv,Heap.get?_push_size _ rfl⟩
theorem Inv.fresh (I:Inv X pins σ H s):H s.heap.objs.size=none:=I.hok.fresh (Nat.le_refl _)
theorem Inv.lstM (I:Inv X pins σ H s) (hH:H l=some (.lst xs)):xs.length<=sizeLine/\∃(its:List Value) (n:Nat),A6 xs its/\xs.length=its.length/\s.heap.get? l=some { cls:=.type "list",data:=.seq its.toArray n }:=by
 obtain ⟨z,its,n,r,e⟩:=I.hok l _ hH
 exact ⟨z,its,n,r,r.length,e⟩
theorem JZ {n:Nat} (h:n<=sizeLine):Builtin.List.listTooLong n=false:=by
 unfold Builtin.List.listTooLong
 exact decide_eq_false (by omega)
end
section
variable {X:Cx}
def PP:V->List V->Hp->VK->Prop:=fun x vs H Q=>∃l xs y,x=.ref l/\vs=[y]/\H l=some (.lst xs)/\xs.length < sizeLine/\Q .non (upd H l (.lst (xs++[y])))
theorem BG:MtM X "list.append" PP:=by
 intro pins s σ H x vs v us Q I rx rv h
 obtain ⟨l,xs,y,rfl,rfl,hH,hz,q⟩:=h
 cases rx
 obtain ⟨u,rfl,ru⟩:=rv.one
 obtain ⟨z,its,n,r,hl,e⟩:=I.lstM hH
 refine call_meets F.slot_list_append ⟨_,e,rfl⟩ F.entry_list_append (F.args_list_append_2 _ _) (PySem.list_append l its.toArray n u (by rw [size_toArray];omega)) ⟨e,?_⟩
 refine ⟨.non,_,I.lset (its':=its++[u]) hH e (by simp) (r.append (.cons ru .nil)) ?_,rfl,q⟩
 rw [length_append,length_singleton]
 omega
def OS:V->List V->Hp->VK->Prop:=fun x vs H Q=>∃l b xs zs,x=.ref l/\vs=[.ref b]/\H l=some (.lst xs)/\H b=some (.lst zs)/\xs.length+zs.length<=sizeLine/\Q .non (upd H l (.lst (xs++zs)))
theorem Ij:MtM X "list.extend" OS:=by
 intro pins s σ H x vs v us Q I rx rv h
 obtain ⟨l,b,xs,zs,rfl,rfl,hH,hB,hz,q⟩:=h
 cases rx
 obtain ⟨u,rfl,ru⟩:=rv.one
 cases ru
 obtain ⟨z,its,n,r,hl,e⟩:=I.lstM hH
 obtain ⟨z2,its2,n2,r2,hl2,e2⟩:=I.lstM hB
 have hsz:its.toArray.size+its2.toArray.size<=sizeLine:=by rw [size_toArray,size_toArray];omega
 have hlong:¬ (!its.toArray.isEmpty && Builtin.List.listTooLong (its.toArray.size+its2.toArray.size))=true:=by
  rw [JZ hsz,Bool.and_false]
  exact Bool.false_ne_true
 refine call_meets F.slot_list_extend ⟨_,e,rfl⟩ F.entry_list_extend (F.args_list_extend_2 _ _)
  (AutoSeq1.list_extend_list_list_0 l its.toArray n b its2.toArray n2 hlong (by rw [size_toArray];omega) (by omega)) ⟨e,e2,?_⟩
 refine ⟨.non,_,I.lset (its':=its++its2) hH e (by simp) (r.append r2) ?_,rfl,q⟩
 rw [length_append]
 omega
def Q8:V->List V->Hp->VK->Prop:=fun x vs H Q=>∃l xs i k y,x=.ref l/\vs=[.int i]/\H l=some (.lst xs)/\-(2 ^ 63)<=i/\i < 2 ^ 63/\seqIndex? i xs.length=some k/\xs[k]?=some y/\Q y (upd H l (.lst (xs.eraseIdx k)))
theorem NF:MtM X "list.pop" Q8:=by
 intro pins s σ H x vs v us Q I rx rv h
 obtain ⟨l,xs,i,k,y,rfl,rfl,hH,h1,h2,hk,hy,q⟩:=h
 cases rx
 obtain ⟨u,rfl,ru⟩:=rv.one
 obtain ⟨t,rfl⟩:=ru
 obtain ⟨z,its,n,r,hl,e⟩:=I.lstM hH
 obtain ⟨w,hw,rw'⟩:=r.get hy
 refine call_meets F.slot_list_pop ⟨_,e,rfl⟩ F.entry_list_pop (F.args_list_pop_2 _ _)
  (MeetsSeq.list_pop_at l its.toArray n i t k w (fitsIndex_both h1 h2) (by rw [size_toArray,<- hl];exact hk) (by rw [<- Array.getElem?_toList];exact hw) (by rw [size_toArray];omega)) ⟨e,?_⟩
 refine ⟨y,_,I.lset (its':=its.eraseIdx k) hH e ?_ (r.eraseIdx k) ?_,rw',q⟩
 ·show its.toArray.eraseIdxIfInBounds k=(its.eraseIdx k).toArray
  rw [eraseIdxIfInBounds_toArray]
 ·have:=FM xs k
  omega
def Sn:R2:=fun x y H Q=>∃l b xs zs,x=.ref l/\y=.ref b/\H l=some (.lst xs)/\H b=some (.lst zs)/\xs.length+zs.length<=sizeLine/\∀p,H p=none->Q (.ref p) (upd H p (.lst (xs++zs)))
theorem GK:OpR X (binaryOp .Add) Sn:=by
 intro pins s σ H x y v u Q I rx ry h
 obtain ⟨l,b,xs,zs,rfl,rfl,hH,hB,hz,q⟩:=h
 cases rx
 cases ry
 obtain ⟨z,its,n,r,hl,e⟩:=I.lstM hH
 obtain ⟨z2,its2,n2,r2,hl2,e2⟩:=I.lstM hB
 refine PySem.P.add_list e e2 ?_ (by rw [size_toArray,size_toArray];omega)
 have ea:its.toArray++its2.toArray=(its++its2).toArray:=by simp
 rw [ea]
 exact ⟨.ref _,_,I.lnew (t':=s.toks) (r.append r2) (by rw [length_append];omega),rfl,q _ I.fresh⟩
def Sk:R2:=fun x y H Q=>∃l k xs,x=.ref l/\y=.int k/\H l=some (.lst xs)/\-(2 ^ 63)<=k/\k < 2 ^ 63/\xs.length*k.toNat<=sizeLine /\
 ∀p,H p=none->Q (.ref p) (upd H p (.lst (List.replicate k.toNat xs).flatten))
theorem PX {α:Type} (xs:List α) (k:Nat):(List.replicate k xs).flatten.length=k*xs.length:=by
 induction k with
 | zero=>simp
 | succ k ih=>rw [replicate_succ,flatten_cons,length_append,ih,Nat.succ_mul,Nat.add_comm]
theorem Q4:OpR X (binaryOp .Mult) Sk:=by
 intro pins s σ H x y v u Q I rx ry h
 obtain ⟨l,k,xs,rfl,rfl,hH,h1,h2,hz,q⟩:=h
 cases rx
 obtain ⟨t,rfl⟩:=ry
 obtain ⟨z,its,n,r,hl,e⟩:=I.lstM hH
 have hlen:its.toArray.size*k.toNat<=sizeLine:=by rw [size_toArray,<- hl];exact hz
 have hcap:¬ its.toArray.size*k.toNat > (2 ^ 63 - 1) / 8:=by
  have:(sizeLine:Nat)<=(2 ^ 63 - 1) / 8:=by decide
  omega
 have hfit:¬ (!Builtin.List.listFitsIndex k)=true:=by
  rw [fitsIndex_both h1 h2]
  exact Bool.false_ne_true
 have hlong:¬ Builtin.List.listTooLong (its.toArray.size*k.toNat)=true:=by
  rw [JZ hlen]
  exact Bool.false_ne_true
 have hnew:List.foldl (fun x1 x2=>x1++x2) #[] (List.replicate (if its.toArray.isEmpty=true then 0 else k.toNat) its.toArray)=(List.replicate k.toNat its).flatten.toArray:=by
  have f0:∀m:Nat,List.foldl (fun x1 x2=>x1++x2) #[] (List.replicate m its.toArray)=(List.replicate m its).flatten.toArray:=fun m=>by
   have:=HU its m []
   rw [nil_append] at this
   exact this
  rw [f0]
  cases its with
  | nil=>simp
  | cons a r'=>rw [if_neg (by simp)]
 refine wpAny_binaryOp_repeat_ref (T:="list") (U:="int") (by decide) ⟨_,e,rfl⟩ (fun s'=>typeIs_int s' k t) noFill_list_mul F.fills_int_mul F.slot_int_rmul repeat_list F.slot_int_index.lookup
  (call_meets F.slot_int_rmul (typeIs_int s k t) F.entry_int_rmul (F.args_int_rmul_2 _ _) (int___rmul___int_list k t l its.toArray n)
   ⟨e,rfl,⟨_,e,rfl⟩,call_meets F.slot_list_mul ⟨_,e,rfl⟩ F.entry_list_mul (F.args_list_mul_2 _ _) (AutoListH.list___mul___list_int_3 l its.toArray n k t hfit hcap hlong) ⟨e,?_⟩⟩)
 rw [hnew]
 exact ⟨.ref _,_,I.lnew (t':=s.toks) (r.rep k.toNat) (by rw [PX,Nat.mul_comm];exact hz),rfl,q _ I.fresh⟩
end
section
variable {prog:Program} {w:World} {A:Around} {E:Value->Shared->Prop} {s:Shared}
set_option maxRecDepth 100000 in
end
section
variable {X:Cx}
end
end L2
namespace Att
open PySem PySem.W PySem.Calls PyProof.Rows
theorem Gj {P:Params} {h:Heap}:∀(ns:List Int) (vs:List Value),WellAll P h vs (ns.map WData.int)->IntsAre vs ns:=by
 intro ns
 induction ns with
 | nil =>
   intro vs w
   rw [map_nil] at w
   cases w
   exact .nil
 | cons n ns ih =>
   intro vs w
   rw [map_cons] at w
   cases w with
   | cons a b =>
     cases a
     exact .cons _ _ (ih _ b)
theorem MQ {l:OpenLaw} {n:Nat} (hn:l.most=some n) {P:Params} {h:Heap} {args:List WData} {vals:List Value}
 (hpre:l.row.toRowW.claim.pre args=true) (hwl:WellAll P h vals args) :
 ∃a vs ns,vals=[Value.ref a]/\args=[WData.list (ns.map WData.int)]/\h.get? a=some { cls:=.type "list",data:=.seq vs.toArray }/\IntsAre vs ns/\ns.length<=n:=by
 have hsh:WShape.hasAll [] args [.list .int]=true:=(pre_splitW hpre).1
 have hc:l.pre.holds [] { args:=args }=true:=(pre_splitW hpre).2
 obtain ⟨d,r,rfl,h1,h2⟩:=hasAllW_cons hsh
 obtain rfl:=hasAllW_nil h2
 obtain ⟨xs,rfl,h3⟩:=hasW_list h1
 obtain ⟨ns,rfl⟩:=items_int h3
 have hlen:ns.length<=n:=by
  unfold OpenLaw.pre at hc
  have h4:(WTm.not (.lt (.lit (.int (n:Int))) (.len (.arg 0)))).holds [] { args:=[.list (ns.map .int)] }=true:=by
   have h4:=(holds_andW hc).1
   rw [hn] at h4
   exact h4
  have h5:=condW_of h4 (w_not (w_lt w_lit (w_len_list (w_arg rfl))))
  rw [length_map] at h5
  refine Nat.le_of_not_lt fun q=>?_
  have q':(n:Int) < ((ns.length:Nat):Int):=by omega
  first
   | (rw [decide_eq_true q'] at h5;exact absurd h5 (by decide))
   | (simp at h5;omega)
 cases hwl with
 | cons w1 w2 =>
   cases w2
   cases w1 with
   | list ho hall=>exact ⟨_,_,ns,rfl,rfl,ho,Gj ns _ hall,hlen⟩
theorem Mn (l:OpenLaw) (args:List WData):l.row.toRowW.claim.post args (.bool true) args=true :=
 postW_of (r:=l.row.toRowW) (X:=(true == true))
  (show WShape.has [] (.bool true) .bool=true by first | rfl | decide | simp [WShape.has,WShape.arms,WShape.armsAll])
  (show (WTm.eq .res (.lit (.bool true))).value [] { args:=args,res:=some (.bool true),after:=args }=some (.bool (true == true)) from w_eq_bool (w_res rfl) w_lit) rfl
theorem attach_call {l:OpenLaw} {n:Nat} {q:Program} {loose:List Str} {XP:(Str->Option Value)->Heap->Prop} {YP:World->Heap->Prop} {d:DefRec}
 (hn:l.most=some n) (hdf:d.params.defaults=[])
 (call:∀(w:World) (s₀ s₁:Shared) (mg mb:Str->Option Value) (fa:Addr) (o:Obj) (pm cd doc:Value) (a:Addr) (vs:List Value) (ns:List Int),
  Ground q loose [] XP w s₀ mg mb s₁.heap->YP w s₁.heap ->
  s₁.heap.get? fa=some o->o.data=.func (docDef d.name d.params d.body d.scope pm cd doc)->s₁.heap.CodeRec cd d.name->mg d.name=some (.ref fa) ->
  s₁.heap.get? a=some { cls:=.type "list",data:=.seq vs.toArray }->IntsAre vs ns->ns.length<=n->s₁.gens=#[] ->
  codeAny (model l.prog w) callerA (.call (.ref fa) ⟨[.ref a],[]⟩) (fun r s'=>r=.ok (.ret (.bool true))/\OldK s₁.heap s'.heap/\s'.os=s₁.os/\AllBare s'.gens) s₁) :
 WalkO q loose XP YP l.row.toRowW d [] (fun f vs=>PySem.call f vs):=by
 intro w s₀ s₁ mg mb G Y fa o pm cd doc dV kV ho hd hcd hD hmg hg args vals as hpre hlay hrd hwl hlo
 obtain rfl:dV=.none:=Dflts.none hD hdf
 obtain rfl:kV=.none:=Dflts.noKw hD
 obtain ⟨a,vs,ns,rfl,rfl,hobj,hints,hlen⟩:=MQ hn hpre hwl
 refine enter_call (codeAny_mono (call w s₀ s₁ mg mb fa o pm cd doc a vs ns G Y ho (fd_plain hd) hcd hmg hobj hints hlen hg) fun r s' hq=>?_)
 obtain ⟨rfl,h2,h3,h4⟩:=hq
 exact ⟨.inl ⟨.bool true,.bool true,[],rfl,fun _=>rfl,.bool true,Mn l _,fun _=>⟨List.Pairwise.nil,fun _ hm=>(nomatch hm)⟩⟩,h2,h3,h4⟩
section
variable {prog:Program} {w:World} {A:Around} {E:Value->Shared->Prop} {s:Shared} {K:Frag}
end
end Att
namespace L2
open PySem PySem.Spec PyProof.Rows
theorem Ey:∀{vs:List Value} {ns:List Int},IntsAre vs ns->A6 (ns.map V.int) vs
 | _,_,.nil=>.nil
 | _,_,.cons n t h=>.cons ⟨t,rfl⟩ (Ey h)
end L2
namespace L2
open PySem PySem.Spec PyProof.Rows
end L2
namespace L2
open PySem PySem.Spec PyProof.Rows
def Dr (s:Stmt) (j:Nat):Stmt:=match s with
 | .ClassDef _ _ _ body _ _ _ _ _ _ _=>body.getD j (.Pass ⟨0,0,0,0⟩)
 | _=>.Pass ⟨0,0,0,0⟩
def Am (s:Stmt):Arguments:=match s with
 | .FunctionDef _ a _ _ _ _ _ _ _ _=>a
 | _=>{ posonlyargs:=[],args:=[],vararg:=none,kwonlyargs:=[],kw_defaults:=[],kwarg:=none,defaults:=[] }
def Ak (s:Stmt):List Stmt:=match s with
 | .FunctionDef _ _ b _ _ _ _ _ _ _=>b
 | _=>[]
def Ac (s:Stmt):Scope:=match s with
 | .FunctionDef _ _ _ _ _ _ sc _ _ _=>sc
 | _=>{ kind:=.function,names:=[],isGenerator:=false,isCoroutine:=false }
abbrev CX0:CXT:=fun _ _ _ _ _ _=>False
abbrev E0:XK:=fun _ _ _=>False
theorem Ar {X:Cx}:FG CX0 X E0:=fun _ _ _ _ _ _ _ h=>h.elim
structure Fun (K:PySem.W.Frag) (x qual:Str) (st:Stmt) (f:Addr) (fd:FuncData):Prop where
 ex:∃(oc:Value) (od:Option Addr) (kV doc pm:Value) (an:Option Addr) (cdv ct:Value) (osl:Array (Option Value)),
  fd=PySem.W.fnOf x qual (Am st) (Ak st) (Ac st) .none kV doc pm an cdv ct/\K.lookup f=some ⟨oc,od,.func fd,osl⟩/\PySem.W.codeIn K cdv qual=true
 kp:PySem.W.keepIn K (.ref f)=true
section
variable {P:Program} {w:World} {K:PySem.W.Frag} {mg:Str->Option Value} {base:Heap}
theorem Fun.ok {x qual:Str} {st:Stmt} {f:Addr} {fd:FuncData} {N ps:List Str} {k:Nat} {sp:Sp} (F:Fun K x qual st f fd) (S:Ap N ps (Ac st)) (len:∀vs H Q E,sp vs H Q E->vs.length=ps.length)
 (hbody:∀(cdv:Value) (A:Around) (outer:List Env) (s:Shared) (H:Hp) (vs:List V) (Q:VK) (E:XK),CN k (A.deeper (envOfC qual (Ac st) s.heap.objs.size f cdv))->sp vs H Q E ->
  ∃t,PSs (Kh CX0 P w K mg base N qual (Ac st) f cdv A outer s H E).nox (Ak st) t/\t { nx:=fun _ H'=>Q .non H',rt:=Q } (start N vs) H):AN P w K mg base CX0 (k+1) f fd ps sp:=by
 obtain ⟨oc,od,kV,doc,pm,an,cdv,ct,osl,rfl,lk,hcd⟩:=F.ex
 refine Nw lk hcd S len fun A outer s H vs Q E hr hsp=>?_
 obtain ⟨t,h,q⟩:=hbody cdv A outer s H vs Q E hr hsp
 exact ⟨t,h.nox,q⟩
theorem Fun.binds {x qual:Str} {st:Stmt} {f:Addr} {fd:FuncData} {ps:List Str} (F:Fun K x qual st f fd)
 (h:∀(kV doc pm:Value) (an:Option Addr) (cdv ct:Value) (us:List Value),us.length=ps.length->bindArgs (PySem.W.fnOf x qual (Am st) (Ak st) (Ac st) .none kV doc pm an cdv ct) ⟨us,[]⟩=pure (ps.zip us)):A4 K fd ps []:=by
 obtain ⟨oc,od,kV,doc,pm,an,cdv,ct,osl,rfl,lk,hcd⟩:=F.ex
 exact .all (h kV doc pm an cdv ct)
theorem Az {x qual:Str} {st:Stmt} {f:Addr} {oc:Value} {od an:Option Addr} {osl:Array (Option Value)} {kV doc pm cdv ct:Value} (l:K.lookup f=some ⟨oc,od,.func (PySem.W.fnOf x qual (Am st) (Ak st) (Ac st) .none kV doc pm an cdv ct),osl⟩)
 (c:PySem.W.codeIn K cdv qual=true) (k:PySem.W.keepIn K (.ref f)=true):Fun K x qual st f (PySem.W.fnOf x qual (Am st) (Ak st) (Ac st) .none kV doc pm an cdv ct):=⟨⟨oc,od,kV,doc,pm,an,cdv,ct,osl,rfl,l,c⟩,k⟩
end
theorem AW {n:Nat} (h:n<=1000):n < sizeLine:=Nat.lt_of_le_of_lt h (by decide)
section
variable {X:Cx}
theorem pv (i:Nat) {x:Str} {pos:Pos} (hN:X.N[i]?=some x:=by rfl) (hv:Vis X.env.scope x:=by first | exact Or.inl rfl | exact Or.inr (Or.inl rfl) | exact Or.inr (Or.inr rfl)) (hd:(x == ("__debug__":Str))=false:=by decide)
 (hcd:(x == ("__classdict__":Str))=false:=by decide):PE X (.Name x pos) (Rg i):=Qz hN hv hd hcd
end
theorem RY {A B:Prop} (h:B):if false=true then A else B:=by
 rw [if_neg Bool.false_ne_true]
 exact h
theorem RG {A B:Prop} (h:A):if true=true then A else B:=by
 rw [if_pos rfl]
 exact h
theorem NM {c A B:Prop} [Decidable c] (h1:c->A) (h2:¬ c->B):if c then A else B:=by
 by_cases h:c
 ·rw [if_pos h]
  exact h1 h
 ·rw [if_neg h]
  exact h2 h
def Aq (H H':Hp):Prop:=∀b o,H b=some o->H' b=some o
theorem Aq.refl (H:Hp):Aq H H:=fun _ _ h=>h
theorem Aq.trans {H H1 H2:Hp} (a:Aq H H1) (b:Aq H1 H2):Aq H H2:=fun c o h=>b c o (a c o h)
theorem Aq.seq {K:PySem.W.Frag} {H H':Hp} {a:Addr} {xs:List V} (e:Aq H H') (h:SqL K H a xs):SqL K H' a xs:=by
 rcases h with (h | ⟨o,h⟩) | h
 ·exact .inl (.inl (e _ _ h))
 ·exact .inl (.inr ⟨o,e _ _ h⟩)
 ·exact .inr h
end L2
namespace L2
open PySem PySem.Spec PyProof.Rows
section
variable {κ:Type} [DecidableEq κ]
def Cn (kvs:List (κ × V)) (k:κ):Option V:=(kvs.find? fun kv=>decide (kv.1=k)).map (·.2)
def Ck (kvs:List (κ × V)) (k:κ) (v:V):List (κ × V) :=
 if (kvs.any fun kv=>decide (kv.1=k))=true then kvs.map (fun kv=>if kv.1=k then (kv.1,v) else kv) else kvs++[(k,v)]
theorem Fc {p:κ × V} {r:List (κ × V)} {k:κ} (e:p.1=k):Cn (p :: r) k=some p.2:=by simp [Cn,List.find?_cons,e]
theorem EM {p:κ × V} {r:List (κ × V)} {k:κ} (e:¬ p.1=k):Cn (p :: r) k=Cn r k:=by simp [Cn,List.find?_cons,e]
theorem Eb (k:κ):∀kvs:List (κ × V),(kvs.any fun kv=>decide (kv.1=k))=(Cn kvs k).isSome
 | []=>rfl
 | p :: r=>by
   rw [any_cons]
   by_cases e:p.1=k
   ·simp only [Fc e,decide_eq_true e,Bool.true_or,Option.isSome_some]
   ·rw [EM e,decide_eq_false e,Bool.false_or];exact Eb k r
theorem Ei (kvs:List (κ × V)) (k:κ) (v:V):(Ck kvs k v).length<=kvs.length+1:=by
 unfold Ck
 split
 ·rw [length_map];omega
 ·rw [length_append,length_cons,length_nil];omega
theorem DV.isSome_eq {o:Option V} {u:Option Value} (r:DV o u):o.isSome=u.isSome:=by
 cases o with
 | none=>cases u with
   | none=>rfl
   | some _=>exact (show False from r).elim
 | some _=>cases u with
   | none=>exact (show False from r).elim
   | some _=>rfl
theorem DV.getD {o:Option V} {u:Option Value} {d:V} {d':Value} (r:DV o u) (rd:A8 d d'):A8 (o.getD d) (u.getD d'):=by
 cases o with
 | none=>cases u with
   | none=>exact rd
   | some _=>exact (show False from r).elim
 | some _=>cases u with
   | none=>exact (show False from r).elim
   | some _=>exact r
theorem KV.val {kvs:List (κ × V)} {vs:List (κ × Value)} (r:KV kvs vs) (k:κ):DV (Cn kvs k) (valueAt vs k):=by
 unfold KV at r
 induction r with
 | nil=>exact True.intro
 | @cons p q ps qs h t ih =>
   obtain ⟨h1,h2⟩:=h
   by_cases e:p.1=k
   ·have e':q.1=k:=h1.symm.trans e
    have b:valueAt (q :: qs) k=some q.2:=by simp [valueAt,List.find?_cons,e']
    rw [Fc e,b];exact h2
   ·have e':¬ q.1=k:=fun z=>e (h1.trans z)
    have b:valueAt (q :: qs) k=valueAt qs k:=by simp [valueAt,List.find?_cons,e']
    rw [EM e,b];exact ih
theorem KV.any {kvs:List (κ × V)} {vs:List (κ × Value)} (r:KV kvs vs) (k:κ):(kvs.any fun kv=>decide (kv.1=k))=vs.any fun kv=>decide (kv.1=k):=by
 unfold KV at r
 induction r with
 | nil=>rfl
 | cons h t ih=>rw [any_cons,any_cons,ih,h.1]
theorem KV.repl {kvs:List (κ × V)} {vs:List (κ × Value)} (r:KV kvs vs) (k:κ) {y:V} {u:Value} (ry:A8 y u) :
 KV (kvs.map fun kv=>if kv.1=k then (kv.1,y) else kv) (vs.map fun kv=>if kv.1=k then (kv.1,u) else kv):=by
 unfold KV at r ⊢
 induction r with
 | nil=>exact .nil
 | @cons p q ps qs h t ih =>
   rw [map_cons,map_cons]
   refine .cons ?_ ih
   obtain ⟨h1,h2⟩:=h
   by_cases e:p.1=k
   ·rw [if_pos e,if_pos (h1.symm.trans e)];exact ⟨h1,ry⟩
   ·rw [if_neg e,if_neg (fun z=>e (h1.trans z))];exact ⟨h1,h2⟩
theorem KV.put {kvs:List (κ × V)} {vs:List (κ × Value)} (r:KV kvs vs) (k:κ) {y:V} {u:Value} (ry:A8 y u):KV (Ck kvs k y) (stored vs k u):=by
 unfold Ck stored
 rw [r.any k]
 by_cases e:(vs.any fun kv=>decide (kv.1=k))=true
 ·rw [if_pos e,if_pos e];exact r.repl k ry
 ·rw [if_neg e,if_neg e];exact Paired.snoc r ⟨rfl,ry⟩
theorem KV.length {kvs:List (κ × V)} {vs:List (κ × Value)} (r:KV kvs vs):kvs.length=vs.length:=Paired.length r
end
theorem Hh {P:Program} {w:World} {k:Key} {u:Value} (r:A8 (kV k) u):(Bw P w).is k u=true:=by
 cases k with
 | inl i=>obtain ⟨t,e⟩:=(show ∃t,u=Value.int i t from r);subst e;exact Ke P w i t
 | inr x=>obtain ⟨t,e⟩:=(show ∃t,u=Value.str x t from r);subst e;exact JD P w x t
theorem Il {P:Program} {w:World}:∀{ks:List Key} {us:List Value},A6 (ks.map kV) us->ItemsAre (Bw P w) ks us
 | [],_,r=>by rw [map_nil] at r;cases r;exact .nil
 | k :: ks,_,r=>by
   rw [map_cons] at r
   cases r with
   | cons h t=>exact .cons (Hh h) (Il t)
abbrev KT (H:Hp):List (List Key × V)->List (List Key × Addr × Value)->Prop:=Paired fun p q=>p.1=q.1/\H q.2.1=some (.tup (p.1.map kV))/\A8 p.2 q.2.2
theorem KT.val {H:Hp} {kvs:List (List Key × V)} {xs:List (List Key × Addr × Value)} (r:KT H kvs xs) (k:List Key):DV (Cn kvs k) ((atKey xs k).map (·.2)):=by
 induction r with
 | nil=>exact True.intro
 | @cons p q ps qs h t ih =>
   obtain ⟨h1,_,h2⟩:=h
   by_cases e:p.1=k
   ·have e':q.1=k:=h1.symm.trans e
    have b:atKey (q :: qs) k=some q.2:=by simp [atKey,List.find?_cons,e']
    rw [Fc e,b];exact h2
   ·have e':¬ q.1=k:=fun z=>e (h1.trans z)
    have b:atKey (q :: qs) k=atKey qs k:=by simp [atKey,List.find?_cons,e']
    rw [EM e,b];exact ih
theorem KT.repl {H:Hp} {kvs:List (List Key × V)} {xs:List (List Key × Addr × Value)} (r:KT H kvs xs) (k:List Key) {y:V} {u:Value} (ry:A8 y u) :
 KT H (kvs.map fun kv=>if kv.1=k then (kv.1,y) else kv) (xs.map (putAt k u)):=by
 induction r with
 | nil=>exact .nil
 | @cons p q ps qs h t ih =>
   rw [map_cons,map_cons]
   refine .cons ?_ ih
   obtain ⟨h1,h2,h3⟩:=h
   unfold putAt
   by_cases e:p.1=k
   ·rw [if_pos e,if_pos (h1.symm.trans e)];exact ⟨h1,h2,ry⟩
   ·rw [if_neg e,if_neg (fun z=>e (h1.trans z))];exact ⟨h1,h2,h3⟩
theorem KT.put {H:Hp} {kvs:List (List Key × V)} {xs:List (List Key × Addr × Value)} (r:KT H kvs xs) (k:List Key) {b:Addr} {y:V} {u:Value} (hb:H b=some (.tup (k.map kV))) (ry:A8 y u) :
 KT H (Ck kvs k y) (storedH xs k b u):=by
 have e:(kvs.any fun kv=>decide (kv.1=k))=(atKey xs k).isSome:=by
  rw [Eb,(r.val k).isSome_eq,Option.isSome_map]
 unfold Ck storedH
 rw [e]
 by_cases q:(atKey xs k).isSome=true
 ·rw [if_pos q,if_pos q];exact r.repl k ry
 ·rw [if_neg q,if_neg q];exact Paired.snoc r ⟨rfl,hb,ry⟩
theorem KT.keeps {H H':Hp} {kvs:List (List Key × V)} {xs:List (List Key × Addr × Value)} (r:KT H kvs xs) (ht:∀b ys,H b=some (.tup ys)->H' b=some (.tup ys)):KT H' kvs xs :=
 Paired.mapP r fun _ _ z=>⟨z.1,ht _ _ z.2.1,z.2.2⟩
section
variable {P:Program} {w:World} {H:Hp} {h:Heap} {a:Addr}
theorem Qj {u:HO} (ok:HOk P w H h) (e:Rd H a u):Ba P w H h a u:=e.ok ok
theorem He {kvs:List (Key × V)} (ok:HOk P w H h) (e:Rd H a (.dK kvs)):kvs.length<=sizeLine/\(a == sysModules)=false/\∃vs,KV kvs vs/\h.DictOf (Bw P w) a vs :=
 show Ba P w H h a (.dK kvs) from Qj ok e
theorem Qg {kvs:List (Key × V)} (ok:HOk P w H h) (e:H a=some (.dK kvs)):kvs.length<=sizeLine/\(a == sysModules)=false/\∃vs,KV kvs vs/\h.DictOf (Bw P w) a vs:=He ok (.inl e)
theorem Fz {ks:List Key} (ok:HOk P w H h) (e:H a=some (.tup (ks.map kV))):(tupleKind (Bw P w)).is h ks a:=by
 obtain ⟨_,its,r,o,h1,h2,n,h3⟩:=(show Ba P w H h a (.tup (ks.map kV)) from ok a _ e)
 exact ⟨o,its.toArray,n,h1,h2,h3,by simpa using Il r⟩
theorem Gg {kvs:List (List Key × V)} (ok:HOk P w H h) (e:Rd H a (.dT kvs)):kvs.length<=sizeLine/\(a == sysModules)=false /\
 ∃xs,KT H kvs xs/\h.DictOfH (tupleKind (Bw P w)) a xs:=by
 obtain ⟨z,y,xs,r,o,es,ep,h1,h2,h3,h4,h5⟩:=(show Ba P w H h a (.dT kvs) from Qj ok e)
 refine ⟨z,y,xs,r,o,es,ep,h1,h2,h3,h4,fun x hx=>?_,h5⟩
 have all:∀{l:List (List Key × V)} {m:List (List Key × Addr × Value)},KT H l m->∀x∈m,(tupleKind (Bw P w)).is h x.1 x.2.1:=by
  intro l m q
  induction q with
  | nil=>intro x hx;exact nomatch hx
  | @cons p q ps qs hq t ih =>
    intro x hx
    rcases mem_cons.mp hx with e | hx
    ·subst e
     exact Fz ok (by rw [<- hq.1];exact hq.2.1)
    ·exact ih x hx
 exact all r x hx
theorem Rh {kvs:List (List Key × V)} (ok:HOk P w H h) (e:H a=some (.dT kvs)):kvs.length<=sizeLine/\(a == sysModules)=false /\
 ∃xs,KT H kvs xs/\h.DictOfH (tupleKind (Bw P w)) a xs:=Gg ok (.inl e)
end
def DE (H:Hp) (a:Addr) (y:V) (r:Option V):Prop :=
 (∃kvs k,Rd H a (.dK kvs)/\y=kV k/\r=Cn kvs k)\/∃kvs k b,Rd H a (.dT kvs)/\y=.ref b/\H b=some (.tup (k.map kV))/\r=Cn kvs k
def Jn (H:Hp) (a:Addr) (y v:V) (H':Hp):Prop :=
 (∃kvs k,H a=some (.dK kvs)/\y=kV k/\kvs.length < sizeLine/\H'=upd H a (.dK (Ck kvs k v))) \/
 ∃kvs k b,H a=some (.dT kvs)/\y=.ref b/\H b=some (.tup (k.map kV))/\kvs.length < sizeLine/\H'=upd H a (.dT (Ck kvs k v))
theorem DE.k {H:Hp} {a:Addr} {kvs:List (Key × V)} {k:Key} (e:H a=some (.dK kvs)):DE H a (kV k) (Cn kvs k):=.inl ⟨kvs,k,.inl e,rfl,rfl⟩
theorem DE.t {H:Hp} {a b:Addr} {kvs:List (List Key × V)} {k:List Key} (e:H a=some (.dT kvs)) (eb:H b=some (.tup (k.map kV))):DE H a (.ref b) (Cn kvs k):=.inr ⟨kvs,k,b,.inl e,rfl,eb,rfl⟩
theorem Jn.k {H:Hp} {a:Addr} {kvs:List (Key × V)} {k:Key} {v:V} (e:H a=some (.dK kvs)) (hl:kvs.length < sizeLine):Jn H a (kV k) v (upd H a (.dK (Ck kvs k v))):=.inl ⟨kvs,k,e,rfl,hl,rfl⟩
theorem Jn.t {H:Hp} {a b:Addr} {kvs:List (List Key × V)} {k:List Key} {v:V} (e:H a=some (.dT kvs)) (eb:H b=some (.tup (k.map kV))) (hl:kvs.length < sizeLine) :
 Jn H a (.ref b) v (upd H a (.dT (Ck kvs k v))):=.inr ⟨kvs,k,b,e,rfl,eb,hl,rfl⟩
section
variable {X:Cx} {pins:List (Addr × Obj)} {σ:St} {H:Hp} {s:Shared} {a:Addr} {y v:V} {u r:Value} {o:Option V} {A:Around} {E:Value->Shared->Prop}
theorem Inv.big (I:Inv X pins σ H s):sysModules < s.heap.objs.size:=by
 have h:mainGlobals < s.heap.objs.size:=(I.mod.glob.keeps I.bk).lt
 exact Nat.lt_trans (by decide) h
theorem Na {Q:Value->Shared->Prop} (hu:A.units+1 < cLine) (I:Inv X pins σ H s) (g:DE H a y (some v)) (ry:A8 y u) (h:∀w' s',Inv X pins σ H s'->A8 v w'->Q w' s') :
 wpAny (model X.prog X.w) A (getItem (.ref a) u) Q E s:=by
 rcases g with ⟨kvs,k,e,ey,l⟩ | ⟨kvs,k,b,e,ey,eb,l⟩
 ·subst ey
  obtain ⟨z,hd,vs,rel,dd⟩:=He I.hok e
  obtain ⟨w',hw,rw'⟩:=DV.some_of (v:=v) (o:=valueAt vs k) (by rw [l];exact rel.val k)
  exact wpAny_getItem_of (Hh ry) dd.mapOf hw (h w' _ (I.tok _) rw')
 ·subst ey
  cases (show u=Value.ref b from ry)
  obtain ⟨z,hd,xs,rel,dd⟩:=Gg I.hok e
  obtain ⟨w',hw,rw'⟩:=DV.some_of (v:=v) (o:=(atKey xs k).map (·.2)) (by rw [l];exact rel.val k)
  obtain ⟨p,hp,hp2⟩:=Option.map_eq_some_iff.mp hw
  refine wpAny_getItem_heap (tupleKind_room_in1 hu) (Fz I.hok eb) dd hp ?_
  rw [hp2]
  exact h w' _ (I.tok _) rw'
theorem Sc {Q:Value->Shared->Prop} (hu:A.units+1 < cLine) (I:Inv X pins σ H s) (g:DE H a y o) (ry:A8 y u) (h:∀s',Inv X pins σ H s'->Q (.bool o.isSome) s') :
 wpAny (model X.prog X.w) A (compareOp .In u (.ref a)) Q E s:=by
 rcases g with ⟨kvs,k,e,ey,l⟩ | ⟨kvs,k,b,e,ey,eb,l⟩
 ·subst ey
  obtain ⟨z,hd,vs,rel,dd⟩:=He I.hok e
  refine wpAny_in_of (Hh ry) hd dd.mapOf ?_
  rw [<- (rel.val k).isSome_eq,<- l]
  exact h _ (I.tok _)
 ·subst ey
  cases (show u=Value.ref b from ry)
  obtain ⟨z,hd,xs,rel,dd⟩:=Gg I.hok e
  refine wpAny_in_heap (tupleKind_room_in1 hu) (Fz I.hok eb) hd dd ?_
  have q:=(rel.val k).isSome_eq
  rw [Option.isSome_map] at q
  rw [<- q,<- l]
  exact h _ (I.tok _)
theorem ON {Q:Value->Shared->Prop} (hu:A.units+1 < cLine) (I:Inv X pins σ H s) (g:DE H a y o) (ry:A8 y u) (h:∀s',Inv X pins σ H s'->Q (.bool (!o.isSome)) s') :
 wpAny (model X.prog X.w) A (compareOp .NotIn u (.ref a)) Q E s:=by
 rcases g with ⟨kvs,k,e,ey,l⟩ | ⟨kvs,k,b,e,ey,eb,l⟩
 ·subst ey
  obtain ⟨z,hd,vs,rel,dd⟩:=He I.hok e
  refine wpAny_notIn_of (Hh ry) hd dd.mapOf ?_
  rw [<- (rel.val k).isSome_eq,<- l]
  exact h _ (I.tok _)
 ·subst ey
  cases (show u=Value.ref b from ry)
  obtain ⟨z,hd,xs,rel,dd⟩:=Gg I.hok e
  refine wpAny_notIn_heap (tupleKind_room_in1 hu) (Fz I.hok eb) hd dd ?_
  have q:=(rel.val k).isSome_eq
  rw [Option.isSome_map] at q
  rw [<- q,<- l]
  exact h _ (I.tok _)
theorem Jg {h':Heap} {t':Nat} {ob:HO} (I:Inv X pins σ H s) (mu:Mut (H a)) (hs:Heap.SameBut a s.heap h') (he:∃q,h'.get? a=some q) (new:Ba X.prog X.w (upd H a ob) h' a ob) :
 Inv X pins σ (upd H a ob) { s with heap:=h',toks:=t' } :=
 I.write (x:=a) (e:=a) mu (.inl rfl) (fun b q hb z=>(hs.2 b hb).trans z) he new
theorem Oa {P:Program} {w:World} {H':Hp} {h':Heap} {kvs:List (Key × V)} {vs:List (Key × Value)} (z:kvs.length<=sizeLine) (hd:(a == sysModules)=false) (rel:KV kvs vs) (dd:h'.DictOf (Bw P w) a vs) :
 Ba P w H' h' a (.dK kvs):=⟨z,hd,vs,rel,dd⟩
theorem M4 {H':Hp} {Q:Unit->Shared->Prop} (hu:A.units+1 < cLine) (I:Inv X pins σ H s) (g:Jn H a y v H') (ry:A8 y u) (rv:A8 v r) (h:∀s',Inv X pins σ H' s'->Q () s') :
 wpAny (model X.prog X.w) A (setItem (.ref a) u r) Q E s:=by
 rcases g with ⟨kvs,k,e,ey,l,eH⟩ | ⟨kvs,k,b,e,ey,eb,l,eH⟩
 ·subst ey eH
  obtain ⟨z,hd,vs,rel,dd⟩:=Qg I.hok e
  have hz:vs.length<=sizeLine:=by rw [<- rel.length];exact z
  have hl:(Ck kvs k v).length<=sizeLine:=by have:=Ei kvs k v;omega
  refine wpAny_setItem_pairs (hsz:=hz) (Hh ry) dd fun h' dd' hs=>h _ ?_
  have he:∃q,h'.get? a=some q:=let ⟨q,_,_,hq,_⟩:=dd';⟨q,hq⟩
  exact Jg I (by rw [e];exact True.intro) hs he (Oa hl hd (rel.put k rv) dd')
 ·subst ey eH
  cases (show u=Value.ref b from ry)
  obtain ⟨z,hd,xs,rel,dd⟩:=Rh I.hok e
  have hz:xs.length<=sizeLine:=by rw [<- Paired.length rel];exact z
  have hl:(Ck kvs k v).length<=sizeLine:=by have:=Ei kvs k v;omega
  refine wpAny_setItem_heap (hsz:=hz) (tupleKind_room_in1 hu) (Fz I.hok eb) dd fun h' dd' hs=>h _ ?_
  obtain ⟨q,es,ep,hq,h2,h3,h4,_,h5⟩:=dd'
  refine Jg I (by rw [e];exact True.intro) hs ⟨q,hq⟩ ⟨hl,hd,_,(rel.put k eb rv).keeps fun c ys ec=>?_,q,es,ep,hq,h2,h3,h4,h5⟩
  rw [Ai (DZ ec e (fun z=>nomatch z))]
  exact ec
end
section
variable {X:Cx} {pins:List (Addr × Obj)} {σ:St} {H:Hp} {s:Shared} {a:Addr} {kvs:List (Key × V)} {k:Key} {u:Value} {A:Around} {E:Value->Shared->Prop}
end
def Rv (i:Expr):Prop:=∀ov iv,subscripted i false ov iv=operate [ov,iv] (getItem ov iv)
theorem PF {prog:Program} {w:World} {A:Around} {E:Value->Shared->Prop} {s:Shared} {env:Env} {value slice:Expr} {pos:Pos} {T id:String} {Q:Value->Shared->Prop}
 (hl:typeLookup (.type T) "__getitem__"=pure (some (.builtin id))) (hs:Rv slice)
 (h:wpAny (model prog w) A (eval value env) (fun o s₁=>wpAny (model prog w) A (eval slice env) (fun i s₂=>s₂.TypeIs o T/\wpAny (model prog w) A (getItem o i) Q E s₂) E s₁) E s) :
 wpAny (model prog w) A (eval (.Subscript value slice pos) env) Q E s:=by
 refine Subscript_ (wpAny_mono h (fun o s₁ h₁=>wpAny_mono h₁ (fun i s₂ h₂=>?_) fun _ _ x=>x) fun _ _ x=>x)
 obtain ⟨hT,h₂⟩:=h₂
 unfold subscriptTail
 refine wpAny_bind ?_
 rw [getitemInPython_of_ne hT.not_modules]
 refine wpAny_bind (wpAny_specialOf hT hl ?_)
 have fin:wpAny (model prog w) A (subscripted slice false o i) (fun r s₃=>wpAny (model prog w) A (letTemporaryGo value o r >>= fun _=>pure r) Q E s₃) E s₂:=by
  rw [hs o i]
  exact wpAny_operating (wpAny_mono h₂ (fun r s₃ h₃=>wpAny_bind (wpAny_letTemporaryGo (wpAny_pure h₃))) fun _ _ x=>x)
 first
  | exact wpAny_pure (wpAny_bind fin)
  | exact wpAny_bind (wpAny_pure (wpAny_bind fin))
  | exact wpAny_bind fin
theorem JJ {X:Cx} {pins:List (Addr × Obj)} {σ:St} {H:Hp} {s:Shared} {a:Addr} {y:V} {o:Option V} (I:Inv X pins σ H s) (g:DE H a y o):s.TypeIs (.ref a) "dict":=by
 rcases g with ⟨kvs,k,e,_,_⟩ | ⟨kvs,k,b,e,_,_,_⟩
 ·obtain ⟨_,_,vs,_,dd⟩:=He I.hok e
  exact dd.typeIs
 ·obtain ⟨_,_,xs,_,dd⟩:=Gg I.hok e
  exact dd.typeIs
def RD (td ty:TE):TE:=fun σ H Q=>td σ H fun x H1=>ty σ H1 fun y H2=>∃a v,x=.ref a/\DE H2 a y (some v)/\Q v H2
def Rz (td ty tv:TE):TS:=fun D σ H=>tv σ H fun v H1=>td σ H1 fun x H2=>ty σ H2 fun y H3=>∃a H4,x=.ref a/\Jn H3 a y v H4/\D.nx σ H4
section
variable {X:Cx} {o i e value:Expr} {pos pos' tpos:Pos} {td ty tv:TE}
theorem PC (hu:X.A.units+1 < cLine) (ho:PE X o td) (hi:PE X i ty) (hs:Rv i):PE X (.Subscript o i pos) (RD td ty):=by
 intro pins s σ H Q I h
 refine PF PySem.F.slot_dict_getitem.lookup hs (thn (ho pins s σ H _ I h) fun u s1 ⟨x,H1,I1,rx,q1⟩=>thn (hi pins s1 σ H1 _ I1 q1) fun iv s2 ⟨y,H2,I2,ry,a,v,ex,g,q2⟩=>?_)
 subst ex
 obtain rfl:u=Value.ref a:=rx
 exact ⟨JJ I2 g,Na hu I2 g ry fun w' s3 I3 rw'=>⟨v,H2,I3,rw',q2⟩⟩
theorem LG (hu:X.A.units+1 < cLine) (ho:PE X o td) (hi:PE X i ty) (hv:PE X value tv) (hs:swapsWith value (some (.Subscript o i pos')) pos.line X.env=pure false) :
 PS X (.Assign [.Subscript o i pos'] value pos) (Rz td ty tv):=by
 intro pins s σ H D I h
 refine wpAny_Assign_Subscript (thn (hv pins s σ H _ I h) fun r s1 ⟨v,H1,I1,rv,q1⟩=>thn (ho pins s1 σ H1 _ I1 q1) fun u s2 ⟨x,H2,I2,rx,q2⟩=>thn (hi pins s2 σ H2 _ I2 q2) fun iv s3 ⟨y,H3,I3,ry,a,H4,ex,g,q3⟩=>?_) hs
 subst ex
 obtain rfl:u=Value.ref a:=rx
 exact M4 hu I3 g ry rv fun s4 I4=>⟨σ,H4,I4,q3⟩
end
theorem NO {P:Program} {w:World} {H:Hp} (h:Heap) (hb:sysModules < h.objs.size):Ba P w H (h.push { cls:=.type "dict",data:=.dict #[] }) h.objs.size (.dK []) :=
 ⟨Nat.zero_le _,beq_eq_false_iff_ne.mpr (Ne.symm (Nat.ne_of_lt hb)),[],.nil,Heap.DictOf.new h⟩
theorem O9 {P:Program} {w:World} {H:Hp} (h:Heap) (hb:sysModules < h.objs.size):Ba P w H (h.push { cls:=.type "dict",data:=.dict #[] }) h.objs.size (.dT []) :=
 ⟨Nat.zero_le _,beq_eq_false_iff_ne.mpr (Ne.symm (Nat.ne_of_lt hb)),[],.nil,_,#[],0,Heap.get?_push_size _ rfl,⟨rfl,rfl,rfl⟩,rfl,rfl,nodup_nil⟩
def Q2:TE:=fun _ H Q=>∀p,H p=none->Q (.ref p) (upd H p (.dT []))
section
variable {X:Cx} {pos:Pos}
theorem N5:PE X (.Dict [] [] pos) Q2:=fun pins s σ H Q I h =>
 wpAny_Dict_empty ⟨.ref s.heap.objs.size,_,I.laid (a:=s.heap.objs.size) (o:=.dT []) (t':=s.toks) (fun _ _ q=>Heap.get?_push_of_some _ q) (Nat.le_refl _) (O9 s.heap I.big),rfl,h _ (I.hok.fresh (Nat.le_refl _))⟩
end
def KZ:List (TE × TE)->St->Hp->(List (V × V)->Hp->Prop)->Prop
 | [],_,H,Q=>Q [] H
 | (tk,tv) :: r,σ,H,Q=>tk σ H fun x H1=>tv σ H1 fun y H2=>KZ r σ H2 fun ps H3=>Q ((x,y) :: ps) H3
abbrev VV:List (V × V)->List (Value × Value)->Prop:=Paired fun p q=>A8 p.1 q.1/\A8 p.2 q.2
def PPs (X:Cx) (pos:Pos) (keys:List (Option Expr)) (values:List Expr) (trs:List (TE × TE)):Prop :=
 ∀(pins:List (Addr × Obj)) (s:Shared) (σ:St) (H:Hp) (Q:List (V × V)->Hp->Prop),Inv X pins σ H s->KZ trs σ H Q ->
  wpAny (model X.prog X.w) X.A (evalPairs (pairTrees keys values X.env pos)) (fun vs s'=>∃ps H',Inv X pins σ H' s'/\VV ps vs/\Q ps H') X.xe s
theorem Pl {X:Cx} {pos:Pos}:PPs X pos [] [] []:=fun pins s σ H Q I h=>pairTrees_nil_walk ⟨[],H,I,.nil,h⟩
theorem OA {X:Cx} {pos:Pos} {k v:Expr} {ks:List (Option Expr)} {vs:List Expr} {tk tv:TE} {trs:List (TE × TE)} (hk:PE X k tk) (hv:PE X v tv) (hr:PPs X pos ks vs trs) :
 PPs X pos (some k :: ks) (v :: vs) ((tk,tv) :: trs):=fun pins s σ H Q I h =>
 pairTrees_cons_walk (thn (hk pins s σ H _ I h) fun u s1 ⟨x,H1,I1,rx,q1⟩=>thn (hv pins s1 σ H1 _ I1 q1) fun w2 s2 ⟨y,H2,I2,ry,q2⟩ =>
  thn (hr pins s2 σ H2 _ I2 q2) fun ws s3 ⟨ps,H3,I3,rel,q3⟩=>⟨(x,y) :: ps,H3,I3,.cons ⟨rx,ry⟩ rel,q3⟩)
def FF (kvs more:List (Key × V)):List (Key × V):=more.foldl (fun acc kv=>Ck acc kv.1 kv.2) kvs
theorem KV.merge:∀{more:List (Key × V)} {rs:List (Key × Value)} {kvs:List (Key × V)} {vs:List (Key × Value)},KV more rs->KV kvs vs->KV (FF kvs more) (merged vs rs):=by
 intro more rs kvs vs r
 unfold KV at r
 induction r generalizing kvs vs with
 | nil=>intro q;exact q
 | @cons p q ps qs h t ih =>
   intro r0
   have e:KV (Ck kvs p.1 p.2) (stored vs q.1 q.2):=by
    have:=r0.put p.1 h.2
    rw [<- h.1];exact this
   exact ih e
theorem E9:∀(more kvs:List (Key × V)),(FF kvs more).length<=kvs.length+more.length
 | [],kvs=>by show kvs.length<=kvs.length+0;omega
 | p :: r,kvs=>by
   have h1:=E9 r (Ck kvs p.1 p.2)
   have h2:=Ei kvs p.1 p.2
   show (FF (Ck kvs p.1 p.2) r).length<=_
   rw [length_cons];omega
theorem GV {P:Program} {w:World}:∀{kvs:List (Key × V)} {ws:List (Value × Value)},VV (kvs.map fun kv=>(kV kv.1,kv.2)) ws->∃rs,Carries (Bw P w) ws rs/\KV kvs rs
 | [],_,r=>by rw [map_nil] at r;cases r;exact ⟨[],True.intro,.nil⟩
 | p :: kvs,_,r=>by
   rw [map_cons] at r
   cases r with
   | @cons a b as bs h t =>
     obtain ⟨rs,c,q⟩:=GV (P:=P) (w:=w) t
     obtain ⟨b1,b2⟩:=b
     exact ⟨(p.1,b2) :: rs,⟨Hh h.1,rfl,c⟩,.cons ⟨rfl,h.2⟩ q⟩
def Rs (trs:List (TE × TE)):TE:=fun σ H Q=>∀p,H p=none->KZ trs σ (upd H p (.dK [])) fun ps H2=>H2 p=some (.dK [])/\∃kvs:List (Key × V),ps=kvs.map (fun kv=>(kV kv.1,kv.2))/\kvs.length<=15/\Q (.ref p) (upd H2 p (.dK (FF [] kvs)))
theorem OM {X:Cx} {pos:Pos} {keys:List (Option Expr)} {values:List Expr} {trs:List (TE × TE)} (h:PPs X pos keys values trs) (hall:keys.all (·.isSome)=true) (hl:keys.length=values.length) (h0:keys≠[])
 (h15:keys.length<=15):PE X (.Dict keys values pos) (Rs trs):=by
 intro pins s σ H Q I q
 have hn:=I.hok.fresh (Nat.le_refl s.heap.objs.size)
 have I1:=I.laid (a:=s.heap.objs.size) (o:=.dK []) (h':=s.heap.push { cls:=.type "dict",data:=.dict #[] }) (t':=s.toks) (fun _ _ q=>Heap.get?_push_of_some _ q) (Nat.le_refl _) (NO s.heap I.big)
 refine wpAny_Dict_walk (knd:=Bw X.prog X.w) hall hl h0 h15 (thn (h pins _ σ _ _ I1 (q _ hn)) fun ws s2 ⟨ps,H2,I2,rel,e,kvs,ep,lk,q2⟩=>?_)
 subst ep
 obtain ⟨rs,c,rk⟩:=GV (P:=X.prog) (w:=X.w) rel
 obtain ⟨z,hd,vs0,r0,dd⟩:=Qg I2.hok e
 cases r0
 refine ⟨rs,c,dd,fun h' dd' hs=>⟨.ref s.heap.objs.size,_,?_,rfl,q2⟩⟩
 have hz:(FF [] kvs).length<=sizeLine:=by
  have h1:=E9 kvs []
  rw [length_nil] at h1
  rw [sizeLine_eq];omega
 have he:∃q,h'.get? s.heap.objs.size=some q:=let ⟨q,_,_,hq,_⟩:=dd';⟨q,hq⟩
 exact Jg I2 (by rw [e];exact True.intro) hs he (Oa hz hd (rk.merge .nil) dd')
structure M2 (X:Cx) (o:Expr) (m:Str) (apos:Pos) (e f:Expr) (cpos:Pos):Prop where
 base:attributeBase o m X.env (eval o X.env)=eval o X.env
 few:((backTo cpos (starEach [e,f] X.env)).all (fun x=>!x.1) && (backToKw cpos (keywordEach [] X.env)).all (fun x=>x.1.isSome)
  && decide (([e,f]:List Expr).length+([]:List Keyword).length+(if ([]:List Keyword).isEmpty then 0 else 1) < 30))=true
 line:(apos.endLine == cpos.line)=true
 trees:backTo cpos (starEach [e,f] X.env)=[(false,eval e X.env),(false,eval f X.env)]
def IsD (H:Hp) (a:Addr):Prop:=(∃kvs,Rd H a (.dK kvs))\/∃kvs,Rd H a (.dT kvs)
theorem Q3 {X:Cx} {pins:List (Addr × Obj)} {σ:St} {H:Hp} {s:Shared} {a:Addr} (I:Inv X pins σ H s) (d:IsD H a) :
 s.TypeIs (.ref a) "dict"/\(∀b,Value.ref a=.ref b->∃ob,s.heap.get? b=some ob/\ob.dict=none)/\(a == sysModules)=false:=by
 rcases d with ⟨kvs,e⟩ | ⟨kvs,e⟩
 ·obtain ⟨_,hd,vs,_,dd⟩:=He I.hok e
  refine ⟨dd.typeIs,fun b q=>?_,hd⟩
  cases q
  obtain ⟨ob,_,_,h1,h2,_⟩:=dd
  exact ⟨ob,h1,h2.2.1⟩
 ·obtain ⟨_,hd,xs,_,dd⟩:=Gg I.hok e
  refine ⟨dd.typeIs,fun b q=>?_,hd⟩
  cases q
  obtain ⟨ob,_,_,h1,h2,_⟩:=dd
  exact ⟨ob,h1,h2.2.1⟩
section
variable {X:Cx} {pins:List (Addr × Obj)} {σ:St} {H:Hp} {s:Shared} {a:Addr} {y d:V} {u r:Value} {o:Option V} {A:Around} {E:Value->Shared->Prop}
theorem QJ {Q:Value->Shared->Prop} (hu:A.units+1 < cLine) (I:Inv X pins σ H s) (g:DE H a y o) (ry:A8 y u) (rd:A8 d r) (h:∀w' s',Inv X pins σ H s'->A8 (o.getD d) w'->Q w' s') :
 wpAny (model X.prog X.w) A (call (.builtin "dict.get") [.ref a,u,r]) Q E s:=by
 rcases g with ⟨kvs,k,e,ey,l⟩ | ⟨kvs,k,b,e,ey,eb,l⟩
 ·subst ey
  obtain ⟨z,hd,vs,rel,dd⟩:=He I.hok e
  refine call_meetsIn PySem.F.slot_dict_get dd.typeIs PySem.F.entry_dict_get (PySem.F.args_dict_get_3 _ _ _) (meets_dict_get_default (Bw X.prog X.w) a (Hh ry) hd r) ⟨_,dd.mapOf,h _ _ (I.tok _) ?_⟩
  rw [l]
  exact (rel.val k).getD rd
 ·subst ey
  cases (show u=Value.ref b from ry)
  obtain ⟨z,hd,xs,rel,dd⟩:=Gg I.hok e
  refine call_meetsIn PySem.F.slot_dict_get dd.typeIs PySem.F.entry_dict_get (PySem.F.args_dict_get_3 _ _ _) (meetsH_dict_get_default (tupleKind (Bw X.prog X.w)) a b hd r) ⟨tupleKind_room_in1 hu,k,xs,Fz I.hok eb,dd,h _ _ (I.tok _) ?_⟩
  rw [l]
  exact (rel.val k).getD rd
end
def Q5 (td ty tx:TE):TE:=fun σ H Q=>td σ H fun x H1=>∃a,x=.ref a/\IsD H1 a/\ty σ H1 fun y H2=>tx σ H2 fun z H3=>∃o,DE H3 a y o/\Q (o.getD z) H3
section
variable {X:Cx} {o e f:Expr} {apos cpos:Pos} {td ty tx:TE}
theorem JX (hu:X.A.units+1 < cLine) (ho:PE X o td) (he:PE X e ty) (hf:PE X f tx) (m:M2 X o "get" apos e f cpos):PE X (.Call (.Attribute o "get" apos) [e,f] [] cpos) (Q5 td ty tx):=by
 intro pins s σ H Q I h
 refine wpAny_Call_method m.base m.few m.line PySem.F.plainAttrs_dict PySem.F.slot_dict_get PySem.F.type_dict_get (thn (ho pins s σ H _ I h) fun u s1 ⟨x,H1,I1,rx,a,ex,d,q1⟩=>?_)
 subst ex
 obtain rfl:u=Value.ref a:=rx
 obtain ⟨t1,t2,_⟩:=Q3 I1 d
 refine ⟨t1,t2,?_⟩
 rw [m.trees]
 refine Calls.callWith_builtin rfl (Calls.evalArgs_plain (Calls.spliced_cons (thn (he pins s1 σ H1 _ I1 q1) fun iv s2 ⟨y,H2,I2,ry,q2⟩ =>
  Calls.spliced_cons (thn (hf pins s2 σ H2 _ I2 q2) fun fv s3 ⟨z,H3,I3,rz,ov,g,q3⟩=>Calls.spliced_nil ?_))))
 exact QJ hu I3 g ry rz fun w' s4 I4 rw'=>⟨_,H3,I4,rw',q3⟩
end
section
variable {X:Cx} {pins:List (Addr × Obj)} {σ:St} {H:Hp} {s:Shared} {a:Addr} {kvs:List (Key × V)} {A:Around} {E:Value->Shared->Prop}
end
section
variable {X:Cx} {pins:List (Addr × Obj)} {σ:St} {H:Hp} {s:Shared} {a:Addr} {y:V} {u:Value} {A:Around} {E:Value->Shared->Prop}
end
end L2
namespace L2
open PySem PySem.Spec PyProof.Rows
section
variable {κ:Type} [DecidableEq κ]
theorem Nt {kvs:List (κ × V)} {k:κ} (h:Cn kvs k=none):¬ k∈kvs.map (·.1):=by
 intro m
 obtain ⟨p,hp,e⟩:=mem_map.mp m
 have q:(kvs.any fun kv=>decide (kv.1=k))=true:=any_eq_true.mpr ⟨p,hp,decide_eq_true e⟩
 rw [Eb,h] at q
 exact absurd q (by simp)
end
end L2
namespace L2
open PySem PySem.Spec PyProof.Rows
def Sz (n:Nat) (x:Int):Prop:=x.natAbs < 2 ^ n
section
variable {m n:Nat} {x y:Int}
theorem Sz.bits (h:Sz n x):Builtin.Int.intBits x<=n:=intBits_le_iff.mpr h
theorem Sz.of_bits (h:Builtin.Int.intBits x<=n):Sz n x:=intBits_le_iff.mp h
theorem Sz.mono (h:Sz m x) (l:m<=n):Sz n x:=.of_bits (Nat.le_trans h.bits l)
theorem Sz.mul (h:Sz m x) (k:Sz n y):Sz (m+n) (x*y):=.of_bits (intBits_mul_le h.bits k.bits)
theorem Sz.add (h:Sz m x) (k:Sz n y):Sz (max m n+1) (x+y):=.of_bits (intBits_add_le h.bits k.bits)
theorem szd (n:Nat) {x:Int} (h:decide (x.natAbs < 2 ^ n)=true:=by decide +kernel):Sz n x:=(show x.natAbs < 2 ^ n from of_decide_eq_true h)
theorem Ef (h:-(2 ^ n:Nat) < x) (k:x < (2 ^ n:Nat)):Sz n x:=by
 unfold Sz
 generalize 2 ^ n=p at h k ⊢
 omega
end
def Np (i j:Int):Prop:=∃m n,Sz m i/\Sz n j/\m+n<=134217728
theorem Sr {i j:Int} {m n:Nat} (h:Sz m i) (k:Sz n j) (l:decide (m+n<=134217728)=true:=by decide +kernel):Np i j:=⟨m,n,h,k,of_decide_eq_true l⟩
def RL (_ j:Int):Prop:=j≠0/\Sz 9000 j
section
variable {X:Cx}
theorem DK:OpR X (binaryOp .Mult) (rI Np fun i j=>.int (i*j)):=opI fun _ _ _ _ _ _ _ hc q =>
 mul_int q (let ⟨_,_,a,b,c⟩:=hc;IntMulOk.of_le a.bits b.bits c)
theorem Bs:OpR X (binaryOp .FloorDiv) (rI RL fun i j=>.int (i.fdiv j)):=opI fun _ j _ _ _ _ _ hc q =>
 floordiv_int hc.1 q (.inl (PyProof.noPylong_of_log2 ((Nat.log2_lt (by have:=hc.1;omega)).mpr hc.2)))
theorem Eg:Ch X (.builtin "isinstance") (fun xs H Q=>∃x t c b,xs=[x,.ty c]/\DU X.K H x t/\PySem.W.kitOne X.K t (.type c)=some b/\Q (.bl b) H):=by
 intro pins s σ H xs us Q I rv h
 obtain ⟨x,t,c,b,rfl,ty,e,q⟩:=h
 obtain ⟨u,u',rfl,r1,r2⟩:=L8 rv
 cases (show u'=Value.type c from r2)
 exact HN I r1 ty e fun tk=>⟨.bl b,H,I.tok tk,rfl,q⟩
end
section
variable {K:PySem.W.Frag}
theorem JR:PySem.W.kitOne K (.type "int") (.type "int")=some true:=by
 show (if ((Value.type "int") == (Value.type "int"))=true then some true else (if PySem.W.kitMeta "int"=true then (PySem.fastBuiltinMro "int").map (·.contains (Value.type "int")) else none))=some true
 decide +kernel
theorem Ja:PySem.W.kitOne K (.type "int") (.type "bool")=some false:=by
 show (if ((Value.type "int") == (Value.type "bool"))=true then some true else (if PySem.W.kitMeta "bool"=true then (PySem.fastBuiltinMro "int").map (·.contains (Value.type "bool")) else none))=some false
 decide +kernel
theorem E7:PySem.W.kitOne K (.type "bool") (.type "bool")=some true:=by
 show (if ((Value.type "bool") == (Value.type "bool"))=true then some true else (if PySem.W.kitMeta "bool"=true then (PySem.fastBuiltinMro "bool").map (·.contains (Value.type "bool")) else none))=some true
 decide +kernel
theorem HI:PySem.W.kitOne K (.type "list") (.type "list")=some true:=by
 show (if ((Value.type "list") == (Value.type "list"))=true then some true else (if PySem.W.kitMeta "list"=true then (PySem.fastBuiltinMro "list").map (·.contains (Value.type "list")) else none))=some true
 decide +kernel
end
def RP (c:TT) (t u:TS):TS:=fun D σ H=>∃M:St->Hp->Prop,(c σ H fun b H1=>if b=true then t { D with nx:=M } σ H1 else u { D with nx:=M } σ H1)/\∀σ' H',M σ' H'->D.nx σ' H'
theorem Ec {X:Cx} {c:Expr} {a b:List Stmt} {tc:TT} {t u:TS} {pos:Pos} (hc:PT X c tc) (ha:PSs X a t) (hb:PSs X b u):PS X (.If c a b pos) (RP tc t u):=by
 intro pins s σ H D I h
 obtain ⟨M,h,hM⟩:=h
 have up:∀(f:Flow) (s':Shared),SP X pins { D with nx:=M } f s'->SP X pins D f s':=fun f s' q=>by
  cases f with
  | next =>
    obtain ⟨σ',H',I',q⟩:=q
    exact ⟨σ',H',I',hM σ' H' q⟩
  | ret v=>exact q
  | brk=>exact q
  | cont=>exact q
 refine wpAny_If (thn (hc pins s σ H _ I h) fun d s1 ⟨H1,I1,q1⟩=>?_)
 cases d with
 | true=>exact thn (ha pins s1 σ H1 _ I1 q1) up
 | false=>exact thn (hb pins s1 σ H1 _ I1 q1) up
theorem Qu:NH 10 40:=⟨by decide,by decide,by decide⟩
theorem Av {n:Nat} (h:n<=1000):n<=sizeLine:=Nat.le_of_lt (AW h)
theorem Pf {ns:List Int} {k:Int} (h0:0<=k) (h:k < (ns.length:Int)):∃v:Int,atI (ns.map V.int) k=some (.int v):=by
 have hk:k.toNat < ns.length:=by omega
 have ek:k=((k.toNat:Nat):Int):=by omega
 have q:atI (ns.map V.int) ((k.toNat:Nat):Int)=some (.int ns[k.toNat]):=DN (by rw [List.getElem?_map,List.getElem?_eq_getElem hk] <;> rfl)
 rw [<- ek] at q
 exact ⟨_,q⟩
end L2
namespace L2
open PySem PySem.Spec PyProof.Rows
def Cx.inComp (X:Cx) (Nc:List Str) (sc:Scope) (cl:List (Str × Addr)) (s:Shared) (H:Hp) (ex:List Addr):Cx :=
 { X with N:=Nc,s₀:=s,H₀:=H,env:=compEnvC sc cl s.heap.objs.size X.env,outer:=X.stack,stack:=X.stack,ex:=ex,fn:=fun _=>false,pn:=[],xe:=fun _ _=>False }
theorem Lf {env:Env} {f:Str × NameKind->List (Str × Addr)->Sem (ForInStep (List (Str × Addr)))}
 (hf:∀n k r,f (n,k) r=if (k == NameKind.free)=true then (cellOf env n >>= fun c=>pure (ForInStep.yield ((n,c) :: r))) else pure (ForInStep.yield r)) :
 ∀(l:List (Str × NameKind)) (cs:List (Str × Addr)),(∀x∈l,x.2=.free->∃c,env.cells.lookup x.1=some c) ->
  ∃cl,(forIn l cs f:Sem (List (Str × Addr)))=pure cl/\(∀p∈cl,p∈cs\/env.cells.lookup p.1=some p.2)/\(∀p∈cs,p∈cl)/\∀x∈l,x.2=.free->∃c,(x.1,c)∈cl:=by
 intro l
 induction l with
 | nil =>
   intro cs _
   exact ⟨cs,by rw [forIn_nil],fun p hp=>.inl hp,fun p hp=>hp,fun x hx=>absurd hx (by simp)⟩
 | cons y r ih =>
   intro cs h
   obtain ⟨n,k⟩:=y
   by_cases hk:k=.free
   ·subst hk
    obtain ⟨c,hc⟩:=h (n,.free) (by simp) rfl
    have e:cellOf env n=pure c:=by
     unfold cellOf
     rw [show env.cells.lookup n=some c from hc]
    obtain ⟨cl,h1,h2,h3,h4⟩:=ih ((n,c) :: cs) fun x hx=>h x (mem_cons_of_mem _ hx)
    refine ⟨cl,?_,fun p hp=>?_,fun p hp=>h3 p (mem_cons_of_mem _ hp),fun x hx hf'=>?_⟩
    ·rw [forIn_cons,hf,if_pos (by decide),e]
     simp only [pure_bind]
     exact h1
    ·rcases h2 p hp with z | z
     ·rcases mem_cons.mp z with z | z
      ·subst z;exact .inr hc
      ·exact .inl z
     ·exact .inr z
    ·rcases mem_cons.mp hx with z | z
     ·subst z;exact ⟨c,h3 _ (by simp)⟩
     ·exact h4 x z hf'
   ·have hb:(k == NameKind.free)=false:=by simpa using hk
    obtain ⟨cl,h1,h2,h3,h4⟩:=ih cs fun x hx=>h x (mem_cons_of_mem _ hx)
    refine ⟨cl,?_,h2,h3,fun x hx hf'=>?_⟩
    ·rw [forIn_cons,hf,hb,if_neg (by decide)]
     simp only [pure_bind]
     exact h1
    ·rcases mem_cons.mp hx with z | z
     ·subst z;exact absurd hf' hk
     ·exact h4 x z hf'
theorem GZ {α:Type}:∀{l:List (Str × α)} {n:Str} {c:α},(n,c)∈l->∃d,l.lookup n=some d
 | (k,v) :: r,n,c,h=>by
   rw [lookup_cons]
   cases hx:(n == k) with
   | true=>exact ⟨v,rfl⟩
   | false =>
     rcases mem_cons.mp h with z | z
     ·cases z
      simp at hx
     ·exact GZ z
theorem Dh {env:Env} {sc:Scope} (h:∀x∈sc.names,x.2=.free->∃c,env.cells.lookup x.1=some c) :
 ∃cl,closureFor sc env=pure cl/\(∀y c,cl.lookup y=some c->env.cells.lookup y=some c)/\∀x∈sc.names,x.2=.free->∃c,cl.lookup x.1=some c:=by
 obtain ⟨cl,h1,h2,_,h4⟩:=Lf (env:=env) (f:=fun x r=>if (x.2 == NameKind.free)=true then (cellOf env x.1 >>= fun c=>pure (ForInStep.yield ((x.1,c) :: r))) else pure (ForInStep.yield r)) (fun _ _ _=>rfl) sc.names [] h
 refine ⟨cl,?_,fun y c e=>?_,fun x hx hf=>?_⟩
 ·unfold closureFor
  have:(forIn sc.names ([]:List (Str × Addr)) fun x r=>(match x with | (name,kind)=>if (kind == NameKind.free)=true then (do let __do_lift <- cellOf env name;pure (ForInStep.yield ((name,__do_lift) :: r))) else pure (ForInStep.yield r)):Sem (List (Str × Addr)))=pure cl:=h1
  first
   | (simp only [this,pure_bind];done)
   | (simp only [h1,pure_bind];done)
   | (rw [show (forIn sc.names ([]:List (Str × Addr)) _:Sem (List (Str × Addr)))=pure cl from h1];rfl)
 ·rcases h2 (y,c) (PySem.mem_of_lookup e) with z | z
  ·exact absurd z (by simp)
  ·exact z
 ·obtain ⟨c,hc⟩:=h4 x hx hf
  exact GZ hc
theorem BV (env:Env):∀(names:List (Str × NameKind)) (y:Str),
 (names.map fun (n,k)=>if (k == NameKind.free && env.scope.kind == .function && env.kindOf n == some .cell) then (n,NameKind.cell) else (n,k)).lookup y
  = (names.lookup y).map fun k=>if (k == NameKind.free && env.scope.kind == .function && env.kindOf y == some .cell) then NameKind.cell else k
 | [],y=>rfl
 | (n,k) :: r,y=>by
   have ih:=BV env r y
   rw [map_cons]
   dsimp only
   cases hx:(y == n) with
   | true =>
     have e:y=n:=by simpa using hx
     subst e
     by_cases c:(k == NameKind.free && env.scope.kind == .function && env.kindOf y == some .cell)=true
     ·rw [if_pos c];simp only [lookup_cons,hx,Option.map_some];rw [if_pos c]
     ·rw [if_neg c];simp only [lookup_cons,hx,Option.map_some];rw [if_neg c]
   | false =>
     by_cases c:(k == NameKind.free && env.scope.kind == .function && env.kindOf n == some .cell)=true
     ·rw [if_pos c];simp only [lookup_cons,hx];exact ih
     ·rw [if_neg c];simp only [lookup_cons,hx];exact ih
def Gk (X:Cx) (ifs:List Expr) (t:TT):Prop :=
 ∀(pins:List (Addr × Obj)) (s:Shared) (σ:St) (H:Hp) (Q:Bool->Hp->Prop),Inv X pins σ H s->t σ H Q ->
  wpAny (model X.prog X.w) X.A (forIn ifs true fun c r=>if r=true then do let ok <- isTrue c X.env (eval c X.env);pure (ForInStep.yield ok) else pure (ForInStep.yield r)) (TP X pins σ Q) X.xe s
def RH:TT:=fun _ H Q=>Q true H
theorem yes {σ:St} {H:Hp} {Q:Bool->Hp->Prop} (h:Q true H):RH σ H Q:=h
theorem AF {X:Cx}:Gk X [] RH:=by
 intro pins s σ H Q I h
 rw [forIn_nil]
 exact wpAny_pure ⟨H,I,h⟩
theorem CM {X:Cx} {c:Expr} {t:TT} (hc:PT X c t):Gk X [c] t:=by
 intro pins s σ H Q I h
 rw [forIn_cons,if_pos rfl]
 refine wpAny_bind (wpAny_bind (thn (hc pins s σ H Q I h) fun b s1 q=>wpAny_pure ?_))
 dsimp only
 rw [forIn_nil]
 exact wpAny_pure q
theorem DQ {α:Type} {t:Sem α} {Q Q':α->Shared->Prop} {M:Model} {A:Around} {E:Value->Shared->Prop} {s:Shared} (h:wpAny M A t Q (fun _ _=>False) s) (hQ:∀a s,Q a s->Q' a s):wpAny M A t Q' E s:=wpAny_mono h hQ fun _ _ z=>z.elim
def Ki (wi:TI) (tt:TT) (te:TE):TE:=fun σ H Q=>wi σ H fun J H1=>∀D,H1 D=none->∃W:Nat->Nat->List V->Hp->Prop,(∃m,W 0 m [] (upd H1 D (.lst [])))/\∀i m ys H2,W i m ys H2 ->
 H2 D=some (.lst ys)/\((J.stop i H2/\Q (.ref D) H2)\/(J.go i H2/\ys.length < sizeLine/\∀x H3,J.yld i H2 x H3->tt (σ++[some x]) H3 fun b H4=>if b=true then te (σ++[some x]) H4 fun y H5=>H5 D=some (.lst ys)/\∃m',m' < m/\W (i+1) m' (ys++[y]) (upd H5 D (.lst (ys++[y])))
  else ∃m',m' < m/\W (i+1) m' ys H4))
structure Ee (N Nc:List Str) (x:Str) (sc fsc:Scope):Prop where
 kind:sc.kind=.function
 cell:∀y∈sc.names,y.2≠.cell
 nm:∀y∈sc.names,y.2=.local->sc.names.lookup y.1=some .local
 own:sc.names.lookup x=some .local
 fr:∀y∈sc.names,y.2=.free->fsc.names.lookup y.1=some .cell\/fsc.names.lookup y.1=some .free
 len:Nc.length=N.length+1
 nd:Nc.Nodup
 last:Nc[N.length]?=some x
 slot:((List.range N.length).all fun i=>match Nc[i]? with
  | some y=>(match sc.names.lookup y with | some .free=>N[i]? == some y | some .local=>false | some .cell=>false | _=>true)
  | none=>true)=true
theorem Ee.at {N Nc:List Str} {x:Str} {sc fsc:Scope} (C:Ee N Nc x sc fsc) {i:Nat} {y:Str} (hi:i < N.length) (h:Nc[i]?=some y):sc.names.lookup y≠some .local/\sc.names.lookup y≠some .cell/\(sc.names.lookup y=some .free->N[i]?=some y):=by
 have q:=all_eq_true.mp C.slot i (mem_range.mpr hi)
 rw [h] at q
 dsimp only at q
 cases e:sc.names.lookup y with
 | none=>exact ⟨fun z=>(nomatch z),fun z=>(nomatch z),fun z=>(nomatch z)⟩
 | some k =>
   rw [e] at q
   cases k with
   | «local»=>exact absurd (show false=true from q) Bool.false_ne_true
   | cell=>exact absurd (show false=true from q) Bool.false_ne_true
   | free=>exact ⟨fun z=>(nomatch z),fun z=>(nomatch z),fun _=>by simpa using q⟩
   | _=>exact ⟨fun z=>(nomatch z),fun z=>(nomatch z),fun z=>(nomatch z)⟩
section
variable {X:Cx} {elt iter:Expr} {x:Str} {px pos:Pos} {ifs:List Expr} {sc fsc:Scope} {N Nc:List Str} {wi:TI} {tt:TT} {te:TE}
structure DA (X:Cx) (pins:List (Addr × Obj)) (H:Hp) (C:Addr):Prop where
 free:H C=none
 ne:C≠X.env.locals
 new:X.s₀.heap.objs.size<=C
 cells:∀x c,X.env.cells.lookup x=some c->c≠C
 pins:∀p∈X.pn++pins,p.1≠C
theorem Inv.sameBut {pins:List (Addr × Obj)} {σ:St} {H:Hp} {s:Shared} {C:Addr} {h':Heap} (I:Inv X pins σ H s) (c:DA X pins H C) (k:Heap.SameBut C s.heap h'):Inv X pins σ H { s with heap:=h' } :=
 I.turned (t':=s.toks) (it:=C) (fun b o hb e=>(k.2 b hb).trans e) c.free c.ne (.inr c.new) c.cells c.pins
theorem Kz {σ:St} {o v:Option V}:(σ++[o]).set σ.length v=σ++[v]:=by
 rw [set_append_right _ _ (Nat.le_refl _),Nat.sub_self]
 rfl
theorem HS (hE:X.env.scope=fsc) (hXN:X.N=N) (cn:Ee N Nc x sc fsc) (hc:X.calm=true)
 (ht:∀cl s H ex,Gk (X.inComp Nc sc cl s H ex) ifs tt) (he:∀cl s H ex,PE (X.inComp Nc sc cl s H ex) elt te)
 {cl:List (Str × Addr)} (clS:∀y c,cl.lookup y=some c->X.env.cells.lookup y=some c) (clH:∀y∈sc.names,y.2=.free->∃c,cl.lookup y.1=some c)
 {pins:List (Addr × Obj)} {σ:St} {H2:Hp} {s2:Shared} {it:Addr} {fp:List Addr} {tn:Nat->Heap->Prop} {J:It} {Q:VK} {E:Value->Shared->Prop}
 (I2:Inv X pins σ H2 s2) (T:IM X.prog X.w X.K (.Name x px) J fp it tn) (st2:tn 0 s2.heap) (f2:∀b∈fp,Fs X pins H2 b)
 (h2:∀D,H2 D=none->∃W:Nat->Nat->List V->Hp->Prop,(∃m,W 0 m [] (upd H2 D (.lst [])))/\∀i m ys H2,W i m ys H2 ->
  H2 D=some (.lst ys)/\((J.stop i H2/\Q (.ref D) H2)\/(J.go i H2/\ys.length < sizeLine/\∀x H3,J.yld i H2 x H3->tt (σ++[some x]) H3 fun b H4=>if b=true then te (σ++[some x]) H4 fun y H5=>H5 D=some (.lst ys)/\∃m',m' < m/\W (i+1) m' (ys++[y]) (upd H5 D (.lst (ys++[y])))
   else ∃m',m' < m/\W (i+1) m' ys H4))) :
 wpAny (model X.prog X.w) X.A (newList []) (fun acc s₃=>wpAny (model X.prog X.w) X.A (newFunctionEnv sc X.env.globals cl [] X.env.qual none .none (some X.env)) (fun cenv s₄ =>
  codeAny (model X.prog X.w) X.A (.compStart (.ListComp elt [⟨.Name x px,iter,ifs,0⟩] sc pos) 0 (.ref it) acc { cenv with scope:=relabel sc X.env })
   (fun r s'=>r=.ok .next/\∃D H',acc=.ref D/\Inv X pins σ H' s'/\Q (.ref D) H'/\DA X pins H' cenv.locals/\∃m,s'.heap.Ns cenv.locals m) s₄) E s₃) E s2:=by
 refine wpAny_newObj_type (wpAny_newFunctionEnv cn.cell (by intro y hy;simp at hy) (fun h₁ hns₁ hsb₁=>?_) cn.kind)
 dsimp only at hns₁ hsb₁ ⊢
 have hD:H2 s2.heap.objs.size=none:=I2.hok.fresh (Nat.le_refl _)
 obtain ⟨W,⟨m0,w0⟩,turn⟩:=h2 s2.heap.objs.size hD
 have I3:Inv X pins σ (upd H2 s2.heap.objs.size (.lst [])) { s2 with heap:=s2.heap.push { cls:=.type "list",dict:=none,data:=.seq ([]:List Value).toArray } } :=
  I2.laid (t':=s2.toks) (fun b u e=>Heap.get?_push_of_some _ e) (Nat.le_refl _) ⟨Nat.zero_le _,[],0,.nil,Heap.get?_push_size _ rfl⟩
 generalize hs3:({ s2 with heap:=s2.heap.push { cls:=.type "list",dict:=none,data:=.seq ([]:List Value).toArray } }:Shared)=s3 at I3
 have eh:s3.heap=s2.heap.push { cls:=.type "list",dict:=none,data:=.seq ([]:List Value).toArray }:=by rw [<- hs3]
 have e2:({ s2 with heap:=h₁,toks:=s2.toks+([]:List (Str × Value)).length }:Shared)={ s3 with heap:=h₁,toks:=s3.toks }:=by rw [<- hs3];rfl
 generalize hH3:upd H2 s2.heap.objs.size (.lst [])=H3 at I3 w0
 rw [<- eh] at hns₁ hsb₁ ⊢
 rw [e2]
 have below2:∀b,b∈fp->b < s3.heap.objs.size:=fun b hb=>by
  obtain ⟨o,e,_⟩:=T.obj _ _ st2 b hb
  have:s2.heap.objs.size<=s3.heap.objs.size:=by rw [eh,Heap.size_push];exact Nat.le_succ _
  exact Nat.lt_of_lt_of_le (Heap.lt_size e) this
 have old:∀b o,s3.heap.get? b=some o->h₁.get? b=some o:=fun b o e=>(hsb₁.2 b (Nat.ne_of_lt (Heap.lt_size e))).trans (Heap.get?_push_of_some _ e)
 have old2:∀b o,s2.heap.get? b=some o->s3.heap.get? b=some o:=fun b o e=>by rw [eh];exact Heap.get?_push_of_some _ e
 have hsz3:s2.heap.objs.size < s3.heap.objs.size:=by rw [eh,Heap.size_push];exact Nat.lt_succ_self _
 have fpFree:∀b∈fp,H3 b=none:=fun b hb=>by
  rw [<- hH3,Ai (fun z=>?_)]
  ·exact (f2 b hb).1
  ·obtain ⟨o,e,_⟩:=T.obj _ _ st2 b hb
   have:=Heap.lt_size e
   rw [z] at this
   exact Nat.lt_irrefl _ this
 have rl:∀y,(relabel sc X.env).names.lookup y=(sc.names.lookup y).map fun k=>if (k == NameKind.free && X.env.scope.kind == .function && X.env.kindOf y == some .cell) then NameKind.cell else k:=fun y=>BV X.env sc.names y
 have freeOf:∀y,sc.names.lookup y=some .free->∃c,cl.lookup y=some c:=fun y e=>clH (y,.free) (PySem.mem_of_lookup e) rfl
 have noCell:∀y,sc.names.lookup y≠some .cell:=fun y e=>cn.cell (y,.cell) (PySem.mem_of_lookup e) rfl
 have isFree:∀y,((relabel sc X.env).names.lookup y=some .cell\/(relabel sc X.env).names.lookup y=some .free)->sc.names.lookup y=some .free:=fun y h=>by
  rw [rl y] at h
  cases e:sc.names.lookup y with
  | none=>rw [e] at h;rcases h with z | z <;> exact absurd z (by simp)
  | some k =>
    rw [e] at h
    cases k with
    | free=>rfl
    | cell=>exact absurd e (noCell y)
    | «local»=>rcases h with z | z <;> exact absurd z (by simp)
    | _=>rcases h with z | z <;> exact absurd z (by simp)
 have ownLoc:(relabel sc X.env).names.lookup x=some .local:=by rw [rl x,cn.own];rfl
 have exOk:∀b∈fp,b≠s3.heap.objs.size/\(∀y c,X.env.cells.lookup y=some c->c≠b)/\b ∉ frs X.stack:=fun b hb=>by
  obtain ⟨g0,g1,g2,g3,g4,g5⟩:=f2 b hb
  refine ⟨Nat.ne_of_lt (below2 b hb),g4,fun z=>?_⟩
  rcases mem_cons.mp (I2.stkSub b z) with z | z
  ·exact g1 z
  ·exact g2 z
 have hCnew:X.s₀.heap.objs.size<=s3.heap.objs.size:=I3.sz
 have hCcell:∀y c,X.env.cells.lookup y=some c->c≠s3.heap.objs.size:=fun y c e z=>by
  obtain ⟨v,q⟩:=I3.cell y c e
  have:=q.lt
  rw [z] at this
  exact Nat.lt_irrefl _ this
 have hCpin:∀p∈X.pn++pins,p.1≠s3.heap.objs.size:=fun p hp z=>by
  have:=Heap.lt_size (I3.pin p hp).1
  rw [z] at this
  exact Nat.lt_irrefl _ this
 have okc:(X.inComp Nc sc cl s3 H3 fp).Ok:=by
  refine ⟨I3.ok.mod,cn.kind,I3.ok.glob,I3.ok.blt,Nat.le_refl _,fun y z c h1 h2=>I3.ok.inj y z c (clS y c h1) (clS z c h2),fun y hy=>freeOf y (isFree y hy),fun y c hf=>absurd (show false=true from hf) Bool.false_ne_true,I3.ok.hd,I3.ok.frames,.inl rfl,
   fun b hb=>⟨(exOk b hb).1,fun y c e=>(exOk b hb).2.1 y c (clS y c e)⟩,fun b o e=>I3.bs b o e,Nat.le_trans I3.ok.bsz I3.sz,fun b o e hb=>?_,fun b hb=>(exOk b hb).2.2,I3.stack,I3.stkFree⟩
  obtain ⟨g0,g1,g2,g3,g4,g5⟩:=f2 b hb
  rcases g3 with z | z
  ·exact I3.ok.noex b o e z
  ·exact absurd (Heap.lt_size (I3.ok.bs b o e).1) (Nat.not_lt.mpr z)
 have hlen:σ.length=N.length:=by rw [I3.len,hXN]
 have Ic:Inv (X.inComp Nc sc cl s3 H3 fp) [] (σ++[none]) H3 { s3 with heap:=h₁,toks:=s3.toks }:=by
  refine ⟨okc,rfl,I3.bare,Un.kept old,⟨_,hns₁,fun i y v h1 h2 h3=>?_⟩,fun y c e=>?_,I3.hok.fresh (Nat.le_refl _),fun y c e=>I3.freeC y c (clS y c e),fun p hp=>absurd (show p∈([]:List (Addr × Obj)) from hp) (by simp),I3.hok.kept old,?_⟩
  ·have hi:i < σ.length:=by
    by_cases hi:i < σ.length
    ·exact hi
    ·rw [List.getElem?_append_right (Nat.not_lt.mp hi)] at h2
     cases e:i - σ.length with
     | zero=>rw [e] at h2;cases h2
     | succ k=>rw [e] at h2;simp at h2
   rw [List.getElem?_append_left hi] at h2
   have hi':i < N.length:=by rw [<- hlen];exact hi
   obtain ⟨n1,n2,n3⟩:=cn.at hi' h1
   have hf:sc.names.lookup y=some .free:=by
    rcases h3 with z | z
    ·exfalso
     have z':(relabel sc X.env).names.lookup y=some .local:=z
     rw [rl y] at z'
     cases e:sc.names.lookup y with
     | none=>rw [e] at z';simp at z'
     | some k =>
       rw [e] at z'
       cases k with
       | «local»=>exact n1 e
       | cell=>exact n2 e
       | free =>
         simp only [Option.map_some,Option.some.injEq] at z'
         split at z' <;> cases z'
       | _=>simp at z'
    ·exact isFree y z
   have hN:X.N[i]?=some y:=by rw [hXN];exact n3 hf
   obtain ⟨m,hn,hl⟩:=I3.loc
   have hv:fsc.names.lookup y=some .cell\/fsc.names.lookup y=some .free:=cn.fr (y,.free) (PySem.mem_of_lookup hf) rfl
   have hv':X.env.scope.names.lookup y=some .cell\/X.env.scope.names.lookup y=some .free:=by rw [hE];exact hv
   obtain ⟨u,ru,lk⟩:=hl i y v hN h2 (.inr hv')
   refine ⟨u,ru,.inr ⟨?_,?_⟩⟩
   ·show (relabel sc X.env).names.lookup y=some .cell\/(relabel sc X.env).names.lookup y=some .free
    rw [rl y,hf]
    simp only [Option.map_some,Option.some.injEq]
    split
    ·exact .inl rfl
    ·exact .inr rfl
   ·rcases lk with ⟨kl,_⟩ | ⟨_,c,hc,hcell⟩
    ·exfalso
     have kl':X.env.scope.names.lookup y=some .local:=kl
     rw [kl'] at hv'
     rcases hv' with z | z <;> cases z
    ·obtain ⟨d,hd⟩:=freeOf y hf
     have ed:=clS y d hd
     rw [hc] at ed
     cases ed
     exact ⟨c,hd,hcell.keeps old⟩
  ·obtain ⟨v,q⟩:=I3.cell y c (clS y c e)
   exact ⟨v,q.keeps old⟩
  ·show (σ++[none]).length=Nc.length
   rw [length_append,hlen,cn.len]
   rfl
 have stc:tn 0 ({ s3 with heap:=h₁,toks:=s3.toks }:Shared).heap:=T.keep _ _ _ st2 fun b _ o e=>old b o (old2 b o e)
 have hDf:s2.heap.objs.size ∉ fp:=fun hm=>by
  obtain ⟨o,e,_⟩:=T.obj _ _ st2 _ hm
  exact Nat.lt_irrefl _ (Heap.lt_size e)
 have fpc:∀{pins':List (Addr × Obj)} {H':Hp},pins'=[]->(∀b∈fp,H' b=none)->∀b∈fp,Fs (X.inComp Nc sc cl s3 H3 fp) pins' H' b:=fun {pins' H'} hp hn b hb=>by
  subst hp
  exact ⟨hn b hb,(exOk b hb).1,(exOk b hb).2.2,.inl hb,fun y c e=>(exOk b hb).2.1 y c (clS y c e),fun p hp=>absurd (show p∈([]:List (Addr × Obj)) from hp) (by simp)⟩
 have hg:PG (X.inComp Nc sc cl s3 H3 fp) (.Name x px) (Et σ.length):=AA (X:=X.inComp Nc sc cl s3 H3 fp) cn.nd (by show Nc[σ.length]?=some x;rw [hlen];exact cn.last) (.inl ownLoc) (.inr ownLoc)
 have loop:∀s₄:Shared,s₄={ s3 with heap:=h₁,toks:=s3.toks } ->
  codeAny (model X.prog X.w) X.A (.compLoop (.ListComp elt [⟨.Name x px,iter,ifs,0⟩] sc pos) 0 (.ref it) (.ref s2.heap.objs.size) (compEnvC sc cl s3.heap.objs.size X.env))
   (fun r s'=>r=.ok .next/\∃D H',(Value.ref s2.heap.objs.size)=.ref D/\Inv X pins σ H' s'/\Q (.ref D) H'/\DA X pins H' s3.heap.objs.size/\∃m,s'.heap.Ns s3.heap.objs.size m) s₄:=by
  rintro s₄ rfl
  refine codeAny_compLoop_tests (fun n s'=>∃(i:Nat) (o:Option V) (H':Hp) (ys:List V),Inv (X.inComp Nc sc cl s3 H3 fp) [] (σ++[o]) H' s'/\tn i s'.heap/\(∀b∈fp,H' b=none)/\W i n ys H') ?_ m0 ⟨0,none,H3,[],Ic,stc,fpFree,w0⟩
  rintro n s' ⟨i,o,H',ys,I',st',fr',w'⟩
  obtain ⟨hDl,tw⟩:=turn i n ys H' w'
  rcases tw with ⟨stop,q⟩ | ⟨go,hz,step⟩
  ·
   refine thn (T.done (X.inComp Nc sc cl s3 H3 fp) rfl rfl rfl hc i [] s' _ H' _ I' (fpc rfl fr') st' stop) fun r s5 ⟨hr,I5⟩=>?_
   subst hr
   have Ix:Inv X pins σ H' s5:=I3.call' (ch:=fp) I5.os I5.base I5.hok I5.bare fun b hb=>by
    obtain ⟨g0,g1,g2,g3,g4,g5⟩:=f2 b hb
    exact ⟨g3,g1,g4,g5⟩
   have hCf:H' s3.heap.objs.size=none:=I5.free
   obtain ⟨m,hn,_⟩:=I5.loc
   exact ⟨rfl,s2.heap.objs.size,H',rfl,Ix,q,⟨hCf,fun z=>Nat.lt_irrefl _ (by have:=I3.lt;rw [<- z] at this;exact this),hCnew,hCcell,hCpin⟩,m,hn⟩
  ·
   refine thn (T.item (X.inComp Nc sc cl s3 H3 fp) rfl rfl rfl hc i [] s' _ H' _ I' (fpc rfl fr') st' go) fun r s5 ⟨u,hr,h4⟩=>?_
   subst hr
   dsimp only
   have e0:letOwnedTupleGo (.Name x px) (.ref it) u=pure ():=rfl
   have e1:(letOwnedTupleGo (.Name x px) (.ref it) u >>= fun _=>assign (.Name x px) (compEnvC sc cl s3.heap.objs.size X.env) u)=assign (.Name x px) (compEnvC sc cl s3.heap.objs.size X.env) u:=by rw [e0,pure_bind]
   rw [<- e1]
   refine wpAny_bind (thn h4 fun _ s6 ⟨xv,H5,I5,r5,y5,st5,fr5⟩=>?_)
   have I5':=I5.pinned (fpc rfl fr5) (T.obj _ _ st5)
   have again:∀{H7:Hp} {s7:Shared} {m':Nat} {ys':List V},Inv (X.inComp Nc sc cl s3 H3 fp) ([]++EH fp s6.heap) (σ++[some xv]) H7 s7->m' < n->W (i+1) m' ys' H7 ->
    ∃m,m < n/\∃(i:Nat) (o:Option V) (H':Hp) (ys:List V),Inv (X.inComp Nc sc cl s3 H3 fp) [] (σ++[o]) H' s7/\tn i s7.heap/\(∀b∈fp,H' b=none)/\W i m ys H':=fun {H7 s7 m' ys'} I7 hm w7=>by
    refine ⟨m',hm,i+1,some xv,H7,ys',I7.unpinned,T.keep _ _ _ st5 fun b hb o e=>(I7.pin (b,o) (mem_append_right _ (mem_append_right _ (BP hb e)))).1,fun b hb=>?_,w7⟩
    obtain ⟨o',e,d⟩:=T.obj _ _ st5 b hb
    exact (I7.pin (b,o') (mem_append_right _ (mem_append_right _ (BP hb e)))).2.1
   refine DQ (hg _ s6 _ H5 xv u (fun σ' H''=>σ'=σ++[some xv]/\H''=H5) I5' r5 ⟨Kz,rfl⟩) fun _ s7 ⟨σ7,H7,I7,e7,e7'⟩=>?_
   subst e7
   subst e7'
   refine DQ (ht cl s3 H3 fp _ s7 _ _ _ I7 (step xv _ y5)) fun b s8 ⟨H8,I8,q8⟩=>?_
   cases b with
   | false =>
     rw [if_neg Bool.false_ne_true] at q8 ⊢
     obtain ⟨m',hm,w8⟩:=q8
     exact again I8 hm w8
   | true =>
     rw [if_pos rfl] at q8 ⊢
     refine DQ (he cl s3 H3 fp _ s8 _ H8 _ I8 q8) fun y s9 ⟨yv,H9,I9,r9,hD9,m',hm,w9⟩=>?_
     refine DQ (BG _ s9 _ H9 (.ref s2.heap.objs.size) [yv] (.ref s2.heap.objs.size) [y] (fun v H=>v=.non/\H=upd H9 s2.heap.objs.size (.lst (ys++[yv]))) I9 rfl (.cons r9 .nil) ⟨_,ys,yv,rfl,rfl,hD9,hz,rfl,rfl⟩) fun _ s10 ⟨v10,H10,I10,r10,e10,e11⟩=>?_
     subst e11
     exact again I10 hm w9
 exact codeAny_compStart_list (loop _ rfl) (T.self _ 0 _ _ _ stc (loop _ rfl))
theorem Hk (I:∀y,(X.env.kindOf y=some .cell\/X.env.kindOf y=some .free)->∃c,X.env.cells.lookup y=some c) (hE:X.env.scope=fsc) (cn:Ee N Nc x sc fsc):∀y∈sc.names,y.2=.free->∃c,X.env.cells.lookup y.1=some c:=fun y hy hf=>by
 refine I y.1 ?_
 show X.env.scope.names.lookup y.1=some .cell\/X.env.scope.names.lookup y.1=some .free
 rw [hE]
 exact cn.fr y hy hf
theorem Bb (hE:X.env.scope=fsc) (hXN:X.N=N) (cn:Ee N Nc x sc fsc) (hc:X.calm=true) (hi:PI X (.Name x px) iter wi)
 (ht:∀cl s H ex,Gk (X.inComp Nc sc cl s H ex) ifs tt) (he:∀cl s H ex,PE (X.inComp Nc sc cl s H ex) elt te)
 (hs:∀v,foldedSetIterable iter X.env v=pure v:=by intro _;rfl):PE X (.ListComp elt [⟨.Name x px,iter,ifs,0⟩] sc pos) (Ki wi tt te):=by
 intro pins s σ H Q I h
 obtain ⟨cl,hcl,clS,clH⟩:=Dh (env:=X.env) (sc:=sc) (Hk I.ok.has hE cn)
 rw [eval_ListComp]
 refine wpAny_comprehension_free (use:=none) rfl hs hcl cn.kind cn.nm (thn (hi pins s σ H _ I h) fun v s1 h1=>thn h1 fun itv s2 h2=>?_)
 obtain ⟨it,fp,tn,J,H2,rfl,I2,T,st2,f2,h2⟩:=h2
 refine thn (HS (pos:=pos) (iter:=iter) hE hXN cn hc ht he clS clH I2 T st2 f2 h2) fun acc s3 h3=>thn h3 fun cenv s4 h4=>codeAny_mono h4 fun r s' h5=>?_
 obtain ⟨rfl,D,H',rfl,I',q,cloc,m,hn⟩:=h5
 exact ⟨m,hn,fun h' k=>⟨.ref D,H',I'.sameBut cloc k,rfl,q⟩⟩
theorem Dm {j:Nat} {y:Str} {py spos:Pos} (hE:X.env.scope=fsc) (hXN:X.N=N) (cn:Ee N Nc x sc fsc) (hc:X.calm=true) (hnd:X.N.Nodup) (hj:X.N[j]?=some y) (hy:X.env.scope.names.lookup y=some .local) (hi:PI X (.Name x px) iter wi)
 (ht:∀cl s H ex,Gk (X.inComp Nc sc cl s H ex) ifs tt) (he:∀cl s H ex,PE (X.inComp Nc sc cl s H ex) elt te)
 (hsw:swapsWith (.ListComp elt [⟨.Name x px,iter,ifs,0⟩] sc pos) (some (.Name y py)) spos.line X.env=pure true)
 (hs:∀v,foldedSetIterable iter X.env v=pure v:=by intro _;rfl):PS X (.Assign [.Name y py] (.ListComp elt [⟨.Name x px,iter,ifs,0⟩] sc pos) spos) (Qm (Ki wi tt te) (Et j)):=by
 intro pins s σ H D I h
 obtain ⟨cl,hcl,clS,clH⟩:=Dh (env:=X.env) (sc:=sc) (Hk I.ok.has hE cn)
 rw [exec_Assign_Name_used _ _ _ _ hsw]
 refine wpAny_bind (wpAny_standAt (wpAny_bind ?_))
 show wpAny _ X.A (do let _ <- comprehension (.ListComp elt [⟨.Name x px,iter,ifs,0⟩] sc pos) sc X.env _ (newList []) false (eval iter X.env) (some (assign (.Name y py) X.env))) _ _ s
 refine wpAny_bind (thn (wpAny_comprehension_free (Q:=fun _ s'=>SP X pins D .next s') rfl hs hcl cn.kind cn.nm (thn (hi pins s σ H _ I h) fun v s1 h1=>thn h1 fun itv s2 h2=>?_)) fun _ s' hq=>wpAny_pure (wpAny_pure hq))
 obtain ⟨it,fp,tn,J,H2,rfl,I2,T,st2,f2,h2⟩:=h2
 refine thn (HS (pos:=pos) (iter:=iter) (Q:=fun x H1=>Et j x σ H1 D.nx) hE hXN cn hc ht he clS clH I2 T st2 f2 h2) fun acc s3 h3=>thn h3 fun cenv s4 h4=>codeAny_mono h4 fun r s' h5=>?_
 obtain ⟨rfl,D',H',rfl,I',q,cloc,m,hn⟩:=h5
 refine wpAny_assign_Name (HL (v:=.ref D') I' hnd hj (.inl hy) rfl (fun s6 I6 sb=>?_) (.inr hy))
 obtain ⟨a,k,ha⟩:=sb
 refine ⟨m,hn.sameBut k (fun z=>?_),fun h' k'=>⟨_,H',I6.sameBut cloc k',q⟩⟩
 rcases ha with ha | ha
 ·exact cloc.ne (z.trans ha)
 ·exact cloc.cells _ _ ha z.symm
end
theorem AQ {lo:Int} {n:Nat} {tt:TT} {te:TE} {σ:St} {H1:Hp} {Q:Addr->Hp->Prop} (hn:n<=sizeLine) (Pv:Addr->Nat->List V->Hp->Prop)
 (h0:∀D,H1 D=none->Pv D 0 [] (upd H1 D (.lst []))) (hD:∀D i ys H,Pv D i ys H->H D=some (.lst ys)/\ys.length<=i)
 (hs:∀D i ys H (K1:VK) (K2:Hp->Prop),H1 D=none->i < n->Pv D i ys H->(∀y H5,H5 D=some (.lst ys)->Pv D (i+1) (ys++[y]) (upd H5 D (.lst (ys++[y])))->K1 y H5)->(∀H4,Pv D (i+1) ys H4->K2 H4) ->
  tt (σ++[some (.int (lo+i))]) H fun b H4=>if b=true then te (σ++[some (.int (lo+i))]) H4 K1 else K2 H4)
 (hd:∀D ys H,H1 D=none->Pv D n ys H->Q D H) :
 ∀D,H1 D=none->∃W:Nat->Nat->List V->Hp->Prop,(∃m,W 0 m [] (upd H1 D (.lst [])))/\∀i m ys H2,W i m ys H2 ->
  H2 D=some (.lst ys)/\(((Itr lo n).stop i H2/\Q D H2)\/((Itr lo n).go i H2/\ys.length < sizeLine/\∀x H3,(Itr lo n).yld i H2 x H3->tt (σ++[some x]) H3 fun b H4=>if b=true then te (σ++[some x]) H4 fun y H5=>H5 D=some (.lst ys)/\∃m',m' < m/\W (i+1) m' (ys++[y]) (upd H5 D (.lst (ys++[y])))
   else ∃m',m' < m/\W (i+1) m' ys H4)):=by
 intro D hDn
 refine ⟨fun i m ys H=>m=n - i/\i<=n/\Pv D i ys H,⟨n,rfl,Nat.zero_le _,h0 D hDn⟩,?_⟩
 rintro i m ys H2 ⟨rfl,hi,p⟩
 obtain ⟨e,l⟩:=hD D i ys H2 p
 refine ⟨e,?_⟩
 by_cases hlt:i < n
 ·refine .inr ⟨hlt,Nat.lt_of_le_of_lt l (Nat.lt_of_lt_of_le hlt hn),fun x H3 y=>?_⟩
  obtain ⟨e1,e2⟩:=y
  subst e1 e2
  exact hs D i ys _ _ _ hDn hlt p (fun y H5 h5 p5=>⟨h5,n - (i+1),by omega,rfl,hlt,p5⟩) fun H4 p4=>⟨n - (i+1),by omega,rfl,hlt,p4⟩
 ·have ei:i=n:=by omega
  subst ei
  exact .inl ⟨Nat.le_refl _,hd D ys H2 hDn p⟩
theorem AB {K:PySem.W.Frag} {a:Addr} {xs:List V} {tt:TT} {te:TE} {σ:St} {H1:Hp} {Q:Addr->Hp->Prop} (hn:xs.length<=sizeLine) (Pv:Addr->Nat->List V->Hp->Prop)
 (h0:∀D,H1 D=none->Pv D 0 [] (upd H1 D (.lst []))) (hD:∀D i ys H,Pv D i ys H->H D=some (.lst ys)/\ys.length<=i) (hl:∀D i ys H,H1 D=none->Pv D i ys H->SqL K H a xs)
 (hs:∀D i x ys H (K1:VK) (K2:Hp->Prop),H1 D=none->xs[i]?=some x->Pv D i ys H->(∀y H5,H5 D=some (.lst ys)->Pv D (i+1) (ys++[y]) (upd H5 D (.lst (ys++[y])))->K1 y H5)->(∀H4,Pv D (i+1) ys H4->K2 H4) ->
  tt (σ++[some x]) H fun b H4=>if b=true then te (σ++[some x]) H4 K1 else K2 H4)
 (hd:∀D ys H,H1 D=none->Pv D xs.length ys H->Q D H) :
 ∀D,H1 D=none->∃W:Nat->Nat->List V->Hp->Prop,(∃m,W 0 m [] (upd H1 D (.lst [])))/\∀i m ys H2,W i m ys H2 ->
  H2 D=some (.lst ys)/\(((Itl K a).stop i H2/\Q D H2)\/((Itl K a).go i H2/\ys.length < sizeLine/\∀x H3,(Itl K a).yld i H2 x H3->tt (σ++[some x]) H3 fun b H4=>if b=true then te (σ++[some x]) H4 fun y H5=>H5 D=some (.lst ys)/\∃m',m' < m/\W (i+1) m' (ys++[y]) (upd H5 D (.lst (ys++[y])))
   else ∃m',m' < m/\W (i+1) m' ys H4)):=by
 intro D hDn
 refine ⟨fun i m ys H=>m=xs.length - i/\i<=xs.length/\Pv D i ys H,⟨xs.length,rfl,Nat.zero_le _,h0 D hDn⟩,?_⟩
 rintro i m ys H2 ⟨rfl,hi,p⟩
 obtain ⟨e,l⟩:=hD D i ys H2 p
 have q:=hl D i ys H2 hDn p
 refine ⟨e,?_⟩
 by_cases hlt:i < xs.length
 ·refine .inr ⟨⟨xs,xs[i],q,by simp [hlt]⟩,Nat.lt_of_le_of_lt l (Nat.lt_of_lt_of_le hlt hn),fun x H3 y=>?_⟩
  obtain ⟨e1,y⟩:=y
  subst e1
  exact hs D i x ys _ _ _ hDn (y xs q) p (fun y H5 h5 p5=>⟨h5,xs.length - (i+1),by omega,rfl,hlt,p5⟩) fun H4 p4=>⟨xs.length - (i+1),by omega,rfl,hlt,p4⟩
 ·have ei:i=xs.length:=by omega
  subst ei
  exact .inl ⟨⟨xs,q,Nat.le_refl _⟩,hd D ys H2 hDn p⟩
section
variable {X:Cx}
theorem AD (K:PySem.W.Frag) (h:X.K=K:=by rfl):IxR X (Re K):=by subst h;exact A3
theorem Dc (K:PySem.W.Frag) (h:X.K=K:=by rfl):IxR X (Rt K):=by subst h;exact AE
theorem Li (K:PySem.W.Frag) (h:X.K=K:=by rfl):OpR X (compareOp .In) (rIn K false):=by subst h;exact LW
theorem Mu (K:PySem.W.Frag) (h:X.K=K:=by rfl):Ch X (.builtin "len") (fun xs H Q=>∃x n,xs=[x]/\R9 K x H n/\Q (.int n) H):=by subst h;exact N1
end
end L2
namespace L2
open PySem PySem.Spec PyProof.Rows
section
variable {X:Cx}
theorem JO (hc:X.calm=true):Ch X (.builtin "sum") (fun xs H Q=>∃(p:Addr) (ns:List Int),xs=[.ref p]/\SqL X.K H p (ns.map V.int)/\Q (.int ns.sum) H):=by
 intro pins s σ H xs us Q I rv h
 obtain ⟨p,ns,rfl,hS,q⟩:=h
 obtain ⟨u,rfl,r⟩:=D6 rv
 cases r
 obtain ⟨its,rv,pl,hz⟩:=I.list hS
 have hi:=BO rv
 obtain ⟨xs,e⟩:=hi.allInts.items
 have en:xs.toList.map (·.1)=ns:=by
  have:=nums_intItems xs
  rw [<- e,show its.toArray.toList=its from rfl,hi.numsOf] at this
  exact this.symm
 refine sum_intListG (I.ok.hd hc) (by rw [<- e];exact pl.isList) fun h' tk t' hk=>?_
 rw [preSum_eq,take_of_length_le (by simp),en]
 exact ⟨.int ns.sum,H,I.kept hk,⟨_,rfl⟩,q⟩
theorem Pg:MtR X "int.bit_length" (fun x xs H Q=>∃i:Int,x=.int i/\xs=[]/\Q (.int (Builtin.Int.intBits i:Nat)) H):=by
 intro pins s σ H x xs v us Q I rx rv h
 obtain ⟨i,rfl,rfl,q⟩:=h
 obtain ⟨t,rfl⟩:=rx
 cases rv
 exact call_int_bit_length ⟨.int _,H,I.tok _,⟨_,rfl⟩,q⟩
end
end L2
namespace L2
open PySem PySem.Spec PyProof.Rows
section
variable {M:Model} {A:Around} {E:Value->Shared->Prop} {s:Shared} {env:Env} {outer:List Env} {L e:Addr} {base:Heap}
end
end L2
namespace L2
open PySem PySem.Spec PyProof.Rows
section
variable {X:Cx} {pins:List (Addr × Obj)} {σ:St} {H:Hp} {s:Shared} {e:Addr} {cls:Value} {od:Option Addr}
end
section
variable {X:Cx} {pins:List (Addr × Obj)} {σ:St} {H:Hp} {s s':Shared} {E:XK} {ev:Value}
end
section
variable {X:Cx} {W:St->XK} {k:Nat} {f:Addr} {fd:FuncData} {ps:List Str} {sp:Sp} {dvs:List V} {ds:List Value} {x:Str} {p pos:Pos} {e:Expr} {es:List Expr} {t:TA}
end
end L2
namespace L2
open PySem PySem.Spec PyProof.Rows
section
variable {X:Cx} {W:St->XK} {C:Addr} {x:Str} {p cpos pos:Pos} {e:Expr} {es:List Expr} {t:TA}
end
section
variable {X:Cx} {pins:List (Addr × Obj)} {σ:St} {H:Hp} {s:Shared} {e:Addr} {cls:Value} {od:Option Addr}
end
section
variable {X:Cx} {pins:List (Addr × Obj)} {σ:St} {H:Hp} {s:Shared} {e C:Addr} {cls:Value} {od:Option Addr} {x n:Str} {i:Nat} {np pos:Pos} {b₀:Stmt} {suite:List Stmt} {rest:List ExceptHandler} {ts:TS} {tr:TH}
end
end L2
namespace L2
open PySem PySem.Spec PyProof.Rows
section
variable {prog:Program} {w:World} {A:Around} {E:Value->Shared->Prop} {s:Shared} {K:PySem.W.Frag} {a C:Addr} {o:Obj} {od:Option Obj} {name:Str} {tk:Tok}
end
section
variable {X:Cx}
end
end L2
namespace L2
open PySem PySem.Spec PyProof.Rows
section
variable {X:Cx}
end
section
variable {K:PySem.W.Frag} {H H':Hp} {x:V} {b:Bool}
end
section
variable {K:PySem.W.Frag} {A B:Addr}
end
end L2
namespace L2
open PySem PySem.Spec PyProof.Rows
end L2
namespace L2
open PySem PySem.Spec PyProof.Rows
section
variable {prog:Program} {w:World} {A:Around} {E:Value->Shared->Prop} {s:Shared} {K:PySem.W.Frag} {C P f x:Addr} {ox:Obj} {od:Option Obj} {name:Str} {v:Value}
end
end L2
namespace L2
open PySem PySem.Spec PyProof.Rows
section
variable {prog:Program} {w:World} {A:Around} {E:Value->Shared->Prop} {h:Heap} {g:Array GenState} {d:Drawn} {t:Nat} {os:OsState}
variable {nm q:Str} {C N:Addr} {bs bm:List Value} {hd:Bool} {sn:List Str} {sub:List Value} {ab:Bool} {col:Option Bool} {dd:Option Addr} {k0 k1 k2 k3 k5:Option Value}
end
section
variable {X:Cx} {W:St->XK} {C P fi:Addr} {k:Nat} {fd:FuncData} {ps ns:List Str} {x:Str} {p cpos pos:Pos} {e:Expr} {es:List Expr} {t:TA}
end
end L2
namespace L2
open PySem PySem.Spec PyProof.Rows
mutual
inductive Rep (K:PySem.W.Frag) (H:Hp):V->PyData->Prop
 | non:Rep K H .non .none
 | bl (b:Bool):Rep K H (.bl b) (.bool b)
 | int (i:Int):Rep K H (.int i) (.int i)
 | str (x:Str):Rep K H (.str x) (.str x)
 | lst {a:Addr} {xs:List V} {ds:List PyData}:SqL K H a xs->Reps K H xs ds->Rep K H (.ref a) (.list ds)
 | tup {a:Addr} {xs:List V} {ds:List PyData}:SqT K H a xs->Reps K H xs ds->Rep K H (.ref a) (.tuple ds)
inductive Reps (K:PySem.W.Frag) (H:Hp):List V->List PyData->Prop
 | nil:Reps K H [] []
 | cons {x:V} {xs:List V} {d:PyData} {ds:List PyData}:Rep K H x d->Reps K H xs ds->Reps K H (x :: xs) (d :: ds)
end
section
variable {K:PySem.W.Frag} {H H':Hp}
mutual
theorem Rep.same (e:Aq H H'):∀{x:V} {d:PyData},Rep K H x d->Rep K H' x d
 | _,_,.non=>.non
 | _,_,.bl b=>.bl b
 | _,_,.int i=>.int i
 | _,_,.str x=>.str x
 | _,_,.lst h r=>.lst (e.seq h) (Reps.same e r)
 | _,_,.tup h r=>.tup (by
  rcases h with (h | ⟨o,h⟩) | h
  ·exact .inl (.inl (e _ _ h))
  ·exact .inl (.inr ⟨o,e _ _ h⟩)
  ·exact .inr h) (Reps.same e r)
theorem Reps.same (e:Aq H H'):∀{xs:List V} {ds:List PyData},Reps K H xs ds->Reps K H' xs ds
 | _,_,.nil=>.nil
 | _,_,.cons r t=>.cons (Rep.same e r) (Reps.same e t)
end
theorem Reps.ints:∀(ns:List Int),Reps K H (ns.map V.int) (ns.map PyData.int)
 | []=>.nil
 | n :: ns=>.cons (.int n) (Reps.ints ns)
theorem Reps.bls:∀(ns:List Bool),Reps K H (ns.map V.bl) (ns.map PyData.bool)
 | []=>.nil
 | n :: ns=>.cons (.bl n) (Reps.bls ns)
end
section
variable {X:Cx} {pins:List (Addr × Obj)} {σ:St} {H:Hp} {s:Shared}
mutual
theorem Inv.reads (I:Inv X pins σ H s):∀{x:V} {d:PyData},Rep X.K H x d->∀{v:Value},A8 x v->∃as,Reads s.heap v d as
 | _,_,.non,v,r=>by cases (show v=Value.none from r);exact ⟨_,.none⟩
 | _,_,.bl b,v,r=>by cases (show v=Value.bool b from r);exact ⟨_,.bool b⟩
 | _,_,.int i,v,r=>by obtain ⟨t,e⟩:=(show ∃t,v=Value.int i t from r);cases e;exact ⟨_,.int i t⟩
 | _,_,.str x,v,r=>by obtain ⟨t,e⟩:=(show ∃t,v=Value.str x t from r);cases e;exact ⟨_,.str x t⟩
 | _,_,.lst (a:=a) h rs,v,r=>by
   cases (show v=Value.ref a from r)
   obtain ⟨its,rv,⟨o,n,e1,e2,_,e4⟩,_⟩:=I.list h
   obtain ⟨as,q⟩:=Inv.readsAll I rs rv
   exact ⟨_,.list e1 e2 e4 q⟩
 | _,_,.tup (a:=a) h rs,v,r=>by
   cases (show v=Value.ref a from r)
   obtain ⟨its,rv,⟨o,e1,e2,n,e4⟩,_⟩:=I.tuple h
   obtain ⟨as,q⟩:=Inv.readsAll I rs rv
   exact ⟨_,.tuple e1 e2 e4 q⟩
theorem Inv.readsAll (I:Inv X pins σ H s):∀{xs:List V} {ds:List PyData},Reps X.K H xs ds->∀{vs:List Value},A6 xs vs->∃as,ReadsAll s.heap vs ds as
 | _,_,.nil,_,.nil=>⟨_,.nil⟩
 | _,_,.cons r t,_,.cons q u=>by
   obtain ⟨a1,h1⟩:=Inv.reads I r q
   obtain ⟨a2,h2⟩:=Inv.readsAll I t u
   exact ⟨_,.cons h1 h2⟩
end
def Sg (K:PySem.W.Frag):R2:=fun x y H Q=>∃d e,Rep K H x d/\Rep K H y e/\PySem.SeqAt.shaped d=true/\PySem.SeqAt.shaped e=true/\Q (.bl (PyData.eqv d e)) H
def Sq (K:PySem.W.Frag):R2:=fun x y H Q=>∃d e,Rep K H x d/\Rep K H y e/\PySem.SeqAt.shaped d=true/\PySem.SeqAt.shaped e=true/\Q (.bl (!PyData.eqv d e)) H
theorem FO {K:PySem.W.Frag} (hu:X.A.units+64 < cLine) (hK:X.K=K:=by rfl):OpR X (compareOp .Eq) (Sg K):=by
 subst hK
 intro pins s σ H x y v u Q I rx ry h
 obtain ⟨d,e,hx,hy,s1,s2,q⟩:=h
 obtain ⟨as,r1⟩:=I.reads hx rx
 obtain ⟨bs,r2⟩:=I.reads hy ry
 exact eq_dataH r1 r2 s1 s2 hu ⟨.bl _,H,I,rfl,q⟩
theorem EC {K:PySem.W.Frag} (hu:X.A.units+64 < cLine) (hK:X.K=K:=by rfl):OpR X (compareOp .NotEq) (Sq K):=by
 subst hK
 intro pins s σ H x y v u Q I rx ry h
 obtain ⟨d,e,hx,hy,s1,s2,q⟩:=h
 obtain ⟨as,r1⟩:=I.reads hx rx
 obtain ⟨bs,r2⟩:=I.reads hy ry
 exact ne_dataH r1 r2 s1 s2 hu ⟨.bl _,H,I,rfl,q⟩
end
end L2
namespace L2
open PySem PySem.Spec PyProof.Rows
theorem MY:typeLookup (.type "list_reverseiterator") "__len__"=pure none:=by rw [typeLookup_type,builtinLookup_eq_fast];kernel_rfl
theorem Oq:typeLookup (.type "list_reverseiterator") "__length_hint__"=pure (some (.builtin "list_reverseiterator.__length_hint__")):=by rw [typeLookup_type,builtinLookup_eq_fast];kernel_rfl
section
variable {prog:Program} {w:World} {A:Around} {E:Value->Shared->Prop} {s:Shared}
theorem NR {I:Addr} {Q:Bool->Shared->Prop} (hT:s.TypeIs (.ref I) "list_reverseiterator") (h:Q false s):wpAny (model prog w) A (Builtin.List.listLengthHint (.ref I)) Q E s:=by
 unfold Builtin.List.listLengthHint
 refine wpAny_bind (wpAny_specialOf hT MY ?_)
 show wpAny _ A (specialOf (Value.ref I) (Str.ofString "__length_hint__") >>= _) _ _ _
 refine wpAny_bind (wpAny_specialOf hT Oq ?_)
 generalize hid:("list_reverseiterator.__length_hint__":String)=id0
 wp_delta
 rw [show splitId id0=some ("list_reverseiterator","__length_hint__") from by subst hid;decide +kernel]
 subst hid
 refine wpAny_bind (wpAny_isInstance (b:=true) hT (by rw [isSubtype_type];kernel_rfl) ?_)
 exact wpAny_pure h
theorem MK {items acc:Array Value} (h:ItemsOf (fun i v=>items[items.size - 1 - i]?=some v) acc items.size):acc=items.toList.reverse.toArray:=by
 obtain ⟨h1,h2⟩:=h
 apply Array.ext
 ·simpa using h1
 ·intro i hi hj
  have e:items[items.size - 1 - i]?=some acc[i]:=h2 i acc[i] (by simp [hi])
  have hi':i < items.size:=by omega
  rw [Array.getElem?_eq_getElem (by omega)] at e
  simp only [getElem_toArray,getElem_reverse,Array.getElem_toList,Array.length_toList]
  exact (Option.some.inj e).symm
theorem KQ {I l S:Addr} {items:Array Value} {R:Result->Shared->Prop} {c₀:Nat} (hh:A.handled=none) (hne:l≠I) (hit:s.heap.IsRevIter I l ((items.size:Int) - 1)) (hl:s.heap.IsList l items)
 (hSI:S≠I) (hSl:S≠l) (hz:items.size<=sizeLine) (hS:s.heap.get? S=some { cls:=.type "list",data:=.seq #[] c₀ })
 (hR:∀s' c',Moved [S,I] (fun a b=>b=a) s s'->s'.heap.get? S=some { cls:=.type "list",dict:=none,data:=.seq items.toList.reverse.toArray c',slots:=#[] }->R (.ok (.ret .none)) s') :
 wpAny (model prog w) A.in1 (Builtin.List.listExtendWith (.ref S) (.ref I) .none)
  (fun fin s'=>match fin with | .done f=>R (.ok f) s' | .again c'=>c'.quiet=true/\codeAny (model prog w) A c' R s') (fun e s'=>R (.error e) s') s:=by
 have W:=(Walks.listRev (prog:=prog) (w:=w) (A:=A.in1) hh I l hne items).toS
 have st:(0:Nat)<=items.size/\s.heap.IsRevIter I l ((items.size:Int) - 1 - ((0:Nat):Int))/\s.heap.IsList l items:=⟨Nat.zero_le _,by simpa using hit,hl⟩
 have hT:=hit.typeIs
 unfold Builtin.List.listExtendWith
 refine wpAny_bind (wpAny_typeOf hT ?_)
 have h1:Builtin.List.listSameRef (.ref S) (.ref I)=false:=by simp [Builtin.List.listSameRef,hSI]
 rw [if_neg (by rw [h1];decide)]
 refine wpAny_bind (wpAny_pyIter_revIter hit ?_)
 refine wpAny_bind (wpAny_holding (NR hT ?_))
 rw [if_neg (by decide)]
 refine wpAny_pure ⟨plainId_quiet F.plain_extend_loop _,codeAny_extend_loopS W hz S (by simp [hSI,hSl]) .none items.size 0 _ _ _ rfl (Nat.zero_le _) st hS (ItemsOf.nil _) fun s' acc c' hm hS' hacc=>?_⟩
 rw [MK hacc] at hS'
 exact hR s' c' hm hS'
theorem HB {I l:Addr} {items:Array Value} {Q:Value->Shared->Prop} (hh:A.handled=none) (hne:l≠I) (hit:s.heap.IsRevIter I l ((items.size:Int) - 1)) (hl:s.heap.IsList l items) (hz:items.size<=sizeLine)
 (hQ:∀h' tk c',(∀b o,b≠I->s.heap.get? b=some o->h'.get? b=some o)->h'.get? s.heap.objs.size=some { cls:=.type "list",dict:=none,data:=.seq items.toList.reverse.toArray c',slots:=#[] } ->
  Q (.ref s.heap.objs.size) { s with heap:=h',toks:=tk }):wpAny (model prog w) A (call (.type "list") [.ref I]) Q E s:=by
 refine callType_codes (Q₁:=fun obj s₁=>obj=.ref s.heap.objs.size/\s₁={ s with heap:=s.heap.push { cls:=.type "list",data:=.seq #[] } }) F.called_list (F.typeCall_list_1 _) F.entry_list_init (code_list_new _ ⟨rfl,rfl⟩) ?_
 rintro obj s₁ ⟨rfl,rfl⟩
 have hS:(s.heap.push { cls:=.type "list",data:=.seq #[] }).get? s.heap.objs.size=some { cls:=.type "list",data:=.seq #[] }:=Heap.get?_push_size _ rfl
 refine ⟨⟨_,hS,rfl⟩,F.args_list_init_2 _ _,?_⟩
 have lI:I < s.heap.objs.size:=by obtain ⟨o,ho,_⟩:=hit;exact Heap.lt_size ho
 have ll:l < s.heap.objs.size:=by obtain ⟨o,ho,_⟩:=hl;exact Heap.lt_size ho
 show wpAny _ A.in1.in1 (do let old <- Builtin.List.listItems (.ref s.heap.objs.size);Builtin.List.listUpdate (.ref s.heap.objs.size) (fun _=>#[]);letGo old.toList.reverse;Builtin.List.listExtendWith (.ref s.heap.objs.size) (.ref I) .none) _ _ _
 refine wpAny_bind ?_
 unfold Builtin.List.listItems
 refine wpAny_bind (wpAny_seqItems hS rfl (wpAny_pure ?_))
 show wpAny _ A.in1.in1 (updateSeq s.heap.objs.size (fun _=>#[]) >>= fun _=>letGo (#[]:Array Value).toList.reverse >>= fun _=>Builtin.List.listExtendWith (.ref s.heap.objs.size) (.ref I) .none) _ _ _
 refine wpAny_bind (wpAny_updateSeq hS rfl ?_)
 have hS₂:=Heap.get?_update_self (Obj.mapSeq (fun _=>(#[]:Array Value))) hS rfl
 have oth:∀b o,s.heap.get? b=some o->((s.heap.push { cls:=.type "list",data:=.seq #[] }).update s.heap.objs.size (Obj.mapSeq (fun _=>(#[]:Array Value)))).get? b=some o :=
  fun b o e=>(Heap.get?_update_other _ _ (Ne.symm (Nat.ne_of_lt (Heap.lt_size e)))).trans (Heap.get?_push_of_some _ e)
 refine wpAny_bind (wpAny_letGo ?_)
 refine KQ (A:=A.in1) hh hne (hit.at (oth I)) (hl.at (oth l)) (Ne.symm (Nat.ne_of_lt lI)) (Ne.symm (Nat.ne_of_lt ll)) hz hS₂ fun s' c' hm hS'=>?_
 refine ⟨rfl,?_⟩
 rw [Moved.eq_with hm]
 exact hQ s'.heap s'.toks c' (fun b o hb e=>hm.heap b o (by simp [hb,Nat.ne_of_lt (Heap.lt_size e)]) (oth b o e)) hS'
end
section
variable {X:Cx} {e:Expr} {te:TE} {p p2 pos pos2:Pos}
def RZ (K:PySem.W.Frag) (te:TE):TE:=fun σ H Q=>te σ H fun x H1=>∃a ys,x=.ref a/\SqL K H1 a ys/\∀l,H1 l=none->Q (.ref l) (upd H1 l (.lst ys.reverse))
theorem Lg (hc:X.calm=true) (hg:Gl X "list") (hm:X.mg "list"=none) (hg2:Gl X "reversed") (hm2:X.mg "reversed"=none) (he:PE X e te)
 (hs:starEach [e] X.env=[(false,eval e X.env)]:=by rfl)
 (hs2:starEach [(.Call (.Name "reversed" p2) [e] [] pos2:Expr)] X.env=[(false,eval (.Call (.Name "reversed" p2) [e] [] pos2) X.env)]:=by rfl) :
 PE X (.Call (.Name "list" p) [.Call (.Name "reversed" p2) [e] [] pos2] [] pos) (RZ X.K te):=by
 intro pins s σ H Q I h
 refine wpAny_Call_Name_kw (Cf I hg hm boot_list ?_ (by decide) (by decide))
 refine callWith_type1 ?_ hs2 rfl
 rw [hs2]
 refine Calls.spliced_cons ?_
 refine wpAny_Call_Name_kw (Cf I hg2 hm2 boot_reversed ?_ (by decide) (by decide))
 refine callWith_type1 ?_ hs rfl
 rw [hs]
 refine Calls.spliced_cons (thn (he pins s σ H _ I h) fun u s1 ⟨x,H1,I1,r1,a,ys,hx,hq,q⟩=>?_)
 subst hx
 cases r1
 refine Calls.spliced_nil ?_
 obtain ⟨its,rv,pl,hz⟩:=I1.list hq
 have hl:=pl.isList
 have hlen:=rv.length
 refine call_reversed_list hl ?_
 refine Calls.spliced_nil ?_
 have la:a < s1.heap.objs.size:=by obtain ⟨o,ho,_⟩:=hl;exact Heap.lt_size ho
 refine HB (items:=its.toArray) (I1.ok.hd hc) (Nat.ne_of_lt la) ⟨_,Heap.get?_push_size _ rfl,rfl,rfl⟩ (hl.at fun o e=>Heap.get?_push_of_some _ e) (by simp only [size_toArray];omega) fun h' tk c' kp eS=>?_
 have kp':∀b o,s1.heap.get? b=some o->h'.get? b=some o:=fun b o e=>kp b o (Nat.ne_of_lt (Heap.lt_size e)) (Heap.get?_push_of_some _ e)
 have hp:s1.heap.objs.size<=(s1.heap.push (revObj a ((its.toArray.size:Int) - 1))).objs.size:=by simp [Heap.push]
 refine ⟨.ref _,_,I1.laid (t':=tk) kp' hp (show Ba X.prog X.w _ h' _ (.lst ys.reverse) from ⟨by simpa using hz,its.reverse,c',rv.reverse,by simpa using eS⟩),rfl,q _ (I1.hok.fresh hp)⟩
end
end L2
namespace L2
open PySem PySem.W PySem.Spec PyProof.Rows
section
variable {O:KeyOrd} {ky:Nat->O.α} {n:Nat} {cmp:Nat->Nat->(Bool->Shared->Prop)->Shared->Prop} {J:Shared->Prop}
def kk (ky:Nat->O.α) (p:Array Nat) (i:Nat):O.α:=ky (p.getD i 0)
def Srt (ky:Nat->O.α) (p:Array Nat) (m:Nat):Prop:=∀i j,i<=j->j < m->O.kle (kk ky p i) (kk ky p j)
def Fal (ky:Nat->O.α) (p:Array Nat) (m:Nat):Prop:=∀i j,i<=j->j < m->O.kle (kk ky p j) (kk ky p i)
def Prm (n:Nat) (p:Array Nat):Prop:=p.toList.Perm (List.range n)
def IE (O:KeyOrd) (ky:Nat->O.α) (n:Nat) (cmp:Nat->Nat->(Bool->Shared->Prop)->Shared->Prop) (J:Shared->Prop):Prop :=
 ∀i j (C:Bool->Shared->Prop) s,i < n->j < n->J s->(∀s',J s'->C (O.blt (ky i) (ky j)) s')->cmp i j C s
theorem Prm.size {p:Array Nat} (h:Prm n p):p.size=n:=by
 have:=h.length_eq
 rw [length_range] at this
 exact this
theorem Prm.lt {p:Array Nat} (h:Prm n p) {k:Nat} (hk:k < n):p.getD k 0 < n:=by
 have hz:=h.size
 have e:p.getD k 0=p[k]'(by omega):=by simp [Array.getD,hz,hk]
 rw [e]
 exact mem_range.mp (h.mem_iff.mp (by simp))
theorem Prm.rev {p:Array Nat} (h:Prm n p) (i j:Nat):Prm n (kas_rev p i j):=(mirror_perm p i j _).toList.trans h
theorem Prm.bub {p:Array Nat} (h:Prm n p) (k d:Nat):Prm n (bubble p k d):=(bubble_perm p k d).toList.trans h
theorem EW {p q:Array Nat} {i j:Nat} (e:p[i]?=q[j]?):p.getD i 0=q.getD j 0:=by
 rw [Array.getD_eq_getD_getElem?,Array.getD_eq_getD_getElem?,e]
theorem FL {p:Array Nat} {i j:Nat} (hj:j<=p.size) (k:Nat):kk ky (kas_rev p i j) k=if i<=k/\k < j then kk ky p (i+j - 1 - k) else kk ky p k:=by
 have e:=getElem?_mirror_all (xs:=p) (i:=i) hj k
 unfold kk kas_rev
 by_cases c:i<=k/\k < j
 ·rw [if_pos c] at e ⊢
  rw [EW e]
 ·rw [if_neg c] at e ⊢
  rw [EW e]
theorem OF {p:Array Nat} {src d:Nat} (hs:src < p.size) (hd:d<=src) (k:Nat) :
 kk ky (bubble p src d) k=if k=src - d then kk ky p src else if src - d < k/\k<=src then kk ky p (k - 1) else kk ky p k:=by
 have e:=getElem?_bubble hs d hd k
 unfold kk
 by_cases c:k=src - d
 ·rw [if_pos c] at e ⊢
  rw [EW e]
 ·rw [if_neg c] at e ⊢
  by_cases c2:src - d < k/\k<=src
  ·rw [if_pos c2] at e ⊢
   rw [EW e]
  ·rw [if_neg c2] at e ⊢
   rw [EW e]
theorem Srt.succ {p:Array Nat} {m:Nat} (h:Srt ky p m) (h1:1<=m) (c:O.kle (kk ky p (m - 1)) (kk ky p m)):Srt ky p (m+1):=fun i j hij hj=>by
 by_cases e:j=m
 ·subst e
  by_cases e2:i=j
  ·subst e2
   exact KeyOrd.kle_refl _
  ·exact KeyOrd.kle_trans (h i (j - 1) (by omega) (by omega)) c
 ·exact h i j hij (by omega)
theorem Fal.succ {p:Array Nat} {m:Nat} (h:Fal ky p m) (h1:1<=m) (c:O.kle (kk ky p m) (kk ky p (m - 1))):Fal ky p (m+1):=fun i j hij hj=>by
 by_cases e:j=m
 ·subst e
  by_cases e2:i=j
  ·subst e2
   exact KeyOrd.kle_refl _
  ·exact KeyOrd.kle_trans c (h i (j - 1) (by omega) (by omega))
 ·exact h i j hij (by omega)
theorem Srt.one {p:Array Nat}:Srt ky p 1:=fun i j hij hj=>by
 have:i=j:=by omega
 subst this
 exact KeyOrd.kle_refl _
theorem Fal.rev {p:Array Nat} {m:Nat} (hz:m<=p.size) (h:Fal ky p m):Srt ky (kas_rev p 0 m) m:=fun i j hij hj=>by
 rw [FL hz,FL hz,if_pos ⟨Nat.zero_le _,by omega⟩,if_pos ⟨Nat.zero_le _,hj⟩]
 exact h _ _ (by omega) (by omega)
theorem Fal.revEq {p:Array Nat} {i j m:Nat} (hz:j<=p.size) (hm:j<=m) (h:Fal ky p m) (eq:∀a b,i<=a->a < j->i<=b->b < j->O.kle (kk ky p a) (kk ky p b)):Fal ky (kas_rev p i j) m:=fun a b hab hb=>by
 rw [FL hz,FL hz]
 by_cases c1:i<=a/\a < j
 ·rw [if_pos c1]
  by_cases c2:i<=b/\b < j
  ·rw [if_pos c2]
   exact eq _ _ (by omega) (by omega) (by omega) (by omega)
  ·rw [if_neg c2]
   exact h _ _ (by omega) hb
 ·rw [if_neg c1]
  by_cases c2:i<=b/\b < j
  ·rw [if_pos c2]
   exact h _ _ (by omega) (by omega)
  ·rw [if_neg c2]
   exact h _ _ hab hb
theorem Lc (ac:IE O ky n cmp J) {p:Array Nat} (hp:Prm n p) {R:Nat->Shared->Prop}:∀(f a:Nat) (s:Shared),1<=a->a+f<=n->Srt ky p a->J s ->
 (∀m s',a<=m->m<=a+f->Srt ky p m->(m < a+f->O.klt (kk ky p m) (kk ky p (m - 1)))->J s'->R m s')->(kas_asc p f a).kasWp cmp R s
 | 0,a,s,h1,hz,hs,hJ,k=>k a s (Nat.le_refl _) (Nat.le_refl _) hs (fun h=>absurd h (Nat.lt_irrefl _)) hJ
 | f+1,a,s,h1,hz,hs,hJ,k=>by
   refine ac _ _ _ s (hp.lt (by omega)) (hp.lt (by omega)) hJ fun s' hJ'=>?_
   cases e:O.blt (ky (p.getD a 0)) (ky (p.getD (a - 1) 0)) with
   | true =>
     dsimp only
     rw [if_pos rfl]
     exact k a s' (Nat.le_refl _) (by omega) hs (fun _=>e) hJ'
   | false =>
     dsimp only
     rw [if_neg Bool.false_ne_true]
     refine Lc ac hp f (a+1) s' (by omega) (by omega) (hs.succ h1 e) hJ' fun m s2 l1 l2 q1 q2 q3=>?_
     exact k m s2 (by omega) (by omega) q1 (fun h=>q2 (by omega)) q3
theorem Gv (ac:IE O ky n cmp J) {R:Array Nat × Nat × Nat->Shared->Prop}:∀(f:Nat) (p:Array Nat) (m q:Nat) (s:Shared),Prm n p->q+1<=m->m+f<=n->Fal ky p m ->
 (∀a b,m - (q+1)<=a->a < m->m - (q+1)<=b->b < m->O.kle (kk ky p a) (kk ky p b))->J s ->
 (∀p' m' q' s',Prm n p'->q'+1<=m'->m<=m'->m'<=m+f->Fal ky p' m'->(∀a b,m' - (q'+1)<=a->a < m'->m' - (q'+1)<=b->b < m'->O.kle (kk ky p' a) (kk ky p' b))->J s'->R (p',m',q') s') ->
 (kas_desc f p m q).kasWp cmp R s
 | 0,p,m,q,s,hp,hq,hz,hf,he,hJ,k=>k p m q s hp hq (Nat.le_refl _) (Nat.le_refl _) hf he hJ
 | f+1,p,m,q,s,hp,hq,hz,hf,he,hJ,k=>by
   have hsz:=hp.size
   refine ac _ _ _ s (hp.lt (by omega)) (hp.lt (by omega)) hJ fun s' hJ'=>?_
   cases e:O.blt (ky (p.getD m 0)) (ky (p.getD (m - 1) 0)) with
   | true =>
     dsimp only
     rw [if_pos rfl]
     have hf':Fal ky p (m+1):=hf.succ (by omega) (KeyOrd.kle_of_klt e)
     have one:∀p':Array Nat,∀a b,m+1 - (0+1)<=a->a < m+1->m+1 - (0+1)<=b->b < m+1->O.kle (kk ky p' a) (kk ky p' b):=fun p' a b _ _ _ _=>by
      have:a=b:=by omega
      subst this
      exact KeyOrd.kle_refl _
     by_cases c:q > 0
     ·rw [if_pos c]
      refine Gv ac f (kas_rev p (m - (q+1)) m) (m+1) 0 s' (hp.rev _ _) (by omega) (by omega) (hf'.revEq (by omega) (by omega) he) (one _) hJ' fun p' m' q' s2 a1 a2 a3 a4 a5 a6 a7=>?_
      exact k p' m' q' s2 a1 a2 (by omega) (by omega) a5 a6 a7
     ·rw [if_neg c]
      refine Gv ac f p (m+1) 0 s' hp (by omega) (by omega) hf' (one _) hJ' fun p' m' q' s2 a1 a2 a3 a4 a5 a6 a7=>?_
      exact k p' m' q' s2 a1 a2 (by omega) (by omega) a5 a6 a7
   | false =>
     dsimp only
     rw [if_neg Bool.false_ne_true]
     refine ac _ _ _ s' (hp.lt (by omega)) (hp.lt (by omega)) hJ' fun s2 hJ2=>?_
     cases e2:O.blt (ky (p.getD (m - 1) 0)) (ky (p.getD m 0)) with
     | true =>
       dsimp only
       rw [if_pos rfl]
       exact k p m q s2 hp hq (Nat.le_refl _) (by omega) hf he hJ2
     | false =>
       dsimp only
       rw [if_neg Bool.false_ne_true]
       have g1:O.kle (kk ky p (m - 1)) (kk ky p m):=e
       have g2:O.kle (kk ky p m) (kk ky p (m - 1)):=e2
       refine Gv ac f p (m+1) (q+1) s2 hp (by omega) (by omega) (hf.succ (by omega) g2) (fun a b a1 a2 b1 b2=>?_) hJ2 fun p' m' q' s3 c1 c2 c3 c4 c5 c6 c7=>?_
       ·by_cases ea:a=m
        ·by_cases eb:b=m
         ·rw [ea,eb]
          exact KeyOrd.kle_refl _
         ·rw [ea]
          exact KeyOrd.kle_trans g2 (he (m - 1) b (by omega) (by omega) (by omega) (by omega))
        ·by_cases eb:b=m
         ·rw [eb]
          exact KeyOrd.kle_trans (he a (m - 1) (by omega) (by omega) (by omega) (by omega)) g1
         ·exact he a b (by omega) (by omega) (by omega) (by omega)
       ·exact k p' m' q' s3 c1 c2 (by omega) (by omega) c5 c6 c7
theorem JC (ac:IE O ky n cmp J) {p:Array Nat} (hp:Prm n p) {m nrem:Nat} {R:Nat × Array Nat->Shared->Prop} {s:Shared} (h1:1<=m) (h2:m<=nrem) (h3:nrem<=n) (hf:Fal ky p m) (hJ:J s)
 (k:∀m' p' s',1<=m'->m'<=nrem->Prm n p'->Srt ky p' m'->J s'->R (m',p') s'):(kas_tail3 m nrem p).kasWp cmp R s:=by
 have hsz:=hp.size
 unfold kas_tail3
 rw [KasT.kasWp_bind]
 refine Lc ac (hp.rev 0 m) (nrem - m) m s h1 (by omega) (hf.rev (by omega)) hJ fun m' s' a1 a2 a3 _ a5=>?_
 exact k m' _ s' (by omega) (by omega) (hp.rev _ _) a3 a5
theorem FS (ac:IE O ky n cmp J) {p:Array Nat} (hp:Prm n p) {m nrem:Nat} {R:Nat × Array Nat->Shared->Prop} {s:Shared} (h2:m+1<=nrem) (h3:nrem<=n) (hf:Fal ky p (m+1)) (hJ:J s)
 (k:∀m' p' s',1<=m'->m'<=nrem->Prm n p'->Srt ky p' m'->J s'->R (m',p') s'):(kas_descPart m nrem p).kasWp cmp R s:=by
 unfold kas_descPart
 rw [KasT.kasWp_bind]
 refine Gv ac (nrem - (m+1)) p (m+1) 0 s hp (by omega) (by omega) hf (fun a b _ _ _ _=>?_) hJ fun p' m' q' s' a1 a2 a3 a4 a5 a6 a7=>?_
 ·have:a=b:=by omega
  subst this
  exact KeyOrd.kle_refl _
 ·have hsz:=a1.size
  dsimp only
  by_cases c:q' > 0
  ·rw [if_pos c]
   exact JC ac (a1.rev _ _) (by omega) (by omega) h3 (a5.revEq (by omega) (Nat.le_refl _) a6) a7 k
  ·rw [if_neg c]
   exact JC ac a1 (by omega) (by omega) h3 a5 a7 k
theorem N2 (ac:IE O ky n cmp J) {p:Array Nat} (hp:Prm n p) {R:Nat × Array Nat->Shared->Prop} {s:Shared} (h1:1<=n) (hJ:J s)
 (k:∀m' p' s',1<=m'->m'<=n->Prm n p'->Srt ky p' m'->J s'->R (m',p') s'):(kas_count n p).kasWp cmp R s:=by
 have hsz:=hp.size
 unfold kas_count
 rw [KasT.kasWp_bind]
 refine Lc ac hp (n - 1) 1 s (Nat.le_refl _) (by omega) Srt.one hJ fun m s' a1 a2 a3 a4 a5=>?_
 by_cases c:m=n
 ·rw [if_pos (by simpa using c)]
  exact k m p s' a1 (by omega) hp a3 a5
 ·rw [if_neg (by simpa using c)]
  have lt:=a4 (by omega)
  by_cases c1:m > 1
  ·rw [if_pos c1]
   refine ac _ _ _ s' (hp.lt (by omega)) (hp.lt (by omega)) a5 fun s2 hJ2=>?_
   cases e:O.blt (ky (p.getD 0 0)) (ky (p.getD (m - 1) 0)) with
   | true =>
     dsimp only
     rw [if_pos rfl]
     exact k m p s2 a1 (by omega) hp a3 hJ2
   | false =>
     dsimp only
     rw [if_neg Bool.false_ne_true]
     have g:O.kle (kk ky p (m - 1)) (kk ky p 0):=e
     have eq:∀a b,a < m->b < m->O.kle (kk ky p a) (kk ky p b):=fun a b ha hb =>
      KeyOrd.kle_trans (a3 a (m - 1) (by omega) (by omega)) (KeyOrd.kle_trans g (a3 0 b (by omega) hb))
     refine FS ac (hp.rev 0 m) (by omega) (Nat.le_refl _) ?_ hJ2 k
     intro i j hij hj
     rw [FL (by omega),FL (by omega)]
     by_cases cj:j < m
     ·rw [if_pos ⟨Nat.zero_le _,cj⟩,if_pos ⟨Nat.zero_le _,by omega⟩]
      exact eq _ _ (by omega) (by omega)
     ·have ej:j=m:=by omega
      subst ej
      rw [if_neg (by omega)]
      by_cases ci:i < j
      ·rw [if_pos ⟨Nat.zero_le _,ci⟩]
       exact KeyOrd.kle_trans (KeyOrd.kle_of_klt lt) (eq _ _ (by omega) (by omega))
      ·rw [if_neg (by omega)]
       have:i=j:=by omega
       subst this
       exact KeyOrd.kle_refl _
  ·rw [if_neg c1]
   have em:m=1:=by omega
   subst em
   refine FS ac hp (by omega) (Nat.le_refl _) ?_ a5 k
   have f1:Fal ky p 1:=fun i j hij hj=>by
    have:i=j:=by omega
    subst this
    exact KeyOrd.kle_refl _
   exact f1.succ (Nat.le_refl _) (KeyOrd.kle_of_klt lt)
theorem GO (ac:IE O ky n cmp J) {p:Array Nat} (hp:Prm n p) {t:Nat} (ht:t < n) {R:Nat->Shared->Prop}:∀(f l r:Nat) (s:Shared),l<=r->r<=t->r - l<=f->(∀i,i < l->O.kle (kk ky p i) (kk ky p t))->(∀i,r<=i->i < t->O.klt (kk ky p t) (kk ky p i)) ->
 Srt ky p t->J s->(∀l' s',l'<=t->(∀i,i < l'->O.kle (kk ky p i) (kk ky p t))->(∀i,l'<=i->i < t->O.klt (kk ky p t) (kk ky p i))->J s'->R l' s')->(kas_place p t f l r).kasWp cmp R s
 | 0,l,r,s,h1,h2,h3,h4,h5,_,hJ,k=>k l s (by omega) h4 (fun i a b=>h5 i (by omega) b) hJ
 | f+1,l,r,s,h1,h2,h3,h4,h5,hs,hJ,k=>by
   unfold kas_place
   by_cases c:l>=r
   ·rw [if_pos c]
    exact k l s (by omega) h4 (fun i a b=>h5 i (by omega) b) hJ
   ·rw [if_neg c]
    refine ac _ _ _ s (hp.lt ht) (hp.lt (by omega)) hJ fun s' hJ'=>?_
    cases e:O.blt (ky (p.getD t 0)) (ky (p.getD ((l+r) / 2) 0)) with
    | true =>
      dsimp only
      rw [if_pos rfl]
      have g:O.klt (kk ky p t) (kk ky p ((l+r) / 2)):=e
      exact GO ac hp ht f l ((l+r) / 2) s' (by omega) (by omega) (by omega) h4 (fun i a b=>KeyOrd.klt_of_klt_of_kle g (hs _ _ a b)) hs hJ' k
    | false =>
      dsimp only
      rw [if_neg Bool.false_ne_true]
      have g:O.kle (kk ky p ((l+r) / 2)) (kk ky p t):=e
      exact GO ac hp ht f ((l+r) / 2+1) r s' (by omega) h2 (by omega) (fun i a=>KeyOrd.kle_trans (hs i ((l+r) / 2) (by omega) (by omega)) g) h5 hs hJ' k
theorem Oc (ac:IE O ky n cmp J) {R:Array Nat->Shared->Prop}:∀(f:Nat) (p:Array Nat) (t:Nat) (s:Shared),Prm n p->t+f=n->Srt ky p t->J s->(∀p' s',Prm n p'->Srt ky p' n->J s'->R p' s')->(kas_bin f p t).kasWp cmp R s
 | 0,p,t,s,hp,hz,hs,hJ,k=>k p s hp (by have:t=n:=by omega
                                       subst this;exact hs) hJ
 | f+1,p,t,s,hp,hz,hs,hJ,k=>by
   have hsz:=hp.size
   unfold kas_bin
   rw [KasT.kasWp_bind]
   refine GO ac hp (by omega) t 0 t s (Nat.zero_le _) (Nat.le_refl _) (by omega) (fun i h=>absurd h (Nat.not_lt_zero _)) (fun i a b=>absurd b (by omega)) hs hJ fun l s' a1 a2 a3 hJ'=>?_
   refine Oc ac f (bubble p t (t - l)) (t+1) s' (hp.bub _ _) (by omega) ?_ hJ' k
   intro i j hij hj
   have el:t - (t - l)=l:=by omega
   rw [OF (by omega) (by omega),OF (by omega) (by omega),el]
   by_cases ci:i=l
   ·rw [if_pos ci]
    by_cases cj:j=l
    ·rw [if_pos cj]
     exact KeyOrd.kle_refl _
    ·rw [if_neg cj,if_pos ⟨by omega,by omega⟩]
     exact KeyOrd.kle_of_klt (a3 _ (by omega) (by omega))
   ·rw [if_neg ci]
    by_cases ci2:l < i/\i<=t
    ·rw [if_pos ci2,if_neg (by omega),if_pos ⟨by omega,by omega⟩]
     exact hs _ _ (by omega) (by omega)
    ·rw [if_neg ci2]
     by_cases cj:j=l
     ·rw [if_pos cj]
      exact a2 _ (by omega)
     ·rw [if_neg cj]
      by_cases cj2:l < j/\j<=t
      ·rw [if_pos cj2]
       exact hs _ _ (by omega) (by omega)
      ·rw [if_neg cj2]
       exact hs _ _ hij (by omega)
theorem Pb (ac:IE O ky n cmp J) {R:Array Nat->Shared->Prop} {s:Shared} (h1:1<=n) (hJ:J s) (k:∀p s',Prm n p->Srt ky p n->J s'->R p s'):(kas_sort n).kasWp cmp R s:=by
 unfold kas_sort
 rw [KasT.kasWp_bind]
 refine N2 ac (List.Perm.refl _) h1 hJ fun m p s' a1 a2 a3 a4 a5=>?_
 dsimp only
 by_cases c:m < n
 ·rw [if_pos c]
  have e:max m 1=m:=by omega
  rw [e]
  exact Oc ac (n - m) p m s' a3 (by omega) a4 a5 k
 ·rw [if_neg c]
  have e:m=n:=by omega
  subst e
  exact k p s' a3 a4 a5
end
end L2
namespace L2
open PySem PySem.W PySem.Spec PyProof.Rows
theorem DI:∀a b:List Int,HT.lexLt a b=decide (a < b)
 | [],[]=>by simp [HT.lexLt]
 | [],_ :: _=>by simp [HT.lexLt]
 | _ :: _,[]=>by simp [HT.lexLt]
 | x :: xs,y :: ys=>by
   rw [HT.lexLt_cons,DI xs ys]
   by_cases e:x=y
   ·subst e
    rw [if_pos rfl]
    simp [cons_lt_cons_iff]
   ·rw [if_neg e]
    simp [cons_lt_cons_iff,e]
def Pc:KeyOrd where
 α:=List Int
 blt a b:=HT.lexLt a b
 irrefl a:=by rw [DI];simpa using List.lt_irrefl a
 trans a b c h1 h2:=by
  rw [DI] at *
  simp only [decide_eq_true_eq] at *
  exact List.lt_trans h1 h2
 negTrans a b c h:=by
  rw [DI] at h
  rw [DI,DI]
  simp only [decide_eq_true_eq] at *
  by_cases hab:a < b
  ·exact .inl hab
  ·exact .inr (List.lt_of_le_of_lt (List.not_lt.mp hab) h)
 total a b h1 h2:=by
  rw [DI] at *
  simp only [decide_eq_false_iff_not] at *
  exact List.le_antisymm (List.not_lt.mp h2) (List.not_lt.mp h1)
def DS (h:Heap) (v:Value) (ns:List Int):Prop:=∃a its,v=.ref a/\IsTup h a its/\IntsAre its.toList ns
section
variable {prog:Program} {w:World} {A:Around} {E:Value->Shared->Prop} {s:Shared} {Q:Bool->Shared->Prop}
theorem L0 {fin bb:Bool}:∀{vs us:List Value} {ns ms:List Int} (i:Nat),IntsAre vs ns->IntsAre us ms->Q (HT.lexLt ns ms) s->fin=decide (vs.length < us.length)->KatLex prog w A bb fin Q (vs.zip us) i s
 | _,_,_,_,i,.nil,.nil,h,e=>by
   refine kat_nil ?_
   rw [e]
   exact h
 | _,_,_,_,i,.nil,.cons _ _ _,h,e=>by
   refine kat_nil ?_
   rw [e]
   simpa [HT.lexLt] using h
 | _,_,_,_,i,.cons _ _ _,.nil,h,e=>by
   refine kat_nil ?_
   rw [e]
   simpa [HT.lexLt] using h
 | _,_,_,_,i,.cons (vs:=vs) (ns:=ns) x t hv,.cons (vs:=us) (ns:=ms) y u hu,h,e=>by
   refine kat_cons (wpAny_eqBool_int (kat_go (fun c=>?_) (fun c=>?_)))
   ·have xy:x=y:=by simpa using c
    subst xy
    refine kat_yes (L0 (i+1) hv hu ?_ ?_)
    ·simpa [HT.lexLt] using h
    ·rw [e]
     simp
   ·have xy:¬ x=y:=by simpa using c
    refine kat_no ?_
    have h':Q (decide (x < y)) s:=by simpa [HT.lexLt,xy] using h
    cases (bb && i == 0) with
    | true=>exact oneLt_int h'
    | false=>exact kat_one _ _ (lt_int h')
def Lq (κ:SortKind):Prop:=(∃b,κ=tuples' b)\/κ=general'\/κ=oneType'
theorem QE {κ:SortKind} {x y:Value} {ns ms:List Int} (hk:Lq κ) (hx:DS s.heap x ns) (hy:DS s.heap y ms) (hu:A.units < cLine) (h:Q (HT.lexLt ns ms) s):wpAny (model prog w) A (keyLt' κ x y) Q E s:=by
 obtain ⟨a,its,rfl,ta,ia⟩:=hx
 obtain ⟨b,jts,rfl,tb,ib⟩:=hy
 rcases hk with ⟨bb,rfl⟩ | rfl | rfl
 ·obtain ⟨o,ho,hc,n,hd⟩:=ta
  obtain ⟨o2,ho2,hc2,n2,hd2⟩:=tb
  exact kat_lt ho hd ho2 hd2 (L0 0 ia ib h (by simp))
 ·exact kat_one _ _ (HT.lt_tupInts ta tb ia ib hu h)
 ·rw [keyLt'_oneType,oneLt'_eq]
  simp only [if_true]
  refine wpAny_bind (wpAny_cRoomFor hu ?_)
  obtain ⟨⟨cls,dd,data,sl⟩,ho,hc,n,hd⟩:=id ta
  obtain ⟨⟨cls2,dd2,data2,sl2⟩,ho2,hc2,n2,hd2⟩:=id tb
  simp only at hc hd hc2 hd2
  subst hc hd hc2 hd2
  refine wpAny_bind (wpAny_callSpecialIfBound?_slot (T:="tuple") ⟨_,ho,rfl⟩ PySem.F.slot_tuple_lt (call_meets PySem.F.slot_tuple_lt ⟨_,ho,rfl⟩ PySem.F.entry_tuple_lt (PySem.F.args_tuple_lt_2 _ _) (HT.tuple_lt_ints a b its jts n n2 dd dd2 sl sl2 ns ms ia ib) ⟨ho,ho2,?_⟩))
  exact wpAny_truthy_bool h
theorem K9:∀{l:List Value} {ns:List Int},IntsAre l ns->∀{v:Value},l[0]?=some v->∃n t,v=Value.int n t
 | _,_,.nil,v,e=>by simp at e
 | _,_,.cons n t _,v,e=>⟨n,t,by simpa using e.symm⟩
theorem Kq {α β:Type} {f:α->Sem β}:∀(l:List α) {R:List β->Shared->Prop},(∀v∈l,∀(Q':β->Shared->Prop),(∀r,Q' r s)->wpAny (model prog w) A (f v) Q' E s)->(∀rs,R rs s)->wpAny (model prog w) A (l.mapM f) R E s
 | [],_,_,h=>by
   rw [mapM_nil]
   exact wpAny_pure (h [])
 | x :: l,R,hf,h=>by
   rw [mapM_cons]
   exact wpAny_bind (hf x (.head _) _ fun r=>wpAny_bind (Kq l (R:=fun bs s'=>wpAny (model prog w) A (pure (r :: bs)) R E s') (fun v hv=>hf v (.tail _ hv)) fun rs=>wpAny_pure (h _)))
theorem JU {l:List Value} {R:Option Value->Shared->Prop} (hf:∀v∈l,∀(Q':Value->Shared->Prop),(∀r,Q' r s)->wpAny (model prog w) A (typeOf v) Q' E s) (h:∀r,R r s):wpAny (model prog w) A (oneTypeOnly' l.toArray) R E s:=by
 rw [oneTypeOnly'_eq,mapM_toArray,map_eq_pure_bind]
 refine wpAny_bind (wpAny_bind (Kq l hf fun rs=>wpAny_pure ?_))
 cases rs.toArray[0]? with
 | none=>exact wpAny_pure (h _)
 | some t=>exact wpAny_pure (h _)
theorem KF {rows:List (List Int)}:∀{vs:List Value},Paired (DS s.heap) vs rows->∀{R:List (Option Value)->Shared->Prop},(∀fs,fs.length=vs.length->(∀f∈fs,∀v,f=some v->∃n t,v=Value.int n t)->R fs s) ->
 wpAny (model prog w) A (vs.mapM firstOfTuple') R E s:=by
 intro vs hp
 induction hp with
 | nil =>
   intro R h
   rw [mapM_nil]
   exact wpAny_pure (h [] rfl (fun f m=>nomatch m))
 | cons hx hr ih =>
   intro R h
   obtain ⟨a,its,rfl,⟨o,ho,hc,n,hd⟩,ia⟩:=hx
   rw [mapM_cons]
   refine wpAny_bind ?_
   rw [kas_first_eq]
   refine wpAny_bind (Looks.here (show Looks (model prog w) s.heap (typeOf (.ref a)) o.cls from (Looks.ld ho).andThen .now) ?_)
   rw [hc,if_neg (by first | decide | simp)]
   refine wpAny_bind (listItems_at ho hd (wpAny_pure ?_))
   refine wpAny_bind (ih fun fs l1 l2=>wpAny_pure (h _ (by rw [length_cons,length_cons,l1]) fun f m v e=>?_))
   rcases mem_cons.mp m with m | m
   ·subst m
    have e':its.toList[0]?=some v:=by simpa using e
    exact K9 ia e'
   ·exact l2 f m v e
theorem O5 {vs:List Value} {rows:List (List Int)} (hp:Paired (DS s.heap) vs rows) {R:SortKind->Shared->Prop} (h:∀κ,Lq κ->R κ s):wpAny (model prog w) A (keyKind' vs.toArray) R E s:=by
 rw [kat_kind_eq,mapM_toArray,map_eq_pure_bind]
 refine wpAny_bind (wpAny_bind (KF hp fun fs l1 l2=>wpAny_pure ?_))
 by_cases c:(fs.toArray.all fun x=>x.isSome)=true
 ·rw [if_pos c]
  refine wpAny_bind (wpAny_rule ?_)
  have e:fs.toArray.filterMap id=(fs.filterMap id).toArray:=by simp
  rw [e]
  refine wpAny_bind (JU (fun v hv Q' hq=>?_) fun r=>wpAny_pure (h _ (.inl ⟨_,rfl⟩)))
  obtain ⟨f,fm,fe⟩:=mem_filterMap.mp hv
  obtain ⟨n,t,rfl⟩:=l2 f fm v fe
  exact wpAny_of_eq (a:=Value.type "int") rfl (hq _)
 ·rw [if_neg c]
  by_cases c2:(fs.toArray[0]?.bind id).isSome=true
  ·rw [if_pos c2]
   exact wpAny_pure (h _ (.inr (.inl rfl)))
  ·rw [if_neg c2]
   refine wpAny_bind (JU (fun v hv Q' hq=>?_) fun r=>?_)
   ·obtain ⟨ns,hr⟩:∃ns,DS s.heap v ns:=by
     clear l1 l2 c c2
     induction hp with
     | nil=>cases hv
     | cons hx _ ih =>
       rcases mem_cons.mp hv with m | m
       ·exact ⟨_,m ▸ hx⟩
       ·exact ih m
    obtain ⟨a,its,rfl,⟨o,ho,hc,n,hd⟩,ia⟩:=hr
    exact Looks.here (show Looks (model prog w) s.heap (typeOf (.ref a)) o.cls from (Looks.ld ho).andThen .now) (hq _)
   ·cases r with
    | none=>exact wpAny_pure (h _ (.inr (.inl rfl)))
    | some t=>exact wpAny_pure (h _ (.inr (.inr rfl)))
theorem FC {α β:Type} {R:α->β->Prop} (d:α) (e:β):∀{xs:List α} {ys:List β},Paired R xs ys->∀i,i < xs.length->R (xs.getD i d) (ys.getD i e)
 | _,_,.nil,i,h=>absurd h (Nat.not_lt_zero _)
 | _,_,.cons r _,0,_=>r
 | _,_,.cons _ t,i+1,h=>FC d e t i (by simpa using h)
theorem Hi (vs:List Value):(List.range vs.length).map (fun i=>vs.getD i Value.none)=vs:=by
 apply ext_getElem
 ·simp
 ·intro i h1 h2
  simp [h2]
theorem DS.keep {h h':Heap} {v:Value} {ns:List Int} (x:DS h v ns) (k:∀b o,o.cls=.type "tuple"->h.get? b=some o->h'.get? b=some o):DS h' v ns:=by
 obtain ⟨a,its,rfl,⟨o,ho,hc,n,hd⟩,ia⟩:=x
 exact ⟨a,its,rfl,⟨o,k a o hc ho,hc,n,hd⟩,ia⟩
theorem N6 {a:Addr} {vs:List Value} {rows:List (List Int)} {n:Nat} {P:PySem.Fin->Shared->Prop} (ho:s.heap.get? a=some (seqObj "list" vs.toArray n)) (hp:Paired (DS s.heap) vs rows) (h64:vs.length < 64) (hu:A.units < cLine)
 (h:∀p:Array Nat,Prm vs.length p->Srt (O:=Pc) (fun i=>rows.getD i []) p vs.length->P (.done (.ret .none)) { s with heap:=sortedHeap s.heap a vs (List.toArray (p.toList.map fun i=>vs.getD i Value.none)) }) :
 wpAny (model prog w) A (Builtin.«list.sort» ⟨[.ref a],[]⟩) P E s:=by
 rw [list_sort_plain]
 have ha:a < s.heap.objs.size:=Heap.lt_size ho
 refine wpAny_bind (listItems_at ho rfl ?_)
 refine wpAny_bind (listUpdate_at ho rfl ?_)
 obtain ⟨e1,ho1⟩:∃e1,(s.heap.update a (Obj.mapSeq fun _=>#[])).get? a=some (seqObj "list" #[] e1):=⟨_,get?_update_seq ho (fun _=>#[])⟩
 refine wpAny_bind (seqEpoch_at ho1 rfl ?_)
 refine wpAny_bind (wpAny_newTuple ?_)
 refine wpAny_bind (wpAny_newList ?_)
 refine wpAny_holding ?_
 have ho6:(((s.heap.update a (Obj.mapSeq fun _=>#[])).push (seqObj "tuple" vs.toArray 0)).push (seqObj "list" #[] 0)).get? a=some (seqObj "list" #[] e1):=by
  rw [Heap.get?_push_ne _ _ _ (by rw [size_push',Heap.size_update];exact Nat.ne_of_lt (Nat.lt_succ_of_lt ha)),Heap.get?_push_ne _ _ _ (by rw [Heap.size_update];exact Nat.ne_of_lt ha)]
  exact ho1
 have hp6:Paired (DS (((s.heap.update a (Obj.mapSeq fun _=>#[])).push (seqObj "tuple" vs.toArray 0)).push (seqObj "list" #[] 0))) vs rows:=Paired.mapP hp fun v ns x=>x.keep fun b o hc e=>by
  have hb:b≠a:=fun z=>by
   rw [z,ho] at e
   cases e
   exact absurd (show Value.type "list"=Value.type "tuple" from hc) (by decide)
  exact Heap.get?_push_of_some _ (Heap.get?_push_of_some _ ((Heap.get?_update_other _ _ (Ne.symm hb)).trans e))
 show wpAny (model prog w) A _ P E { s with heap:=((s.heap.update a (Obj.mapSeq fun _=>#[])).push (seqObj "tuple" vs.toArray 0)).push (seqObj "list" #[] 0) }
 dsimp only
 have hsz:vs.toArray.size=vs.length:=by simp
 by_cases h2:vs.toArray.size < 2
 ·rw [if_pos h2,if_pos h2]
  refine wpAny_bind (wpAny_pure ?_)
  rw [StateT.run_pure]
  refine wpAny_bind (wpAny_pure ?_)
  dsimp only
  refine wpAny_bind (seqEpoch_at ho6 rfl ?_)
  refine wpAny_bind (listUpdate_at ho6 rfl ?_ (hsz2:=by rw [Array.size_map];show (pairsOf vs).size<=_;rw [pairsOf_size,sizeLine_eq];omega))
  simp only [bne_self_eq_false,Bool.false_eq_true,if_false]
  have hh:=h (List.range vs.length).toArray (List.Perm.refl _) (fun i j hij hj=>by
   have:i=j:=by omega
   subst this
   exact KeyOrd.kle_refl _)
  rw [show (List.range vs.length).toArray.toList.map (fun i=>vs.getD i Value.none)=vs from Hi vs] at hh
  have e:(arrOf (SortSt.mk' general' (vs.toArray.zip vs.toArray) #[] 7 none)).map (·.2)=vs.toArray:=by
   show (vs.toArray.zip vs.toArray).map (·.2)=vs.toArray
   apply Array.ext
   ·simp
   ·intro i h1 h2
    simp
  refine wpAny_pure ?_
  have hh':=hh
  rw [<- e] at hh'
  exact hh'
 ·rw [if_neg h2,if_neg h2]
  refine wpAny_bind (O5 hp6 fun κ hκ=>?_)
  have ac:IE Pc (fun i=>rows.getD i []) vs.length (kas_ask prog w A κ vs) (fun s'=>s'={ s with heap:=((s.heap.update a (Obj.mapSeq fun _=>#[])).push (seqObj "tuple" vs.toArray 0)).push (seqObj "list" #[] 0) }):=by
   intro i j C s' hi hj e k
   subst e
   exact QE hκ (FC Value.none [] hp6 i hi) (FC Value.none [] hp6 j hj) hu (k _ rfl)
  refine wpAny_bind (wpAny_mono (kat_run (ks:=vs) (vs:=vs) (Q:=fun st' s'=>∃p:Array Nat,arrOf st'=p.map (kas_item (vs.toArray.zip vs.toArray))/\failedOf st'=none/\s'={ s with heap:=((s.heap.update a (Obj.mapSeq fun _=>#[])).push (seqObj "tuple" vs.toArray 0)).push (seqObj "list" #[] 0) }/\Prm vs.length p/\Srt (O:=Pc) (fun i=>rows.getD i []) p vs.length)
   (G:=fun p s'=>s'={ s with heap:=((s.heap.update a (Obj.mapSeq fun _=>#[])).push (seqObj "tuple" vs.toArray 0)).push (seqObj "list" #[] 0) }/\Prm vs.length p/\Srt (O:=Pc) (fun i=>rows.getD i []) p vs.length)
   rfl (by omega) h64 (fun p st' s' _ a2 a3 g=>⟨p,a2,a3,g⟩) (Pb ac (by omega) rfl fun p s' q1 q2 e=>⟨e,q1,q2⟩)) ?_ fun _ _ e=>e)
  rintro ⟨⟨⟩,st'⟩ s' ⟨p,har,hf,rfl,q1,q2⟩
  dsimp only
  have hout:=kat_snds rfl har
  refine wpAny_bind (seqEpoch_at ho6 rfl ?_)
  rw [hout]
  refine wpAny_bind (listUpdate_at ho6 rfl ?_ (hsz2:=by rw [size_toArray,length_map,Array.length_toList,q1.size,sizeLine_eq];omega))
  rw [hf]
  simp only [bne_self_eq_false,Bool.false_eq_true,if_false]
  exact wpAny_pure (h p q1 q2)
end
section
variable {X:Cx}
theorem Je:Ch X (.builtin "sorted") (fun xs H Q=>∃(a:Addr) (ns:List Int),xs=[.ref a]/\SqL X.K H a (ns.map V.int)/\ns.length < 64 /\
 ∀(l:Addr) (ms:List Int),ms.Perm ns->ms.Pairwise (·<=·)->H l=none->Q (.ref l) (upd H l (.lst (ms.map V.int)))):=by
 intro pins s σ H xs us Q I r h
 obtain ⟨a,ns,rfl,hq,h64,q⟩:=h
 obtain ⟨u,rfl,rx⟩:=D6 r
 cases rx
 obtain ⟨its,rv,pl,hz⟩:=I.list hq
 have hlen:=rv.length
 rw [length_map] at hlen
 refine sorted_ints pl.isList (BO rv) (by omega) fun out ms i1 i2 i3=>?_
 obtain ⟨e,he⟩:=sortedAll_at s.heap its out
 have hfr:H (s.heap.objs.size+1)=none:=I.hok.fresh (Nat.le_succ _)
 refine ⟨.ref _,_,I.laid (t':=s.toks) (fun b o hb=>sortedAll_old hb) (Nat.le_succ _) (show Ba X.prog X.w _ _ _ (.lst (ms.map V.int)) from ⟨?_,out.toList,e,Ey i1,he⟩),rfl,q _ ms i2 i3 hfr⟩
 rw [length_map,i2.length_eq,sizeLine_eq]
 omega
theorem IC:∀as:List Addr,A6 (as.map V.ref) (as.map Value.ref)
 | []=>.nil
 | a :: as=>.cons rfl (IC as)
end
end L2
namespace L2
open PySem PySem.W PySem.Spec PyProof.Rows
def Dl (h:Heap) (d:Addr) (es:Array DictEntry) (ep:Nat):Prop:=∃o,h.get? d=some o/\o.ExactDict/\o.data=.dict es ep
theorem Dl.at {h h':Heap} {d:Addr} {es:Array DictEntry} {ep:Nat} (x:Dl h d es ep) (e:∀o,h.get? d=some o->h'.get? d=some o):Dl h' d es ep:=let ⟨o,ho,r⟩:=x;⟨o,e _ ho,r⟩
theorem Dl.lt {h:Heap} {d:Addr} {es:Array DictEntry} {ep:Nat} (x:Dl h d es ep):d < h.objs.size:=let ⟨_,ho,_⟩:=x;Heap.lt_size ho
theorem Dl.typeIs {s:Shared} {d:Addr} {es:Array DictEntry} {ep:Nat} (x:Dl s.heap d es ep):s.TypeIs (.ref d) "dict":=let ⟨o,ho,hc,_⟩:=x;⟨o,ho,hc.1⟩
section
variable {prog:Program} {w:World} {A:Around} {E:Value->Shared->Prop} {s:Shared} {d:Addr} {es:Array DictEntry} {ep:Nat}
theorem NN {Q:Value->Shared->Prop} (hd:(d == sysModules)=false) (hm:Dl s.heap d es ep)
 (hQ:Q (.ref s.heap.objs.size) { s with heap:=s.heap.push { cls:=.type "dict_keyiterator",data:=.fields #[.ref d,.int 0 0,.int es.size 0,.int ep 0] } }):wpAny (model prog w) A (pyIter (.ref d)) Q E s:=by
 have hT:=hm.typeIs
 obtain ⟨o,ho,hc,hdat⟩:=id hm
 refine wpAny_pyIter_slot hT F.slot_dict_iter (wpAny_call_entry F.slot_dict_iter hT F.entry_dict_iter ?_ (F.args_dict_iter_1 _))
 unfold Builtin.«dict.__iter__»
 refine wpAny_bind ?_
 unfold Builtin.Dict.dictSlotNone
 refine wpAny_bind (wpAny_notOrdered_dict hT ?_)
 show wpAny _ _ (pure (Value.ref d)) _ _ s
 refine wpAny_pure ?_
 show wpAny _ _ (Builtin.Dict.showsAll d >>= _) _ _ s
 unfold Builtin.Dict.showsAll
 rw [if_neg (by rw [hd];exact Bool.false_ne_true)]
 refine wpAny_bind (wpAny_pure ?_)
 refine wpAny_bind (wpAny_dictEntries ho hdat ?_)
 refine wpAny_bind (wpAny_dictEpoch ho hdat ?_)
 refine wpAny_bind (wpAny_newObj_type (wpAny_pure ⟨_,rfl,"dict_keyiterator",_,⟨_,Heap.get?_push_size _ rfl,rfl⟩,F.slot_dict_keyiterator_next.lookup,?_⟩))
 simpa [rawInt] using hQ
theorem NT {it:Addr} {i:Nat} {e:DictEntry} {Q:Option Value->Shared->Prop} (hit:s.heap.IsKeyIter it d i es.size ep) (hm:Dl s.heap d es ep) (hx:es[i]?=some e)
 (hQ:∀h',h'.IsKeyIter it d (i+1) es.size ep->Heap.SameBut it s.heap h'->Q (some e.key) { s with heap:=h' }):wpAny (model prog w) A (pyNext (.ref it)) Q E s:=by
 obtain ⟨o,ho,hc,hd⟩:=id hit
 obtain ⟨od,hod,hcd,hdd⟩:=id hm
 unfold pyNext
 refine wpAny_bind (wpAny_attempt (wpAny_callSpecial?_slot (name:=Str.ofString "__next__") hit.typeIs F.slot_dict_keyiterator_next
  (wpAny_call_entry F.slot_dict_keyiterator_next hit.typeIs F.entry_dict_keyiterator_next ?_ (F.args_dict_keyiterator_next_1 _))))
 refine wpAny_bind (wpAny_pure ?_)
 refine wpAny_bind ?_
 refine wpAny_bind ?_
 first | refine wpAny_bind (wpAny_typeNameOfWhole_keyiter hit.typeIs (wpAny_pure ?_)) | refine wpAny_bind (wpAny_typeNameOf_keyiter hit.typeIs (wpAny_pure ?_))
 refine wpAny_bind (wpAny_fieldsOf ho hd ?_)
 have hown:Builtin.Dict_items.ownsTuple "dict_keyiterator"=false:=by decide
 simp only [hown,Bool.false_eq_true,if_false]
 show wpAny _ _ (if (Value.ref d == Value.none)=true then _ else _) _ _ s
 rw [if_neg (show ¬ ((Value.ref d == Value.none)=true) from Bool.false_ne_true)]
 refine wpAny_bind (wpAny_pure ?_)
 refine wpAny_bind (wpAny_dictEntries hod hdd ?_)
 rw [if_neg (by simp)]
 refine wpAny_bind (wpAny_pure ?_)
 refine wpAny_bind (wpAny_dictEpoch hod hdd ?_)
 rw [if_neg (by simp)]
 refine wpAny_pure ?_
 simp only [show ¬ ((i:Int) < 0) from by omega,if_false,Int.toNat_natCast,hx]
 refine wpAny_bind ?_
 first | refine wpAny_bind (wpAny_typeNameOfWhole_keyiter hit.typeIs (wpAny_pure ?_)) | refine wpAny_bind (wpAny_typeNameOf_keyiter hit.typeIs (wpAny_pure ?_))
 refine wpAny_bind (wpAny_isOneOf_keyiter hit.typeIs ?_)
 show wpAny _ _ (setField (.ref it) 1 (rawInt ((i:Int)+1)) >>= _) _ _ s
 refine wpAny_bind (wpAny_setField ho hd (by simp) ?_)
 have hit':(s.heap.update it (Obj.mapFields (·.setIfInBounds 1 (rawInt ((i:Int)+1))))).IsKeyIter it d (i+1) es.size ep :=
  ⟨_,Heap.get?_update_self _ ho (Obj.isFreed_of_fields (Obj.data_mapFields hd _)),(Obj.cls_mapFields ..).trans hc,by rw [Obj.data_mapFields hd];simp [rawInt]⟩
 refine wpAny_bind (wpAny_holding ?_)
 refine wpAny_bind (wpAny_isOneOf_keyiter (s:={ s with heap:=s.heap.update it (Obj.mapFields (·.setIfInBounds 1 (rawInt ((i:Int)+1)))) }) hit'.typeIs ?_)
 show wpAny _ _ (pure e.key) _ _ _
 exact wpAny_pure (wpAny_pure ⟨_,rfl,wpAny_pure (hQ _ hit' (Heap.SameBut.update ..))⟩)
theorem Ph {it:Addr} {i:Nat} {Q:Option Value->Shared->Prop} (hh:A.handled=none) (hit:s.heap.IsKeyIter it d i es.size ep) (hm:Dl s.heap d es ep) (hx:es.size<=i)
 (hQ:∀h',Heap.ExtBut it s.heap h'->Q none { s with heap:=h' }):wpAny (model prog w) A (pyNext (.ref it)) Q E s:=by
 obtain ⟨o,ho,hc,hd⟩:=id hit
 obtain ⟨od,hod,hcd,hdd⟩:=id hm
 unfold pyNext
 refine wpAny_bind (wpAny_attempt (wpAny_callSpecial?_slot (name:=Str.ofString "__next__") hit.typeIs F.slot_dict_keyiterator_next
  (wpAny_call_entry F.slot_dict_keyiterator_next hit.typeIs F.entry_dict_keyiterator_next ?_ (F.args_dict_keyiterator_next_1 _))))
 refine wpAny_bind (wpAny_pure ?_)
 refine wpAny_bind ?_
 refine wpAny_bind ?_
 first | refine wpAny_bind (wpAny_typeNameOfWhole_keyiter hit.typeIs (wpAny_pure ?_)) | refine wpAny_bind (wpAny_typeNameOf_keyiter hit.typeIs (wpAny_pure ?_))
 refine wpAny_bind (wpAny_fieldsOf ho hd ?_)
 have hown:Builtin.Dict_items.ownsTuple "dict_keyiterator"=false:=by decide
 simp only [hown,Bool.false_eq_true,if_false]
 show wpAny _ _ (if (Value.ref d == Value.none)=true then _ else _) _ _ s
 rw [if_neg (show ¬ ((Value.ref d == Value.none)=true) from Bool.false_ne_true)]
 refine wpAny_bind (wpAny_pure ?_)
 refine wpAny_bind (wpAny_dictEntries hod hdd ?_)
 rw [if_neg (by simp)]
 refine wpAny_bind (wpAny_pure ?_)
 refine wpAny_bind (wpAny_dictEpoch hod hdd ?_)
 rw [if_neg (by simp)]
 refine wpAny_pure ?_
 simp only [show ¬ ((i:Int) < 0) from by omega,if_false,Int.toNat_natCast,Array.getElem?_eq_none hx]
 refine wpAny_bind ?_
 first | refine wpAny_bind (wpAny_typeNameOfWhole_keyiter hit.typeIs (wpAny_pure ?_)) | refine wpAny_bind (wpAny_typeNameOf_keyiter hit.typeIs (wpAny_pure ?_))
 show wpAny _ _ (setField (.ref it) 0 .none >>= _) _ _ s
 refine wpAny_bind (wpAny_setField ho hd (by simp) ?_)
 show wpAny _ _ (newExc (.type "StopIteration") [] >>= _) _ _ _
 refine wpAny_bind ?_
 simp only [newExc,newTuple]
 refine wpAny_bind (wpAny_newObj_type ?_ (by size_fits))
 refine wpAny_bind (m:=firstArgMember _ _) (wpAny_of_eq (a:=Value.none) (by first | rfl | (simp only [firstArgMember];rfl)) ?_)
 refine wpAny_newObj_type ?_ (by size_fits)
 simp only [raiseNew]
 refine wpAny_bind (wpAny_handled ?_)
 rw [show A.in1.handled=none from hh]
 refine wpAny_bind (wpAny_pure (wpAny_throw ?_))
 refine wpAny_bind (wpAny_isInstance (T:="StopIteration") (b:=true) ⟨_,Heap.get?_push_size _ rfl,rfl⟩ isSubtype_stop ?_)
 exact wpAny_pure (hQ _ (((Heap.SameBut.update ..).extBut.push _).push _))
theorem LY (hh:A.handled=none) (I:Addr) (hne:d≠I):Walks prog w A I [I,d] [I] es.size (fun i v=>∃e,es[i]?=some e/\v=e.key) (fun i h=>h.IsKeyIter I d i es.size ep/\Dl h d es ep) where
 sub:=fun b hb=>by simp at hb;simp [hb]
 frame:=fun _ _ _ st hk=>⟨st.1.at fun o e=>hk I (by simp) o e,st.2.at fun o e=>hk d (by simp) o e⟩
 item:=fun i s Q E hi st hQ=>by
  obtain ⟨e,hx⟩:∃e,es[i]?=some e:=⟨es[i],by simp [hi]⟩
  refine NT st.1 st.2 hx fun h' hit' hs'=>?_
  exact hQ e.key h' s.toks ⟨e,hx,rfl⟩ ⟨hit',st.2.at fun o q=>hs'.extBut d o hne q⟩ fun b o hb q=>hs'.extBut b o (fun h=>hb (by simp [h])) q
 done:=fun s Q E st hQ=>Ph hh st.1 st.2 (Nat.le_refl _) fun h' he'=>hQ h' s.toks fun b o hb q=>he' b o (fun h=>hb (by simp [h])) q
 self:=fun _ _ _ _ st hQ=>wpAny_pyIter_keyiter st.1 hQ
theorem Pd (lo:(d == sysModules)=false):KdlSrc prog w "dict" d d es.size (fun i v=>∃e,es[i]?=some e/\v=e.key) (fun h=>Dl h d es ep) where
 type:=fun _ hm=>hm.typeIs
 there:=fun _ hm=>⟨hm.lt,hm.lt⟩
 keep:=fun _ _ hm hk=>hm.at fun o e=>hk d (.inl rfl) o e
 notList:=by decide
 notTuple:=by decide
 hint:=fun _ _ _ _ hm hq=>kdl_hint_dict hm.typeIs hq
 iter:=fun _ s hh hm=>⟨_,_,(fun _ _ hq=>NN lo hm hq),LY hh _ (Nat.ne_of_lt hm.lt),⟨⟨_,Heap.get?_push_size _ rfl,rfl,rfl⟩,hm.at fun o e=>Heap.get?_push_of_some _ e⟩⟩
theorem OI {acc:Array Value} (h:ItemsOf (fun i v=>∃e,es[i]?=some e/\v=e.key) acc es.size):acc=es.map (·.key):=by
 obtain ⟨h1,h2⟩:=h
 apply Array.ext
 ·simpa using h1
 ·intro i hi hj
  obtain ⟨e,he,hk⟩:=h2 i acc[i] (by simp [hi])
  have hi':i < es.size:=by omega
  rw [Array.getElem?_eq_getElem hi'] at he
  rw [hk,Array.getElem_map,Option.some.inj he]
theorem JE {R:List Value->Shared->Prop} (lo:(d == sysModules)=false) (hm:Dl s.heap d es ep) (hh:A.handled=none) (hn:es.size<=sizeLine)
 (h:∀(h':Heap) (tk:Nat),(∀b o,s.heap.get? b=some o->h'.get? b=some o)->s.heap.objs.size < h'.objs.size->R (es.toList.map (·.key)) { s with heap:=h',toks:=tk }) :
 wpAny (model prog w) A (collect (.ref d)) R E s:=by
 have hlt:=hm.lt
 unfold collect
 refine wpAny_bind (wpAny_runValue (codeAny_builtin entry_proto_collect' ?_))
 rw [Around.under_plainId PySem.F.plain_proto_collect _]
 show wpAny _ A.in1 (newList [] >>= fun l=>again (.builtin "list.__iadd__" ⟨[l,.ref d],[]⟩)) _ _ s
 refine wpAny_bind (wpAny_newObj_type ?_)
 refine wpAny_pure ⟨plainId_quiet PySem.F.plain_list_iadd _,codeAny_builtin entry_list_iadd' ?_⟩
 rw [Around.under_plainId PySem.F.plain_list_iadd _]
 have hS₁:(s.heap.push { cls:=.type "list",data:=.seq ([]:List Value).toArray }).get? s.heap.objs.size=some { cls:=.type "list",data:=.seq #[] }:=Heap.get?_push_size _ rfl
 show wpAny _ A.in1 (Builtin.List.listExtendWith (.ref s.heap.objs.size) (.ref d) (.ref s.heap.objs.size)) _ _ _
 have key:=kdl_extend (A:=A) (s:={ s with heap:=s.heap.push { cls:=.type "list",data:=.seq ([]:List Value).toArray } })
  (R:=fun (q:Result) (s':Shared)=>∃(h':Heap) (tk c':Nat),q=.ok (.ret (.ref s.heap.objs.size))/\s'={ s with heap:=h',toks:=tk } /\
   (∀b o,s.heap.get? b=some o->h'.get? b=some o)/\h'.get? s.heap.objs.size=some { cls:=.type "list",dict:=none,data:=.seq (es.map (·.key)) c',slots:=#[] })
  (Pd (prog:=prog) (w:=w) (es:=es) (ep:=ep) lo) hh (hm.at fun o e=>Heap.get?_push_of_some _ e) s.heap.objs.size (Nat.ne_of_gt hlt) (Nat.ne_of_gt hlt) (.ref s.heap.objs.size) 0 hS₁
  (fun h' tk acc' c' hk hS' hacc=>⟨h',tk,c',rfl,rfl,fun b o e=>hk b o (Nat.ne_of_lt (Heap.lt_size e)) (Heap.get?_push_of_some _ e),by rw [<- OI hacc];exact hS'⟩) hn
 refine wpAny_mono key (fun fin s' x=>?_) fun e s' x=>?_
 ·cases fin with
  | done f =>
    obtain ⟨h',tk,c',e,rfl,hk,hS'⟩:=x
    cases e
    show wpAny _ A (load s.heap.objs.size >>= _) _ _ _
    refine wpAny_bind (wpAny_load hS' ?_)
    have:=h h' tk hk (Heap.lt_size hS')
    rw [<- Array.toList_map] at this
    exact wpAny_pure this
  | again c₁ =>
    refine ⟨x.1,codeAny_mono x.2 fun q s₂ y=>?_⟩
    obtain ⟨h',tk,c',rfl,rfl,hk,hS'⟩:=y
    show wpAny _ A (load s.heap.objs.size >>= _) _ _ _
    refine wpAny_bind (wpAny_load hS' ?_)
    have:=h h' tk hk (Heap.lt_size hS')
    rw [<- Array.toList_map] at this
    exact wpAny_pure this
 ·obtain ⟨_,_,_,e',_⟩:=x
  cases e'
theorem JH {vs:List Value} (lo:(d == sysModules)=false) (hm:Dl s.heap d es ep) (hz:es.size < 64) (hh:A.handled=none) (hv:es.toList.map (·.key)=vs) {R:Value->Shared->Prop}
 (h:∀(h':Heap) (tk:Nat) (a:Addr),(∀b o,s.heap.get? b=some o->h'.get? b=some o/\b≠a)->s.heap.objs.size<=a->h'.get? a=some (seqObj "list" vs.toArray 0) ->
  wpAny (model prog w) A.in1.in1 (Builtin.«list.sort» ⟨[.ref a],[]⟩) (fun fin s'=>∃v,fin=.done (.ret v)/\R (.ref a) s') E { s with heap:=h',toks:=tk }) :
 wpAny (model prog w) A (call (.builtin "sorted") [.ref d]) R E s:=by
 refine Calls.call_function_entry kind_sorted plain_sorted entry_sorted (args_sorted1 _) ?_
 unfold Builtin.«sorted»
 refine wpAny_bind (m:=checkCount "sorted" 1 1 _) (wpAny_pure ?_)
 refine wpAny_bind (JE (A:=A.in1) lo hm hh (by rw [sizeLine_eq];omega) fun h' tk hk ge=>?_)
 rw [hv]
 have hl:vs.length < 64:=by rw [<- hv,length_map,Array.length_toList];exact hz
 refine wpAny_bind (wpAny_newList ?_ (by rw [sizeLine_eq];omega))
 have ho:(h'.push (seqObj "list" vs.toArray 0)).get? h'.objs.size=some (seqObj "list" vs.toArray 0):=Heap.get?_push_size _ rfl
 refine wpAny_bind (wpAny_holding (wpAny_call_entry slot_list_sort ⟨_,ho,rfl⟩ entry_list_sort ?_ (args_list_sort _)))
 refine wpAny_mono (h _ tk h'.objs.size (fun b o e=>⟨Heap.get?_push_of_some _ (hk b o e),Nat.ne_of_lt (Heap.lt_size (hk b o e))⟩) (Nat.le_of_lt ge) ho) (fun fin s' x=>?_) fun _ _ x=>x
 obtain ⟨v,rfl,q⟩:=x
 exact ⟨_,rfl,wpAny_pure ⟨_,rfl,q⟩⟩
end
section
variable {X:Cx}
theorem Ps {H:Hp}:∀{kvs:List (List Key × V)} {xs:List (List Key × Addr × Value)} {ks:List (List Int)},KT H kvs xs->kvs.map (·.1)=ks.map (List.map Sum.inl) ->
 ∃qs:List (Addr × List Int),xs.map (fun x=>Value.ref x.2.1)=(qs.map (·.1)).map Value.ref/\qs.map (·.2)=ks/\∀q∈qs,H q.1=some (.tup (q.2.map V.int)):=by
 intro kvs xs ks r
 induction r generalizing ks with
 | nil =>
   intro e
   cases ks with
   | nil=>exact ⟨[],rfl,rfl,fun _ m=>nomatch m⟩
   | cons _ _=>cases e
 | @cons p q ps qr hq t ih =>
   intro e
   cases ks with
   | nil=>cases e
   | cons k ks =>
     injection e with e1 e2
     obtain ⟨qs,a1,a2,a3⟩:=ih e2
     refine ⟨(q.2.1,k) :: qs,?_,?_,fun x m=>?_⟩
     ·rw [map_cons,a1]
      rfl
     ·rw [map_cons,a2]
     ·rcases mem_cons.mp m with m | m
      ·subst m
       have h:=hq.2.1
       have e1':p.1=k.map Sum.inl:=e1
       rw [e1',map_map] at h
       exact h
      ·exact a3 x m
theorem Hv (hc:X.calm=true) (hu:X.A.units+64 < cLine):Ch X (.builtin "sorted") (fun xs H Q=>∃(d:Addr) (kvs:List (List Key × V)) (ks:List (List Int)),xs=[.ref d]/\Rd H d (.dT kvs)/\kvs.map (·.1)=ks.map (List.map Sum.inl)/\ks.length < 64 /\
 ∀(l:Addr) (rs:List (Addr × List Int)),(∀q∈rs,H q.1=some (.tup (q.2.map V.int)))->(rs.map (·.2)).Perm ks->rs.Pairwise (fun x y=>HT.lexLt y.2 x.2=false)->H l=none->Q (.ref l) (upd H l (.lst (rs.map fun q=>V.ref q.1)))):=by
 intro pins s σ H xs us Q I r h
 obtain ⟨d,kvs,ks,rfl,hd,hks,h64,q⟩:=h
 obtain ⟨u,rfl,rx⟩:=D6 r
 cases rx
 obtain ⟨_,lo,xs,kt,o,es,ep,h1,h2,h3,h4,_,_⟩:=Gg I.hok hd
 obtain ⟨qs,b1,b2,b3⟩:=Ps kt hks
 have hv:es.toList.map (·.key)=(qs.map (·.1)).map Value.ref:=by
  rw [h4,map_map,<- b1]
  rfl
 have hql:qs.length=ks.length:=by rw [<- b2,length_map]
 have hes:es.size=qs.length:=by
  have:=congrArg List.length hv
  simpa using this
 have hp:Paired (DS s.heap) ((qs.map (·.1)).map Value.ref) (qs.map (·.2)):=by
  clear hv hql hes b1 b2
  induction qs with
  | nil=>exact .nil
  | cons q0 qr ih =>
    refine .cons ?_ (ih fun q m=>b3 q (mem_cons_of_mem _ m))
    obtain ⟨jts,rj,tj,_⟩:=I.tuple (SqT.of (b3 q0 (mem_cons_self ..)))
    exact ⟨q0.1,jts.toArray,rfl,tj,by simpa using BO rj⟩
 refine JH lo ⟨o,h1,h2,h3⟩ (by omega) (I.ok.hd hc) hv fun h' tk a kp ge ho=>?_
 have hp':Paired (DS h') ((qs.map (·.1)).map Value.ref) (qs.map (·.2)):=Paired.mapP hp fun v ns x=>x.keep fun b o _ e=>(kp b o e).1
 have ll:((qs.map (·.1)).map Value.ref).length=qs.length:=by rw [length_map,length_map]
 refine N6 (s:={ s with heap:=h',toks:=tk }) ho hp' (by omega) (by show X.A.units+1+1 < cLine;omega) fun p a1 a2=>⟨_,rfl,?_⟩
 obtain ⟨e,he⟩:=sortedHeap_at (out:=List.toArray (p.toList.map fun i=>((qs.map (·.1)).map Value.ref).getD i Value.none)) ho
 have hfr:H a=none:=I.hok.fresh ge
 have hps:=a1.size
 have lt:∀i∈p.toList,i < qs.length:=fun i m=>by
  have:=mem_range.mp (a1.mem_iff.mp m)
  omega
 let rs:=p.toList.map fun i=>qs.getD i (0,[])
 have eo:(p.toList.map fun i=>((qs.map (·.1)).map Value.ref).getD i Value.none)=(rs.map (·.1)).map Value.ref:=by
  show _=((p.toList.map fun i=>qs.getD i (0,[])).map (·.1)).map Value.ref
  simp only [map_map]
  refine map_congr_left fun i m=>?_
  have hi:=lt i m
  simp [hi]
 rw [eo] at he ⊢
 have pm:rs.Perm qs:=by
  have e1:(List.range ((qs.map (·.1)).map Value.ref).length).map (fun i=>qs.getD i ((0:Addr),([]:List Int)))=qs:=by
   rw [ll]
   apply ext_getElem
   ·simp
   ·intro i h1 h2
    simp [h2]
  have:=List.Perm.map (fun i=>qs.getD i ((0:Addr),([]:List Int))) a1
  rw [e1] at this
  exact this
 refine ⟨.ref _,_,I.laid (t':=tk) (fun b o hb=>?_) ge (show Ba X.prog X.w _ _ _ (.lst (rs.map fun q=>V.ref q.1)) from ⟨?_,(rs.map (·.1)).map Value.ref,e,?_,he⟩),rfl,q _ rs (fun q m=>b3 q (pm.mem_iff.mp m)) (by rw [<- b2];exact pm.map _) ?_ hfr⟩
 ·obtain ⟨k1,k2⟩:=kp b o hb
  rw [sortedHeap_old k2 (Heap.lt_size k1)]
  exact k1
 ·rw [length_map,pm.length_eq,sizeLine_eq]
  omega
 ·have:=IC (rs.map (·.1))
  rw [map_map] at this
  exact this
 ·rw [pairwise_iff_getElem]
  intro i j hi hj hij
  have hi':i < p.size:=by simpa [rs] using hi
  have hj':j < p.size:=by simpa [rs] using hj
  have g:=a2 i j (by omega) (by omega)
  have gi:(qs.map (·.2)).getD (p.getD i 0) []=(rs[i]).2:=by
   have l1:=lt p[i] (by simp)
   simp [rs,Array.getD,hi',l1]
  have gj:(qs.map (·.2)).getD (p.getD j 0) []=(rs[j]).2:=by
   have l1:=lt p[j] (by simp)
   simp [rs,Array.getD,hj',l1]
  have g2:HT.lexLt ((qs.map (·.2)).getD (p.getD j 0) []) ((qs.map (·.2)).getD (p.getD i 0) [])=false:=g
  rw [gi,gj] at g2
  exact g2
theorem Ir (hc:X.calm=true):Ch X (.builtin "max") (fun xs H Q=>∃(a:Addr) (ns:List Int),xs=[.ref a]/\SqL X.K H a (ns.map V.int)/\0 < ns.length/\∀M,M∈ns->(∀z∈ns,z<=M)->Q (.int M) H):=by
 intro pins s σ H xs us Q I r h
 obtain ⟨a,ns,rfl,hq,hne,q⟩:=h
 obtain ⟨u,rfl,rx⟩:=D6 r
 cases rx
 obtain ⟨its,rv,pl,hz⟩:=I.list hq
 have hi:=BO rv
 obtain ⟨xs,e⟩:=hi.allInts.items
 have hns:ns=xs.toList.map (·.1):=by
  rw [<- hi.numsOf,<- nums_intItems,<- e]
 have hsz:0 < xs.size:=by
  have h3:=hne;rw [hns,length_map,Array.length_toList] at h3;exact h3
 have hl:=pl.isList
 rw [e] at hl
 refine max_intList (I.ok.hd hc) hl hsz fun v h' tk hv hk=>?_
 obtain ⟨t,rfl⟩:=intItems_at hv
 obtain ⟨_,h2⟩:=argBest_gt (numAt xs) (xs.size - 1)
 refine ⟨.int _,H,I.kept hk,⟨t,rfl⟩,q _ ?_ fun z m=>?_⟩
 ·rw [hns,numAt_eq];exact getD_mem (by rw [length_map,Array.length_toList];omega)
 ·rw [hns] at m
  obtain ⟨j,hj,rfl⟩:=mem_getD m
  rw [length_map,Array.length_toList] at hj
  rw [<- numAt_eq];exact h2 j (by omega)
theorem Nb (hc:X.calm=true):Ch X (.builtin "min") (fun xs H Q=>∃(a:Addr) (ns:List Int),xs=[.ref a]/\SqL X.K H a (ns.map V.int)/\0 < ns.length/\∀M,M∈ns->(∀z∈ns,M<=z)->Q (.int M) H):=by
 intro pins s σ H xs us Q I r h
 obtain ⟨a,ns,rfl,hq,hne,q⟩:=h
 obtain ⟨u,rfl,rx⟩:=D6 r
 cases rx
 obtain ⟨its,rv,pl,hz⟩:=I.list hq
 have hi:=BO rv
 obtain ⟨xs,e⟩:=hi.allInts.items
 have hns:ns=xs.toList.map (·.1):=by
  rw [<- hi.numsOf,<- nums_intItems,<- e]
 have hsz:0 < xs.size:=by
  have h3:=hne;rw [hns,length_map,Array.length_toList] at h3;exact h3
 have hl:=pl.isList
 rw [e] at hl
 refine min_intList (I.ok.hd hc) hl hsz fun v h' tk hv hk=>?_
 obtain ⟨t,rfl⟩:=intItems_at hv
 obtain ⟨_,h2⟩:=argBest_lt (numAt xs) (xs.size - 1)
 refine ⟨.int _,H,I.kept hk,⟨t,rfl⟩,q _ ?_ fun z m=>?_⟩
 ·rw [hns,numAt_eq];exact getD_mem (by rw [length_map,Array.length_toList];omega)
 ·rw [hns] at m
  obtain ⟨j,hj,rfl⟩:=mem_getD m
  rw [length_map,Array.length_toList] at hj
  rw [<- numAt_eq];exact h2 j (by omega)
end
end L2
namespace L2
open PySem
def Ris (xs:Array Nat):Prop:=∀i j,i < j->j < xs.size->xs.getD i 0 < xs.getD j 0
theorem J6 {xs:Array Nat} {i:Nat} (h:i < xs.size) (a b:Nat):xs.getD i a=xs.getD i b:=by
 simp [Array.getD,h]
theorem GM {xs:Array Nat} (hr:Ris xs) (j:Nat):∀(f lo hi:Nat),lo<=hi->hi<=xs.size->hi - lo<=f->(∀i,i < lo->xs.getD i 0 < j)->(∀i,hi<=i->i < xs.size->j<=xs.getD i 0) ->
 SetTable.below.go xs j f lo hi<=xs.size/\(∀i,i < SetTable.below.go xs j f lo hi->xs.getD i 0 < j)/\∀i,SetTable.below.go xs j f lo hi<=i->i < xs.size->j<=xs.getD i 0
 | 0,lo,hi,h1,h2,h3,h4,h5=>by
   have:lo=hi:=by omega
   subst this
   exact ⟨h2,h4,h5⟩
 | f+1,lo,hi,h1,h2,h3,h4,h5=>by
   unfold SetTable.below.go
   by_cases c:lo < hi
   ·rw [if_pos c]
    dsimp only
    have hm:(lo+hi) / 2 < xs.size:=by omega
    by_cases c2:xs.getD ((lo+hi) / 2) j < j
    ·rw [if_pos c2]
     refine GM hr j f _ hi (by omega) h2 (by omega) (fun i hi'=>?_) h5
     rw [J6 hm j 0] at c2
     by_cases e:i=(lo+hi) / 2
     ·rw [e];exact c2
     ·exact Nat.lt_trans (hr i ((lo+hi) / 2) (by omega) hm) c2
    ·rw [if_neg c2]
     refine GM hr j f lo _ (by omega) (by omega) (by omega) h4 (fun i a b=>?_)
     rw [J6 hm j 0] at c2
     by_cases e:i=(lo+hi) / 2
     ·rw [e];omega
     ·have:=hr ((lo+hi) / 2) i (by omega) b
      omega
   ·rw [if_neg c]
    have:lo=hi:=by omega
    subst this
    exact ⟨h2,h4,h5⟩
theorem Hd {xs:Array Nat} (hr:Ris xs) (j:Nat):SetTable.below xs j<=xs.size/\(∀i,i < SetTable.below xs j->xs.getD i 0 < j)/\∀i,SetTable.below xs j<=i->i < xs.size->j<=xs.getD i 0 :=
 GM hr j xs.size 0 xs.size (Nat.zero_le _) (Nat.le_refl _) (by omega) (fun i h=>absurd h (Nat.not_lt_zero _)) (fun i a b=>absurd a (by omega))
theorem GW {xs:Array Nat} (hr:Ris xs):SetTable.below xs 0=0:=by
 obtain ⟨_,h,_⟩:=Hd hr 0
 cases e:SetTable.below xs 0 with
 | zero=>rfl
 | succ n=>exact absurd (h n (by omega)) (Nat.not_lt_zero _)
theorem GL {xs:Array Nat} (hr:Ris xs) {i:Nat} (hi:i < xs.size):SetTable.below xs (xs.getD i 0+1)=i+1:=by
 obtain ⟨h0,h1,h2⟩:=Hd hr (xs.getD i 0+1)
 have a:¬ SetTable.below xs (xs.getD i 0+1)<=i:=fun c=>by
  have:=h2 i c hi
  omega
 have b:¬ i+1 < SetTable.below xs (xs.getD i 0+1):=fun c=>by
  have p:=h1 (i+1) c
  have q:=hr i (i+1) (by omega) (by omega)
  omega
 omega
theorem JT {α:Type} {xs:Array α} {p:Nat} (hp:p<=xs.size) (x:α):(SetTable.insertAt xs p x).size=xs.size+1:=by
 unfold SetTable.insertAt
 simp
 omega
theorem Gf {xs:Array Nat} {p:Nat} (hp:p<=xs.size) (x i:Nat):(SetTable.insertAt xs p x).getD i 0=if i < p then xs.getD i 0 else if i=p then x else xs.getD (i - 1) 0:=by
 unfold SetTable.insertAt
 rw [Array.getD_eq_getD_getElem?,Array.getElem?_append]
 by_cases c:i < p
 ·rw [if_pos c,if_pos (by simp;omega),Array.getElem?_push]
  rw [if_neg (by simp;omega),Array.getElem?_extract]
  rw [if_pos (by omega),Array.getD_eq_getD_getElem?]
  simp
 ·rw [if_neg c]
  by_cases c2:i=p
  ·subst c2
   rw [if_pos rfl,if_pos (by simp;omega),Array.getElem?_push,if_pos (by simp;omega)]
   rfl
  ·rw [if_neg c2,if_neg (by simp;omega),Array.getElem?_extract,Array.getD_eq_getD_getElem?]
   have e:((xs.extract 0 p).push x).size=p+1:=by simp;omega
   rw [e]
   by_cases c3:i - (p+1) < min xs.size xs.size - p
   ·rw [if_pos c3]
    congr 2
    omega
   ·rw [if_neg c3,Array.getElem?_eq_none (by omega)]
theorem Ris.put {xs:Array Nat} (hr:Ris xs) {j:Nat} (hj:xs[SetTable.below xs j]?≠some j):Ris (SetTable.insertAt xs (SetTable.below xs j) j):=by
 obtain ⟨h0,h1,h2⟩:=Hd hr j
 intro a b hab hb
 rw [JT h0] at hb
 rw [Gf h0,Gf h0]
 generalize hp:SetTable.below xs j=p at *
 have gt:∀i,p<=i->i < xs.size->j < xs.getD i 0:=fun i a b=>by
  have l:=h2 i a b
  by_cases e:i=p
  ·subst e
   have:xs.getD i 0≠j:=fun z=>hj (by simp [Array.getD,b] at z;simp [b,z])
   omega
  ·have:=h2 p (Nat.le_refl _) (by omega)
   have:=hr p i (by omega) b
   omega
 by_cases ca:a < p
 ·rw [if_pos ca]
  by_cases cb:b < p
  ·rw [if_pos cb]
   exact hr a b hab (by omega)
  ·rw [if_neg cb]
   by_cases cb2:b=p
   ·rw [if_pos cb2]
    exact h1 a ca
   ·rw [if_neg cb2]
    exact hr a (b - 1) (by omega) (by omega)
 ·rw [if_neg ca]
  by_cases ca2:a=p
  ·rw [if_pos ca2,if_neg (show ¬ b < p by omega),if_neg (show ¬ b=p by omega)]
   exact gt (b - 1) (by omega) (by omega)
  ·rw [if_neg ca2,if_neg (show ¬ b < p by omega),if_neg (show ¬ b=p by omega)]
   exact hr (a - 1) (b - 1) (by omega) (by omega)
theorem Mh (n:Nat):Ris (Array.range n):=fun i j hij hj=>by
 have hj':j < n:=by simpa using hj
 have hi':i < n:=by omega
 simp [Array.getD,hj',hi']
 exact hij
theorem Gn {l:List Nat} (h:l.Pairwise (· < ·)):Ris l.toArray:=fun i j hij hj=>by
 have hj':j < l.length:=by simpa using hj
 have hi':i < l.length:=by omega
 have:=pairwise_iff_getElem.mp h i j hi' hj' hij
 simpa [Array.getD,hj',hi'] using this
theorem J7 {owner:Array (Option Nat)} (n:Nat):(((List.range n).filterMap fun j=>(owner.getD j none).map (j,·)).map (·.1)).Pairwise (· < ·):=by
 rw [pairwise_map,pairwise_filterMap]
 refine List.Pairwise.imp ?_ pairwise_lt_range
 intro a b hab x hx y hy
 cases e1:owner.getD a none with
 | none=>rw [e1] at hx;cases hx
 | some u =>
   cases e2:owner.getD b none with
   | none=>rw [e2] at hy;cases hy
   | some v =>
     rw [e1] at hx
     rw [e2] at hy
     cases hx
     cases hy
     exact hab
theorem PN {mask finger moves:Nat} {led plain:Bool} {hashes:Array Int} {t:SetTable} {order:Array Nat} (h:SetTable.laid mask finger moves led plain hashes=some (t,order)):Ris t.place/\t.led=led:=by
 unfold SetTable.laid at h
 cases e:SetTable.layClean mask hashes with
 | none=>rw [e] at h;cases h
 | some owner =>
   rw [e] at h
   cases h
   exact ⟨Gn (J7 _),rfl⟩
theorem EL {t:SetTable} {f:Nat->Int} {hv:Int}:∀(n:Nat) (p:SetTable.Probe) {j:Nat} {du:Option Nat},(∀d,p.dummy=some d->t.place[SetTable.below t.place d]?≠some d) ->
 SetTable.probe.go t f hv n p=some (.empty j du)->(∀d,du=some d->t.place[SetTable.below t.place d]?≠some d)/\t.place[SetTable.below t.place j]?≠some j
 | 0,p,j,du,hd,e=>by cases e
 | n+1,p,j,du,hd,e=>by
   unfold SetTable.probe.go at e
   by_cases c:t.place[SetTable.below t.place p.j]?=some p.j
   ·have es:t.slot p.j=.live (SetTable.below t.place p.j):=by
     unfold SetTable.slot
     simp [c]
    rw [es] at e
    dsimp only at e
    by_cases c2:(f (SetTable.below t.place p.j) == hv)=true
    ·rw [if_pos c2] at e;cases e
    ·rw [if_neg c2] at e
     refine EL n _ ?_ e
     unfold SetTable.advance
     by_cases c3:p.more > 0
     ·rw [if_pos c3];exact hd
     ·rw [if_neg c3];exact hd
   ·by_cases c4:SetTable.has t.dummies p.j=true
    ·have es:t.slot p.j=.dummy:=by
      unfold SetTable.slot
      simp [c,c4]
     rw [es] at e
     dsimp only at e
     refine EL n _ ?_ e
     have k:∀d,some p.j=some d->t.place[SetTable.below t.place d]?≠some d:=fun d z=>by
      cases z
      exact c
     unfold SetTable.advance
     by_cases c3:p.more > 0
     ·rw [if_pos c3];exact k
     ·rw [if_neg c3];exact k
    ·have es:t.slot p.j=.empty:=by
      unfold SetTable.slot
      simp [c,c4]
     rw [es] at e
     cases e
     exact ⟨hd,c⟩
theorem PY {t:SetTable} {hv:Int} {slot:Nat} {b:Bool} (h:t.freeSlot hv=some (slot,b)):t.place[SetTable.below t.place slot]?≠some slot:=by
 unfold SetTable.freeSlot SetTable.probe at h
 cases e:SetTable.probe.go t (fun _=>hv+1) hv (10*SetTable.turns t.mask) (t.probeStart hv) with
 | none=>rw [e] at h;cases h
 | some m =>
   rw [e] at h
   cases m with
   | candidate j i nx=>cases h
   | empty j du =>
     obtain ⟨a,b'⟩:=EL _ _ (fun d z=>by cases z) e
     cases du with
     | none =>
       cases h
       exact b'
     | some d =>
       cases h
       exact a d rfl
def Walk (t:SetTable):Prop:=Ris t.place/\t.led=true
theorem Walk.standIn {t:SetTable} (h:Walk t) (n:Nat):Walk (t.standIn n):=⟨Mh n,h.2⟩
theorem Walk.orStandIn {t:SetTable} (h:Walk t) (n:Nat):Walk (t.orStandIn n):=by
 unfold SetTable.orStandIn
 split
 ·exact h
 ·exact h.standIn n
theorem Walk.lay {t:SetTable} (h:Walk t) (es:Array (Int × Value)) (hv:Int) (x:Value):Walk (layNew t es hv x).2.1:=by
 unfold layNew
 cases e:t.freeSlot hv with
 | none=>exact h.standIn _
 | some q =>
   obtain ⟨slot,b⟩:=q
   have w:Walk (t.put slot).1:=⟨h.1.put (PY e),h.2⟩
   exact w.orStandIn _
theorem Walk.relay {t:SetTable} (h:Walk t) (es:Array (Int × Value)) (n:Nat):Walk (relayAll t es n).2.1:=by
 unfold relayAll SetTable.relaid
 cases e:SetTable.laid (SetTable.sizeAbove n - 1) t.finger (t.movedTo (SetTable.sizeAbove n - 1)) t.led t.plain (es.map (·.1)) with
 | none=>exact h.standIn _
 | some q =>
   obtain ⟨t',order⟩:=q
   obtain ⟨a,b⟩:=PN e
   dsimp only
   split
   ·exact ⟨a,b.trans h.2⟩
   ·exact h.standIn _
end L2
namespace L2
open PySem PySem.W PySem.Spec PyProof.Rows
def Cm (w:World):Bool:=w.params.followText "set-order"
def Fl (prog:Program) (w:World) (h:Heap) (a:Addr) (l:List Int):Prop :=
 ∃o es ep t ms,h.get? a=some o/\o.ExactSet/\o.data=.set es ep t/\ElemsOf (intKind prog w) es.toList/\IntsAre (es.toList.map (·.2)) ms/\ms.Perm l/\es.size < scanBound/\t.fits es.size=true/\(Cm w=true\/Walk t)
theorem FE {vs vs':List Value} (p:vs'.Perm vs):∀{ns:List Int},IntsAre vs ns->∃ns',IntsAre vs' ns'/\ns'.Perm ns:=by
 induction p with
 | nil=>intro ns h;cases h;exact ⟨[],.nil,.refl _⟩
 | cons x _ ih =>
   intro ns h
   cases h with
   | cons n t h =>
     obtain ⟨ns',a,b⟩:=ih h
     exact ⟨n :: ns',.cons n t a,b.cons n⟩
 | swap x y l =>
   intro ns h
   cases h with
   | cons n t h =>
     cases h with
     | cons m u h=>exact ⟨m :: n :: _,.cons m u (.cons n t h),.swap _ _ _⟩
 | trans _ _ ih1 ih2 =>
   intro ns h
   obtain ⟨n1,a1,b1⟩:=ih2 h
   obtain ⟨n2,a2,b2⟩:=ih1 a1
   exact ⟨n2,a2,b2.trans b1⟩
theorem Gh:∀{vs us:List Value} {ns ms:List Int},IntsAre vs ns->IntsAre us ms->IntsAre (vs++us) (ns++ms)
 | _,_,_,_,.nil,h=>h
 | _,_,_,_,.cons n t a,h=>.cons n t (Gh a h)
theorem Fw:∀{vs:List Value} {ns:List Int},IntsAre vs ns->∀{n:Int},n∈ns↔∃t,Value.int n t∈vs
 | _,_,.nil,n=>⟨(fun h=>by cases h),(fun ⟨_,h⟩=>by cases h)⟩
 | _,_,.cons m u a,n=>by
   constructor
   ·intro h
    rcases mem_cons.mp h with e | h
    ·subst e
     exact ⟨u,mem_cons_self ..⟩
    ·obtain ⟨t,ht⟩:=(Fw a).mp h
     exact ⟨t,mem_cons_of_mem _ ht⟩
   ·rintro ⟨t,h⟩
    rcases mem_cons.mp h with e | h
    ·cases e
     exact mem_cons_self ..
    ·exact mem_cons_of_mem _ ((Fw a).mpr ⟨t,h⟩)
section
variable {prog:Program} {w:World} {A:Around} {E:Value->Shared->Prop} {s:Shared}
theorem HR {h:Heap} {a:Addr} {o:Obj} {es:Array (Int × Value)} {ep:Nat} {t:SetTable} (ho:h.get? a=some o) (hd:o.data=.set es ep t) (es':Array (Int × Value)) (t':SetTable) :
 (h.update a (Obj.putSet es' t')).get? a=some { o with data:=.set es' (ep+1) t' }:=by
 have:=Heap.get?_update_self (Obj.putSet es' t') ho (by rw [putSet_of es' t' hd];rfl)
 rw [putSet_of es' t' hd] at this
 exact this
theorem Ju {g:Bool->Sem Unit} (hg:∀(b:Bool) (s₁:Shared) (Q':Unit->Shared->Prop),Q' () s₁->wpAny (model prog w) A (g b) Q' E s₁)
 {a:Addr} {o:Obj} {es:Array (Int × Value)} {ep:Nat} {t:SetTable} (ho:s.heap.get? a=some o) (hex:o.ExactSet) (hd:o.data=.set es ep t)
 {es1:Array (Int × Value)} {t2:SetTable} {ms l:List Int} (hel1:ElemsOf (intKind prog w) es1.toList) (hi:IntsAre (es1.toList.map (·.2)) ms) (hp:ms.Perm l)
 (hb1:es1.size < scanBound) (hf2:t2.fits es1.size=true) (hw:Cm w=true\/Walk t2) {wasDummy:Bool} {R:Option Bool->Shared->Prop}
 (h:∀h',Heap.SameBut a s.heap h'->Fl prog w h' a l->R (some true) { s with heap:=h' }) :
 wpAny (model prog w) A (do
  storeSet a es1 t2
  if (!wasDummy && t2.tooFull)=true then do
      g (relayAll t2 es1 (SetTable.grown es1.size)).2.2
      storeSet a (relayAll t2 es1 (SetTable.grown es1.size)).1 (relayAll t2 es1 (SetTable.grown es1.size)).2.1
      pure (some true)
   else pure (some true)) R E s:=by
 refine wpAny_bind (wpAny_storeSet_of ho hd ?_ (fits_of_scanBound hb1))
 have ho1:=HR ho hd es1 t2
 have hsb1:=Heap.SameBut.update s.heap a (Obj.putSet es1 t2)
 split
 ·have pr:=relayAll_perm t2 es1 (SetTable.grown es1.size)
  have fr:=relayAll_fits t2 es1 (SetTable.grown es1.size)
  have wr:Cm w=true\/Walk (relayAll t2 es1 (SetTable.grown es1.size)).2.1:=hw.imp id fun x=>x.relay _ _
  generalize relayAll t2 es1 (SetTable.grown es1.size)=Rl at pr fr wr ⊢
  obtain ⟨es2,t3,gave2⟩:=Rl
  dsimp only at pr fr wr ⊢
  have hsz:es2.size=es1.size:=by rw [<- Array.length_toList,pr.length_eq,Array.length_toList]
  obtain ⟨ms2,i2,p2⟩:=FE (pr.map (·.2)) hi
  refine wpAny_bind (hg _ _ _ ?_)
  refine wpAny_bind (wpAny_storeSet_of ho1 rfl ?_ (fits_of_scanBound (by rw [hsz];exact hb1)))
  exact wpAny_pure (h _ (hsb1.trans (Heap.SameBut.update _ a _)) ⟨_,es2,_,t3,ms2,HR ho1 rfl es2 t3,hex,rfl,hel1.perm pr,i2,p2.trans hp,by rw [hsz];exact hb1,fr,wr⟩)
 ·exact wpAny_pure (h _ hsb1 ⟨_,es1,_,t2,ms,ho1,hex,rfl,hel1,hi,hp,hb1,hf2,hw⟩)
theorem add_int {a:Addr} {l:List Int} {k:Int} {tk:Tok} {Q:Bool->Shared->Prop} (hS:Fl prog w s.heap a l) (hroom:l.length+1 < scanBound)
 (h:∀h' b,Heap.SameBut a s.heap h'->Fl prog w h' a (step_dedup l k)->Q b { s with heap:=h' }) :
 wpAny (model prog w) A (setAddHashed a (.int k tk) ((intKind prog w).hash k)) Q E s:=by
 obtain ⟨o,es,ep,t,ms,ho,hex,hd,hel,hi,hp,hb,hf,hw⟩:=hS
 have hkey:(intKind prog w).is k (.int k tk)=true:=intKind_is _ _ _ _
 have hsc:(Value.int k tk).scannable=true:=rfl
 have hlen:es.size=l.length:=by
  have:=hi.length
  rw [length_map,Array.length_toList] at this
  rw [this,hp.length_eq]
 unfold setAddHashed setAddHashedIn
 refine wpAny_holding (wpAny_bind (wpAny_setState_of ho hd hf ?_))
 dsimp only
 rw [byScan_of hsc hb hel]
 simp only [↓reduceIte]
 unfold setAddByScan
 refine wpAny_bind ?_
 refine wpAny_bind (wpAny_rule ?_)
 refine wpAny_bind (wpAny_setScan_of hkey ho hd hf hel ?_)
 cases hr:List.findIdx? (fun e=>(intKind prog w).is k e.2) es.toList with
 | some j =>
   dsimp only
   obtain ⟨hj,hpj,_⟩:=List.findIdx?_eq_some_iff_getElem.mp hr
   have mem:k∈l:=by
    refine hp.mem_iff.mp ((Fw hi).mpr ?_)
    obtain ⟨t',e⟩:=Value.isInt_shape (show Value.isInt k es.toList[j].2=true from hpj)
    exact ⟨t',mem_map.mpr ⟨_,getElem_mem hj,e⟩⟩
   have es':step_dedup l k=l:=by
    unfold step_dedup
    rw [if_pos (any_eq_true.mpr ⟨k,mem,by simp⟩)]
   refine wpAny_pure (wpAny_pure ?_)
   exact h s.heap _ (Heap.SameBut.refl a s.heap) ⟨o,es,ep,t,ms,ho,hex,hd,hel,hi,by rw [es'];exact hp,hb,hf,hw⟩
 | none =>
   dsimp only
   have nmem:¬ k∈l:=fun m=>by
    obtain ⟨t',ht⟩:=(Fw hi).mp (hp.mem_iff.mpr m)
    obtain ⟨e,he,hv⟩:=mem_map.mp ht
    have:=List.findIdx?_eq_none_iff.mp hr e he
    rw [hv,intKind_is] at this
    exact Bool.noConfusion this
   have es':step_dedup l k=l++[k]:=by
    unfold step_dedup
    rw [if_neg (by
     intro z
     obtain ⟨y,hy,ey⟩:=any_eq_true.mp z
     have:y=k:=by simpa using ey
     exact nmem (this ▸ hy))]
   have hgw:∀(b:Bool) {s₁:Shared} {Q':Unit->Shared->Prop},Q' () s₁->wpAny (model prog w) A (match b with | true=>rule "set.scan.the-table-gave-way" | false=>pure ()) Q' E s₁ :=
    fun b s₁ Q' hq=>by cases b <;> first | exact wpAny_pure hq | exact wpAny_rule hq
   have pr:=layNew_perm t es ((intKind prog w).hash k) (.int k tk)
   have fr:=layNew_fits t es ((intKind prog w).hash k) (.int k tk)
   have wr:Cm w=true\/Walk (layNew t es ((intKind prog w).hash k) (.int k tk)).2.1:=hw.imp id fun x=>x.lay _ _ _
   generalize layNew t es ((intKind prog w).hash k) (.int k tk)=L at pr fr wr ⊢
   obtain ⟨es1,t1,wasDummy,gave⟩:=L
   dsimp only at pr fr wr ⊢
   rw [Array.toList_push] at pr
   have hel1:ElemsOf (intKind prog w) es1.toList:=(hel.push hkey hsc).perm pr
   have hi0:IntsAre ((es.toList++[((intKind prog w).hash k,Value.int k tk)]).map (·.2)) (ms++[k]):=by
    rw [map_append]
    exact Gh hi (.cons k tk .nil)
   obtain ⟨ms1,i1,p1⟩:=FE (pr.map (·.2)) hi0
   have hp1:ms1.Perm (step_dedup l k):=by rw [es'];exact p1.trans (hp.append_right [k])
   have hb1:es1.size < scanBound:=by rw [<- Array.length_toList,pr.length_eq,length_append,Array.length_toList,hlen];simpa using hroom
   refine wpAny_bind (hgw _ ?_)
   split
   ·refine wpAny_bind ?_
    rw [hashByValue_scannable 8 hsc]
    refine wpAny_pure ?_
    refine Ju ?_ ho hex hd hel1 i1 hp1 hb1 ?_ ?_ ?_
    ·intro b s₁ Q' hq;cases b <;> first | exact wpAny_pure hq | exact wpAny_rule hq
    ·split
     ·exact fr
     ·exact SetTable.fits_plain_off fr
    ·split
     ·exact wr
     ·exact wr
    ·intro h' hsb hS';dsimp only;exact wpAny_pure (h h' _ hsb hS')
   ·refine wpAny_bind (wpAny_pure ?_)
    simp only [↓reduceIte]
    refine Ju ?_ ho hex hd hel1 i1 hp1 hb1 fr wr ?_
    ·intro b s₁ Q' hq;cases b <;> first | exact wpAny_pure hq | exact wpAny_rule hq
    ·intro h' hsb hS';dsimp only;exact wpAny_pure (h h' _ hsb hS')
theorem Fl.at {h h':Heap} {a:Addr} {l:List Int} (x:Fl prog w h a l) (e:∀o,h.get? a=some o->h'.get? a=some o):Fl prog w h' a l:=by
 obtain ⟨o,es,ep,t,ms,ho,r⟩:=x
 exact ⟨o,es,ep,t,ms,e o ho,r⟩
end
section
variable {prog:Program} {w:World} {A:Around} {R:Result->Shared->Prop} {I:Addr} {fp wr:List Addr} {G:Array GenState->Array GenState->Prop} {n:Nat} {P:Nat->Value->Prop} {St:Nat->Shared->Prop}
theorem NB (W:WalksS prog w A.in1 I fp wr G n P St) (S:Addr) (hSf:S ∉ fp) (val:Nat->Int) (hval:∀i v,P i v->∃t,v=.int (val i) t) (hb:n+1 < scanBound) :
 ∀(k i:Nat) (s:Shared),n - i=k->i<=n->St i s->Fl prog w s.heap S (firstMet val i)->(∀s',Moved (S :: wr) G s s'->Fl prog w s'.heap S (firstMet val n)->R (.ok (.ret .none)) s') ->
  codeAny (model prog w) A (.builtin "set.update.loop" ⟨[.ref S,.ref I],[]⟩) R s:=by
 have hSw:S ∉ wr:=fun h=>hSf (W.sub _ h)
 have hsub:∀b∈wr,b∈S :: wr:=fun b hb=>mem_cons_of_mem _ hb
 intro k
 induction k with
 | zero =>
   intro i s hk hi hst hS hR
   have hin:i=n:=by omega
   subst hin
   refine codeAny_builtin F.entry_set_update_loop ?_
   rw [Around.under_plainId F.plain_set_update_loop _]
   show wpAny _ A.in1 (pyNext (.ref I) >>= _) _ _ s
   refine wpAny_bind (W.done s _ _ hst fun s' hm=>?_)
   show wpAny _ A.in1 (ret Value.none) _ _ s'
   exact wpAny_pure (hR s' (hm.mono hsub) (hS.at fun o e=>hm.heap S o hSw e))
 | succ k ih =>
   intro i s hk hi hst hS hR
   have hlt:i < n:=by omega
   refine codeAny_builtin F.entry_set_update_loop ?_
   rw [Around.under_plainId F.plain_set_update_loop _]
   show wpAny _ A.in1 (pyNext (.ref I) >>= _) _ _ s
   refine wpAny_bind (W.item i s _ _ hlt hst fun v s' hP hst' hm=>?_)
   obtain ⟨t,rfl⟩:=hval i v hP
   have hS':=hS.at fun o e=>hm.heap S o hSw e
   show wpAny _ A.in1 (holding [Value.int (val i) t] (setAdd S (.int (val i) t)) >>= _) _ _ s'
   refine wpAny_bind (wpAny_holding ?_)
   unfold setAdd
   refine wpAny_holding ?_
   refine wpAny_bind ((intKind prog w).pyHash (k:=val i) (intKind_is _ _ _ _) ?_)
   have hroom:(firstMet val i).length+1 < scanBound:=by have:=firstMet_length_le val i;omega
   refine add_int (s:={ s' with toks:=s'.toks+1 }) hS' hroom fun h' b hsb hS2=>?_
   have hSi:Fl prog w h' S (firstMet val (i+1)):=by rw [firstMet_succ];exact hS2
   refine wpAny_pure ⟨plainId_quiet F.plain_set_update_loop _,ih (i+1) _ (by omega) hlt (W.frame _ s' _ _ hst' (Nat.le_succ _) fun b hb o e=>?_) hSi fun s'' hm'' hS''=>?_⟩
   ·rw [hsb.2 b (fun h:b=S=>hSf (by rw [<- h];exact hb))];exact e
   ·refine hR s'' (Moved.trans W.gtrans ((hm.mono hsub).then_heap (Nat.le_succ _) fun b o hb e=>?_) hm'') hS''
    rw [hsb.2 b (fun h:b=S=>hb (by rw [h];exact mem_cons_self))];exact e
end
section
variable {prog:Program} {w:World} {A:Around} {E:Value->Shared->Prop} {s:Shared}
abbrev B3 (w:World):Obj:={ cls:=.type "set",dict:=none,data:=.set #[] 0 (.fresh 0 0 (!Cm w)) }
theorem OW (a:Value) {Q₁:Value->Shared->Prop} (h:Q₁ (.ref s.heap.objs.size) { s with heap:=s.heap.push (B3 w) }) :
 codeAny (model prog w) A (.call (.builtin "set.__new__") ⟨[.type "set",a],[]⟩) (wants Q₁ E) s:=by
 refine codeAny_of_tree ?_
 show wpAny _ A.in1 (do checkBuiltinCall "set.__new__" ⟨[.type "set",a],[]⟩;again (.builtin "set.__new__" ⟨[.type "set",a],[]⟩)) _ _ s
 refine wpAny_bind (wpAny_of_eq (PySem.F.newCall_set_1 a) (wpAny_pure ⟨plainId_quiet PySem.F.plain_set_new _,codeAny_builtin PySem.F.entry_set_new ?_⟩))
 rw [Around.under_plainId PySem.F.plain_set_new _]
 unfold Builtin.«set.__new__» Builtin.Frozenset.newClass
 have hsub:=sub_set_self
 obtain ⟨hp,g,d,tk,os⟩:=s
 dsimp only
 wp_walk
 refine wpAny_askSetting (wpAny_pure ?_)
 dsimp only
 simp only [newObj]
 refine wpAny_bind (wpAny_alloc (wpAny_pure ?_))
 exact wpAny_pure h
theorem Nm {h:Heap} {a:Addr} (ho:h.get? a=some (B3 w)):Fl prog w h a [] :=
 ⟨_,#[],0,_,[],ho,⟨rfl,rfl,rfl⟩,rfl,fun e he=>by simp at he,.nil,.refl _,by decide,rfl,by
  cases e:Cm w with
  | true=>exact .inl rfl
  | false=>exact .inr ⟨fun i j _ hj=>absurd hj (by simp [SetTable.fresh]),by simp [SetTable.fresh]⟩⟩
set_option maxRecDepth 100000 in
set_option maxHeartbeats 3200000 in
theorem FR {l:Addr} {items:Array Value} {ns:List Int} {Q:Value->Shared->Prop} (hh:A.handled=none) (hl:s.heap.IsList l items) (hi:IntsAre items.toList ns) (hb:items.size+1 < scanBound)
 (h:∀(h':Heap) (tk:Nat),Fl prog w h' s.heap.objs.size (firstMet (fun i=>ns.getD i 0) items.size)->(∀b o,b < s.heap.objs.size->s.heap.get? b=some o->h'.get? b=some o)->Q (.ref s.heap.objs.size) { s with heap:=h',toks:=tk }) :
 wpAny (model prog w) A (call (.type "set") [.ref l]) Q E s:=by
 obtain ⟨c,tl,hmro⟩:=PySem.F.called_set.mro
 have hmade:=PySem.F.called_set.made
 have hsub:=PySem.F.called_set.sub
 refine wpAny_call (codeAny_of_tree ?_)
 show wpAny _ _ (callAny (.type "set") _) _ _ _
 refine wpAny_pure ⟨Code.quiet_builtin _ (by decide +kernel),codeAny_builtin PySem.F.entry_type_call ?_⟩
 rw [Around.under_plain (weight_type_call_type "set" [.ref l] []) rfl]
 have h1:=PySem.F.called_set.notType
 have h2:=PySem.F.called_set.canCreate
 have hct:=PySem.F.typeCall_set_1 (.ref l)
 repeat (any_goals (first | assumption | wp_step))
 refine codeAny_mono (OW (.ref l) (E:=E) (Q₁:=fun obj s₁=>obj=.ref s.heap.objs.size/\s₁={ s with heap:=s.heap.push (B3 w) }) ⟨rfl,rfl⟩) fun r s₁ hr=>?_
 cases r with
 | error e=>exact hr
 | ok fl =>
   cases fl with
   | ret obj =>
     obtain ⟨rfl,rfl⟩:=hr
     have hS:(s.heap.push (B3 w)).get? s.heap.objs.size=some (B3 w):=Heap.get?_push_size _ rfl
     have hT:Shared.TypeIs { s with heap:=s.heap.push (B3 w) } (.ref s.heap.objs.size) "set":=⟨_,hS,rfl⟩
     have hli:=PySem.F.called_set.init.lookup
     have hbi:=PySem.F.called_set.init.bind (.ref s.heap.objs.size)
     repeat (any_goals (first | assumption | wp_step))
     refine codeAny_mono (codeAny_call_builtin (R:=wants (fun r s₂=>r=.none/\∃h' tk,s₂={ s with heap:=h',toks:=tk }/\Fl prog w h' s.heap.objs.size (firstMet (fun i=>ns.getD i 0) items.size) /\
      (∀b o,b < s.heap.objs.size->s.heap.get? b=some o->h'.get? b=some o)) E) PySem.F.called_set.init.plain PySem.F.entry_set_init (check_set_init_1 hT ?_)) fun r₂ s₂ hr₂=>?_
     ·obtain ⟨ol,hol,hcl,nl,hdl⟩:=hl
      obtain ⟨ocls,odict,odata,oslots⟩:=ol
      simp only at hcl hdl
      subst hcl;subst hdl
      have hol':(s.heap.push (B3 w)).get? l=some { cls:=.type "list",dict:=odict,data:=.seq items nl,slots:=oslots }:=Heap.get?_push_of_some _ hol
      have hsls:=PySem.F.sub_list_set
      have hslf:=PySem.F.sub_list_frozenset
      have hne:(Value.type "list" == Value.type "dict")=false:=by decide
      have hl1:(s.heap.push (B3 w)).IsList l items:=⟨_,hol',rfl,nl,rfl⟩
      unfold Builtin.«set.__init__» noKeywords Builtin.Frozenset.updateFrom
      generalize hPI:pyIter=PI
      wp_walk
      subst hPI
      refine wpAny_pyIter_list hl1 ?_
      refine wpAny_bind (wpAny_runValue ?_)
      have hlS:l < s.heap.objs.size:=Heap.lt_size hol
      have hh3:A.in1.in1.in1.handled=none:=by simp [hh]
      have hneI:l≠(s.heap.push (B3 w)).objs.size:=by
       rw [Heap.size_push];exact Nat.ne_of_lt (Nat.lt_succ_of_lt hlS)
      have hSf:s.heap.objs.size ∉ [(s.heap.push (B3 w)).objs.size,l]:=by
       rw [Heap.size_push];simp only [mem_cons,mem_singleton,List.not_mem_nil,or_false,not_or]
       exact ⟨Nat.ne_of_lt (Nat.lt_succ_self _),Nat.ne_of_gt hlS⟩
      have hval:∀(i:Nat) (v:Value),items[i]?=some v->∃t,v=.int ((fun i=>ns.getD i 0) i) t:=fun i v hv =>
       IntsAre.int_at hi i v (by rw [Array.getElem?_toList];exact hv)
      refine NB ((Walks.list hh3 _ l hneI items).toS) s.heap.objs.size hSf (fun i=>ns.getD i 0) hval hb (items.size - 0) 0 _ (by omega) (Nat.zero_le _)
       ⟨⟨_,Heap.get?_push_size _ rfl,rfl,rfl⟩,(hl1.push _)⟩ (Nm (Heap.get?_push_of_some _ hS)) ?_
      intro s' hm hS'
      obtain ⟨h',g',d',tk',os'⟩:=s'
      have eg:g'=s.gens:=hm.gens
      have ed:d'=s.drawn:=hm.drawn
      have eo:os'=s.os:=hm.os
      subst eg;subst ed;subst eo
      show wpAny _ _ _ _ _ _
      refine wpAny_pure ?_
      show wpAny _ _ (ret Value.none) _ _ _
      refine wpAny_pure ⟨rfl,h',tk',rfl,hS',fun b o hb e=>?_⟩
      have hb1:b≠s.heap.objs.size:=Nat.ne_of_lt hb
      have hb2:b≠(s.heap.push (B3 w)).objs.size:=by
       rw [Heap.size_push];exact Nat.ne_of_lt (Nat.lt_succ_of_lt hb)
      exact hm.heap b o (by simp only [mem_cons,mem_singleton,List.not_mem_nil,or_false,not_or];exact ⟨hb1,hb2⟩) (Heap.get?_push_of_some _ (Heap.get?_push_of_some _ e))
     ·cases r₂ with
      | error e=>exact hr₂
      | ok fl₂ =>
        cases fl₂ with
        | ret r =>
          obtain ⟨rfl,h',tk,rfl,hS',hk'⟩:=hr₂
          repeat (any_goals (first | assumption | wp_step))
          exact h _ _ hS' hk'
        | _=>exact hr₂.elim
   | _=>exact hr.elim
end
end L2
namespace L2
open PySem PySem.W PySem.Spec PyProof.Rows
theorem erase_perm {α:Type}:∀(xs:List α) (i:Nat) (hi:i < xs.length),(xs[i] :: xs.eraseIdx i).Perm xs
 | [],i,hi=>absurd hi (Nat.not_lt_zero _)
 | x :: xs,0,_=>.refl _
 | x :: xs,i+1,hi=>by
   have hi':i < xs.length:=by simpa using hi
   have ih:=erase_perm xs i hi'
   show (xs[i] :: x :: xs.eraseIdx i).Perm (x :: xs)
   exact (List.Perm.swap _ _ _).trans (ih.cons x)
section
variable {prog:Program} {w:World} {A:Around} {E:Value->Shared->Prop} {s:Shared}
theorem KY {src:Source} {n:Nat} {Q:Nat->Shared->Prop} (hn:n≠0) (h:∀x d,x < n->Q x { s with drawn:=d }):wpAny (model prog w) A (choose src n) Q E s:=fun Γ p _=>by
 unfold choose
 rw [Sem.wp_choose]
 exact ⟨hn,h _ _ (Nat.mod_lt _ (Nat.pos_of_ne_zero hn))⟩
theorem Kf {α:Type}:∀(n:Nat) (xs:List α) (s:Shared) {Q:List α->Shared->Prop},xs.length=n->(∀ys d,ys.Perm xs->Q ys { s with drawn:=d })->wpAny (model prog w) A (drawOrder n xs) Q E s
 | 0,xs,s,Q,hl,h=>by
   have:xs=[]:=length_eq_zero_iff.mp hl
   subst this
   have:=h [] s.drawn (.refl _)
   exact wpAny_pure this
 | n+1,[],s,Q,hl,h=>by simp at hl
 | n+1,x :: xs,s,Q,hl,h=>by
   unfold drawOrder
   refine wpAny_bind (KY (by simp) fun i d hi=>?_)
   have e:(x :: xs)[i]?=some (x :: xs)[i]:=by simp [hi]
   rw [e]
   dsimp only
   refine wpAny_bind (Kf n ((x :: xs).eraseIdx i) _ (by rw [length_eraseIdx,if_pos hi];simp at hl ⊢;omega) fun ys d' hp=>wpAny_pure ?_)
   refine h _ d' ?_
   exact (hp.cons _).trans (erase_perm _ _ hi)
end
theorem Lu {α:Type} (next:Nat->Nat):∀(f k:Nat) (left:List α) (out:Array α),left.length=f->(pickOrder.go next f k left out).toList.Perm (out.toList++left)
 | 0,k,left,out,hl=>by
   have:left=[]:=length_eq_zero_iff.mp hl
   subst this
   simp [pickOrder.go]
 | f+1,k,left,out,hl=>by
   unfold pickOrder.go
   have hi:next k % left.length < left.length:=Nat.mod_lt _ (by omega)
   have e:left[next k % left.length]?=some left[next k % left.length]:=by simp [hi]
   rw [e]
   dsimp only
   refine (Lu next f (k+1) (left.eraseIdx (next k % left.length)) _ (by rw [length_eraseIdx,if_pos hi];omega)).trans ?_
   rw [Array.toList_push,append_assoc]
   exact List.Perm.append_left _ (erase_perm _ _ hi)
theorem Ip {α:Type} (next:Nat->Nat) (xs:Array α):(pickOrder next xs).toList.Perm xs.toList:=by
 have:=Lu next xs.size 0 xs.toList #[] (by simp)
 simpa [pickOrder] using this
def Bz (h:Heap) (a:Addr) (es:Array (Int × Value)) (ep:Nat) (t:SetTable):Prop:=∃o,h.get? a=some o/\o.ExactSet/\o.data=.set es ep t
theorem Bz.at {h h':Heap} {a:Addr} {es:Array (Int × Value)} {ep:Nat} {t:SetTable} (x:Bz h a es ep t) (e:∀o,h.get? a=some o->h'.get? a=some o):Bz h' a es ep t:=let ⟨o,ho,r⟩:=x;⟨o,e o ho,r⟩
theorem Bz.typeIs {s:Shared} {a:Addr} {es:Array (Int × Value)} {ep:Nat} {t:SetTable} (x:Bz s.heap a es ep t):s.TypeIs (.ref a) "set":=let ⟨o,ho,hc,_⟩:=x;⟨o,ho,hc.1⟩
def Ez (es:Array (Int × Value)) (t:SetTable):Bool:=!t.plain && decide (es.size > 1)
def Hq (t:SetTable):Nat->Nat
 | 0=>0
 | i+1=>t.place.getD i 0+1
def SIt (w:World) (h:Heap) (I tp a:Addr) (es:Array (Int × Value)) (ep:Nat) (t:SetTable) (out:List Value) (i:Nat):Prop :=
 ∃first,(∃o,h.get? I=some o/\o.cls=.type "set_iterator"/\o.data=.fields #[first,rawInt i,.ref a,rawInt es.size,rawInt ep]) /\
  ((Cm w=true/\first=rawInt 0/\out=(pickOrder (w.params.setOrder a ep) es).toList.map (·.2)) \/
   (Cm w=false/\Ez es t=true/\first=.ref tp/\∃ps:List Nat,(∃o n,h.get? tp=some o/\o.data=.seq (ps.map fun (p:Nat)=>rawInt p).toArray n)/\ps.Perm (List.range es.size)/\out=ps.map fun p=>(es.getD p (0,Value.none)).2) \/
   (Cm w=false/\Ez es t=false/\Walk t/\first=rawInt (Hq t i)/\out=es.toList.map (·.2)))
theorem SIt.perm {w:World} {h:Heap} {I tp a:Addr} {es:Array (Int × Value)} {ep:Nat} {t:SetTable} {out:List Value} {i:Nat} (x:SIt w h I tp a es ep t out i):out.Perm (es.toList.map (·.2)):=by
 obtain ⟨_,_,⟨_,_,e⟩ | ⟨_,_,_,ps,_,p,e⟩ | ⟨_,_,_,_,e⟩⟩:=x
 ·rw [e]
  exact (Ip _ _).map _
 ·rw [e]
  have q:=p.map fun p=>(es.getD p (0,Value.none)).2
  refine q.trans (.of_eq ?_)
  apply ext_getElem
  ·simp
  ·intro i h1 h2
   have hi:i < es.size:=by simpa using h1
   simp [Array.getD,hi]
 ·rw [e]
section
variable {prog:Program} {w:World} {A:Around} {E:Value->Shared->Prop} {s:Shared} {a:Addr} {es:Array (Int × Value)} {ep:Nat} {t:SetTable}
theorem Hf:entryFor table "set.__iter__"=some Builtin.«frozenset.__iter__» :=
 entryFor_alias (id':="frozenset.__iter__") (by kernel_rfl) (by first | rfl | decide +kernel | (unfold String.splitOn;simp +decide [String.splitOnAux])) (by decide +kernel) (by kernel_rfl)
theorem BE:Slot "set_iterator" "__next__" "set_iterator.__next__" :=
 .of (owner:="set_iterator") (n:="__next__") (by rw [typeLookup_type,builtinLookup_eq_fast];kernel_rfl) (by decide +kernel) (by decide +kernel) (by decide +kernel)
  (by first | exact .inl (by decide +kernel) | exact .inr (by decide +kernel)) (by rw [isSubtype_type];kernel_rfl)
theorem Ep:entryFor table "set_iterator.__next__"=some Builtin.«set_iterator.__next__»:=entryFor_of_tree (by kernel_rfl)
theorem E8 (a:Value):argsOk "set_iterator.__next__" ⟨[a],[]⟩:=by
 unfold argsOk
 kernel_rfl
theorem Cw {Q:(Array (Int × Value) × Nat × SetTable)->Shared->Prop} (x:Bz s.heap a es ep t) (hf:t.fits es.size=true) (h:Q (es,ep,t) s):wpAny (model prog w) A (setState a) Q E s:=by
 obtain ⟨o,ho,_,hd⟩:=x
 exact wpAny_setState_of ho hd hf h
theorem O3 {Q:Value->Shared->Prop} (x:Bz s.heap a es ep t) (hf:t.fits es.size=true) (hz:es.size<=sizeLine) (hw:Cm w=true\/Walk t)
 (h:∀(h':Heap) (d:Drawn) (I tp:Addr) (out:List Value),(∀b o,s.heap.get? b=some o->h'.get? b=some o)->s.heap.objs.size<=I->s.heap.objs.size<=tp->tp≠I->I < h'.objs.size->SIt w h' I tp a es ep t out 0->Q (.ref I) { s with heap:=h',drawn:=d }) :
 wpAny (model prog w) A (pyIter (.ref a)) Q E s:=by
 have hT:=x.typeIs
 refine wpAny_pyIter_slot hT PySem.F.slot_set_iter (wpAny_call_entry PySem.F.slot_set_iter hT Hf ?_ (PySem.F.args_set_iter_1 _))
 unfold Builtin.«frozenset.__iter__»
 refine wpAny_bind (m:=Builtin.Frozenset.slot0 "__iter__" ⟨[.ref a],[]⟩) (wpAny_of_eq (a:=a) rfl ?_)
 refine wpAny_bind ?_
 unfold Builtin.Frozenset.sizeOf
 refine wpAny_bind ?_
 unfold setEntries
 refine wpAny_bind (Cw x hf (wpAny_pure (wpAny_pure ?_)))
 dsimp only
 refine wpAny_bind ?_
 unfold setDrawn
 refine wpAny_bind (Cw x hf ?_)
 dsimp only
 refine wpAny_bind ?_
 unfold setsByText
 refine wpAny_bind (wpAny_askSetting (wpAny_pure ?_))
 refine wpAny_pure ?_
 show wpAny _ _ (if (!Cm w && Ez es t)=true then _ else _) _ _ s
 have fin:∀(s1:Shared) (first:Value),(∀b o,s.heap.get? b=some o->s1.heap.get? b=some o)->s.heap.objs.size<=s1.heap.objs.size->(∃d,s1={ s with heap:=s1.heap,drawn:=d }) ->
  (∀h',(∀b o,s1.heap.get? b=some o->h'.get? b=some o)->h'.get? s1.heap.objs.size=some { cls:=.type "set_iterator",data:=.fields #[first,rawInt 0,.ref a,rawInt es.size,rawInt ep] } ->
   ∃tp out,s.heap.objs.size<=tp/\tp≠s1.heap.objs.size/\SIt w h' s1.heap.objs.size tp a es ep t out 0) ->
  wpAny (model prog w) A.in1 (setEpoch a >>= fun e=>newFields "set_iterator" [first,rawInt 0,Value.ref a,rawInt es.size,rawInt e] >>= fun v=>ret v)
   (fun fin s'=>∃v,fin=Fin.done (Flow.ret v)/\∃T' r,s'.TypeIs v T'/\typeLookup (Value.type T') (Str.ofString "__next__")=pure (some r)/\Q v s') E s1:=by
  intro s1 first k1 k2 k3 k4
  obtain ⟨d,k3⟩:=k3
  have x1:Bz s1.heap a es ep t:=x.at fun o e=>k1 a o e
  refine wpAny_bind ?_
  unfold setEpoch
  refine wpAny_bind (Cw x1 hf (wpAny_pure ?_))
  dsimp only
  refine wpAny_bind (m:=newFields "set_iterator" [first,rawInt 0,Value.ref a,rawInt es.size,rawInt ep]) ?_
  unfold newFields
  refine wpAny_newObj_type (wpAny_pure ⟨_,rfl,"set_iterator",_,⟨_,Heap.get?_push_size _ rfl,rfl⟩,BE.lookup,?_⟩)
  obtain ⟨tp,out,z1,z3,z2⟩:=k4 (s1.heap.push { cls:=.type "set_iterator",data:=.fields #[first,rawInt 0,.ref a,rawInt es.size,rawInt ep] }) (fun b o e=>Heap.get?_push_of_some _ e) (Heap.get?_push_size _ rfl)
  have:=h _ d s1.heap.objs.size tp out (fun b o e=>Heap.get?_push_of_some _ (k1 b o e)) k2 z1 z3 (by rw [size_push'];exact Nat.lt_succ_self _) z2
  rw [k3]
  exact this
 cases eb:Cm w with
 | true =>
   rw [if_neg (by simp)]
   refine wpAny_bind (wpAny_pure ?_)
   refine fin s (rawInt 0) (fun b o e=>e) (Nat.le_refl _) ⟨s.drawn,rfl⟩ fun h' k e=>⟨s.heap.objs.size+1,_,Nat.le_succ _,Nat.succ_ne_self _,rawInt 0,⟨_,e,rfl,rfl⟩,.inl ⟨eb,rfl,rfl⟩⟩
 | false =>
   have wk:Walk t:=hw.resolve_left (by rw [eb];decide)
   cases ed:Ez es t with
   | false =>
     rw [if_neg (by decide)]
     refine wpAny_bind (wpAny_pure ?_)
     refine fin s (rawInt 0) (fun b o e=>e) (Nat.le_refl _) ⟨s.drawn,rfl⟩ fun h' k e=>⟨s.heap.objs.size+1,_,Nat.le_succ _,Nat.succ_ne_self _,rawInt 0,⟨_,e,rfl,rfl⟩,.inr (.inr ⟨eb,ed,wk,rfl,rfl⟩)⟩
   | true =>
     rw [if_pos (by decide)]
     refine wpAny_bind (Kf es.size (List.range es.size) s (by simp) fun ps d hp=>?_)
     refine wpAny_bind (wpAny_newTuple ?_ (by rw [length_map,hp.length_eq,length_range];exact hz))
     refine fin _ (.ref s.heap.objs.size) (fun b o e=>Heap.get?_push_of_some _ e) (by show s.heap.objs.size<=(s.heap.push _).objs.size;rw [size_push'];exact Nat.le_succ _) ⟨d,rfl⟩ fun h' k e=>⟨s.heap.objs.size,_,Nat.le_refl _,(by show s.heap.objs.size≠(s.heap.push _).objs.size;rw [size_push'];exact Nat.ne_of_lt (Nat.lt_succ_self _)),.ref s.heap.objs.size,⟨_,e,rfl,rfl⟩,.inr (.inl ⟨eb,ed,rfl,ps,⟨_,_,k _ _ (Heap.get?_push_size _ rfl),rfl⟩,hp,rfl⟩)⟩
theorem IA {slot i:Nat} {Q:Option (Value × Nat)->Shared->Prop} (b:Cm w=true) (x:Bz s.heap a es ep t) (hf:t.fits es.size=true)
 (h:Q (((pickOrder (w.params.setOrder a ep) es)[i]?).map fun e=>(e.2,slot)) s):wpAny (model prog w) A (setNext a slot i ep) Q E s:=by
 unfold setNext
 refine wpAny_bind (Cw x hf ?_)
 dsimp only
 refine wpAny_bind ?_
 unfold setsByText
 refine wpAny_bind (wpAny_askSetting (wpAny_pure ?_))
 refine wpAny_ite_split (fun _=>?_) (fun hab=>absurd b hab)
 refine wpAny_ite_split (fun hab=>absurd hab (by simp)) (fun _=>?_)
 refine wpAny_bind ?_
 unfold setWalk
 refine wpAny_bind (Cw x hf ?_)
 dsimp only
 refine wpAny_bind ?_
 unfold setsByText
 refine wpAny_bind (wpAny_askSetting (wpAny_pure ?_))
 refine wpAny_ite_split (fun _=>?_) (fun hab=>absurd b hab)
 refine wpAny_bind (wpAny_askSetting (wpAny_pure (wpAny_pure ?_)))
 exact h
theorem Kr {slot i:Nat} {Q:Option (Value × Nat)->Shared->Prop} (b:Cm w=false) (d:Ez es t=false) (wk:Walk t) (x:Bz s.heap a es ep t) (hf:t.fits es.size=true)
 (h:Q (match es[SetTable.below t.place slot]?,t.place[SetTable.below t.place slot]? with | some (_,x),some j=>some (x,j+1) | _,_=>none) s):wpAny (model prog w) A (setNext a slot i ep) Q E s:=by
 unfold setNext
 refine wpAny_bind (Cw x hf ?_)
 dsimp only
 refine wpAny_bind ?_
 unfold setsByText
 refine wpAny_bind (wpAny_askSetting (wpAny_pure ?_))
 refine wpAny_ite_split (fun hab=>absurd (show Cm w=true from hab) (by rw [b];decide)) (fun _=>?_)
 refine wpAny_ite_split (fun hab=>absurd (show Ez es t=true from hab) (by rw [d];decide)) (fun _=>?_)
 refine wpAny_bind ?_
 show wpAny _ _ (if (!t.led && !es.isEmpty)=true then _ else _) _ _ s
 rw [if_neg (by rw [wk.2];simp)]
 refine wpAny_pure ?_
 exact wpAny_pure h
theorem KN {p:Nat} {Q:Value->Shared->Prop} (x:Bz s.heap a es ep t) (hf:t.fits es.size=true) (hp:p < es.size) (h:Q (es.getD p (0,Value.none)).2 s):wpAny (model prog w) A (setNextDrawn a p ep) Q E s:=by
 unfold setNextDrawn
 refine wpAny_bind (Cw x hf ?_)
 dsimp only
 refine wpAny_ite_split (fun hab=>absurd hab (by simp)) (fun _=>?_)
 have e:es[p]?=some (es.getD p (0,Value.none)):=by simp [Array.getD,hp]
 rw [e]
 exact wpAny_pure h
theorem BY {I:Addr} {o:Obj} {xs:Array Value} {k:Nat} {g:Value} {Q:Unit->Shared->Prop} (ho:s.heap.get? I=some o) (hd:o.data=.fields xs) (hk:k < xs.size)
 (h:∀h' o',h'.get? I=some o'->o'.cls=o.cls->o'.data=.fields (xs.setIfInBounds k g)->Heap.SameBut I s.heap h'->Q () { s with heap:=h' }):wpAny (model prog w) A (setField (.ref I) k g) Q E s:=by
 refine wpAny_setField ho hd hk ?_
 exact h _ _ (Heap.get?_update_self _ ho (Obj.isFreed_of_fields (Obj.data_mapFields hd _))) (Obj.cls_mapFields ..) (by rw [Obj.data_mapFields hd]) (Heap.SameBut.update ..)
theorem O6 {I tp:Addr} {out:List Value} {i:Nat} {v:Value} {Q:Option Value->Shared->Prop} (x:Bz s.heap a es ep t) (hf:t.fits es.size=true) (y:SIt w s.heap I tp a es ep t out i) (hv:out[i]?=some v) (n1:a≠I) (n2:tp≠I)
 (h:∀h',SIt w h' I tp a es ep t out (i+1)->Heap.SameBut I s.heap h'->Q (some v) { s with heap:=h' }):wpAny (model prog w) A (pyNext (.ref I)) Q E s:=by
 have hp:=y.perm
 obtain ⟨first,⟨o,ho,hc,hd⟩,y⟩:=y
 have hT:s.TypeIs (.ref I) "set_iterator":=⟨o,ho,hc⟩
 unfold pyNext
 refine wpAny_bind (wpAny_attempt (wpAny_callSpecial?_slot (name:=Str.ofString "__next__") hT BE (wpAny_call_entry BE hT Ep ?_ (E8 _))))
 unfold Builtin.«set_iterator.__next__»
 refine wpAny_bind (wpAny_of_eq (a:=(Value.ref I,[])) rfl ?_)
 refine wpAny_bind (wpAny_fieldsOf ho hd ?_)
 dsimp only [rawInt]
 refine wpAny_bind ?_
 unfold setEntries
 refine wpAny_bind (Cw x hf (wpAny_pure ?_))
 dsimp only
 rw [if_neg (by simp)]
 rcases y with ⟨b1,rfl,b2⟩ | ⟨b1,b2,rfl,ps,⟨ot,nt,hot,hdt⟩,pp,b3⟩ | ⟨b1,b2,b3,rfl,b4⟩
 ·have hi:(pickOrder (w.params.setOrder a ep) es)[i]?.map (·.2)=some v:=by
   rw [b2,List.getElem?_map,Array.getElem?_toList] at hv
   exact hv
  cases e:(pickOrder (w.params.setOrder a ep) es)[i]? with
  | none=>rw [e] at hi;cases hi
  | some q =>
    rw [e] at hi
    have hq:q.2=v:=Option.some.inj hi
    refine wpAny_bind (show wpAny _ _ (setNext a 0 i ep) _ _ s from IA b1 x hf ?_)
    rw [e]
    show wpAny _ _ (setField (Value.ref I) 0 (Value.int (0:Nat) 0) >>= fun _=>setField (Value.ref I) 1 (Value.int ((i:Int)+1) 0) >>= fun _=>ret q.2) _ _ s
    refine wpAny_bind (BY ho hd (by simp) fun h1 o1 g1 g2 g3 s1=>?_)
    refine wpAny_bind (BY (s:={ s with heap:=h1 }) g1 g3 (by simp) fun h2 o2 k1 k2 k3 s2=>?_)
    rw [hq]
    exact wpAny_pure ⟨_,rfl,wpAny_pure (h h2 ⟨rawInt 0,⟨o2,k1,k2.trans (g2.trans hc),by rw [k3];simp [rawInt]⟩,.inl ⟨b1,rfl,b2⟩⟩ (s1.trans s2))⟩
 ·have hl:ps.length=es.size:=by rw [pp.length_eq,length_range]
  have hi:i < ps.length:=by
   rw [b3,List.getElem?_map] at hv
   cases e:ps[i]? with
   | none=>rw [e] at hv;cases hv
   | some q=>exact (List.getElem?_eq_some_iff.mp e).1
  have hv':v=(es.getD ps[i] (0,Value.none)).2:=by
   rw [b3,List.getElem?_map,List.getElem?_eq_getElem hi] at hv
   exact (Option.some.inj hv).symm
  have hlt:ps[i] < es.size:=mem_range.mp (pp.mem_iff.mp (getElem_mem hi))
  refine wpAny_bind (m:=seqItems? (Value.ref tp)) (wpAny_seqItems hot hdt ?_)
  dsimp only
  have e:(List.toArray (ps.map fun (p:Nat)=>rawInt (p:Int)))[(i:Int).toNat]?=some (Value.int (ps[i]:Nat) 0):=by simp [hi,rawInt]
  rw [e]
  refine wpAny_bind (show wpAny _ _ (setNextDrawn a ps[i] ep) _ _ s from KN x hf hlt ?_)
  refine wpAny_bind (BY ho hd (by simp) fun h1 o1 g1 g2 g3 s1=>?_)
  rw [<- hv']
  refine wpAny_pure ⟨_,rfl,wpAny_pure ?_⟩
  exact h h1 ⟨.ref tp,⟨o1,g1,g2.trans hc,by rw [g3];simp [rawInt]⟩,.inr (.inl ⟨b1,b2,rfl,ps,⟨ot,nt,(s1.2 tp n2).trans hot,hdt⟩,pp,b3⟩)⟩ s1
 ·have hi:i < es.size:=by
   rw [b4,List.getElem?_map] at hv
   cases e:es.toList[i]? with
   | none=>rw [e] at hv;cases hv
   | some q =>
     have:=(List.getElem?_eq_some_iff.mp e).1
     simpa using this
  have hv':v=(es[i]).2:=by
   rw [b4,List.getElem?_map,List.getElem?_eq_getElem (by simpa using hi)] at hv
   simpa using (Option.some.inj hv).symm
  have hpl:t.place.size=es.size:=by
   unfold SetTable.fits at hf
   simp at hf
   exact hf.1
  have hb:SetTable.below t.place (Hq t i)=i:=by
   cases i with
   | zero=>exact GW b3.1
   | succ i=>exact GL b3.1 (by omega)
  refine wpAny_bind (show wpAny _ _ (setNext a (Hq t i) i ep) _ _ s from Kr b1 b2 b3 x hf ?_)
  rw [hb,Array.getElem?_eq_getElem hi,Array.getElem?_eq_getElem (by omega)]
  show wpAny _ _ (setField (Value.ref I) 0 (Value.int ((t.place[i]'(by omega)+1:Nat)) 0) >>= fun _=>setField (Value.ref I) 1 (Value.int ((i:Int)+1) 0) >>= fun _=>ret (es[i]).2) _ _ s
  refine wpAny_bind (BY ho hd (by simp) fun h1 o1 g1 g2 g3 s1=>?_)
  refine wpAny_bind (BY (s:={ s with heap:=h1 }) g1 g3 (by simp) fun h2 o2 k1 k2 k3 s2=>?_)
  rw [<- hv']
  have es':Hq t (i+1)=t.place[i]'(by omega)+1:=by
   show t.place.getD i 0+1=_
   rw [Array.getD_eq_getD_getElem?,Array.getElem?_eq_getElem (by omega)]
   rfl
  refine wpAny_pure ⟨_,rfl,wpAny_pure (h h2 ⟨rawInt (Hq t (i+1)),⟨o2,k1,k2.trans (g2.trans hc),?_⟩,.inr (.inr ⟨b1,b2,b3,rfl,b4⟩)⟩ (s1.trans s2))⟩
  rw [k3,es']
  simp [rawInt]
theorem FI {Q:Option Value->Shared->Prop} {I:Addr} {h0:Heap} (hh:A.handled=none) (ex:Heap.ExtBut I h0 s.heap) (h:∀h',Heap.ExtBut I h0 h'->Q none { s with heap:=h' }) :
 wpAny (model prog w) A.in1 (newExc (.type "StopIteration") [] >>= fun e=>(raiseNew e:Sem PySem.Fin)) (fun fin s'=>∃v,fin=Fin.done (Flow.ret v)/\wpAny (model prog w) A (pure (some v)) Q E s')
  (fun e s'=>wpAny (model prog w) A (isInstance e (.type "StopIteration") >>= fun b=>if b=true then pure none else throw e) Q E s') s:=by
 refine wpAny_bind ?_
 simp only [newExc,newTuple]
 refine wpAny_bind (wpAny_newObj_type ?_ (by size_fits))
 refine wpAny_bind (m:=firstArgMember _ _) (wpAny_of_eq (a:=Value.none) (by first | rfl | (simp only [firstArgMember];rfl)) ?_)
 refine wpAny_newObj_type ?_ (by size_fits)
 simp only [raiseNew]
 refine wpAny_bind (wpAny_handled ?_)
 rw [show A.in1.handled=none from hh]
 refine wpAny_bind (wpAny_pure (wpAny_throw ?_))
 refine wpAny_bind (wpAny_isInstance (T:="StopIteration") (b:=true) ⟨_,Heap.get?_push_size _ rfl,rfl⟩ isSubtype_stop ?_)
 exact wpAny_pure (h _ ((ex.push _).push _))
theorem Py {I tp:Addr} {out:List Value} {Q:Option Value->Shared->Prop} (hh:A.handled=none) (x:Bz s.heap a es ep t) (hf:t.fits es.size=true) (y:SIt w s.heap I tp a es ep t out es.size)
 (h:∀h',Heap.ExtBut I s.heap h'->Q none { s with heap:=h' }):wpAny (model prog w) A (pyNext (.ref I)) Q E s:=by
 obtain ⟨first,⟨o,ho,hc,hd⟩,y⟩:=y
 have hT:s.TypeIs (.ref I) "set_iterator":=⟨o,ho,hc⟩
 unfold pyNext
 refine wpAny_bind (wpAny_attempt (wpAny_callSpecial?_slot (name:=Str.ofString "__next__") hT BE (wpAny_call_entry BE hT Ep ?_ (E8 _))))
 unfold Builtin.«set_iterator.__next__»
 refine wpAny_bind (wpAny_of_eq (a:=(Value.ref I,[])) rfl ?_)
 refine wpAny_bind (wpAny_fieldsOf ho hd ?_)
 dsimp only [rawInt]
 refine wpAny_bind ?_
 unfold setEntries
 refine wpAny_bind (Cw x hf (wpAny_pure ?_))
 dsimp only
 rw [if_neg (by simp)]
 rcases y with ⟨b1,rfl,b2⟩ | ⟨b1,b2,rfl,ps,⟨ot,nt,hot,hdt⟩,pp,b3⟩ | ⟨b1,b2,b3,rfl,b4⟩
 ·have hz:(pickOrder (w.params.setOrder a ep) es).size=es.size:=by
   have:=(Ip (w.params.setOrder a ep) es).length_eq
   simpa using this
  refine wpAny_bind (show wpAny _ _ (setNext a 0 es.size ep) _ _ s from IA b1 x hf ?_)
  rw [Array.getElem?_eq_none (by omega)]
  show wpAny _ _ (setField (Value.ref I) 2 Value.none >>= fun _=>newExc (.type "StopIteration") [] >>= fun e=>raiseNew e) _ _ s
  refine wpAny_bind (BY ho hd (by simp) fun h1 o1 g1 g2 g3 s1=>?_)
  exact FI (s:={ s with heap:=h1 }) hh s1.extBut fun h' e=>h h' e
 ·have hl:ps.length=es.size:=by rw [pp.length_eq,length_range]
  refine wpAny_bind (m:=seqItems? (Value.ref tp)) (wpAny_seqItems hot hdt ?_)
  dsimp only
  have e:(List.toArray (ps.map fun (p:Nat)=>rawInt (p:Int)))[(es.size:Int).toNat]?=none:=by simp [hl]
  rw [e]
  refine wpAny_bind (BY ho hd (by simp) fun h1 o1 g1 g2 g3 s1=>?_)
  refine wpAny_bind (BY (s:={ s with heap:=h1 }) g1 g3 (by simp) fun h2 o2 k1 k2 k3 s2=>?_)
  exact FI (s:={ s with heap:=h2 }) hh (s1.trans s2).extBut fun h' e=>h h' e
 ·have hpl:t.place.size=es.size:=by
   unfold SetTable.fits at hf
   simp at hf
   exact hf.1
  have hb:SetTable.below t.place (Hq t es.size)=es.size:=by
   cases e:es.size with
   | zero=>exact GW b3.1
   | succ i=>exact GL b3.1 (by omega)
  refine wpAny_bind (show wpAny _ _ (setNext a (Hq t es.size) es.size ep) _ _ s from Kr b1 b2 b3 x hf ?_)
  rw [hb,Array.getElem?_eq_none (Nat.le_refl _)]
  show wpAny _ _ (setField (Value.ref I) 2 Value.none >>= fun _=>newExc (.type "StopIteration") [] >>= fun e=>raiseNew e) _ _ s
  refine wpAny_bind (BY ho hd (by simp) fun h1 o1 g1 g2 g3 s1=>?_)
  exact FI (s:={ s with heap:=h1 }) hh s1.extBut fun h' e=>h h' e
theorem SIt.at {h h':Heap} {I tp:Addr} {out:List Value} {i:Nat} (x:SIt w h I tp a es ep t out i) (e1:∀o,h.get? I=some o->h'.get? I=some o) (e2:∀o,h.get? tp=some o->h'.get? tp=some o):SIt w h' I tp a es ep t out i:=by
 obtain ⟨f,⟨o,ho,hc⟩,⟨b1,b2⟩ | ⟨b1,b2,b3,ps,⟨ot,nt,hot,hdt⟩,b4⟩ | ⟨b1,b2⟩⟩:=x
 ·exact ⟨f,⟨o,e1 o ho,hc⟩,.inl ⟨b1,b2⟩⟩
 ·exact ⟨f,⟨o,e1 o ho,hc⟩,.inr (.inl ⟨b1,b2,b3,ps,⟨ot,nt,e2 ot hot,hdt⟩,b4⟩)⟩
 ·exact ⟨f,⟨o,e1 o ho,hc⟩,.inr (.inr ⟨b1,b2⟩)⟩
theorem SIt.typeIs {s:Shared} {I tp:Addr} {out:List Value} {i:Nat} (x:SIt w s.heap I tp a es ep t out i):s.TypeIs (.ref I) "set_iterator":=by
 obtain ⟨f,⟨o,ho,hc,_⟩,_⟩:=x
 exact ⟨o,ho,hc⟩
theorem DW:Slot "set_iterator" "__iter__" "set_iterator.__iter__" :=
 .of (owner:="set_iterator") (n:="__iter__") (by rw [typeLookup_type,builtinLookup_eq_fast];kernel_rfl) (by decide +kernel) (by decide +kernel) (by decide +kernel)
  (by first | exact .inl (by decide +kernel) | exact .inr (by decide +kernel)) (by rw [isSubtype_type];kernel_rfl)
theorem Gp:entryFor table "set_iterator.__iter__"=some Builtin.«dict_keyiterator.__iter__» :=
 entryFor_alias (id':="dict_keyiterator.__iter__") (by kernel_rfl) (by first | rfl | decide +kernel | (unfold String.splitOn;simp +decide [String.splitOnAux])) (by decide +kernel) (by kernel_rfl)
theorem GE (a:Value):argsOk "set_iterator.__iter__" ⟨[a],[]⟩:=by
 unfold argsOk
 kernel_rfl
theorem LU {I tp:Addr} {out:List Value} (hh:A.handled=none) (hf:t.fits es.size=true) (n1:a≠I) (n2:tp≠I) :
 Walks prog w A I [I,a,tp] [I] es.size (fun i v=>out[i]?=some v) (fun i h=>SIt w h I tp a es ep t out i/\Bz h a es ep t) where
 sub:=fun b hb=>by simp at hb;simp [hb]
 frame:=fun _ _ _ st hk=>⟨st.1.at (fun o e=>hk I (by simp) o e) (fun o e=>hk tp (by simp) o e),st.2.at fun o e=>hk a (by simp) o e⟩
 item:=fun i s Q E hi st hQ=>by
  have hl:out.length=es.size:=by rw [st.1.perm.length_eq];simp
  refine O6 (v:=out[i]) st.2 hf st.1 (by simp [hl,hi]) n1 n2 fun h' it' hs'=>?_
  exact hQ _ h' s.toks (by simp [hl,hi]) ⟨it',st.2.at fun o q=>hs'.extBut a o n1 q⟩ fun b o hb q=>hs'.extBut b o (fun h=>hb (by simp [h])) q
 done:=fun s Q E st hQ=>Py hh st.2 hf st.1 fun h' he'=>hQ h' s.toks fun b o hb q=>he' b o (fun h=>hb (by simp [h])) q
 self:=fun i s Q E st hQ=>by
  refine wpAny_pyIter_slot st.1.typeIs DW (wpAny_call_entry DW st.1.typeIs Gp ?_ (GE _))
  show wpAny _ _ (ret (.ref I)) _ _ s
  exact wpAny_pure ⟨_,rfl,"set_iterator",_,st.1.typeIs,BE.lookup,hQ⟩
theorem NU {r:Addr} {Q:Bool->Shared->Prop} (hT:s.TypeIs (.ref r) "set") (h:Q false s):wpAny (model prog w) A (Builtin.List.listLengthHint (.ref r)) Q E s:=by
 unfold Builtin.List.listLengthHint
 refine wpAny_bind (wpAny_specialOf hT PySem.F.slot_set_len.lookup ?_)
 generalize hid:("set.__len__":String)=id0
 wp_delta
 rw [show splitId id0=some ("set","__len__") from by subst hid;decide +kernel]
 subst hid
 refine wpAny_bind (wpAny_isInstance (T:="set") (b:=true) hT (by rw [isSubtype_type];kernel_rfl) ?_)
 refine wpAny_ite_split (fun hab=>absurd hab (by decide)) (fun _=>?_)
 refine wpAny_ite_split (fun _=>?_) (fun hab=>absurd (by decide +kernel) hab)
 refine wpAny_bind (wpAny_typeOf hT ?_)
 exact wpAny_pure h
theorem MT {out:List Value} {acc:Array Value} (hl:out.length=es.size) (h:ItemsOf (fun i v=>out[i]?=some v) acc es.size):acc.toList=out:=by
 obtain ⟨h1,h2⟩:=h
 apply ext_getElem?
 intro i
 by_cases hi:i < acc.size
 ·have:=h2 i acc[i] (by simp [hi])
  rw [this]
  simp [hi]
 ·rw [List.getElem?_eq_none (by simpa using Nat.le_of_not_lt hi),List.getElem?_eq_none (by omega)]
theorem JA {l:List Int} {R:List Value->Shared->Prop} (x:Fl prog w s.heap a l) (hh:A.handled=none)
 (h:∀(h':Heap) (tk:Nat) (d:Drawn) (vs:List Value) (ms:List Int),IntsAre vs ms->ms.Perm l->(∀b o,s.heap.get? b=some o->h'.get? b=some o)->s.heap.objs.size < h'.objs.size->R vs { s with heap:=h',toks:=tk,drawn:=d }) :
 wpAny (model prog w) A (collect (.ref a)) R E s:=by
 obtain ⟨o,es,ep,t,ms,ho,hex,hd,hel,hi,hp,hb,hf,hw⟩:=x
 have raw:Bz s.heap a es ep t:=⟨o,ho,hex,hd⟩
 have hz:=fits_of_scanBound hb
 have hlt:a < s.heap.objs.size:=Heap.lt_size ho
 unfold collect
 refine wpAny_bind (wpAny_runValue (codeAny_builtin entry_proto_collect' ?_))
 rw [Around.under_plainId PySem.F.plain_proto_collect _]
 show wpAny _ A.in1 (newList [] >>= fun l=>again (.builtin "list.__iadd__" ⟨[l,.ref a],[]⟩)) _ _ s
 refine wpAny_bind (wpAny_newObj_type ?_)
 refine wpAny_pure ⟨plainId_quiet PySem.F.plain_list_iadd _,codeAny_builtin entry_list_iadd' ?_⟩
 rw [Around.under_plainId PySem.F.plain_list_iadd _]
 have hS₁:(s.heap.push { cls:=.type "list",data:=.seq ([]:List Value).toArray }).get? s.heap.objs.size=some { cls:=.type "list",data:=.seq #[] }:=Heap.get?_push_size _ rfl
 show wpAny _ A.in1 (Builtin.List.listExtendWith (.ref s.heap.objs.size) (.ref a) (.ref s.heap.objs.size)) _ _ _
 have raw1:Bz (s.heap.push { cls:=.type "list",data:=.seq ([]:List Value).toArray }) a es ep t:=raw.at fun o e=>Heap.get?_push_of_some _ e
 unfold Builtin.List.listExtendWith
 refine wpAny_bind (wpAny_typeOf (T:="set") (Bz.typeIs (s:={ s with heap:=s.heap.push { cls:=.type "list",data:=.seq ([]:List Value).toArray } }) raw1) ?_)
 have h1:Builtin.List.listSameRef (.ref s.heap.objs.size) (.ref a)=false:=by simp [Builtin.List.listSameRef,Nat.ne_of_gt hlt]
 simp only [h1,show (Value.type "set" == Value.type "list")=false by decide,show (Value.type "set" == Value.type "tuple")=false by decide,Bool.or_false,Bool.false_eq_true,if_false]
 refine wpAny_bind (O3 (s:={ s with heap:=s.heap.push { cls:=.type "list",data:=.seq ([]:List Value).toArray } }) raw1 hf hz hw fun h2 d I tp out k2 gI gtp n2 ltI it=>?_)
 have sz1:(s.heap.push { cls:=.type "list",data:=.seq ([]:List Value).toArray }).objs.size=s.heap.objs.size+1:=size_push' _ _
 have gI':s.heap.objs.size+1<=I:=by rw [<- sz1];exact gI
 have gtp':s.heap.objs.size+1<=tp:=by rw [<- sz1];exact gtp
 have raw2:Bz h2 a es ep t:=raw1.at fun o e=>k2 a o e
 have hS₂:=k2 _ _ hS₁
 have hSf:s.heap.objs.size ∉ [I,a,tp]:=by
  simp only [mem_cons,List.not_mem_nil,or_false,not_or]
  exact ⟨Nat.ne_of_lt (Nat.lt_of_lt_of_le (Nat.lt_succ_self _) gI'),Nat.ne_of_gt hlt,Nat.ne_of_lt (Nat.lt_of_lt_of_le (Nat.lt_succ_self _) gtp')⟩
 have n1:a≠I:=Nat.ne_of_lt (Nat.lt_of_lt_of_le (Nat.lt_succ_of_lt hlt) gI')
 have hl:out.length=es.size:=by rw [it.perm.length_eq];simp
 obtain ⟨ms',i',p'⟩:=FE it.perm hi
 have W:=(LU (prog:=prog) (w:=w) (A:=A.in1) (out:=out) (ep:=ep) hh hf n1 n2).toS
 have key:∀(h3:Heap) (c₁ tk:Nat),SIt w h3 I tp a es ep t out 0->Bz h3 a es ep t->(∀b o,b≠s.heap.objs.size->h2.get? b=some o->h3.get? b=some o)->h3.get? s.heap.objs.size=some { cls:=.type "list",data:=.seq #[] c₁ } ->
  codeAny (model prog w) A (.builtin "list.extend.loop" ⟨[.ref s.heap.objs.size,.ref I,.ref s.heap.objs.size],[]⟩)
   (wants (fun v s'=>v=.ref s.heap.objs.size/\∃h' tk' c',s'={ s with heap:=h',toks:=tk',drawn:=d }/\(∀b o,s.heap.get? b=some o->h'.get? b=some o)/\h'.get? s.heap.objs.size=some { cls:=.type "list",dict:=none,data:=.seq out.toArray c',slots:=#[] }) (fun _ _=>False))
   { s with heap:=h3,toks:=tk,drawn:=d }:=by
  intro h3 c₁ tk it3 raw3 k3 hS₃
  refine codeAny_extend_loopS W hz _ hSf _ es.size 0 _ #[] c₁ rfl (Nat.zero_le _) ⟨it3,raw3⟩ hS₃ (ItemsOf.nil _) fun s' acc' c' hm hS' hacc=>?_
  have ea:acc'=out.toArray:=by rw [<- MT hl hacc]
  refine ⟨rfl,s'.heap,s'.toks,c',?_,fun b o e=>?_,by rw [<- ea];exact hS'⟩
  ·have:=Moved.eq_with (wr:=s.heap.objs.size :: [I]) hm
   rw [this]
  ·have lb:b < s.heap.objs.size:=Heap.lt_size e
   refine hm.heap b o ?_ (k3 b o (Nat.ne_of_lt lb) (k2 b o (Heap.get?_push_of_some _ e)))
   simp only [mem_cons,List.not_mem_nil,or_false,not_or]
   exact ⟨Nat.ne_of_lt lb,Nat.ne_of_lt (Nat.lt_of_lt_of_le (Nat.lt_succ_of_lt lb) gI')⟩
 refine wpAny_bind (wpAny_holding (NU (Bz.typeIs (s:={ s with heap:=h2,drawn:=d }) raw2) ?_))
 have oth:∀(h3:Heap) (g:Obj->Obj) b o,b≠s.heap.objs.size->h3.get? b=some o->(h3.update s.heap.objs.size g).get? b=some o:=fun h3 g b o hb e=>(Heap.get?_update_other _ _ (Ne.symm hb)).trans e
 refine wpAny_ite_split (fun _=>?_) (fun _=>wpAny_pure ⟨plainId_quiet PySem.F.plain_extend_loop _,codeAny_mono (key h2 0 _ it raw2 (fun b o _ e=>e) hS₂) ?_⟩)
 ·refine wpAny_bind (wpAny_rule ?_)
  refine wpAny_bind ?_
  show wpAny _ _ (updateSeq s.heap.objs.size (·.push .none) >>= fun _=>updateSeq s.heap.objs.size (·.pop)) _ _ _
  refine wpAny_bind (wpAny_updateSeq hS₂ rfl ?_)
  have hS₃:=Heap.get?_update_self (Obj.mapSeq (·.push Value.none)) hS₂ rfl
  refine wpAny_updateSeq (hz:=by seq_fits) hS₃ rfl ?_
  have hS₄:=Heap.get?_update_self (Obj.mapSeq (·.pop)) hS₃ rfl
  have k4:∀b o,b≠s.heap.objs.size->h2.get? b=some o->((h2.update s.heap.objs.size (Obj.mapSeq (·.push Value.none))).update s.heap.objs.size (Obj.mapSeq (·.pop))).get? b=some o:=fun b o hb e=>oth _ _ b o hb (oth _ _ b o hb e)
  have nI:I≠s.heap.objs.size:=Nat.ne_of_gt (Nat.lt_of_lt_of_le (Nat.lt_succ_self _) gI')
  have ntp:tp≠s.heap.objs.size:=Nat.ne_of_gt (Nat.lt_of_lt_of_le (Nat.lt_succ_self _) gtp')
  refine wpAny_pure ⟨plainId_quiet PySem.F.plain_extend_loop _,codeAny_mono (key _ _ _ (it.at (fun o e=>k4 I o nI e) (fun o e=>k4 tp o ntp e)) (raw2.at fun o e=>k4 a o (Nat.ne_of_lt hlt) e) k4 hS₄) ?_⟩
  intro q s₂ y
  cases q with
  | error e=>exact y.elim
  | ok fl =>
    cases fl with
    | ret v =>
      obtain ⟨rfl,h',tk',c',rfl,hk,hS'⟩:=y
      show wpAny _ A (load s.heap.objs.size >>= _) _ _ _
      refine wpAny_bind (wpAny_load hS' ?_)
      exact wpAny_pure (h h' tk' d out ms' i' (p'.trans hp) hk (Heap.lt_size hS'))
    | _=>exact y.elim
 ·intro q s₂ y
  cases q with
  | error e=>exact y.elim
  | ok fl =>
    cases fl with
    | ret v =>
      obtain ⟨rfl,h',tk',c',rfl,hk,hS'⟩:=y
      show wpAny _ A (load s.heap.objs.size >>= _) _ _ _
      refine wpAny_bind (wpAny_load hS' ?_)
      exact wpAny_pure (h h' tk' d out ms' i' (p'.trans hp) hk (Heap.lt_size hS'))
    | _=>exact y.elim
theorem Lm {l:List Int} {R:Value->Shared->Prop} (x:Fl prog w s.heap a l) (hh:A.handled=none) (h64:l.length < 64)
 (h:∀(h':Heap) (tk:Nat) (d:Drawn) (L:Addr) (c:Nat) (out:Array Value) (ns:List Int),IntsAre out.toList ns->ns.Perm l->ns.Pairwise (·<=·)->(∀b o,s.heap.get? b=some o->h'.get? b=some o)->s.heap.objs.size<=L ->
  h'.get? L=some (seqObj "list" out c)->R (.ref L) { s with heap:=h',toks:=tk,drawn:=d }) :
 wpAny (model prog w) A (call (.builtin "sorted") [.ref a]) R E s:=by
 refine Calls.call_function_entry kind_sorted plain_sorted entry_sorted (args_sorted1 _) ?_
 unfold Builtin.«sorted»
 refine wpAny_bind (m:=checkCount "sorted" 1 1 _) (wpAny_pure ?_)
 refine wpAny_bind (JA (A:=A.in1) x hh fun h' tk d vs ms iv pm hk ge=>?_)
 have hl:vs.length < 64:=by rw [iv.length,pm.length_eq];exact h64
 refine wpAny_bind (wpAny_newList ?_ (by rw [sizeLine_eq];omega))
 have ho:(h'.push (seqObj "list" vs.toArray 0)).get? h'.objs.size=some (seqObj "list" vs.toArray 0):=Heap.get?_push_size _ rfl
 refine wpAny_bind (wpAny_holding (wpAny_call_entry slot_list_sort ⟨_,ho,rfl⟩ entry_list_sort (list_sort_tree (s:={ s with heap:=h'.push (seqObj "list" vs.toArray 0),toks:=tk,drawn:=d }) ho iv hl fun out ns i1 i2 i3=>⟨_,rfl,?_⟩) (args_list_sort _)))
 obtain ⟨e,he⟩:=sortedHeap_at (out:=out) ho
 refine wpAny_pure ⟨_,rfl,h _ tk d _ e out ns i1 (i2.trans pm) i3 (fun b o q=>?_) (Nat.le_of_lt ge) he⟩
 have k1:(h'.push (seqObj "list" vs.toArray 0)).get? b=some o:=Heap.get?_push_of_some _ (hk b o q)
 rw [sortedHeap_old (Nat.ne_of_lt (Heap.lt_size (hk b o q))) (Heap.lt_size k1)]
 exact k1
end
end L2
namespace L2
open PySem PySem.W PySem.Spec PyProof.Rows
theorem Hm (val:Nat->Int):∀i,(firstMet val i).Nodup
 | 0=>by rw [firstMet_zero];exact nodup_nil
 | i+1=>by
   rw [firstMet_succ]
   unfold step_dedup
   have ih:=Hm val i
   split
   ·exact ih
   ·rename_i c
    refine nodup_append.mpr ⟨ih,by simp,fun a ha b hb e=>?_⟩
    have:b=val i:=by simpa using hb
    subst this
    exact c (any_eq_true.mpr ⟨a,ha,by simp [e]⟩)
theorem KE (ns:List Int):(List.range ns.length).map (fun i=>ns.getD i 0)=ns:=by
 apply ext_getElem
 ·simp
 ·intro i h1 h2
  simp [h2]
theorem NI {ns:List Int} {z:Int}:z∈firstMet (fun i=>ns.getD i 0) ns.length↔z∈ns:=by
 have e:=firstMet_any (fun i=>ns.getD i 0) ns.length z
 rw [KE] at e
 constructor
 ·intro h
  have a:(firstMet (fun i=>ns.getD i 0) ns.length).any (· == z)=true:=any_eq_true.mpr ⟨z,h,by simp⟩
  rw [e] at a
  obtain ⟨y,hy,ey⟩:=any_eq_true.mp a
  have:y=z:=by simpa using ey
  exact this ▸ hy
 ·intro h
  have a:ns.any (· == z)=true:=any_eq_true.mpr ⟨z,h,by simp⟩
  rw [<- e] at a
  obtain ⟨y,hy,ey⟩:=any_eq_true.mp a
  have:y=z:=by simpa using ey
  exact this ▸ hy
theorem Es:∀{l:List Int},l.Pairwise (·<=·)->l.Nodup->l.Pairwise (· < ·)
 | [],_,_=>.nil
 | x :: l,h,n=>by
   rw [pairwise_cons] at h ⊢
   rw [nodup_cons] at n
   exact ⟨fun y hy=>by
    have a:=h.1 y hy
    have b:x≠y:=fun e=>n.1 (e ▸ hy)
    omega,Es h.2 n.2⟩
section
variable {X:Cx} {e:Expr} {te:TE} {p p2 pos pos2:Pos}
theorem Inv.draw {pins:List (Addr × Obj)} {σ:St} {H:Hp} {s:Shared} (I:Inv X pins σ H s) (d:Drawn):Inv X pins σ H { s with drawn:=d } :=
 ⟨I.ok,I.os,I.bare,I.base,I.loc,I.cell,I.free,I.freeC,I.pin,I.hok,I.len⟩
def KL (K:PySem.W.Frag) (te:TE):TE:=fun σ H Q=>te σ H fun x H1=>∃(a:Addr) (ns:List Int),x=.ref a/\SqL K H1 a (ns.map V.int)/\ns.length < 64 /\
 ∀(l:Addr) (ms:List Int),ms.Pairwise (· < ·)->(∀z,z∈ms↔z∈ns)->H1 l=none->Q (.ref l) (upd H1 l (.lst (ms.map V.int)))
theorem IK (hc:X.calm=true) (hg:Gl X "sorted") (hm:X.mg "sorted"=none) (hg2:Gl X "set") (hm2:X.mg "set"=none) (he:PE X e te)
 (hs:starEach [e] X.env=[(false,eval e X.env)]:=by rfl)
 (hs2:starEach [(.Call (.Name "set" p2) [e] [] pos2:Expr)] X.env=[(false,eval (.Call (.Name "set" p2) [e] [] pos2) X.env)]:=by rfl) :
 PE X (.Call (.Name "sorted" p) [.Call (.Name "set" p2) [e] [] pos2] [] pos) (KL X.K te):=by
 intro pins s σ H Q I h
 refine wpAny_Call_Name_kw (Cf I hg hm boot_sorted ?_ (by decide) (by decide))
 refine callWith_builtin1 ?_ hs2 rfl
 rw [hs2]
 refine Calls.spliced_cons ?_
 refine wpAny_Call_Name_kw (Cf I hg2 hm2 boot_set ?_ (by decide) (by decide))
 refine callWith_type1 ?_ hs rfl
 rw [hs]
 refine Calls.spliced_cons (thn (he pins s σ H _ I h) fun u s1 ⟨x,H1,I1,r1,a,ns,hx,hq,h64,q⟩=>?_)
 subst hx
 cases r1
 refine Calls.spliced_nil ?_
 obtain ⟨its,rv,pl,hz⟩:=I1.list hq
 have hi:=BO rv
 have hlen:its.length=ns.length:=hi.length
 refine FR (items:=its.toArray) (ns:=ns) (I1.ok.hd hc) pl.isList (by simpa using hi) (by rw [size_toArray,hlen];unfold scanBound;omega) fun h2 tk2 hS k2=>?_
 refine Calls.spliced_nil ?_
 have ez:its.toArray.size=ns.length:=by rw [size_toArray];exact hlen
 rw [ez] at hS
 have l64:(firstMet (fun i=>ns.getD i 0) ns.length).length < 64:=by
  have:=firstMet_length_le (fun i=>ns.getD i 0) ns.length
  omega
 have lt2:s1.heap.objs.size < h2.objs.size:=by
  obtain ⟨o,_,_,_,_,ho,_⟩:=hS
  exact Heap.lt_size ho
 refine Lm (s:={ s1 with heap:=h2,toks:=tk2 }) hS (I1.ok.hd hc) l64 fun h3 tk3 d L c out ms i1 i2 i3 k3 gL hL=>?_
 have kp:∀b o,s1.heap.get? b=some o->h3.get? b=some o:=fun b o q=>k3 b o (k2 b o (Heap.lt_size q) q)
 have ge:s1.heap.objs.size<=L:=Nat.le_trans (Nat.le_of_lt lt2) gL
 refine ⟨.ref L,_,(I1.laid (t':=tk3) kp ge (show Ba X.prog X.w _ h3 _ (.lst (ms.map V.int)) from ⟨?_,out.toList,c,Ey i1,hL⟩)).draw d,rfl,q L ms (Es i3 (i2.nodup_iff.mpr (Hm _ _))) (fun z=>i2.mem_iff.trans NI) (I1.hok.fresh ge)⟩
 rw [length_map,i2.length_eq,sizeLine_eq]
 omega
end
end L2
namespace L2
open PySem PySem.Spec PyProof.Rows
section
variable {X:Cx} {pins:List (Addr × Obj)} {σ:St} {H:Hp} {s:Shared} {h':Heap}
theorem Inv.turnedAll {t':Nat} {fp:List Addr} (I:Inv X pins σ H s) (k:∀b o,b ∉ fp->s.heap.get? b=some o->h'.get? b=some o) (hf:∀b∈fp,Fs X pins H b):Inv X pins σ H { s with heap:=h',toks:=t' }:=by
 have nin:∀b u,H b=some u->b ∉ fp:=fun b u e z=>by rw [(hf b z).1] at e;cases e
 refine I.step (g':=s.gens) (d':=s.drawn) (ch:=fp) (fun b hb=>?_) (fun b o _ _ hc e _=>k b o hc e) (fun b o _ _ hc e _=>⟨o.slots,k b o hc e⟩) (fun _ _ _ _ n=>n)
  (fun b o hc e=>⟨o,k b o hc e⟩) (fun _ _ e=>e) (fun _ _ _ e=>e) (fun b ps e=>⟨#[],by rw [e];simp⟩) (fun m hm=>?_) (fun b u e=>?_) I.bare
 ·obtain ⟨_,f1,_,f3,f4,f5⟩:=hf b hb
  exact ⟨f3,f1,f4,f5⟩
 ·obtain ⟨o,es,ep,ho,r⟩:=hm
  exact ⟨o,es,ep,k _ o (fun z=>(hf _ z).2.1 rfl) ho,r⟩
 ·refine (I.hok b u e).stay (fun c v hc q=>k c v ?_ q) (fun _ q=>q) fun _ _ q=>q
  rcases hc with z | z
  ·rw [z];exact nin b u e
  ·exact nin c _ z
theorem Inv.laidTurned {t':Nat} {fp:List Addr} {a:Addr} {o:HO} (I:Inv X pins σ H s) (k:∀b u,b ∉ fp->s.heap.get? b=some u->h'.get? b=some u) (hf:∀b∈fp,Fs X pins H b) (hp:s.heap.objs.size<=a)
 (new:Ba X.prog X.w (upd H a o) h' a o):Inv X pins σ (upd H a o) { s with heap:=h',toks:=t' }:=by
 have nin:∀b u,H b=some u->b ∉ fp:=fun b u e z=>by rw [(hf b z).1] at e;cases e
 have hn:H a=none:=I.hok.fresh hp
 refine I.step (g':=s.gens) (d':=s.drawn) (ch:=fp) (fun b hb=>?_) (fun b o _ _ hc e _=>k b o hc e) (fun b o _ _ hc e _=>⟨o.slots,k b o hc e⟩)
  (fun b u _ q n=>by rw [Ai (Nat.ne_of_lt (Nat.lt_of_lt_of_le (Heap.lt_size q) hp))];exact n)
  (fun b o hc e=>⟨o,k b o hc e⟩) (fun b xs q=>by rw [Ai (AZ q hn)];exact q) (fun b u xs q=>by rw [Ai (AZ q hn)];exact q) (fun b ps q=>⟨#[],by rw [Ai (AZ q hn),q];simp⟩) (fun m hm=>?_) (fun b u e=>?_) I.bare
 ·obtain ⟨_,f1,_,f3,f4,f5⟩:=hf b hb
  exact ⟨f3,f1,f4,f5⟩
 ·obtain ⟨o,es,ep,ho,r⟩:=hm
  exact ⟨o,es,ep,k _ o (fun z=>(hf _ z).2.1 rfl) ho,r⟩
 ·by_cases hb:b=a
  ·subst hb;rw [Ab] at e;cases e;exact new
  ·rw [Ai hb] at e
   refine (I.hok b u e).stay (fun c v hc q=>k c v ?_ q) (fun c q=>by rw [Ai (AZ q hn)];exact q) fun c xs q=>by rw [Ai (AZ q hn)];exact q
   rcases hc with z | z
   ·rw [z];exact nin b u e
   ·exact nin c _ z
end
def Ite (K:PySem.W.Frag) (a:Addr):It :=
 ⟨fun i H=>∃xs x,SqL K H a xs/\xs[i]?=some x,fun i H x H'=>∃T y,x=.ref T/\H T=none/\H'=upd H T (.tup [.int (i:Int),y])/\∀xs,SqL K H a xs->xs[i]?=some y,fun i H=>∃xs,SqL K H a xs/\xs.length<=i⟩
theorem Mb {P:Program} {w:World} {K:PySem.W.Frag} {es:List Expr} {k:Nat} {pos:Pos} (a e it:Addr) (hne:e≠it) :
 IM P w K (.Tuple es k pos) (Ite K a) [e,it] e (fun i h=>(∃old,IsEnum h e it (i:Nat) old)/\h.IsListIter it a i) where
 mem:=by simp
 obj:=fun i h st b hb=>by
  obtain ⟨⟨old,he⟩,o,e1,c,d⟩:=st
  rcases mem_cons.mp hb with z | z
  ·subst z
   exact ⟨_,he,fun v z=>by cases (show Data.fields _=Data.cell v from z)⟩
  ·have z':b=it:=by simpa using z
   subst z'
   exact ⟨o,e1,fun v z=>by rw [d] at z;cases z⟩
 keep:=fun i h h' st kk=>by
  obtain ⟨⟨old,he⟩,st⟩:=st
  exact ⟨⟨old,kk e (by simp) _ he⟩,st.at fun o q=>kk it (by simp) o q⟩
 item:=by
  intro X hP hw hK hc i pins s σ H E I hf st hg
  subst hP hw hK
  obtain ⟨xs,x,hq,hx⟩:=hg
  obtain ⟨its,rv,p,hz⟩:=I.list hq
  obtain ⟨u,hu,ru⟩:=rv.get hx
  obtain ⟨⟨old,he⟩,hit⟩:=st
  refine wpAny_pyNext_enum_item he hit p.isList (x:=u) (by simpa using hu) hne fun h1 ho hit1 hT hsz hk=>⟨_,rfl,?_⟩
  refine wpAny_letOwnedTupleGo_enum ho fun h2 he2 sb=>?_
  have fr:H s.heap.objs.size=none:=I.hok.fresh (Nat.le_refl _)
  have lte:e < s.heap.objs.size:=Heap.lt_size he
  have lti:it < s.heap.objs.size:=by obtain ⟨o,q,_⟩:=id hit;exact Heap.lt_size q
  refine ⟨.ref s.heap.objs.size,upd H s.heap.objs.size (.tup [.int (i:Int),x]),?_,rfl,⟨_,x,rfl,fr,rfl,fun ys hy=>by rw [I.list_inj hy hq];exact hx⟩,⟨⟨_,by simpa using he2⟩,hit1.at fun o q=>(sb.2 it (Ne.symm hne)).trans q⟩,fun b hb=>?_⟩
  ·refine I.laidTurned (fp:=[e,it]) (t':=s.toks+1) (fun b o hb q=>(sb.2 b (fun z=>hb (by simp [z]))).trans (hk b o (fun z=>hb (by simp [z])) (fun z=>hb (by simp [z])) q)) hf (Nat.le_refl _) ?_
   refine ⟨by show 2<=sizeLine;decide,[.int i s.toks,u],.cons ⟨_,rfl⟩ (.cons ru .nil),⟨_,(sb.2 _ (Nat.ne_of_gt lte)).trans hT,rfl,_,rfl⟩⟩
  ·rw [Ai (fun z=>?_)]
   ·exact (hf b hb).1
   ·rcases mem_cons.mp hb with q | q
    ·rw [q] at z;exact absurd lte (by rw [z];exact Nat.lt_irrefl _)
    ·have q':b=it:=by simpa using q
     rw [q'] at z;exact absurd lti (by rw [z];exact Nat.lt_irrefl _)
 done:=by
  intro X hP hw hK hc i pins s σ H E I hf st hg
  subst hP hw hK
  obtain ⟨xs,hq,hx⟩:=hg
  obtain ⟨its,rv,p,hz⟩:=I.list hq
  obtain ⟨f0,f1,f2,f3,f4,f5⟩:=hf it (by simp)
  obtain ⟨⟨old,he⟩,hit⟩:=st
  have hl:=rv.length
  exact wpAny_pyNext_enum_end (I.ok.hd hc) he hit p.isList (by simp;omega) fun h' eb=>⟨rfl,I.turned (t':=s.toks) (fun b o hb e=>eb b o hb e) f0 f1 f3 f4 f5⟩
 self:=fun _ _ _ _ _ st h=>by
  obtain ⟨⟨old,he⟩,_⟩:=st
  exact wpAny_pyIter_enum he h
section
variable {X:Cx}
def RA (K:PySem.W.Frag) (ta:TA):TI:=fun σ H R=>ta σ H fun vs H1=>∃a,vs=[.ref a]/\(∃xs,SqL K H1 a xs)/\R (Ite K a) H1
theorem OX {l:Expr} {ta:TA} {p pos pt:Pos} {es:List Expr} {k:Nat} (hg:Gl X "enumerate") (hm:X.mg "enumerate"=none) (ha:PA X [l] ta) (hs:starEach [l] X.env=[(false,eval l X.env)]:=by rfl) :
 PI X (.Tuple es k pt) (.Call (.Name "enumerate" p) [l] [] pos) (RA X.K ta):=by
 intro pins s σ H R I h
 refine Call_ (Cf I hg hm boot_enumerate (PyProof.Rows.callWith_type1 (thn (ha pos pins s σ H _ I h) fun us s1 ⟨vs,H1,I1,r1,q1⟩=>?_) hs rfl))
 obtain ⟨a,e,⟨xs,hq⟩,q⟩:=q1
 subst e
 cases r1 with
 | cons r rr =>
   cases rr
   cases r
   obtain ⟨its,rv,pl,hz⟩:=I1.list hq
   refine call_enumerate_list pl.isList fun h' he hit hsz hk=>?_
   refine wpAny_pyIter_enum (s:={ s1 with heap:=h' }) he ?_
   refine ⟨s1.heap.objs.size+1,[s1.heap.objs.size+1,s1.heap.objs.size],_,_,H1,rfl,I1.kept (t':=s1.toks) hk,Mb a _ _ (Nat.succ_ne_self _),⟨⟨_,he⟩,hit⟩,fun b hb=>?_,q⟩
   have ge:s1.heap.objs.size<=b:=by
    rcases mem_cons.mp hb with z | z
    ·rw [z];exact Nat.le_succ _
    ·have z':b=s1.heap.objs.size:=by simpa using z
     rw [z'];exact Nat.le_refl _
   exact I1.fpOk ge (I1.hok.fresh ge)
end
theorem NC {K:PySem.W.Frag} {a:Addr} {xs:List V} {g:TG} {tb:TS} {D:Jd} {σ:St} {H:Hp} (Pv:Nat->St->Hp->Prop) (h0:Pv 0 σ H) (hl:∀i σ H,i<=xs.length->Pv i σ H->SqL K H a xs)
 (hs:∀i x T σ H,xs[i]?=some x->Pv i σ H->H T=none->g (.ref T) σ (upd H T (.tup [.int (i:Int),x])) fun σ2 H2=>tb { D with nx:=Pv (i+1),ct:=Pv (i+1),bk:=D.nx } σ2 H2) (hd:∀σ H,Pv xs.length σ H->D.nx σ H) :
 ∃W:Nat->Nat->St->Hp->Prop,(∃m,W 0 m σ H)/\∀i m σ H,W i m σ H ->
  ((Ite K a).stop i H/\D.nx σ H)\/((Ite K a).go i H/\∃N:St->Hp->Prop,(∀σ' H',N σ' H'->∃m',m' < m/\W (i+1) m' σ' H')/\∀x H',(Ite K a).yld i H x H'->g x σ H' fun σ2 H2=>tb { D with nx:=N,ct:=N,bk:=D.nx } σ2 H2):=by
 refine ⟨fun i m σ H=>m=xs.length - i/\i<=xs.length/\Pv i σ H,⟨xs.length,by simp,Nat.zero_le _,h0⟩,?_⟩
 rintro i m σ H ⟨rfl,hi,p⟩
 have q:=hl i σ H hi p
 by_cases hlt:i < xs.length
 ·refine .inr ⟨⟨xs,xs[i],q,by simp [hlt]⟩,Pv (i+1),fun σ' H' p'=>⟨xs.length - (i+1),by omega,rfl,hlt,p'⟩,fun x H' y=>?_⟩
  obtain ⟨T,y,rfl,hT,rfl,hy⟩:=y
  exact hs i y T σ H (hy xs q) p hT
 ·have e:i=xs.length:=by omega
  subst e
  exact .inl ⟨⟨xs,q,Nat.le_refl _⟩,hd σ H p⟩
section
variable {X:Cx}
theorem EF:∀{bs:List Bool} {us:List Value},A6 (bs.map V.bl) us->us=bs.map Value.bool
 | [],_,.nil=>rfl
 | _ :: _,_,.cons r rr=>by
   cases r
   rw [EF rr]
   rfl
theorem M3 (bs:List Bool):(List.range bs.length).all (fun i=>bs.getD i false)=bs.all id:=by
 rw [Bool.eq_iff_iff,all_eq_true,all_eq_true]
 constructor
 ·intro h b hb
  obtain ⟨i,hi,rfl⟩:=mem_iff_getElem.mp hb
  have:=h i (mem_range.mpr hi)
  simpa [getD_eq_getElem?_getD,hi] using this
 ·intro h i hi
  have hi':=mem_range.mp hi
  have:=h _ (getElem_mem hi')
  simpa [getD_eq_getElem?_getD,hi'] using this
theorem Mo (bs:List Bool):(List.range bs.length).any (fun i=>bs.getD i false)=bs.any id:=by
 rw [Bool.eq_iff_iff,any_eq_true,any_eq_true]
 constructor
 ·rintro ⟨i,hi,h⟩
  have hi':=mem_range.mp hi
  exact ⟨_,getElem_mem hi',by simpa [getD_eq_getElem?_getD,hi'] using h⟩
 ·rintro ⟨b,hb,h⟩
  obtain ⟨i,hi,rfl⟩:=mem_iff_getElem.mp hb
  exact ⟨i,mem_range.mpr hi,by simpa [getD_eq_getElem?_getD,hi] using h⟩
theorem Gb {P:Program} {w:World} {A:Around} {bs:List Bool}:TruthOf P w A (fun i v=>(bs.map Value.bool).toArray[i]?=some v) (fun i=>bs.getD i false):=by
 intro i v s Q E hP hQ
 have hP':(bs.map Value.bool)[i]?=some v:=by simpa using hP
 rw [List.getElem?_map] at hP'
 cases e:bs[i]? with
 | none=>rw [e] at hP';cases hP'
 | some b =>
   rw [e] at hP'
   have:Value.bool b=v:=Option.some.inj hP'
   subst this
   refine wpAny_truthy_bool ?_
   have e2:bs.getD i false=b:=by rw [getD_eq_getElem?_getD,e];rfl
   dsimp only at hQ
   rw [e2] at hQ
   exact hQ
theorem GI (hc:X.calm=true) {K:PySem.W.Frag} (hK:X.K=K:=by rfl):Ch X (.builtin "all") (fun xs H Q=>∃(a:Addr) (bs:List Bool),xs=[.ref a]/\SqL K H a (bs.map V.bl)/\Q (.bl (bs.all id)) H):=by
 subst hK
 intro pins s σ H xs us Q I r h
 obtain ⟨a,bs,rfl,hq,q⟩:=h
 obtain ⟨u,rfl,rx⟩:=D6 r
 cases rx
 obtain ⟨its,rv,pl,hz⟩:=I.list hq
 have ei:=EF rv
 subst ei
 have lt:a < s.heap.objs.size:=by obtain ⟨o,q,_⟩:=pl.isList;exact Heap.lt_size q
 refine call_all_walk (wpAny_pyIter_list pl.isList ?_)
 refine ⟨_,_,_,_,_,_,_,rfl,Walks.list (A:=X.A.in1) (I.ok.hd hc) s.heap.objs.size a (Nat.ne_of_lt lt) (bs.map Value.bool).toArray,⟨⟨_,Heap.get?_push_size _ rfl,rfl,rfl⟩,pl.isList.at fun o q=>Heap.get?_push_of_some _ q⟩,Gb,fun h' tk hk=>?_⟩
 rw [size_toArray,length_map,M3]
 exact ⟨.bl _,H,I.kept (t':=tk) fun b o q=>hk b o (by simpa using Nat.ne_of_lt (Heap.lt_size q)) (Heap.get?_push_of_some _ q),rfl,q⟩
theorem O7 (hc:X.calm=true) {K:PySem.W.Frag} (hK:X.K=K:=by rfl):Ch X (.builtin "any") (fun xs H Q=>∃(a:Addr) (bs:List Bool),xs=[.ref a]/\SqL K H a (bs.map V.bl)/\Q (.bl (bs.any id)) H):=by
 subst hK
 intro pins s σ H xs us Q I r h
 obtain ⟨a,bs,rfl,hq,q⟩:=h
 obtain ⟨u,rfl,rx⟩:=D6 r
 cases rx
 obtain ⟨its,rv,pl,hz⟩:=I.list hq
 have ei:=EF rv
 subst ei
 have lt:a < s.heap.objs.size:=by obtain ⟨o,q,_⟩:=pl.isList;exact Heap.lt_size q
 refine call_any_walk (wpAny_pyIter_list pl.isList ?_)
 refine ⟨_,_,_,_,_,_,_,rfl,Walks.list (A:=X.A.in1) (I.ok.hd hc) s.heap.objs.size a (Nat.ne_of_lt lt) (bs.map Value.bool).toArray,⟨⟨_,Heap.get?_push_size _ rfl,rfl,rfl⟩,pl.isList.at fun o q=>Heap.get?_push_of_some _ q⟩,Gb,fun h' tk hk=>?_⟩
 rw [size_toArray,length_map,Mo]
 exact ⟨.bl _,H,I.kept (t':=tk) fun b o q=>hk b o (by simpa using Nat.ne_of_lt (Heap.lt_size q)) (Heap.get?_push_of_some _ q),rfl,q⟩
end
end L2
namespace L2
open PySem PySem.Spec PyProof.Rows
def Nn (n:Nat) (wi:TI) (g:TG) (tt:TT) (te:TE):TE:=fun σ H Q=>wi σ H fun J H1=>∀D,H1 D=none->∃W:Nat->Nat->List V->Hp->Prop,(∃m,W 0 m [] (upd H1 D (.lst [])))/\∀i m ys H2,W i m ys H2 ->
 H2 D=some (.lst ys)/\((J.stop i H2/\Q (.ref D) H2)\/(J.go i H2/\ys.length < sizeLine/\∀x H3,J.yld i H2 x H3->∀os:St,os.length=n->g x (σ++os) H3 fun σ4 H4=>(∃os':St,σ4=σ++os'/\os'.length=n)/\tt σ4 H4 fun b H5=>if b=true then te σ4 H5 fun y H6=>H6 D=some (.lst ys)/\∃m',m' < m/\W (i+1) m' (ys++[y]) (upd H6 D (.lst (ys++[y])))
  else ∃m',m' < m/\W (i+1) m' ys H5))
structure EG (N Nc:List Str) (xs:List Str) (sc fsc:Scope):Prop where
 kind:sc.kind=.function
 cell:∀y∈sc.names,y.2≠.cell
 nm:∀y∈sc.names,y.2=.local->sc.names.lookup y.1=some .local
 own:∀x∈xs,sc.names.lookup x=some .local
 fr:∀y∈sc.names,y.2=.free->fsc.names.lookup y.1=some .cell\/fsc.names.lookup y.1=some .free
 len:Nc.length=N.length+xs.length
 nd:Nc.Nodup
 last:Nc.drop N.length=xs
 slot:((List.range N.length).all fun i=>match Nc[i]? with
  | some y=>(match sc.names.lookup y with | some .free=>N[i]? == some y | some .local=>false | some .cell=>false | _=>true)
  | none=>true)=true
theorem EG.at {N Nc:List Str} {xs:List Str} {sc fsc:Scope} (C:EG N Nc xs sc fsc) {i:Nat} {y:Str} (hi:i < N.length) (h:Nc[i]?=some y):sc.names.lookup y≠some .local/\sc.names.lookup y≠some .cell/\(sc.names.lookup y=some .free->N[i]?=some y):=by
 have q:=all_eq_true.mp C.slot i (mem_range.mpr hi)
 rw [h] at q
 dsimp only at q
 cases e:sc.names.lookup y with
 | none=>exact ⟨fun z=>(nomatch z),fun z=>(nomatch z),fun z=>(nomatch z)⟩
 | some k =>
   rw [e] at q
   cases k with
   | «local»=>exact absurd (show false=true from q) Bool.false_ne_true
   | cell=>exact absurd (show false=true from q) Bool.false_ne_true
   | free=>exact ⟨fun z=>(nomatch z),fun z=>(nomatch z),fun _=>by simpa using q⟩
   | _=>exact ⟨fun z=>(nomatch z),fun z=>(nomatch z),fun z=>(nomatch z)⟩
theorem Ky {X:Cx} {N Nc xs:List Str} {sc fsc:Scope} {cl:List (Str × Addr)} {s:Shared} {H:Hp} {ex:List Addr} {x:Str} {px:Pos} {j n:Nat} (cn:EG N Nc xs sc fsc) (hj:xs[j]?=some x) (hn:n=N.length+j):PG (X.inComp Nc sc cl s H ex) (.Name x px) (Et n):=by
 have own:(relabel sc X.env).names.lookup x=some .local:=by
  have e:=BV X.env sc.names x
  rw [cn.own x (mem_of_getElem? hj)] at e
  exact e
 refine AA (X:=X.inComp Nc sc cl s H ex) cn.nd ?_ (.inl own) (.inr own)
 show Nc[n]?=some x
 rw [hn,<- List.getElem?_drop,cn.last]
 exact hj
theorem Rc {prog:Program} {w:World} {A:Around} {R:Result->Shared->Prop} {s:Shared} {elt tg iter:Expr} {ifs:List Expr} {scope:Scope} {pos:Pos} {it acc:Value} {env:Env} (I:Nat->Shared->Prop)
 (turn:∀n s,I n s->wpAny (model prog w) A (pyNext it) (fun r s₁=>match r with
  | none=>R (.ok .next) s₁
  | some v=>wpAny (model prog w) A (letOwnedTupleGo tg it v) (fun _ z=>wpAny (model prog w) A (assign tg env v) (fun _ s₂ =>
   wpAny (model prog w) A (forIn ifs true fun c r=>if r=true then do let ok <- isTrue c env (eval c env);pure (ForInStep.yield ok) else pure (ForInStep.yield r)) (fun ok s₃ =>
    if ok=true then wpAny (model prog w) A (eval elt env) (fun x s₄=>wpAny (model prog w) A (call (.builtin "list.append") [acc,x]) (fun _ s₅=>∃m,m < n/\I m s₅) (fun _ _=>False) s₄) (fun _ _=>False) s₃
    else ∃m,m < n/\I m s₃) (fun _ _=>False) s₂) (fun _ _=>False) z) (fun _ _=>False) s₁) (fun _ _=>False) s)
 (n:Nat) (h:I n s):codeAny (model prog w) A (.compLoop (.ListComp elt [⟨tg,iter,ifs,0⟩] scope pos) 0 it acc env) R s:=by
 refine codeAny_loop rfl I (fun k z y=>?_) n h
 show wpAny _ A ((compTurn (.ListComp elt [⟨tg,iter,ifs,0⟩] scope pos) 0 it acc env).onRaise fun x=>do noteFrame x env;theTreesLotGoes x) _ _ z
 refine wpAny_noted ?_
 rw [compTurn_list]
 refine wpAny_bind (wpAny_standAt (wpAny_bind (DQ (turn k z y) fun r s₁ q1=>?_)))
 cases r with
 | none=>exact wpAny_pure q1
 | some v =>
   refine wpAny_bind (DQ q1 fun _ z q2=>wpAny_bind (DQ q2 fun _ s₂ q3=>wpAny_bind (DQ q3 fun ok s₃ q4=>?_)))
   cases ok with
   | false=>exact wpAny_pure ⟨rfl,q4⟩
   | true=>exact wpAny_bind (wpAny_bind (DQ q4 fun x s₄ q5=>wpAny_bind (DQ q5 fun _ s₅ q6=>wpAny_pure (wpAny_pure ⟨rfl,q6⟩))))
section
variable {X:Cx} {elt iter:Expr} {xs:List Str} {tg:Expr} {g:TG} {pos:Pos} {ifs:List Expr} {sc fsc:Scope} {N Nc:List Str} {wi:TI} {tt:TT} {te:TE}
theorem KD (hE:X.env.scope=fsc) (hXN:X.N=N) (cn:EG N Nc xs sc fsc) (hc:X.calm=true)
 (hg:∀cl s H ex,PG (X.inComp Nc sc cl s H ex) tg g) (ht:∀cl s H ex,Gk (X.inComp Nc sc cl s H ex) ifs tt) (he:∀cl s H ex,PE (X.inComp Nc sc cl s H ex) elt te)
 {cl:List (Str × Addr)} (clS:∀y c,cl.lookup y=some c->X.env.cells.lookup y=some c) (clH:∀y∈sc.names,y.2=.free->∃c,cl.lookup y.1=some c)
 {pins:List (Addr × Obj)} {σ:St} {H2:Hp} {s2:Shared} {it:Addr} {fp:List Addr} {tn:Nat->Heap->Prop} {J:It} {Q:VK} {E:Value->Shared->Prop}
 (I2:Inv X pins σ H2 s2) (T:IM X.prog X.w X.K tg J fp it tn) (st2:tn 0 s2.heap) (f2:∀b∈fp,Fs X pins H2 b)
 (h2:∀D,H2 D=none->∃W:Nat->Nat->List V->Hp->Prop,(∃m,W 0 m [] (upd H2 D (.lst [])))/\∀i m ys H2,W i m ys H2 ->
  H2 D=some (.lst ys)/\((J.stop i H2/\Q (.ref D) H2)\/(J.go i H2/\ys.length < sizeLine/\∀x H3,J.yld i H2 x H3->∀os:St,os.length=xs.length->g x (σ++os) H3 fun σ4 H4=>(∃os':St,σ4=σ++os'/\os'.length=xs.length)/\tt σ4 H4 fun b H5=>if b=true then te σ4 H5 fun y H6=>H6 D=some (.lst ys)/\∃m',m' < m/\W (i+1) m' (ys++[y]) (upd H6 D (.lst (ys++[y])))
   else ∃m',m' < m/\W (i+1) m' ys H5))) :
 wpAny (model X.prog X.w) X.A (newList []) (fun acc s₃=>wpAny (model X.prog X.w) X.A (newFunctionEnv sc X.env.globals cl [] X.env.qual none .none (some X.env)) (fun cenv s₄ =>
  codeAny (model X.prog X.w) X.A (.compStart (.ListComp elt [⟨tg,iter,ifs,0⟩] sc pos) 0 (.ref it) acc { cenv with scope:=relabel sc X.env })
   (fun r s'=>r=.ok .next/\∃D H',acc=.ref D/\Inv X pins σ H' s'/\Q (.ref D) H'/\DA X pins H' cenv.locals/\∃m,s'.heap.Ns cenv.locals m) s₄) E s₃) E s2:=by
 refine wpAny_newObj_type (wpAny_newFunctionEnv cn.cell (by intro y hy;simp at hy) (fun h₁ hns₁ hsb₁=>?_) cn.kind)
 dsimp only at hns₁ hsb₁ ⊢
 have hD:H2 s2.heap.objs.size=none:=I2.hok.fresh (Nat.le_refl _)
 obtain ⟨W,⟨m0,w0⟩,turn⟩:=h2 s2.heap.objs.size hD
 have I3:Inv X pins σ (upd H2 s2.heap.objs.size (.lst [])) { s2 with heap:=s2.heap.push { cls:=.type "list",dict:=none,data:=.seq ([]:List Value).toArray } } :=
  I2.laid (t':=s2.toks) (fun b u e=>Heap.get?_push_of_some _ e) (Nat.le_refl _) ⟨Nat.zero_le _,[],0,.nil,Heap.get?_push_size _ rfl⟩
 generalize hs3:({ s2 with heap:=s2.heap.push { cls:=.type "list",dict:=none,data:=.seq ([]:List Value).toArray } }:Shared)=s3 at I3
 have eh:s3.heap=s2.heap.push { cls:=.type "list",dict:=none,data:=.seq ([]:List Value).toArray }:=by rw [<- hs3]
 have e2:({ s2 with heap:=h₁,toks:=s2.toks+([]:List (Str × Value)).length }:Shared)={ s3 with heap:=h₁,toks:=s3.toks }:=by rw [<- hs3];rfl
 generalize hH3:upd H2 s2.heap.objs.size (.lst [])=H3 at I3 w0
 rw [<- eh] at hns₁ hsb₁ ⊢
 rw [e2]
 have below2:∀b,b∈fp->b < s3.heap.objs.size:=fun b hb=>by
  obtain ⟨o,e,_⟩:=T.obj _ _ st2 b hb
  have:s2.heap.objs.size<=s3.heap.objs.size:=by rw [eh,Heap.size_push];exact Nat.le_succ _
  exact Nat.lt_of_lt_of_le (Heap.lt_size e) this
 have old:∀b o,s3.heap.get? b=some o->h₁.get? b=some o:=fun b o e=>(hsb₁.2 b (Nat.ne_of_lt (Heap.lt_size e))).trans (Heap.get?_push_of_some _ e)
 have old2:∀b o,s2.heap.get? b=some o->s3.heap.get? b=some o:=fun b o e=>by rw [eh];exact Heap.get?_push_of_some _ e
 have hsz3:s2.heap.objs.size < s3.heap.objs.size:=by rw [eh,Heap.size_push];exact Nat.lt_succ_self _
 have fpFree:∀b∈fp,H3 b=none:=fun b hb=>by
  rw [<- hH3,Ai (fun z=>?_)]
  ·exact (f2 b hb).1
  ·obtain ⟨o,e,_⟩:=T.obj _ _ st2 b hb
   have:=Heap.lt_size e
   rw [z] at this
   exact Nat.lt_irrefl _ this
 have rl:∀y,(relabel sc X.env).names.lookup y=(sc.names.lookup y).map fun k=>if (k == NameKind.free && X.env.scope.kind == .function && X.env.kindOf y == some .cell) then NameKind.cell else k:=fun y=>BV X.env sc.names y
 have freeOf:∀y,sc.names.lookup y=some .free->∃c,cl.lookup y=some c:=fun y e=>clH (y,.free) (PySem.mem_of_lookup e) rfl
 have noCell:∀y,sc.names.lookup y≠some .cell:=fun y e=>cn.cell (y,.cell) (PySem.mem_of_lookup e) rfl
 have isFree:∀y,((relabel sc X.env).names.lookup y=some .cell\/(relabel sc X.env).names.lookup y=some .free)->sc.names.lookup y=some .free:=fun y h=>by
  rw [rl y] at h
  cases e:sc.names.lookup y with
  | none=>rw [e] at h;rcases h with z | z <;> exact absurd z (by simp)
  | some k =>
    rw [e] at h
    cases k with
    | free=>rfl
    | cell=>exact absurd e (noCell y)
    | «local»=>rcases h with z | z <;> exact absurd z (by simp)
    | _=>rcases h with z | z <;> exact absurd z (by simp)
 have exOk:∀b∈fp,b≠s3.heap.objs.size/\(∀y c,X.env.cells.lookup y=some c->c≠b)/\b ∉ frs X.stack:=fun b hb=>by
  obtain ⟨g0,g1,g2,g3,g4,g5⟩:=f2 b hb
  refine ⟨Nat.ne_of_lt (below2 b hb),g4,fun z=>?_⟩
  rcases mem_cons.mp (I2.stkSub b z) with z | z
  ·exact g1 z
  ·exact g2 z
 have hCnew:X.s₀.heap.objs.size<=s3.heap.objs.size:=I3.sz
 have hCcell:∀y c,X.env.cells.lookup y=some c->c≠s3.heap.objs.size:=fun y c e z=>by
  obtain ⟨v,q⟩:=I3.cell y c e
  have:=q.lt
  rw [z] at this
  exact Nat.lt_irrefl _ this
 have hCpin:∀p∈X.pn++pins,p.1≠s3.heap.objs.size:=fun p hp z=>by
  have:=Heap.lt_size (I3.pin p hp).1
  rw [z] at this
  exact Nat.lt_irrefl _ this
 have okc:(X.inComp Nc sc cl s3 H3 fp).Ok:=by
  refine ⟨I3.ok.mod,cn.kind,I3.ok.glob,I3.ok.blt,Nat.le_refl _,fun y z c h1 h2=>I3.ok.inj y z c (clS y c h1) (clS z c h2),fun y hy=>freeOf y (isFree y hy),fun y c hf=>absurd (show false=true from hf) Bool.false_ne_true,I3.ok.hd,I3.ok.frames,.inl rfl,
   fun b hb=>⟨(exOk b hb).1,fun y c e=>(exOk b hb).2.1 y c (clS y c e)⟩,fun b o e=>I3.bs b o e,Nat.le_trans I3.ok.bsz I3.sz,fun b o e hb=>?_,fun b hb=>(exOk b hb).2.2,I3.stack,I3.stkFree⟩
  obtain ⟨g0,g1,g2,g3,g4,g5⟩:=f2 b hb
  rcases g3 with z | z
  ·exact I3.ok.noex b o e z
  ·exact absurd (Heap.lt_size (I3.ok.bs b o e).1) (Nat.not_lt.mpr z)
 have hlen:σ.length=N.length:=by rw [I3.len,hXN]
 have Ic:Inv (X.inComp Nc sc cl s3 H3 fp) [] (σ++List.replicate xs.length none) H3 { s3 with heap:=h₁,toks:=s3.toks }:=by
  refine ⟨okc,rfl,I3.bare,Un.kept old,⟨_,hns₁,fun i y v h1 h2 h3=>?_⟩,fun y c e=>?_,I3.hok.fresh (Nat.le_refl _),fun y c e=>I3.freeC y c (clS y c e),fun p hp=>absurd (show p∈([]:List (Addr × Obj)) from hp) (by simp),I3.hok.kept old,?_⟩
  ·have hi:i < σ.length:=by
    by_cases hi:i < σ.length
    ·exact hi
    ·rw [List.getElem?_append_right (Nat.not_lt.mp hi)] at h2
     rw [List.getElem?_replicate] at h2
     split at h2 <;> cases h2
   rw [List.getElem?_append_left hi] at h2
   have hi':i < N.length:=by rw [<- hlen];exact hi
   obtain ⟨n1,n2,n3⟩:=cn.at hi' h1
   have hf:sc.names.lookup y=some .free:=by
    rcases h3 with z | z
    ·exfalso
     have z':(relabel sc X.env).names.lookup y=some .local:=z
     rw [rl y] at z'
     cases e:sc.names.lookup y with
     | none=>rw [e] at z';simp at z'
     | some k =>
       rw [e] at z'
       cases k with
       | «local»=>exact n1 e
       | cell=>exact n2 e
       | free =>
         simp only [Option.map_some,Option.some.injEq] at z'
         split at z' <;> cases z'
       | _=>simp at z'
    ·exact isFree y z
   have hN:X.N[i]?=some y:=by rw [hXN];exact n3 hf
   obtain ⟨m,hn,hl⟩:=I3.loc
   have hv:fsc.names.lookup y=some .cell\/fsc.names.lookup y=some .free:=cn.fr (y,.free) (PySem.mem_of_lookup hf) rfl
   have hv':X.env.scope.names.lookup y=some .cell\/X.env.scope.names.lookup y=some .free:=by rw [hE];exact hv
   obtain ⟨u,ru,lk⟩:=hl i y v hN h2 (.inr hv')
   refine ⟨u,ru,.inr ⟨?_,?_⟩⟩
   ·show (relabel sc X.env).names.lookup y=some .cell\/(relabel sc X.env).names.lookup y=some .free
    rw [rl y,hf]
    simp only [Option.map_some,Option.some.injEq]
    split
    ·exact .inl rfl
    ·exact .inr rfl
   ·rcases lk with ⟨kl,_⟩ | ⟨_,c,hc,hcell⟩
    ·exfalso
     have kl':X.env.scope.names.lookup y=some .local:=kl
     rw [kl'] at hv'
     rcases hv' with z | z <;> cases z
    ·obtain ⟨d,hd⟩:=freeOf y hf
     have ed:=clS y d hd
     rw [hc] at ed
     cases ed
     exact ⟨c,hd,hcell.keeps old⟩
  ·obtain ⟨v,q⟩:=I3.cell y c (clS y c e)
   exact ⟨v,q.keeps old⟩
  ·show (σ++List.replicate xs.length none).length=Nc.length
   rw [length_append,hlen,cn.len,length_replicate]
 have stc:tn 0 ({ s3 with heap:=h₁,toks:=s3.toks }:Shared).heap:=T.keep _ _ _ st2 fun b _ o e=>old b o (old2 b o e)
 have hDf:s2.heap.objs.size ∉ fp:=fun hm=>by
  obtain ⟨o,e,_⟩:=T.obj _ _ st2 _ hm
  exact Nat.lt_irrefl _ (Heap.lt_size e)
 have fpc:∀{pins':List (Addr × Obj)} {H':Hp},pins'=[]->(∀b∈fp,H' b=none)->∀b∈fp,Fs (X.inComp Nc sc cl s3 H3 fp) pins' H' b:=fun {pins' H'} hp hn b hb=>by
  subst hp
  exact ⟨hn b hb,(exOk b hb).1,(exOk b hb).2.2,.inl hb,fun y c e=>(exOk b hb).2.1 y c (clS y c e),fun p hp=>absurd (show p∈([]:List (Addr × Obj)) from hp) (by simp)⟩
 have loop:∀s₄:Shared,s₄={ s3 with heap:=h₁,toks:=s3.toks } ->
  codeAny (model X.prog X.w) X.A (.compLoop (.ListComp elt [⟨tg,iter,ifs,0⟩] sc pos) 0 (.ref it) (.ref s2.heap.objs.size) (compEnvC sc cl s3.heap.objs.size X.env))
   (fun r s'=>r=.ok .next/\∃D H',(Value.ref s2.heap.objs.size)=.ref D/\Inv X pins σ H' s'/\Q (.ref D) H'/\DA X pins H' s3.heap.objs.size/\∃m,s'.heap.Ns s3.heap.objs.size m) s₄:=by
  rintro s₄ rfl
  refine Rc (fun n s'=>∃(i:Nat) (o:St) (H':Hp) (ys:List V),o.length=xs.length/\Inv (X.inComp Nc sc cl s3 H3 fp) [] (σ++o) H' s'/\tn i s'.heap/\(∀b∈fp,H' b=none)/\W i n ys H') ?_ m0 ⟨0,_,H3,[],length_replicate ..,Ic,stc,fpFree,w0⟩
  rintro n s' ⟨i,o,H',ys,lo,I',st',fr',w'⟩
  obtain ⟨hDl,tw⟩:=turn i n ys H' w'
  rcases tw with ⟨stop,q⟩ | ⟨go,hz,step⟩
  ·
   refine thn (T.done (X.inComp Nc sc cl s3 H3 fp) rfl rfl rfl hc i [] s' _ H' _ I' (fpc rfl fr') st' stop) fun r s5 ⟨hr,I5⟩=>?_
   subst hr
   have Ix:Inv X pins σ H' s5:=I3.call' (ch:=fp) I5.os I5.base I5.hok I5.bare fun b hb=>by
    obtain ⟨g0,g1,g2,g3,g4,g5⟩:=f2 b hb
    exact ⟨g3,g1,g4,g5⟩
   have hCf:H' s3.heap.objs.size=none:=I5.free
   obtain ⟨m,hn,_⟩:=I5.loc
   exact ⟨rfl,s2.heap.objs.size,H',rfl,Ix,q,⟨hCf,fun z=>Nat.lt_irrefl _ (by have:=I3.lt;rw [<- z] at this;exact this),hCnew,hCcell,hCpin⟩,m,hn⟩
  ·
   refine thn (T.item (X.inComp Nc sc cl s3 H3 fp) rfl rfl rfl hc i [] s' _ H' _ I' (fpc rfl fr') st' go) fun r s5 ⟨u,hr,h4⟩=>?_
   subst hr
   dsimp only
   refine DQ h4 fun _ s6 ⟨xv,H5,I5,r5,y5,st5,fr5⟩=>?_
   have I5':=I5.pinned (fpc rfl fr5) (T.obj _ _ st5)
   have again:∀{o':St} {H7:Hp} {s7:Shared} {m':Nat} {ys':List V},o'.length=xs.length->Inv (X.inComp Nc sc cl s3 H3 fp) ([]++EH fp s6.heap) (σ++o') H7 s7->m' < n->W (i+1) m' ys' H7 ->
    ∃m,m < n/\∃(i:Nat) (o:St) (H':Hp) (ys:List V),o.length=xs.length/\Inv (X.inComp Nc sc cl s3 H3 fp) [] (σ++o) H' s7/\tn i s7.heap/\(∀b∈fp,H' b=none)/\W i m ys H':=fun {o' H7 s7 m' ys'} lo' I7 hm w7=>by
    refine ⟨m',hm,i+1,o',H7,ys',lo',I7.unpinned,T.keep _ _ _ st5 fun b hb o e=>(I7.pin (b,o) (mem_append_right _ (mem_append_right _ (BP hb e)))).1,fun b hb=>?_,w7⟩
    obtain ⟨o',e,d⟩:=T.obj _ _ st5 b hb
    exact (I7.pin (b,o') (mem_append_right _ (mem_append_right _ (BP hb e)))).2.1
   refine DQ (hg cl s3 H3 fp _ s6 _ H5 xv u _ I5' r5 (step xv _ y5 o lo)) fun _ s7 ⟨σ7,H7,I7,⟨o7,e7,lo7⟩,q7⟩=>?_
   subst e7
   refine DQ (ht cl s3 H3 fp _ s7 _ _ _ I7 q7) fun b s8 ⟨H8,I8,q8⟩=>?_
   cases b with
   | false =>
     rw [if_neg Bool.false_ne_true] at q8 ⊢
     obtain ⟨m',hm,w8⟩:=q8
     exact again lo7 I8 hm w8
   | true =>
     rw [if_pos rfl] at q8 ⊢
     refine DQ (he cl s3 H3 fp _ s8 _ H8 _ I8 q8) fun y s9 ⟨yv,H9,I9,r9,hD9,m',hm,w9⟩=>?_
     refine DQ (BG _ s9 _ H9 (.ref s2.heap.objs.size) [yv] (.ref s2.heap.objs.size) [y] (fun v H=>v=.non/\H=upd H9 s2.heap.objs.size (.lst (ys++[yv]))) I9 rfl (.cons r9 .nil) ⟨_,ys,yv,rfl,rfl,hD9,hz,rfl,rfl⟩) fun _ s10 ⟨v10,H10,I10,r10,e10,e11⟩=>?_
     subst e11
     exact again lo7 I10 hm w9
 exact codeAny_compStart_list (loop _ rfl) (T.self _ 0 _ _ _ stc (loop _ rfl))
theorem MP (I:∀y,(X.env.kindOf y=some .cell\/X.env.kindOf y=some .free)->∃c,X.env.cells.lookup y=some c) (hE:X.env.scope=fsc) (cn:EG N Nc xs sc fsc):∀y∈sc.names,y.2=.free->∃c,X.env.cells.lookup y.1=some c:=fun y hy hf=>by
 refine I y.1 ?_
 show X.env.scope.names.lookup y.1=some .cell\/X.env.scope.names.lookup y.1=some .free
 rw [hE]
 exact cn.fr y hy hf
theorem OJ (hE:X.env.scope=fsc) (hXN:X.N=N) (cn:EG N Nc xs sc fsc) (hc:X.calm=true) (hi:PI X tg iter wi)
 (hg:∀cl s H ex,PG (X.inComp Nc sc cl s H ex) tg g) (ht:∀cl s H ex,Gk (X.inComp Nc sc cl s H ex) ifs tt) (he:∀cl s H ex,PE (X.inComp Nc sc cl s H ex) elt te)
 (hs:∀v,foldedSetIterable iter X.env v=pure v:=by intro _;rfl):PE X (.ListComp elt [⟨tg,iter,ifs,0⟩] sc pos) (Nn xs.length wi g tt te):=by
 intro pins s σ H Q I h
 obtain ⟨cl,hcl,clS,clH⟩:=Dh (env:=X.env) (sc:=sc) (MP I.ok.has hE cn)
 rw [eval_ListComp]
 refine wpAny_comprehension_free (use:=none) rfl hs hcl cn.kind cn.nm (thn (hi pins s σ H _ I h) fun v s1 h1=>thn h1 fun itv s2 h2=>?_)
 obtain ⟨it,fp,tn,J,H2,rfl,I2,T,st2,f2,h2⟩:=h2
 refine thn (KD (pos:=pos) (iter:=iter) hE hXN cn hc hg ht he clS clH I2 T st2 f2 h2) fun acc s3 h3=>thn h3 fun cenv s4 h4=>codeAny_mono h4 fun r s' h5=>?_
 obtain ⟨rfl,D,H',rfl,I',q,cloc,m,hn⟩:=h5
 exact ⟨m,hn,fun h' k=>⟨.ref D,H',I'.sameBut cloc k,rfl,q⟩⟩
end
section
variable {X:Cx} {elt iter:Expr} {x1 x2 x3:Str} {p1 p2 p3 pt pos:Pos} {k:Nat} {ifs:List Expr} {sc fsc:Scope} {N Nc:List Str} {wi:TI} {tt:TT} {te:TE}
theorem Ot (hE:X.env.scope=fsc) (hXN:X.N=N) (cn:EG N Nc [x1,x2] sc fsc) (hc:X.calm=true) (hi:PI X (.Tuple [.Name x1 p1,.Name x2 p2] k pt) iter wi)
 (ht:∀cl s H ex,Gk (X.inComp Nc sc cl s H ex) ifs tt) (he:∀cl s H ex,PE (X.inComp Nc sc cl s H ex) elt te) (hs:∀v,foldedSetIterable iter X.env v=pure v:=by intro _;rfl) :
 PE X (.ListComp elt [⟨.Tuple [.Name x1 p1,.Name x2 p2] k pt,iter,ifs,0⟩] sc pos) (Nn 2 wi (Q0 X.K 2 (JG (Et N.length) (JG (Et (N.length+1)) Qx))) tt te) :=
 OJ hE hXN cn hc hi (fun cl s H ex=>FH (X:=X.inComp Nc sc cl s H ex) hc (Bp (Ky (j:=0) cn rfl rfl) (Bp (Ky (j:=1) cn rfl rfl) Ew))) ht he hs
end
end L2
namespace L2
open PySem PySem.Spec PyProof.Rows
def Itz (K:PySem.W.Frag) (a b:Addr):It :=
 ⟨fun i H=>∃xs ys x y,SqL K H a xs/\SqL K H b ys/\xs[i]?=some x/\ys[i]?=some y,fun i H x H'=>∃T y z,x=.ref T/\H T=none/\H'=upd H T (.tup [y,z])/\(∀xs,SqL K H a xs->xs[i]?=some y)/\∀xs,SqL K H b xs->xs[i]?=some z,
  fun i H=>∃xs ys,SqL K H a xs/\SqL K H b ys/\(xs.length<=i\/ys.length<=i)⟩
theorem ME {n a b:Nat} (ha:a < n) (hb:b < n):ZipApart (n+4) (n+2) (n+3) n (n+1) a b:=by
 constructor <;> (show @Ne Nat _ _) <;> omega
theorem O1 {z TO i1 i2 TI c:Addr} (h:c ∉ [z,TI,TO,i1,i2]):c≠z/\c≠TO/\c≠i1/\c≠i2 :=
 ⟨fun e=>h (by simp [e]),fun e=>h (by simp [e]),fun e=>h (by simp [e]),fun e=>h (by simp [e])⟩
theorem Ob {P:Program} {w:World} {K:PySem.W.Frag} {es:List Expr} {k:Nat} {pos:Pos} (a b z TI TO i1 i2:Addr) (D:ZipApart z TI TO i1 i2 a b) :
 IM P w K (.Tuple es k pos) (Itz K a b) [z,TI,TO,i1,i2] z (fun i h=>IsZip h z TI TO .none/\IsPair h TI (.ref i1) (.ref i2)/\(∃u v,IsPair h TO u v)/\h.IsListIter i1 a i/\h.IsListIter i2 b i) where
 mem:=by simp
 obj:=fun i h st c hc=>by
  obtain ⟨hz,hTI,⟨u,v,hTO⟩,⟨o1,e1,c1,d1⟩,o2,e2,c2,d2⟩:=st
  simp only [mem_cons,List.not_mem_nil,or_false] at hc
  rcases hc with q | q | q | q | q <;> subst q
  ·exact ⟨_,hz,fun v z=>by cases (show Data.fields _=Data.cell v from z)⟩
  ·exact ⟨_,hTI,fun v z=>by cases (show Data.seq _ _=Data.cell v from z)⟩
  ·exact ⟨_,hTO,fun v z=>by cases (show Data.seq _ _=Data.cell v from z)⟩
  ·exact ⟨o1,e1,fun v z=>by rw [d1] at z;cases z⟩
  ·exact ⟨o2,e2,fun v z=>by rw [d2] at z;cases z⟩
 keep:=fun i h h' st kk=>by
  obtain ⟨hz,hTI,⟨u,v,hTO⟩,h1,h2⟩:=st
  exact ⟨kk z (by simp) _ hz,kk TI (by simp) _ hTI,⟨u,v,kk TO (by simp) _ hTO⟩,h1.at fun o q=>kk i1 (by simp) o q,h2.at fun o q=>kk i2 (by simp) o q⟩
 item:=by
  intro X hP hw hK hc i pins s σ H E I hf st hg
  subst hP hw hK
  obtain ⟨xs,ys,x,y,hx,hy,ex,ey⟩:=hg
  obtain ⟨its,rv,p,_⟩:=I.list hx
  obtain ⟨jts,rw',p',_⟩:=I.list hy
  obtain ⟨u,hu,ru⟩:=rv.get ex
  obtain ⟨v,hv,rv'⟩:=rw'.get ey
  obtain ⟨hz,hTI,⟨c,d,hTO⟩,h1,h2⟩:=st
  refine wpAny_pyNext_zip_item D hz hTI hTO h1 h2 p.isList p'.isList (x:=u) (y:=v) (by simpa using hu) (by simpa using hv) fun g1 z1 t1 a1 a2 nT hsz hk=>⟨_,rfl,?_⟩
  refine wpAny_letOwnedTupleGo_zip z1 fun g2 z2 sb=>?_
  have fr:H s.heap.objs.size=none:=I.hok.fresh (Nat.le_refl _)
  have lt:∀b∈[z,TI,TO,i1,i2],b < s.heap.objs.size:=fun b hb=>by
   obtain ⟨o1,e1,_⟩:=id h1
   obtain ⟨o2,e2,_⟩:=id h2
   simp only [mem_cons,List.not_mem_nil,or_false] at hb
   rcases hb with q | q | q | q | q <;> subst q
   ·exact Heap.lt_size hz
   ·exact Heap.lt_size hTI
   ·exact Heap.lt_size hTO
   ·exact Heap.lt_size e1
   ·exact Heap.lt_size e2
  refine ⟨.ref s.heap.objs.size,upd H s.heap.objs.size (.tup [x,y]),?_,rfl,⟨_,x,y,rfl,fr,rfl,fun l hl=>by rw [I.list_inj hl hx];exact ex,fun l hl=>by rw [I.list_inj hl hy];exact ey⟩,
   ⟨z2,(sb.2 TI D.TIz).trans (hk TI _ D.TIz D.TITO D.TIi1 D.TIi2 hTI),⟨u,v,(sb.2 TO D.TOz).trans t1⟩,a1.at fun o q=>(sb.2 i1 D.i1z).trans q,a2.at fun o q=>(sb.2 i2 D.i2z).trans q⟩,fun b hb=>?_⟩
  ·refine I.laidTurned (fp:=[z,TI,TO,i1,i2]) (t':=s.toks) (fun c o hc q=>?_) hf (Nat.le_refl _) ?_
   ·obtain ⟨n1,n2,n3,n4⟩:=O1 hc
    exact (sb.2 c n1).trans (hk c o n1 n2 n3 n4 q)
   ·exact ⟨by show 2<=sizeLine;decide,[u,v],.cons ru (.cons rv' .nil),⟨_,(sb.2 _ (Nat.ne_of_gt (lt z (by simp)))).trans nT,rfl,_,rfl⟩⟩
  ·rw [Ai (Nat.ne_of_lt (lt b hb))]
   exact (hf b hb).1
 done:=by
  intro X hP hw hK hc i pins s σ H E I hf st hg
  subst hP hw hK
  obtain ⟨xs,ys,hx,hy,en⟩:=hg
  obtain ⟨its,rv,p,_⟩:=I.list hx
  obtain ⟨jts,rw',p',_⟩:=I.list hy
  obtain ⟨hz,hTI,⟨c,d,hTO⟩,h1,h2⟩:=st
  have l1:=rv.length
  have l2:=rw'.length
  refine wpAny_pyNext_zip_end (I.ok.hd hc) D hz hTI hTO h1 h2 p.isList p'.isList ?_ fun h' hk=>⟨rfl,I.turnedAll (fp:=[z,TI,TO,i1,i2]) (t':=s.toks) (fun c o hc q=>?_) hf⟩
  ·rcases en with q | q
   ·exact .inl (by simp;omega)
   ·exact .inr (by simp;omega)
  ·obtain ⟨n1,n2,n3,n4⟩:=O1 hc
   exact hk c o n1 n2 n3 n4 q
 self:=fun _ _ _ _ _ st h=>wpAny_pyIter_zip st.1 h
section
variable {X:Cx}
def RW (K:PySem.W.Frag) (ta:TA):TI:=fun σ H R=>ta σ H fun vs H1=>∃a b,vs=[.ref a,.ref b]/\(∃xs,SqL K H1 a xs)/\(∃ys,SqL K H1 b ys)/\R (Itz K a b) H1
theorem Qq {l m:Expr} {ta:TA} {p pos pt:Pos} {es:List Expr} {k:Nat} (hg:Gl X "zip") (hm:X.mg "zip"=none) (ha:PA X [l,m] ta) (hs:starEach [l,m] X.env=[(false,eval l X.env),(false,eval m X.env)]:=by rfl) (hs2:starEach [m] X.env=[(false,eval m X.env)]:=by rfl) :
 PI X (.Tuple es k pt) (.Call (.Name "zip" p) [l,m] [] pos) (RW X.K ta):=by
 intro pins s σ H R I h
 refine Call_ (Cf I hg hm boot_zip (PyProof.Rows.callWith_type1 (thn (ha pos pins s σ H _ I h) fun us s1 ⟨vs,H1,I1,r1,q1⟩=>?_) (by rw [hs,hs2]) (by rw [hs2];rfl)))
 obtain ⟨a,b,e,⟨xs,hx⟩,⟨ys,hy⟩,q⟩:=q1
 subst e
 cases r1 with
 | cons r rr =>
   cases rr with
   | cons r' rr =>
     cases rr
     cases r
     cases r'
     obtain ⟨its,rv,p1,_⟩:=I1.list hx
     obtain ⟨jts,rw',p2,_⟩:=I1.list hy
     have lta:a < s1.heap.objs.size:=by obtain ⟨o,q,_⟩:=p1.isList;exact Heap.lt_size q
     have ltb:b < s1.heap.objs.size:=by obtain ⟨o,q,_⟩:=p2.isList;exact Heap.lt_size q
     refine call_zip_2 p1.isList p2.isList fun h' hz hTI hTO h1 h2 hsz hk=>?_
     refine wpAny_pyIter_zip (s:={ s1 with heap:=h' }) hz ?_
     have D:ZipApart (s1.heap.objs.size+4) (s1.heap.objs.size+2) (s1.heap.objs.size+3) s1.heap.objs.size (s1.heap.objs.size+1) a b:=ME lta ltb
     refine ⟨s1.heap.objs.size+4,[s1.heap.objs.size+4,s1.heap.objs.size+2,s1.heap.objs.size+3,s1.heap.objs.size,s1.heap.objs.size+1],_,_,H1,rfl,I1.kept (t':=s1.toks) hk,Ob a b _ _ _ _ _ D,⟨hz,hTI,⟨_,_,hTO⟩,h1,h2⟩,fun c hc=>?_,q⟩
     have ge:s1.heap.objs.size<=c:=by
      simp only [mem_cons,List.not_mem_nil,or_false] at hc
      rcases hc with q | q | q | q | q <;> rw [q] <;> first | exact Nat.le_refl _ | exact Nat.le_add_right _ _
     exact I1.fpOk ge (I1.hok.fresh ge)
end
section
variable {X:Cx}
end
theorem BK:∀ns ms:List Int,PyData.eqvAll (ns.map .int) (ms.map .int)=decide (ns=ms)
 | [],[]=>rfl
 | [],_ :: _=>rfl
 | _ :: _,[]=>rfl
 | n :: ns,m :: ms=>by
   show ((n == m) && PyData.eqvAll (ns.map .int) (ms.map .int))=_
   rw [BK ns ms]
   by_cases h:n=m
   ·by_cases k:ns=ms
    ·subst h;subst k;simp
    ·simp [h,k]
   ·simp [h]
theorem EV:∀ns:List Int,PyData.canLayAll0 (ns.map .int)=true/\PyData.depthAll (ns.map .int)<=0
 | []=>⟨rfl,Nat.le_refl _⟩
 | n :: ns=>by
   obtain ⟨h1,h2⟩:=EV ns
   refine ⟨?_,?_⟩
   ·show (true && PyData.canLayAll0 (ns.map .int))=true
    rw [h1];rfl
   ·show max 0 (PyData.depthAll (ns.map .int))<=0
    omega
theorem AR (ns:List Int):SeqAt.shaped (.tuple (ns.map .int))=true/\SeqAt.shaped (.list (ns.map .int))=true:=by
 obtain ⟨h1,h2⟩:=EV ns
 constructor
 ·unfold SeqAt.shaped
  rw [Bool.and_eq_true]
  refine ⟨h1,decide_eq_true ?_⟩
  show PyData.depthAll (ns.map .int)+1<=64
  omega
 ·unfold SeqAt.shaped
  rw [Bool.and_eq_true]
  refine ⟨h1,decide_eq_true ?_⟩
  show PyData.depthAll (ns.map .int)+1<=64
  omega
section
variable {X:Cx}
end
end L2
namespace L2
open PySem PySem.Spec PyProof.Rows
namespace CutT
open HT
section
variable {prog:Program} {w:World} {A:Around} {E:Value->Shared->Prop} {s:Shared}
end
end CutT
end L2
namespace L2
open PySem PySem.Spec PyProof.Rows
section
variable {prog:Program} {w:World} {A:Around} {E:Value->Shared->Prop} {s:Shared}
end
section
variable {M:Model} {A:Around} {E:Value->Shared->Prop} {s:Shared} {env:Env}
end
section
variable {X:Cx}
end
end L2
namespace L2
open PySem PySem.Spec PyProof.Rows
theorem map_erase {α β:Type} (f:α->β):∀(xs:List α) (j:Nat),(xs.map f).eraseIdx j=(xs.eraseIdx j).map f
 | [],_=>rfl
 | _ :: _,0=>rfl
 | x :: xs,j+1=>congrArg (f x :: ·) (map_erase f xs j)
section
variable {X:Cx}
def OO:V->List V->Hp->VK->Prop:=fun x vs H Q=>∃(l:Addr) (ns:List Int) (k:Int),x=.ref l/\vs=[.int k]/\H l=some (.lst (ns.map V.int))/\k∈ns/\Q .non (upd H l (.lst ((ns.eraseIdx (ns.idxOf k)).map V.int)))
theorem IB:MtM X "list.remove" OO:=by
 intro pins s σ H x vs v us Q I rx rv h
 obtain ⟨l,ns,k,rfl,rfl,hH,hk,q⟩:=h
 cases rx
 obtain ⟨u,rfl,ru⟩:=rv.one
 obtain ⟨t,rfl⟩:=ru
 obtain ⟨z,its,n,r,hl,e⟩:=I.lstM hH
 have hi:=BO r
 have hn:=hi.length
 have hj:ns.idxOf k < ns.length:=idxOf_lt_length_iff.mpr hk
 have ml:(ns.map V.int).length=ns.length:=length_map ..
 refine call_meets PySem.F.slot_list_remove ⟨_,e,rfl⟩ PySem.F.entry_list_remove (PySem.F.args_list_remove_2 _ _) (MeetsSeq.list_remove l its.toArray n (.int k t) (isInt k) (fun y hy=>eq_isInt k t hi y (by simpa using hy)) (ns.idxOf k) (by rw [size_toArray];omega) ?_ ?_ (by rw [size_toArray];omega)) ⟨e,?_⟩
 ·have:isInt k its[ns.idxOf k]=true:=by rw [isInt_at k hi _ (by omega) hj];simpa using getElem_idxOf hj
  exact this
 ·intro j hjs hlt
  have:isInt k its[j]=false:=by rw [isInt_at k hi j (by simpa using hjs) (by omega)];exact ne_of_lt_idxOf hlt _
  exact this
 ·rw [<- map_erase] at q
  refine ⟨.non,_,I.lset (its':=its.eraseIdx (ns.idxOf k)) hH e ?_ (r.eraseIdx (ns.idxOf k)) ?_,rfl,q⟩
  ·show its.toArray.eraseIdxIfInBounds (ns.idxOf k)=(its.eraseIdx (ns.idxOf k)).toArray
   rw [eraseIdxIfInBounds_toArray]
  ·have:=FM (ns.map V.int) (ns.idxOf k)
   omega
end
theorem JQ:∀{xs:List V} {us:List Value},xs.length=us.length->(∀(i:Nat) x u,xs[i]?=some x->us[i]?=some u->A8 x u)->A6 xs us
 | [],[],_,_=>.nil
 | [],_ :: _,h,_=>by cases h
 | _ :: _,[],h,_=>by cases h
 | x :: xs,u :: us,h,k=>.cons (k 0 x u rfl rfl) (JQ (Nat.succ.inj h) fun i y v h1 h2=>k (i+1) y v h1 h2)
section
variable {X:Cx} {e:Expr} {te:TE} {p p2 pos pos2:Pos}
def OK (te:TE):TE:=fun σ H Q=>te σ H fun x H1=>∃n:Nat,x=.int (n:Int)/\n < 1000/\∀l,H1 l=none->Q (.ref l) (upd H1 l (.lst ((List.range n).map fun i:Nat=>V.int (i:Int))))
theorem C7 (hc:X.calm=true) (hg:Gl X "list") (hm:X.mg "list"=none) (hg2:Gl X "range") (hm2:X.mg "range"=none) (he:PE X e te)
 (hs:starEach [e] X.env=[(false,eval e X.env)]:=by rfl)
 (hs2:starEach [(.Call (.Name "range" p2) [e] [] pos2:Expr)] X.env=[(false,eval (.Call (.Name "range" p2) [e] [] pos2) X.env)]:=by rfl) :
 PE X (.Call (.Name "list" p) [.Call (.Name "range" p2) [e] [] pos2] [] pos) (OK te):=by
 intro pins s σ H Q I h
 refine wpAny_Call_Name_kw (Cf I hg hm boot_list ?_ (by decide) (by decide))
 refine callWith_type1 ?_ hs2 rfl
 rw [hs2]
 refine Calls.spliced_cons ?_
 refine wpAny_Call_Name_kw (Cf I hg2 hm2 boot_range ?_ (by decide) (by decide))
 refine callWith_type1 ?_ hs rfl
 rw [hs]
 refine Calls.spliced_cons (thn (he pins s σ H _ I h) fun u s1 ⟨x,H1,I1,r1,n,hx,hn,q⟩=>?_)
 subst hx
 obtain ⟨t,rfl⟩:=r1
 refine Calls.spliced_nil ?_
 refine call_range_1 ?_
 refine Calls.spliced_nil ?_
 refine call_list_range (n:=n) (I1.ok.hd hc) (IsRange.new ..) (small_one (by omega) (by omega) (by omega) (by omega)) (by rw [rangeSize_one];split <;> omega) (by omega) fun h' tk acc c' kp eS it=>?_
 have kp':∀b o,s1.heap.get? b=some o->h'.get? b=some o:=fun b o e=>kp b o (Heap.get?_push_of_some _ e)
 have hp:s1.heap.objs.size<=(s1.heap.push { cls:=.type "range",data:=.fields #[.int 0 s1.toks,.int (n:Int) t,.int 1 (s1.toks+1)] }).objs.size:=by simp [Heap.push]
 have rv:A6 ((List.range n).map fun i:Nat=>V.int (i:Int)) acc.toList:=by
  refine JQ (by simp [it.1]) fun i x u hx hu=>?_
  rw [List.getElem?_map] at hx
  obtain ⟨t',e⟩:=it.2 i u (by simpa using hu)
  have hi:i < n:=by
   have:=(List.getElem?_eq_some_iff.mp hu).1
   rw [Array.length_toList,it.1] at this
   exact this
  rw [List.getElem?_range hi] at hx
  have hx':x=V.int (i:Int):=(Option.some.inj hx).symm
  subst hx'
  exact ⟨t',by rw [e];simp⟩
 have hz:((List.range n).map fun i:Nat=>V.int (i:Int)).length<=sizeLine:=by rw [length_map,length_range];exact Nat.le_of_lt (AW (by omega))
 exact ⟨.ref _,_,I1.laid (t':=tk) kp' hp (show Ba X.prog X.w _ h' _ (.lst ((List.range n).map fun i:Nat=>V.int (i:Int))) from ⟨hz,acc.toList,c',rv,by simpa using eS⟩),rfl,q _ (I1.hok.fresh hp)⟩
end
section
variable {prog:Program} {w:World} {A:Around} {E:Value->Shared->Prop} {s:Shared}
end
section
variable {X:Cx}
end
end L2
namespace L2
open PySem PySem.Spec PyProof.Rows
section
variable {P:Program} {w:World} {K:PySem.W.Frag} {mg:Str->Option Value} {base:Heap}
end
section
variable {X:Cx} {k:Nat} {f:Addr} {fd:FuncData} {ps:List Str} {sp:Sp} {x:Str} {p pos:Pos} {e:Expr} {es:List Expr} {t:TA}
end
section
variable {X:Cx}
end
end L2
namespace L2
open PySem PySem.Spec PyProof.Rows
section
variable {prog:Program} {w:World} {A:Around} {E:Value->Shared->Prop} {s:Shared}
end
section
variable {X:Cx} {pins:List (Addr × Obj)} {σ:St} {H:Hp}
end
end L2
namespace L2
open PySem PySem.Spec PyProof.Rows
section
variable {prog:Program} {w:World} {A:Around} {E:Value->Shared->Prop} {s:Shared}
end
section
variable {X:Cx}
end
end L2
namespace L2
open PySem PySem.Spec PyProof.Rows
structure P1 (K:PySem.W.Frag) (x qual:Str) (st:Stmt) (f:Addr) (fd:FuncData):Prop where
 ex:∃(oc:Value) (od:Option Addr) (dV kV doc pm:Value) (an:Option Addr) (cdv ct:Value) (osl:Array (Option Value)),
  fd=PySem.W.fnOf x qual (Am st) (Ak st) (Ac st) dV kV doc pm an cdv ct/\K.lookup f=some ⟨oc,od,.func fd,osl⟩/\PySem.W.codeIn K cdv qual=true
 kp:PySem.W.keepIn K (.ref f)=true
section
variable {P:Program} {w:World} {K:PySem.W.Frag} {mg:Str->Option Value} {base:Heap}
theorem P1.ok {x qual:Str} {st:Stmt} {f:Addr} {fd:FuncData} {N ps:List Str} {k:Nat} {sp:Sp} (F:P1 K x qual st f fd) (S:Ap N ps (Ac st)) (len:∀vs H Q E,sp vs H Q E->vs.length=ps.length)
 (hbody:∀(cdv:Value) (A:Around) (outer:List Env) (s:Shared) (H:Hp) (vs:List V) (Q:VK) (E:XK),CN k (A.deeper (envOfC qual (Ac st) s.heap.objs.size f cdv))->sp vs H Q E ->
  ∃t,PSs (Kh CX0 P w K mg base N qual (Ac st) f cdv A outer s H E).nox (Ak st) t/\t { nx:=fun _ H'=>Q .non H',rt:=Q } (start N vs) H):AN P w K mg base CX0 (k+1) f fd ps sp:=by
 obtain ⟨oc,od,dV,kV,doc,pm,an,cdv,ct,osl,rfl,lk,hcd⟩:=F.ex
 refine Nw lk hcd S len fun A outer s H vs Q E hr hsp=>?_
 obtain ⟨t,h,q⟩:=hbody cdv A outer s H vs Q E hr hsp
 exact ⟨t,h.nox,q⟩
theorem Pw {x qual:Str} {st:Stmt} {f:Addr} {oc:Value} {od an:Option Addr} {osl:Array (Option Value)} {dV kV doc pm cdv ct:Value} (l:K.lookup f=some ⟨oc,od,.func (PySem.W.fnOf x qual (Am st) (Ak st) (Ac st) dV kV doc pm an cdv ct),osl⟩)
 (c:PySem.W.codeIn K cdv qual=true) (k:PySem.W.keepIn K (.ref f)=true):P1 K x qual st f (PySem.W.fnOf x qual (Am st) (Ak st) (Ac st) dV kV doc pm an cdv ct):=⟨⟨oc,od,dV,kV,doc,pm,an,cdv,ct,osl,rfl,l,c⟩,k⟩
end
section
variable {X:Cx} {CX:CXT} {W:St->XK} {k:Nat} {f C:Addr} {fd:FuncData} {ps:List Str} {sp:Sp} {dvs:List V} {ds:List Value} {E:XK} {x m:Str} {p pos apos:Pos} {e o:Expr} {es:List Expr} {ta:TE} {t:TA}
end
end L2
namespace L2
open PySem PySem.Spec PyProof.Rows
def Cx.inCompC (X:Cx) (Nc:List Str) (sc:Scope) (x:Str) (cl:List (Str × Addr)) (s:Shared) (H:Hp) (ex:List Addr):Cx :=
 { X with N:=Nc,s₀:=s,H₀:=H,env:=compEnvC sc ((x,s.heap.objs.size+1) :: cl) s.heap.objs.size X.env,outer:=X.stack,stack:=X.stack,ex:=ex,fn:=fun y=>decide (y=x),pn:=[],xe:=fun _ _=>False }
structure Hc (N Nc:List Str) (x:Str) (sc fsc:Scope):Prop where
 kind:sc.kind=.function
 one:(sc.names.filter fun y=>y.2 == .cell)=[(x,.cell)]
 nm:∀y∈sc.names,y.2=.local->sc.names.lookup y.1=some .local
 own:sc.names.lookup x=some .cell
 fr:∀y∈sc.names,y.2=.free->fsc.names.lookup y.1=some .cell\/fsc.names.lookup y.1=some .free
 len:Nc.length=N.length+1
 nd:Nc.Nodup
 last:Nc[N.length]?=some x
 slot:((List.range N.length).all fun i=>match Nc[i]? with
  | some y=>(match sc.names.lookup y with | some .free=>N[i]? == some y | some .local=>false | some .cell=>false | _=>true)
  | none=>true)=true
theorem Hc.at {N Nc:List Str} {x:Str} {sc fsc:Scope} (C:Hc N Nc x sc fsc) {i:Nat} {y:Str} (hi:i < N.length) (h:Nc[i]?=some y):sc.names.lookup y≠some .local/\sc.names.lookup y≠some .cell/\(sc.names.lookup y=some .free->N[i]?=some y):=by
 have q:=all_eq_true.mp C.slot i (mem_range.mpr hi)
 rw [h] at q
 dsimp only at q
 cases e:sc.names.lookup y with
 | none=>exact ⟨fun z=>(nomatch z),fun z=>(nomatch z),fun z=>(nomatch z)⟩
 | some k =>
   rw [e] at q
   cases k with
   | «local»=>exact absurd (show false=true from q) Bool.false_ne_true
   | cell=>exact absurd (show false=true from q) Bool.false_ne_true
   | free=>exact ⟨fun z=>(nomatch z),fun z=>(nomatch z),fun _=>by simpa using q⟩
   | _=>exact ⟨fun z=>(nomatch z),fun z=>(nomatch z),fun z=>(nomatch z)⟩
theorem CK:∀(names:List (Str × NameKind)) (n:Nat) (acc:List (Str × Addr)),cellsFrom n names acc=cellsFrom n (names.filter fun y=>y.2 == .cell) acc
 | [],_,_=>rfl
 | (y,k) :: r,n,acc=>by
   rw [filter_cons]
   cases e:k == NameKind.cell with
   | true=>simp only [if_true,cellsFrom,e];exact CK r _ _
   | false=>simp only [Bool.false_eq_true,if_false,cellsFrom,e];exact CK r _ _
theorem C9:∀(names:List (Str × NameKind)) (h:Heap),pushCells h names=pushCells h (names.filter fun y=>y.2 == .cell)
 | [],_=>rfl
 | (y,k) :: r,h=>by
   rw [filter_cons]
   cases e:k == NameKind.cell with
   | true=>simp only [if_true,pushCells,e];exact C9 r _
   | false=>simp only [Bool.false_eq_true,if_false,pushCells,e];exact C9 r _
theorem HH {M:Model} {A:Around} {E:Value->Shared->Prop} {s:Shared} {scope:Scope} {globals:Addr} {closure:List (Str × Addr)} {qual:Str} {outer:Env} {x:Str} {Q:Env->Shared->Prop}
 (one:(scope.names.filter fun y=>y.2 == .cell)=[(x,.cell)])
 (hQ:Q (newEnv scope s.heap.objs.size globals ((x,s.heap.objs.size+1) :: closure) qual none .none (some outer) builtinsNs) { s with heap:=(s.heap.push { cls:=.type "dict",data:=.dict #[] }).push { cls:=.type "cell",data:=.cell none } }) :
 wpAny M A (newFunctionEnv scope globals closure [] qual none .none (some outer)) Q E s:=by
 simp only [newFunctionEnv,Option.isSome_some,if_true]
 refine wpAny_bind (wpAny_alloc ?_)
 refine wpAny_bind (wpAny_layCells _ (fun name kind cells=>by cases hkc:kind == NameKind.cell <;> simp [hkc]) _ _ _ _ ?_)
 rw [CK,C9,one]
 rw [show ({ s with heap:=s.heap.push { cls:=.type "dict",data:=.dict #[] } }:Shared).heap.objs.size=s.heap.objs.size+1 from Heap.size_push ..]
 rw [forIn_nil]
 exact wpAny_bind (wpAny_pure (wpAny_pure hQ))
section
variable {X:Cx} {elt iter:Expr} {x:Str} {px pos:Pos} {ifs:List Expr} {sc fsc:Scope} {N Nc:List Str} {wi:TI} {tt:TT} {te:TE}
theorem La (hE:X.env.scope=fsc) (hXN:X.N=N) (cn:Hc N Nc x sc fsc) (hc:X.calm=true)
 (ht:∀cl s H ex,Gk (X.inCompC Nc sc x cl s H ex) ifs tt) (he:∀cl s H ex,PE (X.inCompC Nc sc x cl s H ex) elt te)
 {cl:List (Str × Addr)} (clS:∀y c,cl.lookup y=some c->X.env.cells.lookup y=some c) (clH:∀y∈sc.names,y.2=.free->∃c,cl.lookup y.1=some c)
 {pins:List (Addr × Obj)} {σ:St} {H2:Hp} {s2:Shared} {it:Addr} {fp:List Addr} {tn:Nat->Heap->Prop} {J:It} {Q:VK} {E:Value->Shared->Prop}
 (I2:Inv X pins σ H2 s2) (T:IM X.prog X.w X.K (.Name x px) J fp it tn) (st2:tn 0 s2.heap) (f2:∀b∈fp,Fs X pins H2 b)
 (h2:∀D,H2 D=none->∃W:Nat->Nat->List V->Hp->Prop,(∃m,W 0 m [] (upd H2 D (.lst [])))/\∀i m ys H2,W i m ys H2 ->
  H2 D=some (.lst ys)/\((J.stop i H2/\Q (.ref D) H2)\/(J.go i H2/\ys.length < sizeLine/\∀x H3,J.yld i H2 x H3->tt (σ++[some x]) H3 fun b H4=>if b=true then te (σ++[some x]) H4 fun y H5=>H5 D=some (.lst ys)/\∃m',m' < m/\W (i+1) m' (ys++[y]) (upd H5 D (.lst (ys++[y])))
   else ∃m',m' < m/\W (i+1) m' ys H4))) :
 wpAny (model X.prog X.w) X.A (newList []) (fun acc s₃=>wpAny (model X.prog X.w) X.A (newFunctionEnv sc X.env.globals cl [] X.env.qual none .none (some X.env)) (fun cenv s₄ =>
  codeAny (model X.prog X.w) X.A (.compStart (.ListComp elt [⟨.Name x px,iter,ifs,0⟩] sc pos) 0 (.ref it) acc { cenv with scope:=relabel sc X.env })
   (fun r s'=>r=.ok .next/\∃D H',acc=.ref D/\Inv X pins σ H' s'/\Q (.ref D) H'/\DA X pins H' cenv.locals/\∃m,s'.heap.Ns cenv.locals m) s₄) E s₃) E s2:=by
 refine wpAny_newObj_type (HH cn.one ?_)
 dsimp only
 have hD:H2 s2.heap.objs.size=none:=I2.hok.fresh (Nat.le_refl _)
 obtain ⟨W,⟨m0,w0⟩,turn⟩:=h2 s2.heap.objs.size hD
 have I3:Inv X pins σ (upd H2 s2.heap.objs.size (.lst [])) { s2 with heap:=s2.heap.push { cls:=.type "list",dict:=none,data:=.seq ([]:List Value).toArray } } :=
  I2.laid (t':=s2.toks) (fun b u e=>Heap.get?_push_of_some _ e) (Nat.le_refl _) ⟨Nat.zero_le _,[],0,.nil,Heap.get?_push_size _ rfl⟩
 generalize hs3:({ s2 with heap:=s2.heap.push { cls:=.type "list",dict:=none,data:=.seq ([]:List Value).toArray } }:Shared)=s3 at I3
 have eh:s3.heap=s2.heap.push { cls:=.type "list",dict:=none,data:=.seq ([]:List Value).toArray }:=by rw [<- hs3]
 generalize hH3:upd H2 s2.heap.objs.size (.lst [])=H3 at I3 w0
 rw [<- eh]
 have hns₁:((s3.heap.push { cls:=.type "dict",data:=.dict #[] }).push { cls:=.type "cell",data:=.cell none }).Ns s3.heap.objs.size (fun _=>none):=(Heap.Ns.new s3.heap (.type "dict")).keeps fun b o e=>Heap.get?_push_of_some _ e
 have hcell₁:((s3.heap.push { cls:=.type "dict",data:=.dict #[] }).push { cls:=.type "cell",data:=.cell none }).IsCell (s3.heap.objs.size+1) none:=by
  refine ⟨{ cls:=.type "cell",data:=.cell none },?_,rfl⟩
  have:=Heap.get?_push_size (s3.heap.push { cls:=.type "dict",data:=.dict #[] }) (o:={ cls:=.type "cell",data:=.cell none }) rfl
  rw [Heap.size_push] at this
  exact this
 have old:∀b o,s3.heap.get? b=some o->((s3.heap.push { cls:=.type "dict",data:=.dict #[] }).push { cls:=.type "cell",data:=.cell none }).get? b=some o:=fun b o e=>Heap.get?_push_of_some _ (Heap.get?_push_of_some _ e)
 have e2:({ s2 with heap:=(s3.heap.push { cls:=.type "dict",data:=.dict #[] }).push { cls:=.type "cell",data:=.cell none } }:Shared)={ s3 with heap:=(s3.heap.push { cls:=.type "dict",data:=.dict #[] }).push { cls:=.type "cell",data:=.cell none },toks:=s3.toks }:=by rw [<- hs3]
 rw [e2]
 generalize (s3.heap.push { cls:=.type "dict",data:=.dict #[] }).push { cls:=.type "cell",data:=.cell none }=h₁ at hns₁ hcell₁ old ⊢
 have below2:∀b,b∈fp->b < s3.heap.objs.size:=fun b hb=>by
  obtain ⟨o,e,_⟩:=T.obj _ _ st2 b hb
  have:s2.heap.objs.size<=s3.heap.objs.size:=by rw [eh,Heap.size_push];exact Nat.le_succ _
  exact Nat.lt_of_lt_of_le (Heap.lt_size e) this
 have old2:∀b o,s2.heap.get? b=some o->s3.heap.get? b=some o:=fun b o e=>by rw [eh];exact Heap.get?_push_of_some _ e
 have hsz3:s2.heap.objs.size < s3.heap.objs.size:=by rw [eh,Heap.size_push];exact Nat.lt_succ_self _
 have fpFree:∀b∈fp,H3 b=none:=fun b hb=>by
  rw [<- hH3,Ai (fun z=>?_)]
  ·exact (f2 b hb).1
  ·obtain ⟨o,e,_⟩:=T.obj _ _ st2 b hb
   have:=Heap.lt_size e
   rw [z] at this
   exact Nat.lt_irrefl _ this
 have rl:∀y,(relabel sc X.env).names.lookup y=(sc.names.lookup y).map fun k=>if (k == NameKind.free && X.env.scope.kind == .function && X.env.kindOf y == some .cell) then NameKind.cell else k:=fun y=>BV X.env sc.names y
 have freeOf:∀y,sc.names.lookup y=some .free->∃c,cl.lookup y=some c:=fun y e=>clH (y,.free) (PySem.mem_of_lookup e) rfl
 have onlyX:∀y,sc.names.lookup y=some .cell->y=x:=fun y e=>by
  have m:(y,NameKind.cell)∈sc.names.filter fun y=>y.2 == .cell:=mem_filter.mpr ⟨PySem.mem_of_lookup e,rfl⟩
  rw [cn.one] at m
  exact (Prod.mk.inj (mem_singleton.mp m)).1
 have clD:∀y c,((x,s3.heap.objs.size+1) :: cl).lookup y=some c->(y=x/\c=s3.heap.objs.size+1)\/(y≠x/\cl.lookup y=some c):=fun y c e=>by
  rw [lookup_cons] at e
  cases hb:y == x with
  | true=>rw [hb] at e;exact .inl ⟨by simpa using hb,(Option.some.inj e).symm⟩
  | false=>rw [hb] at e;exact .inr ⟨by simpa using hb,e⟩
 have clN:∀y c,y≠x->cl.lookup y=some c->((x,s3.heap.objs.size+1) :: cl).lookup y=some c:=fun y c n e=>by
  rw [lookup_cons,show (y == x)=false by simpa using n]
  exact e
 have clX:((x,s3.heap.objs.size+1) :: cl).lookup x=some (s3.heap.objs.size+1):=by rw [lookup_cons,show (x == x)=true by simp]
 have isFree:∀y,((relabel sc X.env).names.lookup y=some .cell\/(relabel sc X.env).names.lookup y=some .free)->(sc.names.lookup y=some .free\/y=x):=fun y h=>by
  rw [rl y] at h
  cases e:sc.names.lookup y with
  | none=>rw [e] at h;rcases h with z | z <;> exact absurd z (by simp)
  | some k =>
    rw [e] at h
    cases k with
    | free=>exact .inl rfl
    | cell=>exact .inr (onlyX y e)
    | «local»=>rcases h with z | z <;> exact absurd z (by simp)
    | _=>rcases h with z | z <;> exact absurd z (by simp)
 have ownC:(relabel sc X.env).names.lookup x=some .cell:=by rw [rl x,cn.own];rfl
 have exOk:∀b∈fp,b≠s3.heap.objs.size/\(∀y c,X.env.cells.lookup y=some c->c≠b)/\b ∉ frs X.stack:=fun b hb=>by
  obtain ⟨g0,g1,g2,g3,g4,g5⟩:=f2 b hb
  refine ⟨Nat.ne_of_lt (below2 b hb),g4,fun z=>?_⟩
  rcases mem_cons.mp (I2.stkSub b z) with z | z
  ·exact g1 z
  ·exact g2 z
 have hCnew:X.s₀.heap.objs.size<=s3.heap.objs.size:=I3.sz
 have hCcell:∀y c,X.env.cells.lookup y=some c->c≠s3.heap.objs.size:=fun y c e z=>by
  obtain ⟨v,q⟩:=I3.cell y c e
  have:=q.lt
  rw [z] at this
  exact Nat.lt_irrefl _ this
 have hCpin:∀p∈X.pn++pins,p.1≠s3.heap.objs.size:=fun p hp z=>by
  have:=Heap.lt_size (I3.pin p hp).1
  rw [z] at this
  exact Nat.lt_irrefl _ this
 have ltC:∀y c,X.env.cells.lookup y=some c->c < s3.heap.objs.size:=fun y c e=>by
  obtain ⟨v,q⟩:=I3.cell y c e
  exact q.lt
 have injC:∀y z c,((x,s3.heap.objs.size+1) :: cl).lookup y=some c->((x,s3.heap.objs.size+1) :: cl).lookup z=some c->y=z:=fun y z c h1 h2=>by
  rcases clD y c h1 with ⟨e1,e2⟩ | ⟨_,e2⟩ <;> rcases clD z c h2 with ⟨f1,f2'⟩ | ⟨_,f2'⟩
  ·rw [e1,f1]
  ·exact absurd (ltC z c (clS z c f2')) (by rw [e2];exact Nat.not_lt.mpr (Nat.le_succ _))
  ·exact absurd (ltC y c (clS y c e2)) (by rw [f2'];exact Nat.not_lt.mpr (Nat.le_succ _))
  ·exact I3.ok.inj y z c (clS y c e2) (clS z c f2')
 have hasC:∀y,((relabel sc X.env).names.lookup y=some .cell\/(relabel sc X.env).names.lookup y=some .free)->∃c,((x,s3.heap.objs.size+1) :: cl).lookup y=some c:=fun y hy=>by
  by_cases e:y=x
  ·exact ⟨_,by rw [e];exact clX⟩
  ·rcases isFree y hy with f | f
   ·obtain ⟨c,hc⟩:=freeOf y f
    exact ⟨c,clN y c e hc⟩
   ·exact absurd f e
 have exC:∀b∈fp,∀y c,((x,s3.heap.objs.size+1) :: cl).lookup y=some c->c≠b:=fun b hb y c h=>by
  rcases clD y c h with ⟨_,e2⟩ | ⟨_,e2⟩
  ·exact fun z=>absurd (below2 b hb) (by rw [<- z,e2];exact Nat.not_lt.mpr (Nat.le_succ _))
  ·exact (exOk b hb).2.1 y c (clS y c e2)
 have okc:(X.inCompC Nc sc x cl s3 H3 fp).Ok:=by
  refine ⟨I3.ok.mod,cn.kind,I3.ok.glob,I3.ok.blt,Nat.le_refl _,injC,hasC,fun y c hf e=>?_,I3.ok.hd,I3.ok.frames,.inl rfl,
   fun b hb=>⟨(exOk b hb).1,exC b hb⟩,fun b o e=>I3.bs b o e,Nat.le_trans I3.ok.bsz I3.sz,fun b o e hb=>?_,fun b hb=>(exOk b hb).2.2,I3.stack,I3.stkFree⟩
  ·have ey:y=x:=of_decide_eq_true hf
   rcases clD y c e with ⟨_,e2⟩ | ⟨n,_⟩
   ·show s3.heap.objs.size<=c
    omega
   ·exact absurd ey n
  obtain ⟨g0,g1,g2,g3,g4,g5⟩:=f2 b hb
  rcases g3 with z | z
  ·exact I3.ok.noex b o e z
  ·exact absurd (Heap.lt_size (I3.ok.bs b o e).1) (Nat.not_lt.mpr z)
 have hlen:σ.length=N.length:=by rw [I3.len,hXN]
 have Ic:Inv (X.inCompC Nc sc x cl s3 H3 fp) [] (σ++[none]) H3 { s3 with heap:=h₁,toks:=s3.toks }:=by
  refine ⟨okc,rfl,I3.bare,Un.kept old,⟨_,hns₁,fun i y v h1 h2 h3=>?_⟩,fun y c e=>?_,I3.hok.fresh (Nat.le_refl _),fun y c e=>?_,fun p hp=>absurd (show p∈([]:List (Addr × Obj)) from hp) (by simp),I3.hok.kept old,?_⟩
  ·have hi:i < σ.length:=by
    by_cases hi:i < σ.length
    ·exact hi
    ·rw [List.getElem?_append_right (Nat.not_lt.mp hi)] at h2
     cases e:i - σ.length with
     | zero=>rw [e] at h2;cases h2
     | succ k=>rw [e] at h2;simp at h2
   rw [List.getElem?_append_left hi] at h2
   have hi':i < N.length:=by rw [<- hlen];exact hi
   obtain ⟨n1,n2,n3⟩:=cn.at hi' h1
   have hf:sc.names.lookup y=some .free:=by
    rcases h3 with z | z
    ·exfalso
     have z':(relabel sc X.env).names.lookup y=some .local:=z
     rw [rl y] at z'
     cases e:sc.names.lookup y with
     | none=>rw [e] at z';simp at z'
     | some k =>
       rw [e] at z'
       cases k with
       | «local»=>exact n1 e
       | cell=>exact n2 e
       | free =>
         simp only [Option.map_some,Option.some.injEq] at z'
         split at z' <;> cases z'
       | _=>simp at z'
    ·rcases isFree y z with f | f
     ·exact f
     ·exact absurd (by rw [f];exact cn.own) n2
   have hN:X.N[i]?=some y:=by rw [hXN];exact n3 hf
   obtain ⟨m,hn,hl⟩:=I3.loc
   have hv:fsc.names.lookup y=some .cell\/fsc.names.lookup y=some .free:=cn.fr (y,.free) (PySem.mem_of_lookup hf) rfl
   have hv':X.env.scope.names.lookup y=some .cell\/X.env.scope.names.lookup y=some .free:=by rw [hE];exact hv
   obtain ⟨u,ru,lk⟩:=hl i y v hN h2 (.inr hv')
   refine ⟨u,ru,.inr ⟨?_,?_⟩⟩
   ·show (relabel sc X.env).names.lookup y=some .cell\/(relabel sc X.env).names.lookup y=some .free
    rw [rl y,hf]
    simp only [Option.map_some,Option.some.injEq]
    split
    ·exact .inl rfl
    ·exact .inr rfl
   ·rcases lk with ⟨kl,_⟩ | ⟨_,c,hc,hcell⟩
    ·exfalso
     have kl':X.env.scope.names.lookup y=some .local:=kl
     rw [kl'] at hv'
     rcases hv' with z | z <;> cases z
    ·obtain ⟨d,hd⟩:=freeOf y hf
     have ed:=clS y d hd
     rw [hc] at ed
     cases ed
     exact ⟨c,clN y c (fun z=>n2 (by rw [z];exact cn.own)) hd,hcell.keeps old⟩
  ·rcases clD y c e with ⟨_,e2⟩ | ⟨_,e2⟩
   ·exact ⟨none,by rw [e2];exact hcell₁⟩
   ·obtain ⟨v,q⟩:=I3.cell y c (clS y c e2)
    exact ⟨v,q.keeps old⟩
  ·rcases clD y c e with ⟨_,e2⟩ | ⟨_,e2⟩
   ·exact I3.hok.fresh (by omega)
   ·exact I3.freeC y c (clS y c e2)
  ·show (σ++[none]).length=Nc.length
   rw [length_append,hlen,cn.len]
   rfl
 have stc:tn 0 ({ s3 with heap:=h₁,toks:=s3.toks }:Shared).heap:=T.keep _ _ _ st2 fun b _ o e=>old b o (old2 b o e)
 have hDf:s2.heap.objs.size ∉ fp:=fun hm=>by
  obtain ⟨o,e,_⟩:=T.obj _ _ st2 _ hm
  exact Nat.lt_irrefl _ (Heap.lt_size e)
 have fpc:∀{pins':List (Addr × Obj)} {H':Hp},pins'=[]->(∀b∈fp,H' b=none)->∀b∈fp,Fs (X.inCompC Nc sc x cl s3 H3 fp) pins' H' b:=fun {pins' H'} hp hn b hb=>by
  subst hp
  exact ⟨hn b hb,(exOk b hb).1,(exOk b hb).2.2,.inl hb,exC b hb,fun p hp=>absurd (show p∈([]:List (Addr × Obj)) from hp) (by simp)⟩
 have hg:PG (X.inCompC Nc sc x cl s3 H3 fp) (.Name x px) (Et σ.length):=AA (X:=X.inCompC Nc sc x cl s3 H3 fp) cn.nd (by show Nc[σ.length]?=some x;rw [hlen];exact cn.last) (.inr ownC) (.inl (decide_eq_true rfl))
 have loop:∀s₄:Shared,s₄={ s3 with heap:=h₁,toks:=s3.toks } ->
  codeAny (model X.prog X.w) X.A (.compLoop (.ListComp elt [⟨.Name x px,iter,ifs,0⟩] sc pos) 0 (.ref it) (.ref s2.heap.objs.size) (compEnvC sc ((x,s3.heap.objs.size+1) :: cl) s3.heap.objs.size X.env))
   (fun r s'=>r=.ok .next/\∃D H',(Value.ref s2.heap.objs.size)=.ref D/\Inv X pins σ H' s'/\Q (.ref D) H'/\DA X pins H' s3.heap.objs.size/\∃m,s'.heap.Ns s3.heap.objs.size m) s₄:=by
  rintro s₄ rfl
  refine codeAny_compLoop_tests (fun n s'=>∃(i:Nat) (o:Option V) (H':Hp) (ys:List V),Inv (X.inCompC Nc sc x cl s3 H3 fp) [] (σ++[o]) H' s'/\tn i s'.heap/\(∀b∈fp,H' b=none)/\W i n ys H') ?_ m0 ⟨0,none,H3,[],Ic,stc,fpFree,w0⟩
  rintro n s' ⟨i,o,H',ys,I',st',fr',w'⟩
  obtain ⟨hDl,tw⟩:=turn i n ys H' w'
  rcases tw with ⟨stop,q⟩ | ⟨go,hz,step⟩
  ·
   refine thn (T.done (X.inCompC Nc sc x cl s3 H3 fp) rfl rfl rfl hc i [] s' _ H' _ I' (fpc rfl fr') st' stop) fun r s5 ⟨hr,I5⟩=>?_
   subst hr
   have Ix:Inv X pins σ H' s5:=I3.call' (ch:=fp) I5.os I5.base I5.hok I5.bare fun b hb=>by
    obtain ⟨g0,g1,g2,g3,g4,g5⟩:=f2 b hb
    exact ⟨g3,g1,g4,g5⟩
   have hCf:H' s3.heap.objs.size=none:=I5.free
   obtain ⟨m,hn,_⟩:=I5.loc
   exact ⟨rfl,s2.heap.objs.size,H',rfl,Ix,q,⟨hCf,fun z=>Nat.lt_irrefl _ (by have:=I3.lt;rw [<- z] at this;exact this),hCnew,hCcell,hCpin⟩,m,hn⟩
  ·
   refine thn (T.item (X.inCompC Nc sc x cl s3 H3 fp) rfl rfl rfl hc i [] s' _ H' _ I' (fpc rfl fr') st' go) fun r s5 ⟨u,hr,h4⟩=>?_
   subst hr
   dsimp only
   have e0:letOwnedTupleGo (.Name x px) (.ref it) u=pure ():=rfl
   have e1:(letOwnedTupleGo (.Name x px) (.ref it) u >>= fun _=>assign (.Name x px) (compEnvC sc ((x,s3.heap.objs.size+1) :: cl) s3.heap.objs.size X.env) u)=assign (.Name x px) (compEnvC sc ((x,s3.heap.objs.size+1) :: cl) s3.heap.objs.size X.env) u:=by rw [e0,pure_bind]
   rw [<- e1]
   refine wpAny_bind (thn h4 fun _ s6 ⟨xv,H5,I5,r5,y5,st5,fr5⟩=>?_)
   have I5':=I5.pinned (fpc rfl fr5) (T.obj _ _ st5)
   have again:∀{H7:Hp} {s7:Shared} {m':Nat} {ys':List V},Inv (X.inCompC Nc sc x cl s3 H3 fp) ([]++EH fp s6.heap) (σ++[some xv]) H7 s7->m' < n->W (i+1) m' ys' H7 ->
    ∃m,m < n/\∃(i:Nat) (o:Option V) (H':Hp) (ys:List V),Inv (X.inCompC Nc sc x cl s3 H3 fp) [] (σ++[o]) H' s7/\tn i s7.heap/\(∀b∈fp,H' b=none)/\W i m ys H':=fun {H7 s7 m' ys'} I7 hm w7=>by
    refine ⟨m',hm,i+1,some xv,H7,ys',I7.unpinned,T.keep _ _ _ st5 fun b hb o e=>(I7.pin (b,o) (mem_append_right _ (mem_append_right _ (BP hb e)))).1,fun b hb=>?_,w7⟩
    obtain ⟨o',e,d⟩:=T.obj _ _ st5 b hb
    exact (I7.pin (b,o') (mem_append_right _ (mem_append_right _ (BP hb e)))).2.1
   refine DQ (hg _ s6 _ H5 xv u (fun σ' H''=>σ'=σ++[some xv]/\H''=H5) I5' r5 ⟨Kz,rfl⟩) fun _ s7 ⟨σ7,H7,I7,e7,e7'⟩=>?_
   subst e7
   subst e7'
   refine DQ (ht cl s3 H3 fp _ s7 _ _ _ I7 (step xv _ y5)) fun b s8 ⟨H8,I8,q8⟩=>?_
   cases b with
   | false =>
     rw [if_neg Bool.false_ne_true] at q8 ⊢
     obtain ⟨m',hm,w8⟩:=q8
     exact again I8 hm w8
   | true =>
     rw [if_pos rfl] at q8 ⊢
     refine DQ (he cl s3 H3 fp _ s8 _ H8 _ I8 q8) fun y s9 ⟨yv,H9,I9,r9,hD9,m',hm,w9⟩=>?_
     refine DQ (BG _ s9 _ H9 (.ref s2.heap.objs.size) [yv] (.ref s2.heap.objs.size) [y] (fun v H=>v=.non/\H=upd H9 s2.heap.objs.size (.lst (ys++[yv]))) I9 rfl (.cons r9 .nil) ⟨_,ys,yv,rfl,rfl,hD9,hz,rfl,rfl⟩) fun _ s10 ⟨v10,H10,I10,r10,e10,e11⟩=>?_
     subst e11
     exact again I10 hm w9
 exact codeAny_compStart_list (loop _ rfl) (T.self _ 0 _ _ _ stc (loop _ rfl))
theorem Mi (I:∀y,(X.env.kindOf y=some .cell\/X.env.kindOf y=some .free)->∃c,X.env.cells.lookup y=some c) (hE:X.env.scope=fsc) (cn:Hc N Nc x sc fsc):∀y∈sc.names,y.2=.free->∃c,X.env.cells.lookup y.1=some c:=fun y hy hf=>by
 refine I y.1 ?_
 show X.env.scope.names.lookup y.1=some .cell\/X.env.scope.names.lookup y.1=some .free
 rw [hE]
 exact cn.fr y hy hf
theorem GB (hE:X.env.scope=fsc) (hXN:X.N=N) (cn:Hc N Nc x sc fsc) (hc:X.calm=true) (hi:PI X (.Name x px) iter wi)
 (ht:∀cl s H ex,Gk (X.inCompC Nc sc x cl s H ex) ifs tt) (he:∀cl s H ex,PE (X.inCompC Nc sc x cl s H ex) elt te)
 (hs:∀v,foldedSetIterable iter X.env v=pure v:=by intro _;rfl):PE X (.ListComp elt [⟨.Name x px,iter,ifs,0⟩] sc pos) (Ki wi tt te):=by
 intro pins s σ H Q I h
 obtain ⟨cl,hcl,clS,clH⟩:=Dh (env:=X.env) (sc:=sc) (Mi I.ok.has hE cn)
 rw [eval_ListComp]
 refine wpAny_comprehension_free (use:=none) rfl hs hcl cn.kind cn.nm (thn (hi pins s σ H _ I h) fun v s1 h1=>thn h1 fun itv s2 h2=>?_)
 obtain ⟨it,fp,tn,J,H2,rfl,I2,T,st2,f2,h2⟩:=h2
 refine thn (La (pos:=pos) (iter:=iter) hE hXN cn hc ht he clS clH I2 T st2 f2 h2) fun acc s3 h3=>thn h3 fun cenv s4 h4=>codeAny_mono h4 fun r s' h5=>?_
 obtain ⟨rfl,D,H',rfl,I',q,cloc,m,hn⟩:=h5
 exact ⟨m,hn,fun h' k=>⟨.ref D,H',I'.sameBut cloc k,rfl,q⟩⟩
end
def JW (sc fsc:Scope):Scope:={ sc with names:=sc.names.map fun (n,k)=>if (k == .free && fsc.kind == .function && fsc.names.lookup n == some .cell) then (n,.cell) else (n,k) }
theorem JL {X:Cx} {sc fsc:Scope} (h:X.env.scope=fsc):relabel sc X.env=JW sc fsc:=by
 subst h
 rfl
section
variable {X:Cx} {elt iter:Expr} {x y:Str} {py pos:Pos} {ifs:List Expr} {sc sc2 fsc:Scope} {Nc Nd:List Str} {wi:TI} {tt:TT} {te:TE} {cl:List (Str × Addr)} {s:Shared} {H:Hp} {ex:List Addr}
theorem FN (hE:X.env.scope=fsc) (cn:Ee Nc Nd y sc2 (JW sc fsc)) (hc:X.calm=true) (hi:PI (X.inCompC Nc sc x cl s H ex) (.Name y py) iter wi)
 (ht:∀cl' s' H' ex',Gk ((X.inCompC Nc sc x cl s H ex).inComp Nd sc2 cl' s' H' ex') ifs tt) (he:∀cl' s' H' ex',PE ((X.inCompC Nc sc x cl s H ex).inComp Nd sc2 cl' s' H' ex') elt te)
 (hs:∀v,foldedSetIterable iter (X.inCompC Nc sc x cl s H ex).env v=pure v:=by intro _;rfl):PE (X.inCompC Nc sc x cl s H ex) (.ListComp elt [⟨.Name y py,iter,ifs,0⟩] sc2 pos) (Ki wi tt te) :=
 Bb (X:=X.inCompC Nc sc x cl s H ex) (fsc:=JW sc fsc) (N:=Nc) (JL hE) rfl cn hc hi ht he hs
theorem Hn (hE:X.env.scope=fsc) (cn:Ee Nc Nd y sc2 (JW sc fsc)) (hc:X.calm=true) (hi:PI (X.inComp Nc sc cl s H ex) (.Name y py) iter wi)
 (ht:∀cl' s' H' ex',Gk ((X.inComp Nc sc cl s H ex).inComp Nd sc2 cl' s' H' ex') ifs tt) (he:∀cl' s' H' ex',PE ((X.inComp Nc sc cl s H ex).inComp Nd sc2 cl' s' H' ex') elt te)
 (hs:∀v,foldedSetIterable iter (X.inComp Nc sc cl s H ex).env v=pure v:=by intro _;rfl):PE (X.inComp Nc sc cl s H ex) (.ListComp elt [⟨.Name y py,iter,ifs,0⟩] sc2 pos) (Ki wi tt te) :=
 Bb (X:=X.inComp Nc sc cl s H ex) (fsc:=JW sc fsc) (N:=Nc) (JL hE) rfl cn hc hi ht he hs
end
theorem Jv {X:Cx} {tg e:Expr} {te:TE} (K:PySem.W.Frag) (he:PE X e te) (h:X.K=K:=by rfl):PI X tg e (Qe K te):=by
 subst h
 exact A5 he
end L2
namespace L2
open PySem PySem.W PySem.Spec PyProof.Rows
def GG (c:Addr) (q:Str):HO:=.ext fun h=>h.CodeRec (.ref c) q
structure GH (base:Heap) (mg:Str->Option Value) (c P:Addr):Prop where
 hd:CodeHd base c P
 bm:∃bm ob,mg "__builtins__"=some (.ref bm)/\bm≠builtinsNs/\base.get? bm=some ob/\ob.cls=.type "module"/\ob.dict=some builtinsNs/\ob.data=.plain
 out:base.get? P=none
def E3 (P:Addr) (pos:Pos) (q:Str) (H:Hp):Prop:=∃c,H P=some (.tbl #[rawInt pos.line,rawInt pos.col,.ref c])/\H c=some (GG c q)
def GD (P:Addr) (pos:Pos) (q:Str) (H:Hp):Prop:=H P=some (.tbl #[])\/E3 P pos q H
def SmL (P:Addr) (H H':Hp):Prop:=∀b u,b≠P->H b=some u->H' b=some u
theorem E3.same {P:Addr} {pos:Pos} {q:Str} {H H':Hp} (x:E3 P pos q H) (e:Aq H H'):E3 P pos q H':=let ⟨c,h1,h2⟩:=x;⟨c,e _ _ h1,e _ _ h2⟩
theorem E3.put {P l:Addr} {pos:Pos} {q:Str} {H:Hp} {xs:List V} {o:HO} (t:E3 P pos q H) (e:H l=some (.lst xs)):E3 P pos q (upd H l o):=by
 obtain ⟨c,h1,h2⟩:=t
 exact ⟨c,by rw [Ai (fun z=>by rw [z,e] at h1;cases h1)];exact h1,by rw [Ai (fun z=>by rw [z,e] at h2;cases h2)];exact h2⟩
theorem GD.put {P l:Addr} {pos:Pos} {q:Str} {H:Hp} {xs:List V} {o:HO} (t:GD P pos q H) (e:H l=some (.lst xs)):GD P pos q (upd H l o):=by
 rcases t with t | t
 ·exact .inl (by rw [Ai (fun z=>by rw [z,e] at t;cases t)];exact t)
 ·exact .inr (t.put e)
theorem GD.same {P:Addr} {pos:Pos} {q:Str} {H H':Hp} (t:GD P pos q H) (s:Aq H H'):GD P pos q H':=t.elim (fun t=>.inl (s _ _ t)) fun t=>.inr (t.same s)
theorem MU (pos:Pos):codeAmong pos (#[]:Array Value).toList=none:=rfl
theorem Mz (pos:Pos) (c:Addr):codeAmong pos (#[rawInt pos.line,rawInt pos.col,.ref c]:Array Value).toList=some (.ref c):=by
 simp [codeAmong,rawInt]
theorem NP {P:Program} {w:World} {H:Hp} {h:Heap} {c:Addr} {q:Str} (x:h.CodeRec (.ref c) q):Ba P w H h c (GG c q):=by
 refine ⟨x,?_,fun h1 h2 y k=>?_⟩
 ·obtain ⟨c',o,vs,t,e,g,_⟩:=x
  cases e
  exact ⟨o,g⟩
 ·obtain ⟨c',o,vs,t,e,g,r⟩:=y
  cases e
  exact ⟨c,o,vs,t,rfl,k o g,r⟩
theorem MC {P:Program} {w:World} {H:Hp} {h:Heap} {c:Addr} {q:Str} (x:Ba P w H h c (GG c q)):h.CodeRec (.ref c) q:=x.1
section
variable {X:Cx} {pins:List (Addr × Obj)} {σ:St} {H:Hp} {s:Shared} {c P:Addr} {pos:Pos} {params:Arguments} {body:Expr} {sc:Scope} {cl:List (Str × Addr)} {q:Str} {M:Model} {A:Around} {E:Value->Shared->Prop} {Q:Value->Shared->Prop}
theorem GH.at (LB:GH X.base X.mg c P) (I:Inv X pins σ H s) (hp:∃ps,H P=some (.tbl ps)):s.heap.Ns mainGlobals X.mg/\CodeHd s.heap c P/\mainGlobals≠P/\s.heap.BuiltinsAt X.mg P:=by
 have G:s.heap.Ns mainGlobals X.mg:=I.mod.glob.keeps I.bk
 have gP:mainGlobals≠P:=fun z=>by
  obtain ⟨o,_,_,e,_⟩:=I.mod.glob
  rw [z,LB.out] at e;cases e
 obtain ⟨bm,ob,b1,b2,b3,b4,b5,b6⟩:=LB.bm
 refine ⟨G,LB.hd.keeps I.bk,gP,bm,ob,b1,b2,fun z=>?_,fun z=>?_,I.bk _ _ b3,b4,b5,b6⟩
 ·obtain ⟨o,es,ep,e,hd,_⟩:=I.mod.glob
  rw [<- z,b3] at e;cases e;rw [b6] at hd;cases hd
 ·rw [z,LB.out] at b3;cases b3
theorem Inv.pin1 {f:Addr} {o:Obj} (I:Inv X pins σ H s) (c:DA X pins H f) (e:s.heap.get? f=some o) (hf:f ∉ X.fs) (d:∀v,o.data≠.cell v):Inv X ((f,o) :: pins) σ H s :=
 I.pins_of fun p hp=>by
  rcases mem_cons.mp hp with rfl | hp
  ·exact ⟨e,c.free,c.ne,hf,d⟩
  ·exact I.pin p (mem_append_right _ hp)
theorem Inv.cloc {f:Addr} (I:Inv X pins σ H s) (h:s.heap.objs.size<=f):DA X pins H f:=by
 obtain ⟨g0,g1,g2,g3,g4,g5⟩:=I.fpOk h (I.hok.fresh h)
 exact ⟨g0,g1,Nat.le_trans I.sz h,g4,g5⟩
theorem OG (LB:GH X.base X.mg c P) (hcode:X.env.code=.ref c) (hcl:closureFor sc X.env=pure cl) (I:Inv X pins σ H s) (t:GD P pos q H)
 (h:∀(f c':Addr) (pm ctv:Value) (H':Hp) (s':Shared),Inv X ((f,kla_obj "<lambda>" q params body sc cl pm c' ctv) :: pins) σ H' s'->H' c'=some (GG c' q)->DA X pins H' f->E3 P pos q H'->SmL P H H'->(E3 P pos q H->H=H')->(∀b,H' b=none->H b=none)->Q (.ref f) s') :
 wpAny M A (makeFunction "<lambda>" q params (.expr body) sc X.env [] [] [] pos pos.line) Q E s:=by
 rcases t with t | ⟨c',t1,t2⟩
 ·obtain ⟨G,C,gP,B⟩:=LB.at I ⟨_,t⟩
  have hP:s.heap.get? P=some (tabObj #[]):=I.hok P _ t
  refine kla_makeFunction (mg:=X.mg) hcl I.ok.glob G hcode C hP trivial (MU pos) gP B fun c' ctv h' tk hx hge hlt hrec htb=>?_
  have hc':H c'=none:=I.hok.fresh hge
  have cP:c'≠P:=fun z=>by rw [z,t] at hc';cases hc'
  have nP:∀{b:Addr},H b=none->b≠P:=fun e z=>by rw [z,t] at e;cases e
  have htb':h'.get? P=some (tabObj (#[]++#[rawInt pos.line,rawInt pos.col,.ref c'])):=htb
  have ht0:((#[]:Array Value)++#[rawInt pos.line,rawInt pos.col,.ref c'])=#[rawInt pos.line,rawInt pos.col,.ref c']:=rfl
  generalize eH:upd (upd H P (.tbl #[rawInt pos.line,rawInt pos.col,.ref c'])) c' (GG c' q)=H'
  have hb:∀{b:Addr},b≠P->b≠c'->H' b=H b:=fun n1 n2=>by rw [<- eH,Ai n2,Ai n1]
  have hPH:H' P=some (.tbl #[rawInt pos.line,rawInt pos.col,.ref c']):=by rw [<- eH,Ai (Ne.symm cP),Ab]
  have hcH:H' c'=some (GG c' q):=by rw [<- eH,Ab]
  have ne':∀{b:Addr} {o:Obj},s.heap.get? b=some o->b≠c':=fun e=>Nat.ne_of_lt (Nat.lt_of_lt_of_le (Heap.lt_size e) hge)
  have neH:∀{b:Addr} {u:HO},H b=some u->b≠c':=fun e z=>by rw [z,hc'] at e;cases e
  have U:Un X.fs [] H H' s.heap h':=⟨fun b o e n _ _=>hx b o (nP n) e,fun b o e n _ _=>⟨o.slots,hx b o (nP n) e⟩,fun b o e n _=>by rw [hb (nP n) (ne' e)];exact n,fun b o e _=>by
   by_cases z:b=P
   ·rw [z];exact ⟨_,htb⟩
   ·exact ⟨o,hx b o z e⟩,fun b xs e=>by
   rw [hb (fun z=>by rw [z,t] at e;cases e) (neH e)];exact e,fun b o u e=>by
   rw [hb (fun z=>by rw [z,t] at e;cases e) (neH e)];exact e,fun b ps e=>by
   by_cases z:b=P
   ·rw [z,t] at e
    cases e
    exact ⟨#[rawInt pos.line,rawInt pos.col,.ref c'],by rw [z,hPH];rfl⟩
   ·exact ⟨#[],by rw [hb z (neH e),e];simp⟩⟩
  have hok:HOk X.prog X.w H' h':=fun a o e=>by
   by_cases z:a=P
   ·subst z
    rw [hPH] at e
    cases e
    exact htb
   ·by_cases z2:a=c'
    ·subst z2
     rw [hcH] at e
     cases e
     exact NP hrec
    ·rw [hb z z2] at e
     refine (I.hok a o e).stay (fun b u hbu g=>?_) (fun b g=>?_) fun b xs g=>?_
     ·refine hx b u (fun y=>?_) g
      rcases hbu with rfl | hbu
      ·exact z y
      ·rw [y,t] at hbu;cases hbu
     ·rw [hb (fun y=>by rw [y,t] at g;cases g) (neH g)];exact g
     ·rw [hb (fun y=>by rw [y,t] at g;cases g) (neH g)];exact g
  have I1:Inv X pins σ H' { s with heap:=h',toks:=tk }:=I.un U hok
  have I2:=I1.kept (t':=tk) (h':=h'.push (kla_obj "<lambda>" q params body sc cl ((X.mg "__name__").getD .none) c' ctv)) fun b u e=>Heap.get?_push_of_some _ e
  have cf:DA X pins H' h'.objs.size:=I1.cloc (Nat.le_refl _)
  refine h _ c' _ ctv H' _ (I2.pin1 cf (Heap.get?_push_size _ rfl) (I1.nofs (Nat.le_refl _)) (fun v z=>by cases z)) hcH cf ⟨c',hPH,hcH⟩ (fun b u n e=>by rw [hb n (neH e)];exact e) (fun ⟨_,y,_⟩=>by rw [t] at y;cases y) fun b e=>?_
  rw [hb (fun z=>by rw [z,hPH] at e;cases e) (fun z=>by rw [z,hcH] at e;cases e)] at e
  exact e
 ·obtain ⟨G,C,gP,B⟩:=LB.at I ⟨_,t1⟩
  have hP:s.heap.get? P=some (tabObj #[rawInt pos.line,rawInt pos.col,.ref c']):=I.hok P _ t1
  refine kla_makeFunctionHit (mg:=X.mg) hcl I.ok.glob G hcode C hP trivial (Mz pos c') B fun ctv h' tk hk hsz=>?_
  have I1:Inv X pins σ H { s with heap:=h',toks:=tk }:=I.kept hk
  have I2:=I1.kept (t':=tk) (h':=h'.push (kla_obj "<lambda>" q params body sc cl ((X.mg "__name__").getD .none) c' ctv)) fun b u e=>Heap.get?_push_of_some _ e
  have cf:DA X pins H h'.objs.size:=I1.cloc (Nat.le_refl _)
  exact h _ c' _ ctv H _ (I2.pin1 cf (Heap.get?_push_size _ rfl) (I1.nofs (Nat.le_refl _)) (fun v z=>by cases z)) t2 cf ⟨c',t1,t2⟩ (fun _ _ _ e=>e) (fun _=>rfl) fun _ e=>e
end
def Cx.inLam (X:Cx) (A:Around) (Nc:List Str) (q:Str) (sc:Scope) (cl:List (Str × Addr)) (f c':Addr) (s:Shared) (H:Hp):Cx :=
 { X with A:=A.deeper (envX q sc s.heap.objs.size f (.ref c') cl),N:=Nc,s₀:=s,H₀:=H,env:=envX q sc s.heap.objs.size f (.ref c') cl,outer:=X.stack,stack:=envX q sc s.heap.objs.size f (.ref c') cl :: X.stack,ex:=[],fn:=fun _=>false,calm:=true,pn:=[],xe:=fun _ _=>False }
section
variable {X:Cx} {pins:List (Addr × Obj)} {σ:St} {H:Hp} {s:Shared} {params:Arguments} {body:Expr} {sc fsc:Scope} {cl:List (Str × Addr)} {q x:Str} {A:Around} {N Nc:List Str} {f c':Addr} {te:TE} {E:Value->Shared->Prop}
theorem P8 (hE:X.env.scope=fsc) (hXN:X.N=N) (cn:Ee N Nc x sc fsc)
 (clS:∀y c,cl.lookup y=some c->X.env.cells.lookup y=some c) (clH:∀y∈sc.names,y.2=.free->∃c,cl.lookup y.1=some c) (hA:A.frames=X.A.frames) (hh:A.handled=none)
 (I:Inv X pins σ H s) {v:V} {u:Value} (rv:A8 v u) {h₁:Heap} {tk:Nat} (hns:h₁.Ns s.heap.objs.size fun y=>[(x,u)].reverse.lookup y) (old:∀b o,s.heap.get? b=some o->h₁.get? b=some o) :
 Inv (X.inLam A Nc q sc cl f c' s H) [] (σ++[some v]) H { s with heap:=h₁,toks:=tk }:=by
 have hlen:σ.length=N.length:=by rw [I.len,hXN]
 have noE:∀b:Addr,b ∉ (X.inLam A Nc q sc cl f c' s H).ex:=fun b z=>absurd (show b∈([]:List Addr) from z) (by simp)
 have freeOf:∀y,sc.names.lookup y=some .free->∃c,cl.lookup y=some c:=fun y e=>clH (y,.free) (PySem.mem_of_lookup e) rfl
 have noCell:∀y,sc.names.lookup y≠some .cell:=fun y e=>cn.cell (y,.cell) (PySem.mem_of_lookup e) rfl
 refine ⟨⟨I.ok.mod,cn.kind,rfl,rfl,Nat.le_refl _,fun y z c e1 e2=>I.ok.inj y z c (clS _ _ e1) (clS _ _ e2),fun y hy=>?_,fun y c z=>absurd (show false=true from z) Bool.false_ne_true,fun _=>hh,Around.frames_deeper (hA.trans I.ok.frames),.inr ⟨rfl,rfl⟩,fun b z=>absurd z (noE b),I.bs,Nat.le_trans I.ok.bsz I.sz,fun b _ _=>noE b,fun b z=>absurd z (noE b),I.stack,I.stkFree⟩,
  rfl,I.bare,Un.kept old,⟨_,hns,fun i y v' h1 h2 h3=>?_⟩,fun y c e=>?_,I.hok.fresh (Nat.le_refl _),fun y c e=>I.freeC y c (clS y c e),fun p hp=>absurd (show p∈([]:List (Addr × Obj)) from hp) (by simp),I.hok.kept old,?_⟩
 ·have hy:sc.names.lookup y=some .cell\/sc.names.lookup y=some .free:=hy
  rcases hy with hy | hy
  ·exact absurd hy (noCell y)
  ·exact freeOf y hy
 ·have h1:Nc[i]?=some y:=h1
  have h3:sc.names.lookup y=some .local\/sc.names.lookup y=some .cell\/sc.names.lookup y=some .free:=h3
  by_cases hi:i < N.length
  ·obtain ⟨n1,n2,n3⟩:=cn.at hi h1
   have hf:sc.names.lookup y=some .free:=by
    rcases h3 with z | z | z
    ·exact absurd z n1
    ·exact absurd z n2
    ·exact z
   rw [List.getElem?_append_left (by omega)] at h2
   have hN:X.N[i]?=some y:=by rw [hXN];exact n3 hf
   obtain ⟨m,hn,hl⟩:=I.loc
   have hv:fsc.names.lookup y=some .cell\/fsc.names.lookup y=some .free:=cn.fr (y,.free) (PySem.mem_of_lookup hf) rfl
   have hv':X.env.scope.names.lookup y=some .cell\/X.env.scope.names.lookup y=some .free:=by rw [hE];exact hv
   obtain ⟨u',ru,lk⟩:=hl i y v' hN h2 (.inr hv')
   refine ⟨u',ru,.inr ⟨.inr hf,?_⟩⟩
   rcases lk with ⟨kl,_⟩ | ⟨_,c,hc,hcell⟩
   ·exfalso
    have kl':X.env.scope.names.lookup y=some .local:=kl
    rw [kl'] at hv'
    rcases hv' with z | z <;> cases z
   ·obtain ⟨d,hd⟩:=freeOf y hf
    have ed:=clS y d hd
    rw [hc] at ed
    cases ed
    exact ⟨c,hd,hcell.keeps old⟩
  ·have hi':i < (σ++[some v]).length:=(List.getElem?_eq_some_iff.mp h2).1
   rw [length_append,length_singleton] at hi'
   have ei:i=N.length:=by omega
   subst ei
   rw [cn.last] at h1
   cases h1
   rw [List.getElem?_append_right (by omega),hlen,Nat.sub_self] at h2
   cases h2
   exact ⟨u,rv,.inl ⟨cn.own,by simp⟩⟩
 ·obtain ⟨w,z⟩:=I.cell y c (clS y c e)
  exact ⟨w,z.keeps old⟩
 ·show (σ++[some v]).length=Nc.length
  rw [length_append,hlen,cn.len]
  rfl
theorem Od (hE:X.env.scope=fsc) (hXN:X.N=N) (cn:Ee N Nc x sc fsc) (hco:sc.isCoroutine=false) (hgen:sc.isGenerator=false)
 (clS:∀y c,cl.lookup y=some c->X.env.cells.lookup y=some c) (clH:∀y∈sc.names,y.2=.free->∃c,cl.lookup y.1=some c) (hA:A.frames=X.A.frames) (hh:A.handled=none) (hroom:A.depth < recursionLimit)
 (he:∀s H,PE (X.inLam A Nc q sc cl f c' s H) body te)
 (hbind:∀pm ctv u,bindArgs (kla_fn "<lambda>" q params body sc cl pm (.ref c') ctv) ⟨[u],[]⟩=pure [(x,u)])
 (I:Inv X pins σ H s) {pm ctv:Value} (hf:(f,kla_obj "<lambda>" q params body sc cl pm c' ctv)∈pins) (hc:H c'=some (GG c' q)) {v:V} {u:Value} (rv:A8 v u) {R:VK} (h:te (σ++[some v]) H R) :
 wpAny (model X.prog X.w) A (call (.ref f) [u]) (fun u' s'=>∃y H',Inv X pins σ H' s'/\A8 y u'/\R y H') E s:=by
 have lim:s.heap.NoLimit:=I.nolimit
 refine wpAny_call (kla_callFunE hroom (I.pin _ (mem_append_right _ hf)).1 rfl hco hgen rfl (MC (I.hok _ _ hc)) ?_)
 rw [hbind]
 refine wpAny_pure (wpAny_newFunctionEnv cn.cell (fun y hy=>?_) (fun h₁ hns hsb=>⟨lim.fresh _ hsb,?_⟩) cn.kind)
 ·rw [mem_singleton.mp hy]
  exact cn.own
 ·show codeAny _ _ (.expr body (envX q sc s.heap.objs.size f (.ref c') cl)) _ _
  have old:∀b o,s.heap.get? b=some o->h₁.get? b=some o:=fun b o e=>hsb.extBut b o (Nat.ne_of_lt (Heap.lt_size e)) (Heap.get?_push_of_some _ e)
  have Ic:=P8 (q:=q) (f:=f) (c':=c') (tk:=s.toks+[(x,u)].length) hE hXN cn clS clH hA hh I rv hns old
  refine kla_codeExpr (wpAny_mono (he s H [] _ (σ++[some v]) H R Ic h) (fun u' s' ⟨y,H',I',r',q'⟩=>?_) fun _ _ z=>z.elim)
  exact ⟨y,H',I.call' (ch:=[]) I'.os I'.base I'.hok I'.bare (fun b hb=>absurd hb (by simp)),r',q'⟩
end
section
variable {X:Cx} {pins:List (Addr × Obj)} {σ:St} {H:Hp}
theorem Inv.sub {ps:List (Addr × Obj)} {s:Shared} (I:Inv X pins σ H s) (h:∀p∈ps,p∈pins):Inv X ps σ H s:=I.pins_of fun p hp=>I.pin p (mem_append_right _ (h p hp))
theorem DA.cons {C S:Addr} {o:Obj} (c:DA X pins H C) (n:S≠C):DA X ((S,o) :: pins) H C:=⟨c.free,c.ne,c.new,c.cells,fun p hp=>by
 rcases mem_append.mp hp with hp | hp
 ·exact c.pins p (mem_append_left _ hp)
 ·rcases mem_cons.mp hp with rfl | hp
  ·exact n
  ·exact c.pins p (mem_append_right _ hp)⟩
theorem Inv.repin {s:Shared} {C:Addr} {o o':Obj} {h':Heap} {t':Nat} (I:Inv X ((C,o) :: pins) σ H s) (c:DA X pins H C) (k:∀b u,b≠C->s.heap.get? b=some u->h'.get? b=some u) (e:h'.get? C=some o') (d:∀v,o'.data≠.cell v) :
 Inv X ((C,o') :: pins) σ H { s with heap:=h',toks:=t' }:=by
 obtain ⟨_,_,_,nf,_⟩:=I.pin (C,o) (mem_append_right _ (mem_cons_self ..))
 have I0:Inv X pins σ H s:=I.sub fun p hp=>mem_cons_of_mem _ hp
 exact (I0.turned (t':=t') k c.free c.ne (.inr c.new) c.cells c.pins).pin1 c e nf d
variable {xs:List V} {l f I S:Addr}
theorem NJ (hc:X.calm=true) (kf:Nat->Int) {R:Result->Shared->Prop} (hq:SqL X.K H l xs) (hlI:l≠I) (hSI:S≠I) (cI:DA X pins H I) (cS:DA X pins H S)
 (turn:∀(i:Nat) (x:V) (u:Value) (ps:List (Addr × Obj)) (s:Shared),xs[i]?=some x->A8 x u->(∀p∈pins,p∈ps)->Inv X ps σ H s->wpAny (model X.prog X.w) X.A.in1 (call (.ref f) [u]) (fun v s'=>Inv X ps σ H s'/\∃t,v=.int (kf i) t) (fun _ _=>False) s)
 (hR:∀(i:Nat) (x:V) (v:Value) (s:Shared),xs[i]?=some x->A8 x v->(∀j,j < xs.length->kf j<=kf i/\(j < i->kf j < kf i))->Inv X pins σ H s->R (.ok (.ret v)) s) :
 ∀(r j i:Nat) (s:Shared) (vb:Value) (x:V) (tb:Tok) (c:Nat) (oI:Obj),xs.length - (j+1)=r->j+1<=xs.length->Inv X ((S,seqObj "list" #[vb,.int (kf i) tb] c) :: (I,oI) :: pins) σ H s->s.heap.IsListIter I l (j+1)->xs[i]?=some x->A8 x vb->i<=j ->
  (∀j',j'<=j->kf j'<=kf i/\(j' < i->kf j' < kf i))->codeAny (model X.prog X.w) X.A (.builtin "max.loop" ⟨[.ref I,.ref f,.ref S],[]⟩) R s:=by
 have hname:(toString "max"++toString ".loop":String)="max.loop":=by decide
 intro r
 induction r with
 | zero =>
   intro j i s vb x tb c oI hr hj Iv hit hx rx hij hbest
   obtain ⟨its,rv,pl,hz⟩:=Iv.list hq
   have hlen:xs.length=its.length:=rv.length
   have W:=Walks.list (prog:=X.prog) (w:=X.w) (A:=X.A.in1) (Iv.ok.hd hc) I l hlI its.toArray
   have hsz:its.toArray.size=its.length:=size_toArray ..
   have hin:j+1=its.length:=by omega
   have gS:=(Iv.pin _ (mem_append_right _ (mem_cons_self ..))).1
   refine codeAny_builtin PySem.F.entry_max_loop ?_
   rw [Around.under_plainId PySem.F.plain_max_loop _]
   show wpAny _ X.A.in1 (seqItems? (.ref S) >>= _) _ _ _
   refine wpAny_bind (wpAny_seqItems gS rfl ?_)
   show wpAny _ X.A.in1 (tryCatch (pyNext (.ref I)) _ >>= _) _ _ _
   refine wpAny_bind (wpAny_tryCatch (W.done _ _ _ ⟨by rw [hsz,<- hin];exact hit,pl.isList⟩ fun h' tk' hk'=>?_))
   have I0:Inv X pins σ H s:=Iv.sub fun p hp=>mem_cons_of_mem _ (mem_cons_of_mem _ hp)
   have I1:=I0.turned (t':=tk') (it:=I) (h':=h') (fun b o n e=>hk' b o (by simpa using n) e) cI.free cI.ne (.inr cI.new) cI.cells cI.pins
   have hS':=hk' S _ (by simpa using hSI) gS
   have s1:=Heap.SameBut.update h' S (Obj.mapSeq fun _=>(#[]:Array Value))
   show wpAny _ X.A.in1 (updateSeq S (fun _=>#[]) >>= _) _ _ _
   refine wpAny_bind ?_
   refine wpAny_updateSeq hS' rfl (wpAny_bind (wpAny_letGo (wpAny_pure ?_)))
   exact hR i x vb _ hx rx (fun j' hj'=>hbest j' (by omega)) (I1.turned (t':=tk') (it:=S) (fun b o n e=>(s1.2 b n).trans e) cS.free cS.ne (.inr cS.new) cS.cells cS.pins)
 | succ r ih =>
   intro j i s vb x tb c oI hr hj Iv hit hx rx hij hbest
   obtain ⟨its,rv,pl,hz⟩:=Iv.list hq
   have hlen:xs.length=its.length:=rv.length
   have W:=Walks.list (prog:=X.prog) (w:=X.w) (A:=X.A.in1) (Iv.ok.hd hc) I l hlI its.toArray
   have hsz:its.toArray.size=its.length:=size_toArray ..
   have hlt:j+1 < its.length:=by omega
   have gS:=(Iv.pin _ (mem_append_right _ (mem_cons_self ..))).1
   refine codeAny_builtin PySem.F.entry_max_loop ?_
   rw [Around.under_plainId PySem.F.plain_max_loop _]
   show wpAny _ X.A.in1 (seqItems? (.ref S) >>= _) _ _ _
   refine wpAny_bind (wpAny_seqItems gS rfl ?_)
   show wpAny _ X.A.in1 (tryCatch (pyNext (.ref I)) _ >>= _) _ _ _
   refine wpAny_bind (wpAny_tryCatch (W.item (j+1) _ _ _ (by rw [hsz];exact hlt) ⟨hit,pl.isList⟩ fun v h' tk' hP hst' hk'=>?_))
   have hv:its[j+1]?=some v:=by simpa using hP
   obtain ⟨oI',hoI',hoc,hod⟩:=id hst'.1
   obtain ⟨x2,hx2⟩:∃x2,xs[j+1]?=some x2:=⟨_,List.getElem?_eq_getElem (by omega)⟩
   obtain ⟨v2,hv2,rx2⟩:=rv.get hx2
   rw [hv] at hv2
   cases hv2
   have Ia:Inv X ((I,oI) :: (S,seqObj "list" #[vb,.int (kf i) tb] c) :: pins) σ H s:=Iv.sub fun p hp=>by
    rcases mem_cons.mp hp with rfl | hp
    ·exact mem_cons_of_mem _ (mem_cons_self ..)
    ·rcases mem_cons.mp hp with rfl | hp
     ·exact mem_cons_self ..
     ·exact mem_cons_of_mem _ (mem_cons_of_mem _ hp)
   have I1:=Ia.repin (t':=tk') (h':=h') (o':=oI') (cI.cons hSI) (fun b o n e=>hk' b o (by simpa using n) e) hoI' (fun z y=>by rw [hod] at y;cases y)
   show wpAny _ X.A.in1 (tryCatch (holding [v] (call (.ref f) [v])) _ >>= _) _ _ _
   refine wpAny_bind (wpAny_tryCatch (wpAny_holding (wpAny_mono (turn (j+1) x2 v _ _ hx2 rx2 (fun p hp=>mem_cons_of_mem _ (mem_cons_of_mem _ hp)) I1) (fun y s2 he=>?_) fun _ _ hF=>hF.elim)))
   obtain ⟨I2,t2,rfl⟩:=he
   have gI2:=(I2.pin _ (mem_append_right _ (mem_cons_self ..))).1
   have gS2:=(I2.pin _ (mem_append_right _ (mem_cons_of_mem _ (mem_cons_self ..)))).1
   have hit2:s2.heap.IsListIter I l (j+1+1):=⟨oI',gI2,hoc,hod⟩
   have I2':Inv X ((S,seqObj "list" #[vb,.int (kf i) tb] c) :: (I,oI') :: pins) σ H s2:=I2.sub fun p hp=>by
    rcases mem_cons.mp hp with rfl | hp
    ·exact mem_cons_of_mem _ (mem_cons_self ..)
    ·rcases mem_cons.mp hp with rfl | hp
     ·exact mem_cons_self ..
     ·exact mem_cons_of_mem _ (mem_cons_of_mem _ hp)
   show wpAny _ X.A.in1 (tryCatch (holding [v,.int (kf (j+1)) t2] (richCompare .Gt (.int (kf (j+1)) t2) (.int (kf i) tb) >>= _)) _ >>= _) _ _ _
   refine wpAny_bind (wpAny_tryCatch (wpAny_holding (wpAny_bind (CmpOf.ints_gt (prog:=X.prog) (w:=X.w) (A:=X.A.in1) (P:=fun i v=>∃t,v=.int (kf i) t) kf (fun i v h=>h) (j+1) i _ _ _ _ _ ⟨t2,rfl⟩ ⟨tb,rfl⟩ ?_))))
   refine wpAny_bind (wpAny_holding (wpAny_truthy_bool ?_))
   refine wpAny_bind (wpAny_letGo (wpAny_pure ?_))
   by_cases hb':kf (j+1) > kf i
   ·have s1:=Heap.SameBut.update s2.heap S (Obj.mapSeq fun _=>#[v,.int (kf (j+1)) t2])
    obtain ⟨c2,hc2⟩:∃c2,(s2.heap.update S (Obj.mapSeq fun _=>#[v,.int (kf (j+1)) t2])).get? S=some (seqObj "list" #[v,.int (kf (j+1)) t2] c2):=⟨_,get?_update_seq gS2 fun _=>#[v,.int (kf (j+1)) t2]⟩
    simp only [hb',decide_true,if_true]
    refine wpAny_bind ?_
    refine wpAny_updateSeq gS2 rfl (wpAny_bind (wpAny_letGo ?_))
    rw [hname]
    have I3:=I2'.repin (t':=s2.toks) (o':=seqObj "list" #[v,.int (kf (j+1)) t2] c2) (cS.cons (Ne.symm hSI)) (fun b o n e=>(s1.2 b n).trans e) hc2 (fun z y=>by cases y)
    refine wpAny_pure ⟨plainId_quiet PySem.F.plain_max_loop _,ih (j+1) (j+1) _ v x2 t2 c2 oI' (by omega) (by omega) I3 ⟨oI',(s1.2 I hSI.symm).trans gI2,hoc,hod⟩ hx2 rx2 (Nat.le_refl _) fun j' hj'=>?_⟩
    by_cases e:j'=j+1
    ·subst e
     exact ⟨by omega,fun z=>by omega⟩
    ·have hb1:=(hbest j' (by omega)).1
     exact ⟨by omega,fun _=>by omega⟩
   ·simp only [hb',decide_false,Bool.false_eq_true,if_false]
    refine wpAny_bind (wpAny_letGo ?_)
    rw [hname]
    refine wpAny_pure ⟨plainId_quiet PySem.F.plain_max_loop _,ih (j+1) i _ vb x tb c oI' (by omega) (by omega) I2' hit2 hx rx (by omega) fun j' hj'=>?_⟩
    by_cases e:j'=j+1
    ·subst e
     exact ⟨by omega,fun z=>by omega⟩
    ·exact hbest j' (by omega)
theorem Pn (hc:X.calm=true) (kf:Nat->Int) {s:Shared} {Q:Value->Shared->Prop} {E:Value->Shared->Prop} (hq:SqL X.K H l xs) (hne:0 < xs.length) (Iv:Inv X pins σ H s)
 (turn:∀(i:Nat) (x:V) (u:Value) (ps:List (Addr × Obj)) (s:Shared),xs[i]?=some x->A8 x u->(∀p∈pins,p∈ps)->Inv X ps σ H s->wpAny (model X.prog X.w) X.A.in1 (call (.ref f) [u]) (fun v s'=>Inv X ps σ H s'/\∃t,v=.int (kf i) t) (fun _ _=>False) s)
 (hQ:∀(i:Nat) (x:V) (v:Value) (s:Shared),xs[i]?=some x->A8 x v->(∀j,j < xs.length->kf j<=kf i/\(j < i->kf j < kf i))->Inv X pins σ H s->Q v s) :
 wpAny (model X.prog X.w) X.A (call (.builtin "max") [.ref l] [(Str.ofString "key",.ref f)]) Q E s:=by
 have hname:(toString "max"++toString ".loop":String)="max.loop":=by decide
 obtain ⟨its,rv,pl,hz⟩:=Iv.list hq
 have hlen:xs.length=its.length:=rv.length
 have hls:=pl.isList
 obtain ⟨ol,hol,_⟩:=id hls
 have hll:l < s.heap.objs.size:=Heap.lt_size hol
 refine kmk_tree PySem.F.kind_max PySem.F.plain_max PySem.F.entry_max (kmk_max_key _ _) ?_
 show wpAny _ X.A.in1 (Builtin.Builtins.bindParams "max" ["key","default"] 0 ⟨[],[(Str.ofString "key",.ref f)]⟩ >>= _) _ _ s
 refine wpAny_bind (wpAny_of_eq (show Builtin.Builtins.bindParams "max" ["key","default"] 0 ⟨[],[(Str.ofString "key",.ref f)]⟩=pure [some (.ref f),none] from rfl) ?_)
 refine wpAny_bind (wpAny_pure ?_)
 refine wpAny_bind (wpAny_pyIter_list hls ?_)
 refine wpAny_bind (wpAny_newList ?_ (Nat.zero_le _))
 rw [hname]
 have hS:(s.heap.push { cls:=.type "list_iterator",data:=.fields #[.ref l,.int 0 0] }).objs.size=s.heap.objs.size+1:=size_push' ..
 have hlI:l≠s.heap.objs.size:=Nat.ne_of_lt hll
 have hSI:(s.heap.push { cls:=.type "list_iterator",data:=.fields #[.ref l,.int 0 0] }).objs.size≠s.heap.objs.size:=by rw [hS];exact Nat.ne_of_gt (Nat.lt_succ_self _)
 have I1:=Iv.kept (t':=s.toks) (h':=s.heap.push { cls:=.type "list_iterator",data:=.fields #[.ref l,.int 0 0] }) fun b u e=>Heap.get?_push_of_some _ e
 have cI:DA X pins H s.heap.objs.size:=Iv.cloc (Nat.le_refl _)
 have cS:DA X pins H (s.heap.push { cls:=.type "list_iterator",data:=.fields #[.ref l,.int 0 0] }).objs.size:=I1.cloc (Nat.le_refl _)
 have nfI:=Iv.nofs (Nat.le_refl _)
 have nfS:=I1.nofs (Nat.le_refl _)
 have I2:=I1.kept (t':=s.toks) (h':=(s.heap.push { cls:=.type "list_iterator",data:=.fields #[.ref l,.int 0 0] }).push (seqObj "list" #[] 0)) fun b u e=>Heap.get?_push_of_some _ e
 have gI:((s.heap.push { cls:=.type "list_iterator",data:=.fields #[.ref l,.int 0 0] }).push (seqObj "list" #[] 0)).get? s.heap.objs.size=some { cls:=.type "list_iterator",data:=.fields #[.ref l,.int 0 0] } :=
  Heap.get?_push_of_some _ (Heap.get?_push_size _ rfl)
 have gS:((s.heap.push { cls:=.type "list_iterator",data:=.fields #[.ref l,.int 0 0] }).push (seqObj "list" #[] 0)).get? (s.heap.push { cls:=.type "list_iterator",data:=.fields #[.ref l,.int 0 0] }).objs.size=some (seqObj "list" #[] 0):=Heap.get?_push_size _ rfl
 generalize (s.heap.push { cls:=.type "list_iterator",data:=.fields #[.ref l,.int 0 0] }).objs.size=S at hSI cS nfS gS ⊢
 generalize hI:s.heap.objs.size=I at hSI cI nfI gI hlI ⊢
 have I3:=(I2.pin1 cS gS nfS (fun z y=>by cases y)).pin1 (cI.cons hSI) gI nfI (fun z y=>by cases y)
 refine wpAny_pure ⟨plainId_quiet PySem.F.plain_max_loop _,?_⟩
 obtain ⟨its,rv,pl,hz⟩:=I3.list hq
 have hlen:xs.length=its.length:=rv.length
 have W:=Walks.list (prog:=X.prog) (w:=X.w) (A:=X.A.in1) (I3.ok.hd hc) I l hlI its.toArray
 have hsz:its.toArray.size=its.length:=size_toArray ..
 refine codeAny_builtin PySem.F.entry_max_loop ?_
 rw [Around.under_plainId PySem.F.plain_max_loop _]
 show wpAny _ X.A.in1 (seqItems? (.ref _) >>= _) _ _ _
 refine wpAny_bind (wpAny_seqItems gS rfl ?_)
 show wpAny _ X.A.in1 (tryCatch (pyNext (.ref I)) _ >>= _) _ _ _
 refine wpAny_bind (wpAny_tryCatch (W.item 0 _ _ _ (by rw [hsz,<- hlen];exact hne) ⟨⟨_,gI,rfl,rfl⟩,pl.isList⟩ fun v h' tk' hP hst' hk'=>?_))
 have hv:its[0]?=some v:=by simpa using hP
 obtain ⟨oI',hoI',hoc,hod⟩:=id hst'.1
 obtain ⟨x2,hx2⟩:∃x2,xs[0]?=some x2:=⟨_,List.getElem?_eq_getElem hne⟩
 obtain ⟨v2,hv2,rx2⟩:=rv.get hx2
 rw [hv] at hv2
 cases hv2
 have I4:=I3.repin (t':=tk') (h':=h') (o':=oI') (cI.cons hSI) (fun b o n e=>hk' b o (by simpa using n) e) hoI' (fun z y=>by rw [hod] at y;cases y)
 show wpAny _ X.A.in1 (tryCatch (holding [v] (call (.ref f) [v])) _ >>= _) _ _ _
 refine wpAny_bind (wpAny_tryCatch (wpAny_holding (wpAny_mono (turn 0 x2 v _ _ hx2 rx2 (fun p hp=>mem_cons_of_mem _ (mem_cons_of_mem _ hp)) I4) (fun y s2 he=>?_) fun _ _ hF=>hF.elim)))
 obtain ⟨I5,t2,rfl⟩:=he
 have gI2:=(I5.pin _ (mem_append_right _ (mem_cons_self ..))).1
 have gS2:=(I5.pin _ (mem_append_right _ (mem_cons_of_mem _ (mem_cons_self ..)))).1
 have I5':Inv X ((S,seqObj "list" #[] 0) :: (I,oI') :: pins) σ H s2:=I5.sub fun p hp=>by
  rcases mem_cons.mp hp with rfl | hp
  ·exact mem_cons_of_mem _ (mem_cons_self ..)
  ·rcases mem_cons.mp hp with rfl | hp
   ·exact mem_cons_self ..
   ·exact mem_cons_of_mem _ (mem_cons_of_mem _ hp)
 have s1:=Heap.SameBut.update s2.heap S (Obj.mapSeq fun _=>#[v,.int (kf 0) t2])
 obtain ⟨c2,hc2⟩:∃c2,(s2.heap.update S (Obj.mapSeq fun _=>#[v,.int (kf 0) t2])).get? S=some (seqObj "list" #[v,.int (kf 0) t2] c2):=⟨_,get?_update_seq gS2 fun _=>#[v,.int (kf 0) t2]⟩
 show wpAny _ X.A.in1 (updateSeq S (fun _=>#[v,.int (kf 0) t2]) >>= _) _ _ _
 refine wpAny_bind ?_
 refine wpAny_updateSeq gS2 rfl ?_
 rw [hname]
 have I6:=I5'.repin (t':=s2.toks) (o':=seqObj "list" #[v,.int (kf 0) t2] c2) (cS.cons (Ne.symm hSI)) (fun b o n e=>(s1.2 b n).trans e) hc2 (fun z y=>by cases y)
 refine wpAny_pure ⟨plainId_quiet PySem.F.plain_max_loop _,NJ hc kf hq hlI hSI cI cS turn hQ _ 0 0 _ v x2 t2 c2 oI' rfl hne I6 ⟨oI',(s1.2 I hSI.symm).trans gI2,hoc,hod⟩ hx2 rx2 (Nat.le_refl _) fun j' hj'=>?_⟩
 have e:j'=0:=by omega
 subst e
 exact ⟨by omega,fun z=>absurd z (Nat.lt_irrefl _)⟩
end
theorem Fun.okC {P:Program} {w:World} {K:PySem.W.Frag} {mg:Str->Option Value} {base:Heap} {x qual:Str} {st:Stmt} {f:Addr} {fd:FuncData} {N ps:List Str} {k:Nat} {sp:Sp} (F:Fun K x qual st f fd) (S:Ap N ps (Ac st)) (len:∀vs H Q E,sp vs H Q E->vs.length=ps.length)
 (hbody:∀(cdv:Value),fd.code=cdv->∀(A:Around) (outer:List Env) (s:Shared) (H:Hp) (vs:List V) (Q:VK) (E:XK),CN k (A.deeper (envOfC qual (Ac st) s.heap.objs.size f cdv))->sp vs H Q E ->
  ∃t,PSs (Kh CX0 P w K mg base N qual (Ac st) f cdv A outer s H E).nox (Ak st) t/\t { nx:=fun _ H'=>Q .non H',rt:=Q } (start N vs) H):AN P w K mg base CX0 (k+1) f fd ps sp:=by
 obtain ⟨oc,od,kV,doc,pm,an,cdv,ct,osl,rfl,lk,hcd⟩:=F.ex
 refine Nw lk hcd S len fun A outer s H vs Q E hr hsp=>?_
 obtain ⟨t,h,q⟩:=hbody cdv rfl A outer s H vs Q E hr hsp
 exact ⟨t,h.nox,q⟩
section
variable {M:Model} {A:Around} {E:Value->Shared->Prop} {s:Shared} {env:Env}
theorem Ou {pos:Pos} {T:String} {e:Expr} {kws:List Keyword} {Q:Value->Shared->Prop}
 (h:wpAny M A (spliced (backTo pos (starEach [e] env))) (fun vs z=>wpAny M A (evalAll ((backToKw pos (keywordEach kws env)).map (·.2))) (fun us y=>wpAny M A (call (.builtin T) vs (((backToKw pos (keywordEach kws env)).filterMap (·.1)).zip us)) Q E y) E z) E s)
 (he:backTo pos (starEach [e] env)=(false,eval e env) :: backTo pos (starEach [] env)) (hp:(backTo pos (starEach [e] env)).any (·.1)=false)
 (ha:(backToKw pos (keywordEach kws env)).all (·.1.isSome)=true) (hk:(backToKw pos (keywordEach kws env)).any (·.1.isNone)=false) :
 wpAny M A (callWith pos (.builtin T) [] (backTo pos (starEach [e] env)) (backToKw pos (keywordEach kws env))) Q E s:=by
 unfold callWith
 have y:wpAny M A (evalArgs (.builtin T) true (backTo pos (starEach [e] env)) (backToKw pos (keywordEach kws env))) (fun a z=>wpAny M A (call (.builtin T) ([]++a.pos) a.kw) Q E z) E s:=by
  rw [he] at h ⊢
  exact evalArgs_kwB ha h
 refine wpAny_bind (wpAny_holding (wpAny_mono y (fun a z q=>wpAny_bind (wpAny_standAt ?_)) fun _ _ x=>x))
 simp only [hp,hk,Bool.or_false]
 refine wpAny_bind (wpAny_pure (wpAny_bind ?_))
 exact wpAny_mono q (fun r z hr=>wpAny_bind (wpAny_holding (wpAny_point (wpAny_pure hr)))) fun _ _ x=>x
end
def Qb (K:PySem.W.Frag) (P:Addr) (lpos:Pos) (q:Str) (tl tb:TE):TE:=fun σ H Q=>tl σ H fun x H1=>∃(a:Addr) (xs:List V) (kf:Nat->Int),x=.ref a/\0 < xs.length/\GD P lpos q H1 /\
 ∀H2,E3 P lpos q H2->SmL P H1 H2->(E3 P lpos q H1->H1=H2)->(∀b,H2 b=none->H1 b=none) ->
  SqL K H2 a xs/\(∀i x,xs[i]?=some x->tb (σ++[some x]) H2 fun y H3=>y=.int (kf i)/\H3=H2)/\∀i x,xs[i]?=some x->(∀j,j < xs.length->kf j<=kf i/\(j < i->kf j < kf i))->Q x H2
section
variable {X:Cx} {c P:Addr} {e body:Expr} {tl tb:TE} {sc fsc:Scope} {N Nc:List Str} {x:Str} {params:Arguments} {lpos kp p pos:Pos}
theorem Mp (hc:X.calm=true) (LB:GH X.base X.mg c P) (hcode:X.env.code=.ref c) (hr:CN 1 X.A) (hg:Gl X "max") (hm:X.mg "max"=none) (hE:X.env.scope=fsc) (hXN:X.N=N) (cn:Ee N Nc x sc fsc) (hco:sc.isCoroutine=false) (hgen:sc.isGenerator=false) (he:PE X e tl)
 (hb:∀cl f c' s H,PE (X.inLam X.A.in1 Nc (X.env.qual++"<lambda>") sc cl f c' s H) body tb)
 (hbind:∀cl c' pm ctv u,bindArgs (kla_fn "<lambda>" (X.env.qual++"<lambda>") params body sc cl pm (.ref c') ctv) ⟨[u],[]⟩=pure [(x,u)]:=by intros;rfl) (hdef:defaultsOf params X.env=([],[]):=by rfl)
 (h1:backTo pos (starEach [e] X.env)=(false,eval e X.env) :: backTo pos (starEach [] X.env):=by rfl) (h2:(backTo pos (starEach [e] X.env)).any (·.1)=false:=by rfl)
 (h3:(backToKw pos (keywordEach [⟨some "key",.Lambda params body sc lpos,kp⟩] X.env)).all (·.1.isSome)=true:=by rfl) (h4:(backToKw pos (keywordEach [⟨some "key",.Lambda params body sc lpos,kp⟩] X.env)).any (·.1.isNone)=false:=by rfl)
 (h5:(backToKw pos (keywordEach [⟨some "key",.Lambda params body sc lpos,kp⟩] X.env)).filterMap (·.1)=[("key":Str)]:=by rfl) :
 PE X (.Call (.Name "max" p) [e] [⟨some "key",.Lambda params body sc lpos,kp⟩] pos) (Qb X.K P lpos (X.env.qual++"<lambda>") tl tb):=by
 intro pins s σ H Q I h
 obtain ⟨cl,hcl,clS,clH⟩:=Dh (env:=X.env) (sc:=sc) (Hk I.ok.has hE cn)
 refine wpAny_Call_Name_kw (Cf I hg hm boot_max ?_ (by decide) (by decide))
 refine Ou ?_ h1 h2 h3 h4
 rw [h1]
 refine Calls.spliced_cons (thn (he pins s σ H _ I h) fun u s1 ⟨y,H1,I1,r1,a,xs,kf,hx,hne,lt,q⟩=>?_)
 subst hx
 cases r1
 refine Calls.spliced_nil ?_
 refine kws_cons (kla_eval hdef (OG LB hcode hcl I1 lt fun f c' pm ctv H2 s2 I2 hc2 cf l2 sm l12 fr=>kws_nil ?_))
 rw [h5]
 show wpAny (model X.prog X.w) X.A (call (.builtin "max") [.ref a] [(Str.ofString "key",.ref f)]) _ _ s2
 obtain ⟨hq,keys,fin⟩:=q H2 l2 sm l12 fr
 refine Pn hc kf hq hne I2 (fun i z u ps s3 hz rz hps I3=>?_) fun i z v s3 hz rz best I3=>?_
 ·refine thn (Od hE hXN cn hco hgen clS clH (A:=X.A.in1) rfl hr.hd (by have:=hr.dp;show X.A.depth < _;omega) (fun s H=>hb cl f c' s H) (fun pm ctv u=>hbind cl c' pm ctv u) I3 (hps _ (mem_cons_self ..)) hc2 rz (keys i z hz)) fun v s4 ⟨y,H4,I4,r4,e1,e2⟩=>?_
  subst e1 e2
  exact ⟨I4,r4⟩
 ·exact ⟨z,H2,I3.sub fun p hp=>mem_cons_of_mem _ hp,rz,fin i z hz best⟩
end
def LN (K:PySem.W.Frag):Bool:=K.all fun p=>match p.2.data with
 | .fields v=>!(v.isEmpty && p.2.cls == Value.none)
 | _=>true
theorem Ko {α:Type} {a:Addr} {v:α}:∀{l:List (Addr × α)},l.lookup a=some v->(a,v)∈l
 | (k,u) :: r,h=>by
   rw [lookup_cons] at h
   cases hx:(a == k) with
   | true =>
     rw [hx] at h
     have e:a=k:=by simpa using hx
     cases h
     rw [e]
     exact mem_cons_self ..
   | false =>
     rw [hx] at h
     exact mem_cons_of_mem _ (Ko h)
theorem K7 {K:PySem.W.Frag} (h:LN K=true) {P:Addr}:K.lookup P≠some (tabObj #[]):=fun e=>by
 have:=all_eq_true.mp h _ (Ko e)
 exact absurd (show (!((#[]:Array Value).isEmpty && (Value.none == Value.none)))=true from this) (by decide)
theorem M9 {P:Program} {w:World} {K:PySem.W.Frag} {mg mb:Str->Option Value} {CX:CXT} {k:Nat} {fa a c Pt:Addr} {fd:FuncData} {x:Str} {sp:Sp} {s₁:Shared} {vs:List Value} {ns:List Int}
 (KX:K.In s₁.heap) (hnt:LN K=true) (hns:s₁.heap.Ns mainGlobals mg) (hb:s₁.heap.Ns builtinsNs mb) (hbb:∀x:Str,x≠"__name__"->mb x=bootBuiltins x) (hlim:s₁.heap.NoLimit) (hg:s₁.gens=#[])
 (ha:s₁.heap.get? a=some { cls:=.type "list",data:=.seq vs.toArray }) (hi:IntsAre vs ns) (hl:ns.length<=sizeLine) (hr:CN k callerA)
 (hco:s₁.heap.IsCode c Pt #[]) (hta:s₁.heap.TableAt c Pt #[]) (hbm:∃bm ob,mg "__builtins__"=some (.ref bm)/\bm≠builtinsNs/\s₁.heap.get? bm=some ob/\ob.cls=.type "module"/\ob.dict=some builtinsNs/\ob.data=.plain)
 (F:∀base:Heap,K.In base->base.Ns mainGlobals mg->GH base mg c Pt->AN P w K mg base CX k fa fd [x] sp) (hbind:∀(s:Shared) (u:Value),BindsTo s fd ⟨[u],[]⟩ [(x,u)])
 (hsp:∀H:Hp,H Pt=some (.tbl #[])->SqL K H a (ns.map V.int)->sp [.ref a] H (fun v _=>v=.bl true) fun _ _ _=>False)
 (hCX:∀H e s',CX [] H s₁ (fun _ _ _=>False) e s'->False) :
 codeAny (model P w) callerA (.call (.ref fa) ⟨[.ref a],[]⟩) (fun r s'=>r=.ok (.ret (.bool true))/\OldK s₁.heap s'.heap/\s'.os=s₁.os/\AllBare s'.gens) s₁:=by
 have rv:=Ey hi
 have lenV:=hi.length
 have hPt:s₁.heap.get? Pt=some (tabObj #[]):=hta.2
 have aP:a≠Pt:=fun z=>by rw [z,hPt] at ha;cases ha
 have kP:K.lookup Pt=none:=by
  cases e:K.lookup Pt with
  | none=>rfl
  | some o =>
    have:=KX _ _ e
    rw [hPt] at this
    rw [<- Option.some.inj this] at e
    exact absurd e (K7 hnt)
 have core:∀H:Hp,(∀b,H b=none\/(b=Pt/\H b=some (.tbl #[]))\/(b=a/\∃o xs,H b=some (.frz o (.lst xs))))->H Pt=some (.tbl #[])->SqL K H a (ns.map V.int)->HOk P w H s₁.heap->(H a≠none->K.lookup a=none) ->
  codeAny (model P w) callerA (.call (.ref fa) ⟨[.ref a],[]⟩) (fun r s'=>r=.ok (.ret (.bool true))/\OldK s₁.heap s'.heap/\s'.os=s₁.os/\AllBare s'.gens) s₁:=by
  intro H hO hP hS hok hK
  have base_of:∀{b:Addr} {o:Obj},s₁.heap.get? b=some o->H b=none->(G7 s₁.heap H).get? b=some o:=fun e n=>Oj e n
  have other:∀{b:Addr} {o:Obj},s₁.heap.get? b=some o->o.cls≠.type "list"->(o.cls≠.none\/∀v,o.data≠.fields v)->H b=none:=fun {b o} e n1 n2=>by
   rcases hO b with z | ⟨z,_⟩ | ⟨z,_⟩
   ·exact z
   ·subst z
    rw [hPt] at e;cases e
    rcases n2 with n2 | n2
    ·exact absurd rfl n2
    ·exact absurd rfl (n2 _)
   ·subst z
    rw [ha] at e;cases e
    exact absurd rfl n1
  have noA:∀{b:Addr} {o:Obj} {es:Array DictEntry} {ep:Nat},s₁.heap.get? b=some o->o.data=.dict es ep->H b=none:=fun {b o es ep} e d=>by
   rcases hO b with z | ⟨z,_⟩ | ⟨z,_⟩
   ·exact z
   ·subst z;rw [hPt] at e;cases e;cases d
   ·subst z;rw [ha] at e;cases e;cases d
  have nsK:∀{b:Addr} {m:Str->Option Value},s₁.heap.Ns b m->(G7 s₁.heap H).Ns b m:=fun {b m} ⟨o,es,ep,e,d,r⟩=>⟨o,es,ep,base_of e (noA e d),d,r⟩
  have hKb:K.In (G7 s₁.heap H):=fun b o e=>base_of (KX b o e) (by
   rcases hO b with z | ⟨z,_⟩ | ⟨z,y⟩
   ·exact z
   ·subst z;rw [kP] at e;cases e
   ·subst z
    cases q:H b with
    | none=>rfl
    | some u=>rw [hK (by rw [q];simp)] at e;cases e)
  have hM:Mod K mg (G7 s₁.heap H):=⟨hKb,nsK hns,⟨mb,nsK hb,hbb⟩,let ⟨mc,h1,h2⟩:=hlim;⟨mc,nsK h1,h2⟩⟩
  have LB:GH (G7 s₁.heap H) mg c Pt:=by
   refine ⟨?_,?_,?_⟩
   ·obtain ⟨o,vs',file,tf,flags,tg,inF,text,tt,e,ec,r⟩:=CodeHd.of hco hta
    exact ⟨o,vs',file,tf,flags,tg,inF,text,tt,base_of e (other e (by rw [ec];decide) (.inl (by rw [ec];decide))),ec,r⟩
   ·obtain ⟨bm,ob,b1,b2,b3,b4,r⟩:=hbm
    exact ⟨bm,ob,b1,b2,base_of b3 (other b3 (by rw [b4];decide) (.inl (by rw [b4];decide))),b4,r⟩
   ·cases e:(G7 s₁.heap H).get? Pt with
    | none=>rfl
    | some o=>rw [(LH e).2] at hP;cases hP
  have e0:KG P w K mg (G7 s₁.heap H) callerA [] s₁ H:=⟨rfl,hM,fun b o e=>LH e,Nat.le_of_eq (M5 _ _),trivial,fun b hb=>absurd (show b∈([]:List Addr) from hb) (by simp),hok,.of_eq hg⟩
  refine codeAny_mono ((F _ hKb (nsK hns) LB).run callerA [] s₁ H ⟨[.ref a],[]⟩ [.ref a] [.ref a] _ _ hr e0 (hbind s₁ (.ref a)) (.cons rfl .nil) (hsp H hP hS)) fun r s' h=>?_
  cases r with
  | error e=>exact (hCX H e s' h).elim
  | ok fl =>
    cases fl with
    | next=>exact False.elim h
    | brk=>exact False.elim h
    | cont=>exact False.elim h
    | ret u =>
      obtain ⟨v,H',os,bare,un,hok',r',q⟩:=h
      have q':v=.bl true:=q
      subst q'
      obtain rfl:u=Value.bool true:=r'
      refine ⟨rfl,⟨fun b o e=>?_,fun b o e=>un.there b o e (by simp)⟩,os,bare⟩
      rcases hO b with z | ⟨z,y⟩ | ⟨z,ob,xs,y⟩
      ·exact .inl (un.keep b o e z (by intro z;exact absurd (show b∈([]:List Addr) from z) (by simp)) (by simp))
      ·subst z
       rw [hPt] at e;cases e
       obtain ⟨more,z2⟩:=un.tbls b _ y
       exact .inr (.inl ⟨hta.isCodeTable,rfl,#[],more,rfl,hok' b _ z2⟩)
      ·have z2:=un.frzs b ob _ y
       obtain ⟨e1,_⟩:=hok b _ y
       obtain ⟨e2,_⟩:=hok' b _ z2
       rw [e] at e1;cases e1
       exact .inl e2
 cases hk:K.lookup a with
 | some o =>
   have e:=KX a o hk
   rw [ha] at e
   cases e
   refine core (fun b=>if b=Pt then some (.tbl #[]) else none) (fun b=>?_) (if_pos rfl) (.inr ⟨_,vs.toArray,_,hk,rfl,rfl,rfl,by rw [size_toArray,lenV];exact hl,by simpa using rv⟩) (fun b u z=>?_) fun z=>absurd (if_neg aP) z
   ·by_cases hb:b=Pt
    ·exact .inr (.inl ⟨hb,if_pos hb⟩)
    ·exact .inl (if_neg hb)
   ·by_cases hb:b=Pt
    ·have z':=(if_pos hb).symm.trans z
     cases z'
     subst hb
     exact hPt
    ·have z':=(if_neg hb).symm.trans z
     cases z'
 | none =>
   refine core (fun b=>if b=Pt then some (.tbl #[]) else if b=a then some (.frz { cls:=.type "list",data:=.seq vs.toArray } (.lst (ns.map V.int))) else none) (fun b=>?_) (if_pos rfl) (.inl (.inr ⟨{ cls:=.type "list",data:=.seq vs.toArray },(if_neg aP).trans (if_pos rfl)⟩)) (fun b u z=>?_) fun _=>hk
   ·by_cases hb:b=Pt
    ·exact .inr (.inl ⟨hb,if_pos hb⟩)
    ·by_cases hb2:b=a
     ·exact .inr (.inr ⟨hb2,_,_,(if_neg hb).trans (if_pos hb2)⟩)
     ·exact .inl ((if_neg hb).trans (if_neg hb2))
   ·by_cases hb:b=Pt
    ·have z':=(if_pos hb).symm.trans z
     cases z'
     subst hb
     exact hPt
    ·have z:=(if_neg hb).symm.trans z
     by_cases hb2:b=a
     ·have z':=(if_pos hb2).symm.trans z
      cases z'
      subst hb2
      exact ⟨ha,by rw [length_map];exact hl,vs,_,rv,ha⟩
     ·have z':=(if_neg hb2).symm.trans z
      cases z'
theorem walk_of1 {l:PySem.W.OpenLaw} {n k:Nat} {q:Program} {loose:List Str} {XP:(Str->Option Value)->Heap->Prop} {YP:World->Heap->Prop} {d dn:DefRec} {K:Params->PySem.W.Frag} {CX:World->CXT} {sp:World->Addr->Sp} {x:Str}
 (hn:l.most=some n) (hn2:n<=sizeLine) (hdf:d.params.defaults=[]) (hr:CN k callerA)
 (hY:∀(w:World) (h:Heap),YP w h->(K w.params).In h) (hnt:∀p,LN (K p)=true) (hdn:dn∈recsOf q)
 (F:∀(w:World) (mg:Str->Option Value) (fa f c Pt:Addr) (h:Heap),(K w.params).In h->h.Ns mainGlobals mg->mg d.name=some (.ref fa)->mg dn.name=some (.ref f)->(∃o fd,h.get? f=some o/\o.data=.func fd/\fd.code=.ref c) ->
  ∃fd:FuncData,(∀(s:Shared) (u:Value),BindsTo s fd ⟨[u],[]⟩ [(x,u)]) /\
   ∀base:Heap,(K w.params).In base->base.Ns mainGlobals mg->GH base mg c Pt->AN l.prog w (K w.params) mg base (CX w) k fa fd [x] (sp w Pt))
 (hsp:∀(w:World) (Pt:Addr) (H:Hp) (a:Addr) (ns:List Int),ns.length<=n->H Pt=some (.tbl #[])->SqL (K w.params) H a (ns.map V.int)->sp w Pt [.ref a] H (fun v _=>v=.bl true) fun _ _ _=>False)
 (hCX:∀(w:World) (H:Hp) (s:Shared) (e:Value) (s':Shared),CX w [] H s (fun _ _ _=>False) e s'->False) :
 PySem.W.WalkO q loose XP YP l.row.toRowW d [] (fun f vs=>PySem.call f vs):=by
 refine Att.attach_call hn hdf fun w s₀ s₁ mg mb fa o pm cd doc a vs ns G Y ho hd hcd hmg hobj hints hlen hg=>?_
 have KX:=hY w _ Y
 obtain ⟨f,o',fd',c,Pt,t1,t2,t3,t4,t5,t6⟩:=G.T.tab dn hdn
 obtain ⟨fd,hb,hF⟩:=F w mg fa f c Pt _ KX G.T.g hmg t1 ⟨o',fd',t2,t3,t4⟩
 exact M9 KX (hnt _) G.T.g G.T.b G.T.builtins G.T.nolimit hg hobj hints (Nat.le_trans hlen hn2) hr t5 t6 G.T.bmain hF hb (fun H hP hS=>hsp w Pt H a ns hlen hP hS) fun H e s'=>hCX w H s₁ e s'
end L2
namespace L2
open PySem PySem.W PySem.Spec PyProof.Rows
section
variable {X:Cx}
def Pz:V->List V->Hp->VK->Prop:=fun x vs H Q=>∃(l:Addr) (xs:List V) (k:Nat) (y:V),x=.ref l/\vs=[.int (k:Int),y]/\H l=some (.lst xs)/\k<=xs.length/\xs.length < sizeLine/\Q .non (upd H l (.lst (xs.take k++y :: xs.drop k)))
theorem Mw:MtM X "list.insert" Pz:=by
 intro pins s σ H x vs v us Q I rx rv h
 obtain ⟨l,xs,k,y,rfl,rfl,hH,hk,hz1,q⟩:=h
 cases rx
 obtain ⟨u1,u2,rfl,ru1,ru2⟩:∃u1 u2,us=[u1,u2]/\A8 (.int (k:Int)) u1/\A8 y u2:=by
  cases rv with
  | cons r1 t=>cases t with
    | cons r2 t2=>cases t2;exact ⟨_,_,rfl,r1,r2⟩
 obtain ⟨t,rfl⟩:=ru1
 obtain ⟨z,its,n,r,hl,e⟩:=I.lstM hH
 have hs:sizeLine=16777216:=sizeLine_eq
 obtain ⟨i,hi⟩:∃i:Int,i=(k:Int):=⟨_,rfl⟩
 rw [<- hi]
 have fi:Builtin.List.listFitsIndex i=true:=fitsIndex_both (by omega) (by omega)
 have zi:its.toArray.size<=sizeLine:=by rw [size_toArray];omega
 refine call_meets PySem.F.slot_list_insert ⟨_,e,rfl⟩ PySem.F.entry_list_insert (PySem.F.args_list_insert_3 _ _ _) (PySem.AutoSeq1.list_insert_list_int_val_1 l its.toArray n i t u2 (by simp [fi]) zi) ⟨e,?_⟩
 refine ⟨.non,_,I.lset (its':=its.take k++u2 :: its.drop k) hH e ?_ ((r.take k).append (.cons ru2 (r.drop k))) ?_,rfl,q⟩
 ·have kk:(if i < 0 then (i+(its.toArray.size:Int)).toNat else min i.toNat its.toArray.size)=k:=by
   rw [if_neg (by omega),hi,Int.toNat_natCast,size_toArray]
   omega
  show (its.toArray.extract 0 (if i < 0 then (i+(its.toArray.size:Int)).toNat else min i.toNat its.toArray.size)).push u2++its.toArray.extract (if i < 0 then (i+(its.toArray.size:Int)).toNat else min i.toNat its.toArray.size)=_
  rw [kk]
  apply Array.ext'
  simp
  exact take_of_length_le (by rw [length_drop];exact Nat.le_refl _)
 ·rw [length_append,length_cons,length_take,length_drop]
  omega
end
section
variable {X:Cx} {e:Expr} {te:TE} {p p2 pos pos2:Pos}
def Pa (K:PySem.W.Frag) (te:TE):TE:=fun σ H Q=>te σ H fun x H1=>∃(a:Addr) (ns:List Int),x=.ref a/\SqL K H1 a (ns.map V.int)/\ns.length < 64 /\
 ∀ms:List Int,ms.Nodup->(∀z,z∈ms↔z∈ns)->Q (.int (ms.length:Int)) H1
theorem My (hc:X.calm=true) (hg:Gl X "len") (hm:X.mg "len"=none) (hg2:Gl X "set") (hm2:X.mg "set"=none) (he:PE X e te)
 (hs:starEach [e] X.env=[(false,eval e X.env)]:=by rfl)
 (hs2:starEach [(.Call (.Name "set" p2) [e] [] pos2:Expr)] X.env=[(false,eval (.Call (.Name "set" p2) [e] [] pos2) X.env)]:=by rfl) :
 PE X (.Call (.Name "len" p) [.Call (.Name "set" p2) [e] [] pos2] [] pos) (Pa X.K te):=by
 intro pins s σ H Q I h
 refine wpAny_Call_Name_kw (Cf I hg hm boot_len ?_ (by decide) (by decide))
 refine callWith_builtin1 ?_ hs2 rfl
 rw [hs2]
 refine Calls.spliced_cons ?_
 refine wpAny_Call_Name_kw (Cf I hg2 hm2 boot_set ?_ (by decide) (by decide))
 refine callWith_type1 ?_ hs rfl
 rw [hs]
 refine Calls.spliced_cons (thn (he pins s σ H _ I h) fun u s1 ⟨x,H1,I1,r1,a,ns,hx,hq,h64,q⟩=>?_)
 subst hx
 cases r1
 refine Calls.spliced_nil ?_
 obtain ⟨its,rv,pl,hz⟩:=I1.list hq
 have hi:=BO rv
 have hlen:its.length=ns.length:=hi.length
 refine FR (items:=its.toArray) (ns:=ns) (I1.ok.hd hc) pl.isList (by simpa using hi) (by rw [size_toArray,hlen];unfold scanBound;omega) fun h2 tk2 hS k2=>?_
 refine Calls.spliced_nil ?_
 have ez:its.toArray.size=ns.length:=by rw [size_toArray];exact hlen
 rw [ez] at hS
 have l64:(firstMet (fun i=>ns.getD i 0) ns.length).length < 64:=by
  have:=firstMet_length_le (fun i=>ns.getD i 0) ns.length
  omega
 obtain ⟨o,es,ep,t,ms,ho,hc',hd,_,i1,i2,hsz,hf,_⟩:=hS
 have el:es.size=(firstMet (fun i=>ns.getD i 0) ns.length).length:=by
  have a1:=i1.length
  rw [length_map,Array.length_toList] at a1
  rw [a1,i2.length_eq]
 have kp:∀b o,s1.heap.get? b=some o->h2.get? b=some o:=fun b o q=>k2 b o (Heap.lt_size q) q
 have I2:=I1.kept (t':=tk2) kp
 refine call_len_set (s:={ s1 with heap:=h2,toks:=tk2 }) ho hc' hd hf (by omega) ?_
 refine ⟨.int _,H1,I2.tok _,⟨_,by rw [el]⟩,q _ (Hm _ _) fun z=>NI⟩
end
end L2
namespace L2
open PySem PySem.W PySem.Spec PyProof.Rows
section
variable {prog:Program} {w:World} {A:Around} {E:Value->Shared->Prop} {s:Shared}
end
section
variable {prog:Program} {w:World} {A:Around} {E:Value->Shared->Prop} {s:Shared}
end
section
variable {X:Cx} {e e2:Expr} {te te2:TE} {p p2 p3 pos pos2 pos3 pos4:Pos}
end
end L2
namespace L2
open PySem PySem.Spec PyProof.Rows
section
variable {X:Cx} {W:St->XK} {k:Nat} {f C:Addr} {fd:FuncData} {ps:List Str} {sp:Sp} {dvs:List V} {ds:List Value} {x m:Str} {p pos apos:Pos} {e o:Expr} {es:List Expr} {ta:TE} {t:TA}
structure Qh (K:PySem.W.Frag) (C B:Addr):Prop where
 ha:PySem.W.findIn K (.ref C) "__class__"=some (some (.builtin "object.__class__"))
 hn:PySem.W.specialIn K (.builtin "object.__class__") "__get__"=some (some (.builtin "getset_descriptor.__get__"))
 htk:PySem.W.takesIn K (.builtin "object.__class__")=some true
 hm:PySem.W.mroIn K C (.type "object")=some true
 kt:PySem.W.kitOne K (.ref C) (.ref B)=some true
theorem Nv {K:PySem.W.Frag} (hK:X.K=K:=by rfl):Ch X (.builtin "isinstance") (fun xs H Q=>∃a C dx fs B,xs=[.ref a,.ref B]/\H a=some (.ins C dx fs)/\Cls K C/\Qh K C B/\Q (.bl true) H):=by
 subst hK
 intro pins s σ H xs us Q I rv h
 obtain ⟨a,C,dx,fs,B,rfl,ha,cl,i,q⟩:=h
 obtain ⟨u,u',rfl,r1,r2⟩:=L8 rv
 cases (show u'=Value.ref B from r2)
 exact HN I r1 (.ins ha cl i.ha i.hn i.htk i.hm) i.kt fun tk=>⟨.bl true,H,I.tok tk,rfl,q⟩
theorem KU:OpR X (compareOp .Is) (fun x y H Q=>∃b:Bool,y=.bl b/\Q (.bl (decide (x=.bl b))) H):=by
 intro pins s σ H x y v u Q I rx ry h
 obtain ⟨b,rfl,q⟩:=h
 cases ry
 cases x with
 | bl a =>
   cases rx
   have e:(Value.bool a == Value.bool b)=decide (V.bl a=V.bl b):=by cases a <;> cases b <;> rfl
   refine wpAny_pure ⟨.bl (decide (V.bl a=V.bl b)),H,I,?_,q⟩
   show Value.bool (Value.bool a == Value.bool b)=Value.bool _
   rw [e]
 | _ =>
   first
    | (cases rx;exact wpAny_pure ⟨.bl false,H,I,rfl,q⟩)
    | (obtain ⟨t,rfl⟩:=rx;exact wpAny_pure ⟨.bl false,H,I,rfl,q⟩)
end
end L2
namespace L2
open PySem PySem.W PySem.Spec PyProof.Rows
section
variable {prog:Program} {w:World} {A:Around} {E:Value->Shared->Prop} {s:Shared} {Q:Bool->Shared->Prop}
end
section
variable {X:Cx}
theorem Gz:OpR X (compareOp .IsNot) (fun x y H Q=>∃b:Bool,y=.bl b/\Q (.bl (!decide (x=.bl b))) H):=by
 intro pins s σ H x y v u Q I rx ry h
 obtain ⟨b,rfl,q⟩:=h
 cases ry
 cases x with
 | bl a =>
   cases rx
   have e:(Value.bool a == Value.bool b)=decide (V.bl a=V.bl b):=by cases a <;> cases b <;> rfl
   refine wpAny_pure ⟨.bl (!decide (V.bl a=V.bl b)),H,I,?_,q⟩
   show Value.bool (!(Value.bool a == Value.bool b))=Value.bool _
   rw [e]
 | _ =>
   first
    | (cases rx;exact wpAny_pure ⟨.bl true,H,I,rfl,q⟩)
    | (obtain ⟨t,rfl⟩:=rx;exact wpAny_pure ⟨.bl true,H,I,rfl,q⟩)
end
end L2
namespace L2
open PySem PySem.Spec PyProof.Rows
section
variable {prog:Program} {w:World} {A:Around} {E:Value->Shared->Prop} {s:Shared} {d:Addr} {es:Array DictEntry} {ep:Nat}
end
section
variable {X:Cx}
end
section
variable {prog:Program} {w:World} {A:Around} {E:Value->Shared->Prop} {s:Shared}
end
section
variable {X:Cx}
end
end L2
namespace PySem
open Sem (wp)
section
variable {prog:Program} {w:World} {K:Type} [DecidableEq K] (knd:KeyKind prog w K)
variable {knd}
variable {A:Around} {E:Value->Shared->Prop} {s:Shared}
end
end PySem
namespace L2
open PySem PySem.Spec PyProof.Rows
section
variable {P:Program} {w:World} {H:Hp} {h:Heap} {a:Addr}
end
section
variable {X:Cx} {o i e value:Expr} {pos pos' tpos:Pos} {td ty tv:TE}
end
end L2
namespace L2
open PySem PySem.Spec PyProof.Rows
section
variable {X:Cx}
theorem QO (hu:X.A.units+1 < cLine):OpR X (compareOp .In) (fun y x H Q=>∃a o,x=.ref a/\DE H a y o/\Q (.bl o.isSome) H):=by
 intro pins s σ H x y u v Q I rx ry h
 obtain ⟨a,o,rfl,g,q⟩:=h
 cases ry
 exact Sc hu I g rx fun s' I'=>⟨.bl o.isSome,H,I',rfl,q⟩
end
section
variable {prog:Program} {w:World} {A:Around} {E:Value->Shared->Prop} {s:Shared}
end
end L2
namespace L2
open PySem PySem.Spec PyProof.Rows
section
variable {prog:Program} {w:World} {A:Around} {E:Value->Shared->Prop} {s:Shared}
end
section
variable {prog:Program} {w:World} {A:Around} {E:Value->Shared->Prop} {s:Shared}
end
section
variable {X:Cx} {pins:List (Addr × Obj)} {σ:St} {H:Hp}
end
section
variable {X:Cx} {e:Expr} {te:TE} {p p2 pos pos2:Pos}
end
end L2
namespace L2
open PySem PySem.Spec PyProof.Rows
section
variable {X:Cx} {pins:List (Addr × Obj)} {σ:St} {H:Hp}
end
end L2
namespace L2
open PySem PySem.Spec PyProof.Rows
end L2
set_option maxHeartbeats 4000000
namespace Law
open PySem L2
def Lv (K:PySem.W.Frag) (P:Addr):Sp:=fun vs H Q _=>∃(p:Addr) (ns:List Int),vs=[.ref p]/\SqL K H p (ns.map V.int)/\ns.length<=63/\H P=some (.tbl #[])/\∀H',Q (.bl true) H'
def PB:Sp:=fun vs H Q _=>∃c:Int,vs=[.int c]/\Q (.bl true) H
theorem Ad {H:Hp} {p:Addr} (h:H p=none) (o:HO):Aq H (upd H p o):=fun b u q=>by rw [Ai (AZ q h)];exact q
theorem By (x:Int) {y:Int} (h:0 < y):0<=x.fmod y/\x.fmod y < y:=⟨Int.fmod_nonneg_of_pos x h,Int.fmod_lt_of_pos x h⟩
theorem Pu (x:Int) {y:Int} {n:Nat} (h:0 < y) (k:Sz n y):Sz n (x.fmod y):=by
 have e:=By x h
 unfold Sz at k ⊢
 omega
def OC:Pos:=⟨35,32,35,55⟩
def RJ:Str:=("reached_from":Str)++".<locals>."++"<lambda>"
theorem ES {xs:List V} {j:Nat}:Gs xs (some (j:Int)) none=xs.drop j:=by
 unfold Gs
 rw [HT.sIx_none,HT.sIx_nat]
 by_cases h:j<=xs.length
 ·rw [Nat.min_eq_left h]
  exact take_of_length_le (by rw [length_drop];exact Nat.le_refl _)
 ·rw [Nat.min_eq_right (by omega),drop_of_length_le (Nat.le_refl _),drop_of_length_le (by omega)]
  exact take_nil
def bit (m:Int) (i:Nat):Bool:=decide (m / 2 ^ i % 2=1)
def A9:Nat->(Nat->Bool)->Int
 | 0,_=>0
 | n+1,f=>(if f 0=true then 1 else 0)+2*A9 n (fun i=>f (i+1))
theorem Fo (s:Int) (i:Nat):bit (s / 2) i=bit s (i+1):=by
 unfold bit
 rw [Int.ediv_ediv_of_nonneg (by decide:(0:Int)<=2)]
 have e:(2:Int)*2 ^ i=2 ^ (i+1):=by rw [Int.pow_succ,Int.mul_comm]
 rw [e]
theorem ER (s:Int):bit s 0=decide (s % 2=1):=by
 unfold bit
 rw [Int.pow_zero,Int.ediv_one]
theorem CS:∀n f,0<=A9 n f
 | 0,_=>Int.le_refl _
 | n+1,f=>by
   have:=CS n (fun i=>f (i+1))
   show 0<=(if f 0=true then (1:Int) else 0)+2*A9 n (fun i=>f (i+1))
   split <;> omega
theorem Gy:∀n f,A9 n f < 2 ^ n
 | 0,_=>by show (0:Int) < 1;decide
 | n+1,f=>by
   have:=Gy n (fun i=>f (i+1))
   show (if f 0=true then (1:Int) else 0)+2*A9 n (fun i=>f (i+1)) < 2 ^ (n+1)
   rw [Int.pow_succ]
   split <;> omega
theorem Iq (n f):A9 (n+1) f / 2=A9 n (fun i=>f (i+1)):=by
 show ((if f 0=true then (1:Int) else 0)+2*A9 n (fun i=>f (i+1))) / 2=_
 split <;> omega
theorem GA (n f):(A9 (n+1) f % 2=1)↔f 0=true:=by
 show (((if f 0=true then (1:Int) else 0)+2*A9 n (fun i=>f (i+1))) % 2=1)↔_
 split <;> rename_i h
 ·exact ⟨fun _=>h,fun _=>by omega⟩
 ·exact ⟨fun e=>by omega,fun e=>absurd e h⟩
theorem AS:∀n {f g:Nat->Bool},(∀i,i < n->f i=g i)->A9 n f=A9 n g
 | 0,_,_,_=>rfl
 | n+1,f,g,h=>by
   show (if f 0=true then (1:Int) else 0)+2*A9 n (fun i=>f (i+1))=(if g 0=true then (1:Int) else 0)+2*A9 n (fun i=>g (i+1))
   rw [h 0 (by omega),AS n (f:=fun i=>f (i+1)) (g:=fun i=>g (i+1)) fun i hi=>h (i+1) (by omega)]
theorem Cu:∀n f,A9 (n+1) f=A9 n f+(if f n=true then 2 ^ n else 0)
 | 0,f=>by
   show (if f 0=true then (1:Int) else 0)+2*0=0+(if f 0=true then (1:Int) else 0)
   split <;> decide
 | n+1,f=>by
   show (if f 0=true then (1:Int) else 0)+2*A9 (n+1) (fun i=>f (i+1))=(if f 0=true then (1:Int) else 0)+2*A9 n (fun i=>f (i+1))+(if f (n+1)=true then 2 ^ (n+1) else 0)
   rw [Cu n (fun i=>f (i+1)),Int.pow_succ]
   split <;> split <;> omega
theorem BX:∀n f i,bit (A9 n f) i=(decide (i < n) && f i)
 | 0,f,i=>by
   unfold bit
   show decide ((0:Int) / 2 ^ i % 2=1)=_
   rw [Int.zero_ediv]
   rfl
 | n+1,f,0=>by
   rw [ER]
   by_cases h:f 0=true
   ·rw [decide_eq_true ((GA n f).mpr h),h];rfl
   ·rw [decide_eq_false (fun e=>h ((GA n f).mp e)),Bool.eq_false_iff.mpr h];rfl
 | n+1,f,i+1=>by
   rw [<- Fo,Iq,BX n]
   have:decide (i < n)=decide (i+1 < n+1):=by
    by_cases h:i < n
    ·rw [decide_eq_true h,decide_eq_true (by omega)]
    ·rw [decide_eq_false h,decide_eq_false (by omega)]
   rw [this]
theorem Kt:∀n f s,Builtin.bitAnd (A9 n f) s=A9 n (fun i=>f i && bit s i)
 | 0,f,s=>by
   show Builtin.bitAnd 0 s=0
   rw [PyProof.Rows.bitAnd_comm,PyProof.Rows.bitAnd_zero]
 | n+1,f,s=>by
   rw [PySem.W.kbt_halves,Iq,Kt n]
   show _=(if (f 0 && bit s 0)=true then (1:Int) else 0)+2*A9 n (fun i=>f (i+1) && bit s (i+1))
   have e:A9 n (fun i=>f (i+1) && bit (s / 2) i)=A9 n (fun i=>f (i+1) && bit s (i+1)):=AS n fun i _=>by rw [Fo]
   rw [e]
   have c:(A9 (n+1) f % 2=1/\s % 2=1)↔(f 0 && bit s 0)=true:=by
    rw [Bool.and_eq_true,GA,ER,decide_eq_true_eq]
   by_cases h:(f 0 && bit s 0)=true
   ·rw [if_pos h,if_pos (c.mpr h)];omega
   ·rw [if_neg h,if_neg (fun z=>h (c.mp z))];omega
theorem FP {n:Nat} {f:Nat->Bool} (h:∀i,i < n->f i=false):A9 n f=0:=by
 induction n with
 | zero=>rfl
 | succ n ih =>
   rw [Cu,h n (by omega),ih fun i hi=>h i (by omega)]
   rfl
theorem OV {n:Nat} {f:Nat->Bool} {i:Nat} (hi:i < n) (h:f i=true):A9 n f≠0:=by
 intro e
 have:=BX n f i
 rw [e,h,decide_eq_true hi] at this
 unfold bit at this
 rw [Int.zero_ediv] at this
 exact absurd this (by decide)
def hands (n:Nat) (f:Nat->Bool):List Int:=((List.range n).filter f).map fun i:Nat=>(i:Int)
theorem Di (n:Nat) (f:Nat->Bool):hands (n+1) f=if f n=true then hands n f++[(n:Int)] else hands n f:=by
 unfold hands
 rw [range_succ,filter_append,map_append]
 by_cases h:f n=true
 ·rw [if_pos h];simp [h]
 ·rw [if_neg h]
  have h':f n=false:=by simpa using h
  simp [h']
theorem Dy (n:Nat) (f:Nat->Bool):(hands n f).length<=n:=by
 unfold hands
 rw [length_map]
 exact Nat.le_trans (length_filter_le _ _) (by simp)
theorem DD {n:Nat} {f:Nat->Bool} {z:Int}:z∈hands n f↔∃i:Nat,i < n/\f i=true/\z=(i:Int):=by
 unfold hands
 rw [mem_map]
 constructor
 ·rintro ⟨i,hi,rfl⟩
  obtain ⟨h1,h2⟩:=mem_filter.mp hi
  exact ⟨i,mem_range.mp h1,h2,rfl⟩
 ·rintro ⟨i,h1,h2,rfl⟩
  exact ⟨i,mem_filter.mpr ⟨mem_range.mpr h1,h2⟩,rfl⟩
def Qw (hs:List Int):Int:=(hs.map fun h=>(1:Int)*2 ^ h.toNat).sum
theorem EJ:∀n f,Qw (hands n f)=A9 n f
 | 0,f=>rfl
 | n+1,f=>by
   rw [Di,Cu]
   by_cases h:f n=true
   ·rw [if_pos h,if_pos h]
    unfold Qw
    rw [map_append,sum_append]
    have:=EJ n f
    unfold Qw at this
    rw [this]
    simp
   ·rw [if_neg h,if_neg h,EJ n f]
    omega
def ins (x:Int):List Int->List Int
 | []=>[x]
 | y :: r=>if x < y then x :: y :: r else if x=y then y :: r else y :: ins x r
def CQ:List Int->List Int
 | []=>[]
 | x :: r=>ins x (CQ r)
theorem Jq {x z:Int}:∀{l:List Int},z∈ins x l↔z=x\/z∈l
 | []=>by unfold ins;simp
 | y :: r=>by
   unfold ins
   split
   ·simp
   ·split
    ·rename_i h;subst h;simp
    ·rw [mem_cons,Jq (l:=r),mem_cons]
     constructor
     ·rintro (h | h | h)
      ·exact .inr (.inl h)
      ·exact .inl h
      ·exact .inr (.inr h)
     ·rintro (h | h | h)
      ·exact .inr (.inl h)
      ·exact .inl h
      ·exact .inr (.inr h)
theorem JM {x:Int}:∀{l:List Int},l.Pairwise (· < ·)->(ins x l).Pairwise (· < ·)
 | [],_=>by unfold ins;simp
 | y :: r,h=>by
   unfold ins
   rw [pairwise_cons] at h
   split
   ·rename_i c
    rw [pairwise_cons]
    refine ⟨fun z hz=>?_,pairwise_cons.mpr h⟩
    rcases mem_cons.mp hz with e | e
    ·omega
    ·have:=h.1 z e;omega
   ·split
    ·exact pairwise_cons.mpr h
    ·rename_i c d
     rw [pairwise_cons]
     refine ⟨fun z hz=>?_,JM h.2⟩
     rcases Jq.mp hz with e | e
     ·omega
     ·exact h.1 z e
theorem Fa {z:Int}:∀{l:List Int},z∈CQ l↔z∈l
 | []=>Iff.rfl
 | x :: r=>by
   show z∈ins x (CQ r)↔_
   rw [Jq,Fa,mem_cons]
theorem FJ:∀l:List Int,(CQ l).Pairwise (· < ·)
 | []=>.nil
 | x :: r=>JM (FJ r)
theorem Ib:∀{a b:List Int},a.Pairwise (· < ·)->b.Pairwise (· < ·)->(∀z,z∈a↔z∈b)->a=b
 | [],[],_,_,_=>rfl
 | [],y :: b,_,_,h=>nomatch (h y).mpr (mem_cons_self ..)
 | x :: a,[],_,_,h=>nomatch (h x).mp (mem_cons_self ..)
 | x :: a,y :: b,ha,hb,h=>by
   rw [pairwise_cons] at ha hb
   have e:x=y:=by
    rcases mem_cons.mp ((h x).mp (mem_cons_self ..)) with e | e
    ·exact e
    ·rcases mem_cons.mp ((h y).mpr (mem_cons_self ..)) with f | f
     ·exact f.symm
     ·have:=ha.1 y f
      have:=hb.1 x e
      omega
   subst e
   rw [Ib ha.2 hb.2 fun z=>?_]
   constructor
   ·intro hz
    rcases mem_cons.mp ((h z).mp (mem_cons_of_mem _ hz)) with e | e
    ·have:=ha.1 z hz;omega
    ·exact e
   ·intro hz
    rcases mem_cons.mp ((h z).mpr (mem_cons_of_mem _ hz)) with e | e
    ·have:=hb.1 z hz;omega
    ·exact e
theorem Px {ms ns:List Int} (h:ms.Pairwise (· < ·)) (m:∀z,z∈ms↔z∈ns):ms=CQ ns:=Ib h (FJ ns) fun z=>(m z).trans Fa.symm
theorem Kb:∀l:List Int,(CQ l).length<=l.length
 | []=>Nat.le_refl _
 | x :: r=>by
   have ih:=Kb r
   have:∀l:List Int,(ins x l).length<=l.length+1:=by
    intro l
    induction l with
    | nil=>exact Nat.le_refl _
    | cons y l ihl =>
      unfold ins
      split
      ·exact Nat.le_refl _
      ·split
       ·exact Nat.le_succ _
       ·exact Nat.succ_le_succ ihl
   exact Nat.le_trans (this (CQ r)) (Nat.succ_le_succ ih)
def isR (rs:List Int) (r:Int) (i:Nat):Bool:=decide (rs[i]?=some r)
def CU (rs:List Int) (r:Int):Int:=A9 rs.length (isR rs r)
def Cc (rs:List Int):List Int:=((CQ rs).filter fun r=>decide (0 < r)).map (CU rs)
def Rm (K:PySem.W.Frag):Sp:=fun vs H Q _=>∃(p:Addr) (ns:List Int) (k:Int),vs=[.ref p,.int k]/\SqL K H p (ns.map V.int)/\ns.length<=63/\0<=k/\k<=1000/\∀z:Int,0<=z->z < 10 ^ 40->Q (.int z) H
def PD:Sp:=fun vs H Q _=>∃c b:Int,vs=[.int c,.int b]/\Sz 200 c/\Sz 64 b/\∀z:Int,0<=z->z < 10 ^ 18->Q (.int z) H
theorem P0 {c:Int} (h0:0<=c) (h:c < 10 ^ 40):Sz 200 c:=Ef (by omega) (by omega)
theorem QG {c:Int} (h0:0<=c) (h:c < 10 ^ 18):Sz 64 c:=Ef (by omega) (by omega)
theorem L3 (x:Int):0<=(x.fmod ((10:Int) ^ (18:Int).toNat+3)).fdiv 7/\(x.fmod ((10:Int) ^ (18:Int).toNat+3)).fdiv 7 < 10 ^ 18:=by
 have h:=By x (show (0:Int) < (10:Int) ^ (18:Int).toNat+3 by decide)
 generalize x.fmod ((10:Int) ^ (18:Int).toNat+3)=y at h ⊢
 rw [Int.fdiv_eq_ediv_of_nonneg y (by decide)]
 have e:(10:Int) ^ (18:Int).toNat=1000000000000000000:=by decide
 rw [e] at h
 omega
theorem Aw {H H':Hp} {l:Addr} {o:HO} (s:Aq H H') (n:H l=none):Aq H (upd H' l o):=fun b u e=>by
 rw [Ai (AZ e n)]
 exact s b u e
theorem ifT {c:Bool} {A B:Prop} (e:c=true) (h:A):if c=true then A else B:=by rw [if_pos e];exact h
theorem ifF {c:Bool} {A B:Prop} (e:c=false) (h:B):if c=true then A else B:=by rw [if_neg (by rw [e];decide)];exact h
theorem Ow {a b:Int} (h:a≠b):(!decide (V.int a=V.int b))=true:=by rw [decide_eq_false (fun e=>h (V.int.inj e))];rfl
theorem KW {a b:Int} (h:a=b):(!decide (V.int a=V.int b))=false:=by rw [h,decide_eq_true rfl];rfl
theorem Qa {a b:Int} (h:a=b):decide (V.int a=V.int b)=true:=by rw [h];exact decide_eq_true rfl
theorem RN {a b:Int} (h:a≠b):decide (V.int a=V.int b)=false:=decide_eq_false fun e=>h (V.int.inj e)
theorem int_at {ns:List Int} {i:Nat} {x:V} (h:(ns.map V.int)[i]?=some x):∃z,ns[i]?=some z/\x=.int z:=by
 rw [List.getElem?_map] at h
 cases e:ns[i]? with
 | none=>rw [e] at h;cases h
 | some z=>rw [e] at h;exact ⟨z,rfl,(Option.some.inj h).symm⟩
theorem atN {ns:List Int} {i:Nat} {z:Int} (h:ns[i]?=some z):atI (ns.map V.int) (i:Int)=some (.int z):=DN (by rw [List.getElem?_map,h];rfl)
theorem Ig {h:Nat} (hh:h < 64):NH 1 (h:Int):=⟨by omega,by omega,by decide⟩
theorem Sf (x:Int):Builtin.bitAnd x 1=x % 2:=PySem.W.kbt_mask x 1
theorem Ii (m:Int) (h:Int):decide (V.int (Builtin.bitAnd (m / 2 ^ h.toNat) 1)=V.int 1)=bit m h.toNat:=by
 unfold bit
 rw [Sf]
 by_cases c:m / 2 ^ h.toNat % 2=1
 ·rw [decide_eq_true c,decide_eq_true (congrArg V.int c)]
 ·rw [decide_eq_false c,decide_eq_false fun e=>c (V.int.inj e)]
theorem P3 (m:Int) (i:Nat):m / 2 ^ i % 2=if bit m i=true then 1 else 0:=by
 have e:m / 2 ^ i % 2=0\/m / 2 ^ i % 2=1:=by omega
 unfold bit
 rcases e with e | e
 ·rw [e];rfl
 ·rw [e];rfl
theorem OP (m:Int) (h:Nat):Builtin.bitOr m (1*2 ^ h)=m+2 ^ h*(if (!bit m h)=true then 1 else 0):=by
 rw [Int.one_mul,PyProof.Rows.bitOr_and,PySem.W.kbt_bit,P3]
 cases bit m h <;> simp
def Pq:Sp:=fun vs H Q _=>∃m h:Int,vs=[.int m,.int h]/\0<=h/\Q (.bl (bit m h.toNat)) H
def Ro:Sp:=fun vs H Q _=>∃h:Int,vs=[.int h]/\0<=h/\h<=12/\Q (.int (1*2 ^ h.toNat - 1)) H
def Qr:Sp:=fun vs H Q _=>∃m h:Int,vs=[.int m,.int h]/\0<=h/\h < 12/\Q (.int (Builtin.bitOr m (1*2 ^ h.toNat))) H
def MD:Sp:=fun vs H Q _=>∃m:Int,vs=[.int m]/\0<=m/\m < 4096/\∀(p:Addr) (H':Hp),H p=none->Aq H H'->H' p=some (.lst ((hands 12 (bit m)).map V.int))->Q (.ref p) H'
abbrev Tb:=List (Addr × List Int)
def vtb (t:Tb):List V:=t.map fun r=>.ref r.1
def Ru (H:Hp) (t:Tb) (h:Nat):Prop:=t.length=h/\∀r∈t,H r.1=some (.lst (r.2.map V.int))/\r.2.length=h
def ups (n:Nat):List Int:=(List.range n).map fun i:Nat=>(i:Int)
def LX:Sp:=fun vs H Q _=>∃(a:Addr) (t:Tb) (h:Nat),vs=[.ref a]/\H a=some (.lst (vtb t))/\t.length=h/\h<=12/\∀(l:Addr) (H':Hp),H l=none->Aq H H'->H' l=some (.lst ((ups h).map V.int))->Q (.ref l) H'
theorem atG {xs:List Int} {n:Nat} (h:n < xs.length):atI (xs.map V.int) (n:Int)=some (.int (xs.getD n 0)):=by
 refine atN ?_
 rw [getD_eq_getElem?_getD,List.getElem?_eq_getElem h]
 rfl
theorem IH {n i:Nat} {z:Int} (h:(ups n)[i]?=some z):z=(i:Int)/\i < n:=by
 unfold ups at h
 rw [List.getElem?_map] at h
 obtain ⟨j,hj,rfl⟩:=Option.map_eq_some_iff.mp h
 have hi:i < n:=by
  have:=(List.getElem?_eq_some_iff.mp hj).1
  rwa [length_range] at this
 rw [List.getElem?_range hi] at hj
 exact ⟨by rw [<- Option.some.inj hj],hi⟩
theorem BH (n:Nat):(ups n).length=n:=by unfold ups;rw [length_map,length_range]
def Bg (rs:List Int) (i:Nat):Int:=if rs.getD i 0=0 then 1000000000 else rs.getD i 0
abbrev Vo:=List (Addr × Addr × List Int × Int)
def vvo (vo:Vo):List V:=vo.map fun q=>.ref q.1
def Ek (h:Nat) (H:Hp) (vo:Vo):Prop:=∀q∈vo,H q.1=some (.tup [.ref q.2.1,.int q.2.2.2])/\H q.2.1=some (.lst (q.2.2.1.map V.int))/\q.2.2.1.length=h
theorem Ek.same {h:Nat} {H H':Hp} {vo:Vo} (s:Aq H H') (g:Ek h H vo):Ek h H' vo:=fun q m=>⟨s _ _ (g q m).1,s _ _ (g q m).2.1,(g q m).2.2⟩
theorem LD {vo:Vo} {i:Nat} {x:V} (h:(vvo vo)[i]?=some x):∃q,vo[i]?=some q/\x=.ref q.1/\q∈vo/\vo.take (i+1)=vo.take i++[q]:=by
 unfold vvo at h
 rw [List.getElem?_map] at h
 obtain ⟨q,hq,rfl⟩:=Option.map_eq_some_iff.mp h
 exact ⟨q,hq,rfl,mem_of_getElem? hq,by rw [take_add_one,hq];rfl⟩
theorem Gx (vo:Vo):(vvo vo).length=vo.length:=length_map ..
def Jh (f:List Int->Bool) (vo:Vo):Int:=(vo.map fun q=>if f q.2.2.1=true then q.2.2.2 else 0).sum
theorem Io (f:List Int->Bool) (a:Vo) (q:Addr × Addr × List Int × Int):Jh f (a++[q])=Jh f a+if f q.2.2.1=true then q.2.2.2 else 0:=by
 unfold Jh
 rw [map_append,sum_append]
 show _+(_+0)=_
 rw [Int.add_zero]
def P9:Sp:=fun vs H Q _=>∃(a:Addr) (rs:List Int) (i:Nat),vs=[.ref a,.int (i:Int)]/\H a=some (.lst (rs.map V.int))/\i < rs.length/\Q (.int (Bg rs i)) H
theorem Ri {n j:Nat} (h:j < n):seqIndex? (j:Int) n=some j:=(Jb (i:=(j:Int)) (by unfold ixN;rw [if_pos (by omega)];simp [h])).1
theorem map_erase {α β:Type} (f:α->β):∀(l:List α) (k:Nat),(l.map f).eraseIdx k=(l.eraseIdx k).map f
 | [],_=>rfl
 | _ :: _,0=>rfl
 | x :: l,k+1=>by
   show f x :: (l.map f).eraseIdx k=f x :: (l.eraseIdx k).map f
   rw [map_erase f l k]
theorem Kd:∀{b:List Int} {k:Nat} {y:Int},b[k]?=some y->(y :: b.eraseIdx k).Perm b
 | x :: b,0,y,h=>by
   have:x=y:=Option.some.inj h
   rw [this]
   exact List.Perm.refl _
 | x :: b,k+1,y,h=>by
   show (y :: x :: b.eraseIdx k).Perm (x :: b)
   exact (List.Perm.swap x y _).trans ((Kd (b:=b) (k:=k) h).cons x)
theorem none_of {H H':Hp} {a:Addr} (s:Aq H H') (h:H' a=none):H a=none:=by
 cases e:H a with
 | none=>rfl
 | some u=>rw [s _ _ e] at h;cases h
theorem erase_perm {a b c:List Int} {k:Nat} {y:Int} (h:b[k]?=some y) (p:(a++b).Perm c):(a++[y]++b.eraseIdx k).Perm c:=by
 rw [append_assoc]
 exact (List.Perm.append_left a (Kd h)).trans p
theorem NA {z d:Int} (z0:0<=z) (h:1<=d) (z1:z < 10 ^ 18):0<=z.fdiv d/\z.fdiv d < 10 ^ 18:=by
 have l:=Int.fmod_def z d
 have m:=By z (show 0 < d by omega)
 have a:0<=z.fdiv d:=by
  rcases (by omega:0<=z.fdiv d\/z.fdiv d<=-1) with c | c
  ·exact c
  ·have:=Int.mul_le_mul_of_nonneg_left c (show 0<=d by omega)
   omega
 refine ⟨a,?_⟩
 have:=Int.mul_le_mul_of_nonneg_right h a
 omega
theorem Op {z d:Int} (z0:0<=z) (d1:1<=d) (z1:z < 10 ^ 40):0<=z.fdiv d/\z.fdiv d < 10 ^ 40:=by
 rw [Int.fdiv_eq_ediv_of_nonneg _ (by omega)]
 exact ⟨Int.ediv_nonneg z0 (by omega),Int.lt_of_le_of_lt (Int.ediv_le_self _ z0) z1⟩
def Nl:Sp:=fun vs H Q _=>∃c h:Int,vs=[.int c,.int h]/\0<=c/\c < 10 ^ 40/\1<=h/\h<=12/\∀(l:Addr) (ns:List Int) (H':Hp),Aq H H'->H' l=some (.lst (ns.map V.int))->ns.Perm (ups h.toNat)->Q (.ref l) H'
theorem u1 {n:Nat} (h:n+64 < cLine):n+1 < cLine:=by omega
theorem Nx {m:Int} {i:Nat} (h0:0<=m) (h:m < 2 ^ i):bit m i=false:=by
 unfold bit
 rw [Int.ediv_eq_zero_of_lt h0 h]
 decide
theorem Ha {m:Int} {k:Nat} (h0:0<=m) (h:m < 2 ^ k):∀d:Nat,hands (k+d) (bit m)=hands k (bit m)
 | 0=>rfl
 | d+1=>by
   have p:(2:Int) ^ k<=2 ^ (k+d):=by
    have q:2 ^ k<=2 ^ (k+d):=Nat.pow_le_pow_right (by decide) (by omega)
    have e1:((2 ^ k:Nat):Int)=(2:Int) ^ k:=by simp
    have e2:((2 ^ (k+d):Nat):Int)=(2:Int) ^ (k+d):=by simp
    omega
   show hands ((k+d)+1) (bit m)=hands k (bit m)
   rw [Di,Nx h0 (by omega),if_neg (by decide),Ha h0 h d]
theorem No {m:Int} (h0:0<=m) (h:m < 4096):hands (Builtin.Int.intBits m) (bit m)=hands 12 (bit m):=by
 have b:Builtin.Int.intBits m<=12:=intBits_le_iff.mpr (by show m.natAbs < 4096;omega)
 have l:m.natAbs < 2 ^ Builtin.Int.intBits m:=intBits_le_iff.mp (Nat.le_refl _)
 have l':m < (2:Int) ^ Builtin.Int.intBits m:=by
  have e:((2 ^ Builtin.Int.intBits m:Nat):Int)=(2:Int) ^ Builtin.Int.intBits m:=by simp
  omega
 obtain ⟨d,hd⟩:∃d,12=Builtin.Int.intBits m+d:=⟨12 - Builtin.Int.intBits m,by omega⟩
 rw [hd,Ha h0 l' d]
abbrev Ls:=List (Addr × Addr × List Int × Int)
def vls (ls:Ls):List V:=ls.map fun q=>.ref q.1
def FZ (h:Nat) (ts:List Int):Prop:=∃rs:List Int,rs.length=h/\(∀r∈rs,0<=r/\r<=12)/\ts=Cc rs
def CO (h:Nat) (H:Hp) (ls:Ls):Prop:=∀q∈ls,H q.1=some (.tup [.ref q.2.1,.int q.2.2.2])/\H q.2.1=some (.tup (q.2.2.1.map V.int))/\FZ h q.2.2.1
theorem CO.same {h:Nat} {H H':Hp} {ls:Ls} (s:Aq H H') (g:CO h H ls):CO h H' ls:=fun q m=>⟨s _ _ (g q m).1,s _ _ (g q m).2.1,(g q m).2.2⟩
theorem CO.sub {h:Nat} {H:Hp} {a b:Ls} (g:CO h H a) (k:∀q∈b,q∈a):CO h H b:=fun q m=>g q (k q m)
theorem Pi {ls:Ls} {i:Nat} {x:V} (h:(vls ls)[i]?=some x):∃q,ls[i]?=some q/\x=.ref q.1/\q∈ls/\ls.take (i+1)=ls.take i++[q]:=by
 unfold vls at h
 rw [List.getElem?_map] at h
 cases e:ls[i]? with
 | none=>rw [e] at h;cases h
 | some q =>
   rw [e] at h
   refine ⟨q,rfl,(Option.some.inj h).symm,mem_of_getElem? e,?_⟩
   rw [take_succ,e]
   rfl
theorem LJ (ls:Ls):(vls ls).length=ls.length:=length_map ..
def QV (K:PySem.W.Frag):Sp:=fun vs H Q _=>∃(p:Addr) (rs:List Int),vs=[.ref p]/\SqL K H p (rs.map V.int)/\rs.length<=12 /\
 ∀(t:Addr) (H':Hp),H t=none->Aq H H'->H' t=some (.tup ((Cc rs).map V.int))->Q (.ref t) H'
def InR (h:Int) (rs:List Int):Prop:=(rs.length:Int)=h/\∀r∈rs,0<=r/\r<=12
def M0:Sp:=fun vs H Q _=>∃c h:Int,vs=[.int c,.int h]/\0<=c/\c < 10 ^ 18/\1<=h/\h<=12/\∀(l:Addr) (rs:List Int) (H':Hp),H l=none->Aq H H'->H' l=some (.lst (rs.map V.int))->InR h rs->Q (.ref l) H'
theorem NY {rs:List Int} {r:Int} (m:r∈rs):0 < CU rs r:=by
 obtain ⟨i,hi⟩:=List.getElem?_of_mem m
 have:=OV (f:=isR rs r) (List.getElem?_eq_some_iff.mp hi).1 (by unfold isR;exact decide_eq_true hi)
 have:=CS rs.length (isR rs r)
 unfold CU
 omega
def HG (rs:List Int) (us:List Int):List Int:=us.map fun r=>if 0 < r then CU rs r else 0
theorem Hs {rs:List Int}:∀us:List Int,(∀u∈us,u∈rs)->(HG rs us).filter (fun t=>decide (0 < t))=(us.filter fun r=>decide (0 < r)).map (CU rs)
 | [],_=>rfl
 | u :: us,h=>by
   have ih:=Hs us fun x m=>h x (mem_cons_of_mem _ m)
   show ((if 0 < u then CU rs u else 0) :: HG rs us).filter _=_
   by_cases c:0 < u
   ·rw [if_pos c,filter_cons_of_pos (p:=fun t=>decide (0 < t)) (decide_eq_true (NY (h u (mem_cons_self ..)))),filter_cons_of_pos (p:=fun r=>decide (0 < r)) (decide_eq_true c),map_cons,ih]
   ·rw [if_neg c,filter_cons_of_neg (p:=fun t=>decide (0 < t)) (by decide),filter_cons_of_neg (p:=fun r=>decide (0 < r)) (by show ¬ decide (0 < u)=true;rw [decide_eq_false c];decide),ih]
def NK (vo:Vo):Prop:=∀q∈vo,1<=q.2.2.2/\q.2.2.2<=1000000000/\∀r∈q.2.2.1,0<=r/\r<=12
def Pr (vo:Vo):Prop:=∀q∈vo,1<=q.2.2.2/\q.2.2.2<=20000000000/\∀r∈q.2.2.1,0<=r/\r<=12
theorem NK.up {vo:Vo} (n:NK vo):Pr vo:=fun q m=>⟨(n q m).1,Int.le_trans (n q m).2.1 (by decide),(n q m).2.2⟩
def MV (K:PySem.W.Frag):Sp:=fun vs H Q _=>∃(p:Addr) (ns:List Int) (a m h:Int),vs=[.ref p,.int a,.int m,.int h]/\SqL K H p (ns.map V.int)/\ns.length<=63/\a=2/\m=12/\1<=h/\h<=12 /\
 ∀(l:Addr) (vo:Vo) (H':Hp),Aq H H'->H' l=some (.lst (vvo vo))->vo.length<=12->1<=vo.length->Ek h.toNat H' vo->NK vo->Q (.ref l) H'
def Iw (h:Nat) (kvs:List (List Key × V)):Prop:=∀q∈kvs,∃(ts:List Int) (n:Int),q=(ts.map Sum.inl,.int n)/\FZ h ts
theorem NG (ts:List Int):(ts.map Sum.inl:List Key).map kV=ts.map V.int:=by rw [map_map];rfl
theorem Mf {h:Nat} {kvs:List (List Key × V)} {ts:List Int} {n:Int} (g:Iw h kvs) (f:FZ h ts):Iw h (Ck kvs (ts.map Sum.inl) (.int n)):=by
 intro q m
 unfold Ck at m
 split at m
 ·obtain ⟨p,pm,rfl⟩:=mem_map.mp m
  split
  ·rename_i e
   exact ⟨ts,n,by rw [e],f⟩
  ·exact g p pm
 ·rcases mem_append.mp m with m | m
  ·exact g q m
  ·rw [mem_singleton.mp m];exact ⟨ts,n,rfl,f⟩
theorem Oy {κ:Type} [DecidableEq κ] (kvs:List (κ × V)) (k:κ) (v:V):(Ck kvs k v).length<=kvs.length+1:=by
 unfold Ck
 split
 ·rw [length_map];omega
 ·rw [length_append];exact Nat.le_refl _
theorem HP {h:Nat} {kvs:List (List Key × V)} {k:List Key} {v:V} (g:Iw h kvs) (e:Cn kvs k=some v):∃n:Int,v=.int n:=by
 unfold Cn at e
 cases c:kvs.find? fun kv=>decide (kv.1=k) with
 | none=>rw [c] at e;cases e
 | some q =>
   rw [c] at e
   obtain ⟨ts,n,rfl,_⟩:=g q (mem_of_find?_eq_some c)
   exact ⟨n,(Option.some.inj e).symm⟩
theorem Le {h:Nat}:∀{kvs:List (List Key × V)},Iw h kvs->∃ks:List (List Int),kvs.map (·.1)=ks.map (List.map Sum.inl)/\ks.length=kvs.length/\∀ts∈ks,FZ h ts/\∃n:Int,Cn kvs (ts.map Sum.inl)=some (.int n)
 | kvs,g=>by
   have key:∀{l:List (List Key × V)},(∀q∈l,q∈kvs)->∃ks:List (List Int),l.map (·.1)=ks.map (List.map Sum.inl)/\ks.length=l.length/\∀ts∈ks,FZ h ts/\(ts.map Sum.inl:List Key)∈kvs.map (·.1):=by
    intro l
    induction l with
    | nil=>intro _;exact ⟨[],rfl,rfl,fun _ m=>nomatch m⟩
    | cons q r ih =>
      intro sub
      obtain ⟨ks,e1,e2,e3⟩:=ih fun p m=>sub p (mem_cons_of_mem _ m)
      obtain ⟨ts,n,eq,f⟩:=g q (sub q (mem_cons_self ..))
      refine ⟨ts :: ks,by rw [map_cons,map_cons,e1,eq],by rw [length_cons,length_cons,e2],fun us m=>?_⟩
      rcases mem_cons.mp m with z | z
      ·subst z
       exact ⟨f,mem_map.mpr ⟨q,sub q (mem_cons_self ..),by rw [eq]⟩⟩
      ·exact e3 us z
   obtain ⟨ks,e1,e2,e3⟩:=key fun q m=>m
   refine ⟨ks,e1,e2,fun ts m=>⟨(e3 ts m).1,?_⟩⟩
   cases c:Cn kvs (ts.map Sum.inl:List Key) with
   | none=>exact absurd (e3 ts m).2 (Nt c)
   | some v =>
     obtain ⟨n,rfl⟩:=HP g c
     exact ⟨n,rfl⟩
def KH (B:Int) (kvs:List (List Key × V)):Prop:=∀q∈kvs,∀n:Int,q.2=.int n->0<=n/\n<=B
theorem KH.put {B B':Int} {kvs:List (List Key × V)} {k:List Key} {n:Int} (g:KH B kvs) (h:B<=B') (n0:0<=n) (n1:n<=B'):KH B' (Ck kvs k (.int n)):=by
 intro q m z e
 unfold Ck at m
 split at m
 ·obtain ⟨p,pm,rfl⟩:=mem_map.mp m
  split at e
  ·cases e;exact ⟨n0,n1⟩
  ·have:=g p pm z e
   omega
 ·rcases mem_append.mp m with m | m
  ·have:=g q m z e
   omega
  ·rw [mem_singleton.mp m] at e
   cases e
   exact ⟨n0,n1⟩
theorem KH.val {B:Int} {kvs:List (List Key × V)} {k:List Key} {n:Int} (g:KH B kvs) (e:Cn kvs k=some (.int n)):0<=n/\n<=B:=by
 unfold Cn at e
 obtain ⟨q,hq,e⟩:=Option.map_eq_some_iff.mp e
 exact g q (mem_of_find?_eq_some hq) n e
def Ce (f:List Int->Bool) (ds:List (List Int × Int)):Int:=(ds.map fun q=>if f q.1 then q.2 else 0).sum
def dsL (ls:Ls):List (List Int × Int):=ls.map fun q=>(q.2.2.1,q.2.2.2)
theorem De (f:List Int->Bool) (q:List Int × Int) (r:List (List Int × Int)):Ce f (q :: r)=(if f q.1 then q.2 else 0)+Ce f r:=by unfold Ce;rw [map_cons,sum_cons]
theorem NZ {a b:List Int} (p:a.Perm b):a.sum=b.sum:=by
 induction p with
 | nil=>rfl
 | cons x _ ih=>rw [sum_cons,sum_cons,ih]
 | swap x y l=>rw [sum_cons,sum_cons,sum_cons,sum_cons];omega
 | trans _ _ i j=>rw [i,j]
def hv:V->Int
 | .int n=>n
 | _=>0
def toI:Key->Int
 | .inl z=>z
 | .inr _=>0
theorem IR (ts:List Int):(ts.map Sum.inl:List Key).map toI=ts:=by rw [map_map];exact map_id _
def dsK (kvs:List (List Key × V)):List (List Int × Int):=kvs.map fun q=>(q.1.map toI,hv q.2)
theorem FU (f:List Int->Bool) (a b:List (List Int × Int)):Ce f (a++b)=Ce f a+Ce f b:=by
 unfold Ce;rw [map_append,sum_append]
theorem PK {kvs:List (List Key × V)} {ts:List Int} {n:Int} (f:List Int->Bool) (e:Cn kvs (ts.map Sum.inl:List Key)=none):Ce f (dsK (Ck kvs (ts.map Sum.inl) (.int n)))=Ce f (dsK kvs)+if f ts then n else 0:=by
 unfold Ck
 rw [Eb,e,if_neg (by decide)]
 unfold dsK
 rw [map_append,FU]
 show _+Ce f [((ts.map Sum.inl:List Key).map toI,n)]=_
 rw [IR,De]
 show _+((if f ts then n else 0)+0)=_
 rw [Int.add_zero]
theorem LE {k:List Key} {w:Int} (f:List Int->Bool):∀{kvs:List (List Key × V)},k ∉ kvs.map (·.1)->kvs.map (fun kv=>if kv.1=k then (kv.1,V.int w) else kv)=kvs
 | [],_=>rfl
 | q :: r,m=>by
   rw [map_cons,LE f (fun z=>m (mem_cons_of_mem _ z)),if_neg (fun z=>m (mem_cons.mpr (.inl z.symm)))]
theorem Lp {ts:List Int} {m n:Int} (f:List Int->Bool):∀{kvs:List (List Key × V)},(kvs.map (·.1)).Nodup->Cn kvs (ts.map Sum.inl:List Key)=some (.int m) ->
 Ce f (dsK (kvs.map fun kv=>if kv.1=(ts.map Sum.inl:List Key) then (kv.1,V.int (m+n)) else kv))=Ce f (dsK kvs)+if f ts then n else 0
 | [],_,e=>by cases e
 | q :: r,nd,e=>by
   rw [map_cons,nodup_cons] at nd
   unfold Cn at e
   rw [List.find?_cons] at e
   by_cases c:q.1=(ts.map Sum.inl:List Key)
   ·rw [decide_eq_true c] at e
    have eq:q.2=.int m:=Option.some.inj e
    rw [map_cons,LE f (c ▸ nd.1),if_pos c]
    show Ce f ((q.1.map toI,m+n) :: dsK r)=Ce f ((q.1.map toI,hv q.2) :: dsK r)+_
    rw [De,De,c,IR,eq]
    show (if f ts then m+n else 0)+_=(if f ts then m else 0)+_+_
    cases f ts
    ·simp
    ·simp;omega
   ·rw [decide_eq_false c] at e
    rw [map_cons,if_neg c]
    show Ce f ((q.1.map toI,hv q.2) :: dsK _)=Ce f ((q.1.map toI,hv q.2) :: dsK r)+_
    rw [De,De,Lp f nd.2 e]
    omega
theorem OL {kvs:List (List Key × V)} {ts:List Int} {m n:Int} (f:List Int->Bool) (nd:(kvs.map (·.1)).Nodup) (e:Cn kvs (ts.map Sum.inl:List Key)=some (.int m)):Ce f (dsK (Ck kvs (ts.map Sum.inl) (.int (m+n))))=Ce f (dsK kvs)+if f ts then n else 0:=by
 unfold Ck
 rw [Eb,e,if_pos (show (some (V.int m)).isSome=true from rfl)]
 exact Lp f nd e
theorem QM {kvs:List (List Key × V)} {k:List Key} {v:V} (nd:(kvs.map (·.1)).Nodup):((Ck kvs k v).map (·.1)).Nodup:=by
 unfold Ck
 split
 ·rw [map_map,show ((fun x:List Key × V=>x.1) ∘ fun kv=>if kv.1=k then (kv.1,v) else kv)=(·.1) from funext fun q=>by show (if q.1=k then (q.1,v) else q).1=q.1;split <;> rfl]
  exact nd
 ·rename_i c
  rw [map_append,nodup_append]
  refine ⟨nd,by simp,fun a ha b hb e=>c ?_⟩
  have:b=k:=by simpa using hb
  subst this
  subst e
  obtain ⟨q,qm,eq⟩:=mem_map.mp ha
  exact any_eq_true.mpr ⟨q,qm,decide_eq_true eq⟩
theorem Q1 {kvs:List (List Key × V)} (nd:(kvs.map (·.1)).Nodup) {q:List Key × V} (m:q∈kvs):Cn kvs q.1=some q.2:=by
 induction kvs with
 | nil=>cases m
 | cons p r ih =>
   rw [map_cons,nodup_cons] at nd
   unfold Cn
   rw [List.find?_cons]
   rcases mem_cons.mp m with rfl | m
   ·rw [decide_eq_true rfl];rfl
   ·rw [decide_eq_false (show ¬ p.1=q.1 from fun z=>nd.1 (z ▸ mem_map.mpr ⟨q,m,rfl⟩))]
    exact ih nd.2 m
def nvK (kvs:List (List Key × V)) (ts:List Int):Int:=match Cn kvs (ts.map Sum.inl:List Key) with
 | some (.int n)=>n
 | _=>0
theorem Ll {kvs:List (List Key × V)} {ks:List (List Int)} (nd:(kvs.map (·.1)).Nodup) (e:kvs.map (·.1)=ks.map (List.map Sum.inl)) {us:List (List Int)} (p:us.Perm ks) (f:List Int->Bool) :
 Ce f (us.map fun ts=>(ts,nvK kvs ts))=Ce f (dsK kvs):=by
 have e2:dsK kvs=ks.map fun ts=>(ts,nvK kvs ts):=by
  have key:∀{l:List (List Key × V)} {js:List (List Int)},(∀q∈l,q∈kvs)->l.map (·.1)=js.map (List.map Sum.inl)->dsK l=js.map fun ts=>(ts,nvK kvs ts):=by
   intro l
   induction l with
   | nil=>intro js _ z;cases js with
     | nil=>rfl
     | cons a b=>cases z
   | cons q r ih =>
     intro js sub z
     cases js with
     | nil=>cases z
     | cons a b =>
       rw [map_cons,map_cons] at z
       injection z with z1 z2
       show (q.1.map toI,hv q.2) :: dsK r=_
       rw [ih (fun q m=>sub q (mem_cons_of_mem _ m)) z2,map_cons,z1,IR]
       have v:=Q1 nd (sub q (mem_cons_self ..))
       rw [z1] at v
       unfold nvK
       rw [v]
       cases q.2 <;> rfl
  exact key (fun _ m=>m) e
 rw [e2]
 unfold Ce
 exact NZ ((p.map _).map _)
def Ry (ls:Ls):Prop:=∀q∈ls,0<=q.2.2.2/\q.2.2.2<=1000000000000
def Nk:Sp:=fun vs H Q _=>∃(l:Addr) (vo:Vo) (h:Nat),vs=[.ref l]/\H l=some (.lst (vvo vo))/\Ek h H vo/\vo.length<=24/\Pr vo/\h<=12 /\
 ∀(b:Addr) (ls:Ls) (H':Hp),Aq H H'->H' b=some (.lst (vls ls))->CO h H' ls->ls.length<=60->Ry ls->(∀f,Ce f (dsL ls)=Jh (fun rs=>f (Cc rs)) vo)->Q (.ref b) H'
theorem PR (t:Int):∀i:Nat,bit (Builtin.bitNot t) i=!bit t i:=by
 have key:∀(i:Nat) (t:Int),bit (-t - 1) i=!bit t i:=by
  intro i
  induction i with
  | zero =>
    intro t
    rw [ER,ER]
    by_cases c:t % 2=1
    ·rw [decide_eq_true c,decide_eq_false (by omega)];rfl
    ·rw [decide_eq_false c,decide_eq_true (by omega)];rfl
  | succ i ih =>
    intro t
    rw [<- Fo,<- Fo,show (-t - 1) / 2=-(t / 2) - 1 from by omega]
    exact ih _
 intro i
 rw [show Builtin.bitNot t=-t - 1 from by unfold Builtin.bitNot;omega]
 exact key i t
theorem HK:∀h:Nat,(1:Int)*2 ^ h - 1=A9 h fun _=>true
 | 0=>rfl
 | h+1=>by
   rw [Cu,<- HK h,if_pos rfl,Int.pow_succ]
   omega
theorem HX {h:Nat} (h12:h<=12) (f:Nat->Bool):0<=A9 h f/\A9 h f < 4096:=by
 have a:=CS h f
 have b:=Gy h f
 have q:2 ^ h<=2 ^ 12:=Nat.pow_le_pow_right (by decide) h12
 have e1:((2 ^ h:Nat):Int)=(2:Int) ^ h:=by simp
 omega
def stp (s:(Nat->Bool) × (Nat->Nat->Int)) (t:Int):(Nat->Bool) × (Nat->Nat->Int):=(fun y=>s.1 y && !bit t y,fun x y=>s.2 x y+if (bit t x && (s.1 y && !bit t y))=true then 1 else 0)
def stT (ts:List Int):(Nat->Bool) × (Nat->Nat->Int):=ts.foldl stp (fun _=>true,fun _ _=>0)
theorem Oh (ts:List Int) (t:Int):stT (ts++[t])=stp (stT ts) t:=by unfold stT;rw [foldl_append];rfl
theorem Ku {rs:List Int} {i:Nat} {c u:Int} (h:rs[i]?=some c):bit (CU rs u) i=decide (c=u):=by
 obtain ⟨hi,_⟩:=List.getElem?_eq_some_iff.mp h
 unfold CU
 rw [BX,decide_eq_true hi,Bool.true_and]
 unfold isR
 rw [h]
 by_cases e:c=u
 ·rw [decide_eq_true e,decide_eq_true (by rw [e])]
 ·rw [decide_eq_false e,decide_eq_false (fun z=>e (Option.some.inj z))]
theorem K0 {rs:List Int} {x y:Nat} {a b:Int} (hx:rs[x]?=some a) (hy:rs[y]?=some b):∀(us:List Int) (s:(Nat->Bool) × (Nat->Nat->Int)),us.Pairwise (· < ·) ->
 ((us.map (CU rs)).foldl stp s).2 x y=s.2 x y+if s.1 y=true/\a∈us/\¬ (b∈us/\b<=a) then 1 else 0
 | [],s,_=>by
   rw [if_neg (fun z=>nomatch z.2.1)]
   exact (Int.add_zero _).symm
 | u :: us,s,pw=>by
   rw [pairwise_cons] at pw
   rw [map_cons,foldl_cons,K0 hx hy us _ pw.2]
   unfold stp
   simp only [Ku hx,Ku hy,mem_cons]
   cases s.1 y with
   | false=>simp
   | true =>
     by_cases c1:a=u
     ·have na:a ∉ us:=fun m=>by have:=pw.1 a m;omega
      by_cases c2:b=u
      ·subst c1;subst c2;simp
      ·have nb:¬ (b∈us/\b<=a):=fun m=>by have:=pw.1 b m.1;omega
       subst c1
       simp [c2,na]
       intro mb
       have:=pw.1 b mb
       omega
     ·by_cases c2:b=u
      ·subst c2
       by_cases m:a∈us
       ·have:=pw.1 a m
        simp [c1,m]
        omega
       ·simp [c1,m]
      ·simp [c1,c2]
theorem FT {rs:List Int} (hR:∀r∈rs,0<=r/\r<=12) {x y:Nat} (hx:x < rs.length) (hy:y < rs.length):(stT (Cc rs)).2 x y=if Bg rs x < Bg rs y then 1 else 0:=by
 have ex:=List.getElem?_eq_getElem hx
 have ey:=List.getElem?_eq_getElem hy
 unfold stT Cc Bg
 rw [K0 ex ey _ _ ((FJ rs).filter _),getD_eq_getElem?_getD,getD_eq_getElem?_getD,ex,ey]
 have ma:=getElem_mem hx
 have mb:=getElem_mem hy
 obtain ⟨a0,a1⟩:=hR _ ma
 obtain ⟨b0,b1⟩:=hR _ mb
 have e:∀{c:Int},c∈rs->(c∈(CQ rs).filter (fun r=>decide (0 < r))↔0 < c):=fun {c} m=>by
  rw [mem_filter,Fa,decide_eq_true_eq]
  exact ⟨fun z=>z.2,fun z=>⟨m,z⟩⟩
 simp only [e ma,e mb]
 show (0:Int)+_=_
 rw [Int.zero_add]
 show (if True/\0 < rs[x]/\¬ (0 < rs[y]/\rs[y]<=rs[x]) then (1:Int) else 0)=if (if rs[x]=0 then (1000000000:Int) else rs[x]) < (if rs[y]=0 then 1000000000 else rs[y]) then 1 else 0
 generalize rs[x]=a at *
 generalize rs[y]=b at *
 by_cases c1:a=0
 ·rw [if_pos c1,if_neg (by omega)]
  by_cases c2:b=0
  ·rw [if_pos c2,if_neg (by omega)]
  ·rw [if_neg c2,if_neg (by omega)]
 ·rw [if_neg c1]
  by_cases c2:b=0
  ·rw [if_pos c2,if_pos ⟨trivial,by omega,by omega⟩,if_pos (by omega)]
  ·rw [if_neg c2]
   by_cases c3:a < b
   ·rw [if_pos c3,if_pos ⟨trivial,by omega,by omega⟩]
   ·rw [if_neg c3,if_neg (fun z=>z.2.2 ⟨by omega,by omega⟩)]
def Ds (x y:Nat) (ts:List Int):Bool:=decide ((stT ts).2 x y=1)
theorem MN {h x y:Nat} {ts:List Int} (f:FZ h ts) (hx:x < h) (hy:y < h) (n:Int):n*(stT ts).2 x y=if Ds x y ts=true then n else 0:=by
 obtain ⟨rs,rl,hR,rfl⟩:=f
 unfold Ds
 rw [FT hR (by omega) (by omega)]
 by_cases c:Bg rs x < Bg rs y
 ·rw [if_pos c,if_pos (by decide),Int.mul_one]
 ·rw [if_neg c,if_neg (by decide),Int.mul_zero]
def AL (H:Hp) (as:List Addr) (h:Nat) (F:Nat->Nat->Int):Prop:=as.length=h/\as.Nodup/\∀x a,as[x]?=some a->H a=some (.lst (((List.range h).map fun y=>F x y).map V.int))
def Hg (F:Nat->Nat->Int) (x y:Nat) (n:Int):Nat->Nat->Int:=fun x' y'=>F x' y'+if x'=x/\y'=y then n else 0
theorem AL.congr {H:Hp} {as:List Addr} {h:Nat} {F G:Nat->Nat->Int} (g:AL H as h F) (e:∀x y,x < h->y < h->F x y=G x y):AL H as h G:=by
 refine ⟨g.1,g.2.1,fun x a ha=>?_⟩
 have hx:x < h:=by have:=(List.getElem?_eq_some_iff.mp ha).1;have:=g.1;omega
 rw [g.2.2 x a ha,show ((List.range h).map fun y=>F x y)=(List.range h).map fun y=>G x y from map_congr_left fun y m=>e x y hx (mem_range.mp m)]
theorem AL.put {H:Hp} {as:List Addr} {h:Nat} {F:Nat->Nat->Int} (g:AL H as h F) {x y:Nat} {a:Addr} (ha:as[x]?=some a) (n:Int):AL (upd H a (.lst ((((List.range h).map fun y=>F x y).map V.int).set y (.int (F x y+n))))) as h (Hg F x y n):=by
 refine ⟨g.1,g.2.1,fun x' a' ha'=>?_⟩
 by_cases c:x'=x
 ·subst c
  rw [ha] at ha'
  cases Option.some.inj ha'
  rw [Ab]
  refine congrArg (fun z=>some (HO.lst z)) (ext_getElem? fun k=>?_)
  rw [List.getElem?_set,length_map,length_map,length_range,List.getElem?_map,List.getElem?_map,List.getElem?_map,List.getElem?_map]
  by_cases ck:k < h
  ·rw [List.getElem?_range ck]
   by_cases cy:y=k
   ·subst cy
    rw [if_pos rfl,if_pos ck]
    show some (V.int (F x' y+n))=some (V.int (Hg F x' y n x' y))
    unfold Hg
    rw [if_pos ⟨rfl,rfl⟩]
   ·rw [if_neg cy]
    show some (V.int (F x' k))=some (V.int (Hg F x' y n x' k))
    unfold Hg
    rw [if_neg (fun z=>cy z.2.symm),Int.add_zero]
  ·rw [List.getElem?_eq_none (l:=List.range h) (by rw [length_range];omega)]
   by_cases cy:y=k
   ·subst cy
    rw [if_pos rfl,if_neg ck];rfl
   ·rw [if_neg cy]
    rfl
 ·have ne:a'≠a:=fun z=>by
   subst z
   obtain ⟨l1,e1⟩:=List.getElem?_eq_some_iff.mp ha
   obtain ⟨l2,e2⟩:=List.getElem?_eq_some_iff.mp ha'
   exact c ((getElem_inj g.2.1).mp (e2.trans e1.symm))
  rw [Ai ne,g.2.2 x' a' ha',show ((List.range h).map fun y'=>Hg F x y n x' y')=(List.range h).map fun y'=>F x' y' from map_congr_left fun y' _=>by unfold Hg;rw [if_neg (fun z=>c z.1),Int.add_zero]]
def CZ (as:List Addr) (H H':Hp):Prop:=∀b o,b ∉ as->H b=some o->H' b=some o
theorem CZ.trans {as:List Addr} {H H' H2:Hp} (a:CZ as H H') (b:CZ as H' H2):CZ as H H2:=fun c o m e=>b c o m (a c o m e)
theorem CZ.of {as:List Addr} {H H':Hp} (s:Aq H H'):CZ as H H':=fun c o _ e=>s c o e
theorem CZ.put {as:List Addr} {H H':Hp} {a:Addr} {o:HO} (k:CZ as H H') (m:a∈as):CZ as H (upd H' a o):=fun c u n e=>by
 rw [Ai (show c≠a from fun z=>n (by rw [z];exact m))]
 exact k c u n e
theorem CZ.same {as:List Addr} {H H1 H':Hp} (k:CZ as H1 H') (s:Aq H H1) (n:∀a∈as,H a=none):Aq H H':=fun b o e=>k b o (fun m=>by rw [n b m] at e;cases e) (s b o e)
theorem AL.same {H H':Hp} {as:List Addr} {h:Nat} {F:Nat->Nat->Int} (g:AL H as h F) (s:Aq H H'):AL H' as h F:=⟨g.1,g.2.1,fun x a ha=>s _ _ (g.2.2 x a ha)⟩
theorem AL.row {H:Hp} {as:List Addr} {h:Nat} {F:Nat->Nat->Int} (g:AL H as h F) {x:Nat} (hx:x < h):∃a,as[x]?=some a/\a∈as/\atI (as.map V.ref) (x:Int)=some (.ref a)/\H a=some (.lst (((List.range h).map fun y=>F x y).map V.int)):=by
 have hl:x < as.length:=by rw [g.1];exact hx
 refine ⟨as[x],List.getElem?_eq_getElem hl,getElem_mem hl,DN (by rw [List.getElem?_map,List.getElem?_eq_getElem hl];rfl),g.2.2 x _ (List.getElem?_eq_getElem hl)⟩
theorem BC {h:Nat} (F:Nat->Int) {y:Nat} (hy:y < h):atI (((List.range h).map fun y=>F y).map V.int) (y:Int)=some (.int (F y)):=atN (by rw [List.getElem?_map,List.getElem?_range hy];rfl)
theorem GT {h:Nat} (h12:h<=12) (f:Nat->Bool) {z:Int}:z∈hands 12 (bit (A9 h f))↔∃i:Nat,i < h/\f i=true/\z=(i:Int):=by
 rw [DD]
 refine ⟨fun ⟨i,_,b,e⟩=>?_,fun ⟨i,a,b,e⟩=>⟨i,by omega,by rw [BX,decide_eq_true a,b];rfl,e⟩⟩
 rw [BX,Bool.and_eq_true,decide_eq_true_eq] at b
 exact ⟨i,b.1,b.2,e⟩
theorem FX (n:Nat) (f:Nat->Bool):(hands n f).Nodup:=by
 unfold hands
 exact List.Pairwise.map _ (fun a b (ne:a≠b) e=>ne (Int.ofNat.inj e)) (List.Pairwise.filter _ nodup_range)
theorem EY {n i:Nat} (h:i < n):ixN n (i:Int)=some i:=by
 unfold ixN
 rw [if_pos (by omega)]
 simp [h]
theorem AL.not {H:Hp} {as:List Addr} {h:Nat} {F:Nat->Nat->Int} (g:AL H as h F) {a:Addr} (e:H a=none):a ∉ as:=fun m=>by
 obtain ⟨x,hx⟩:=List.getElem?_of_mem m
 rw [g.2.2 x a hx] at e
 cases e
theorem IQ {xs:List Int} (nd:xs.Nodup) {k:Nat} {z:Int} (hz:xs[k]?=some z):xs.take (k+1)=xs.take k++[z]/\z ∉ xs.take k:=by
 have e:xs.take (k+1)=xs.take k++[z]:=by rw [take_add_one,hz];rfl
 refine ⟨e,fun m=>?_⟩
 have n2:=(take_sublist (k+1) xs).nodup nd
 rw [e,nodup_append] at n2
 exact n2.2.2 z m z (mem_singleton.mpr rfl) rfl
theorem LZ (f:List Int->Bool) (a:Ls) (q:Addr × Addr × List Int × Int):Ce f (dsL (a++[q]))=Ce f (dsL a)+if f q.2.2.1=true then q.2.2.2 else 0:=by
 unfold dsL
 rw [map_append,FU]
 show _+Ce f [(_,_)]=_
 rw [De]
 show _+(_+0)=_
 rw [Int.add_zero]
theorem KP {h:Nat} {ts:List Int} {t:Int} (h12:h<=12) (f:FZ h ts) (m:t∈ts):∃g:Nat->Bool,t=A9 h g:=by
 obtain ⟨rs,rl,_,rfl⟩:=f
 unfold Cc at m
 obtain ⟨r,_,rfl⟩:=mem_map.mp m
 exact ⟨isR rs r,by unfold CU;rw [rl]⟩
theorem LM {p q r:Prop} [Decidable p] [Decidable q] [Decidable r] (n z:Int) (e:r↔p\/q) (d:¬ (p/\q)):z+(if p then n else 0)+(if q then n else 0)=z+if r then n else 0:=by
 by_cases c1:p
 ·rw [if_pos c1,if_neg (fun c2=>d ⟨c1,c2⟩),if_pos (e.mpr (.inl c1)),Int.add_zero]
 ·rw [if_neg c1,Int.add_zero]
  by_cases c2:q
  ·rw [if_pos c2,if_pos (e.mpr (.inr c2))]
  ·rw [if_neg c2,if_neg (fun c3=>(e.mp c3).elim c1 c2)]
theorem Kx {xs:List Int} {x x':Nat}:(x':Int)∈xs++[(x:Int)]↔(x':Int)∈xs\/x'=x:=by
 rw [mem_append,mem_singleton]
 exact or_congr Iff.rfl ⟨fun e=>Int.ofNat.inj e,fun e=>by rw [e]⟩
def Nj:Sp:=fun vs H Q _=>∃(l:Addr) (ls:Ls) (h:Nat),vs=[.ref l,.int (h:Int)]/\H l=some (.lst (vls ls))/\CO h H ls/\ls.length<=60/\1<=h/\h<=12/\∀(b:Addr) (as:List Addr) (H':Hp),H b=none->Aq H H'->b ∉ as->(∀a∈as,H a=none)->H' b=some (.lst (as.map V.ref))->AL H' as h (fun x y=>Ce (Ds x y) (dsL ls))->Q (.ref b) H'
def duF (vo:Vo) (x y:Nat):Int:=Jh (fun rs=>decide (Bg rs x < Bg rs y)) vo
theorem Rr:∀n:Nat,(List.replicate n [V.int 0]).flatten=((List.range n).map fun _=>(0:Int)).map V.int:=by
 intro n
 have e:∀n:Nat,((List.range n).map fun _=>(0:Int))=List.replicate n 0:=by
  intro n
  rw [map_const',length_range]
 rw [e]
 induction n with
 | zero=>rfl
 | succ n ih=>rw [replicate_succ,flatten_cons,ih,replicate_succ,map_cons];rfl
def PQ:Sp:=fun vs H Q _=>∃(l:Addr) (vo:Vo) (h:Nat),vs=[.ref l,.int (h:Int)]/\H l=some (.lst (vvo vo))/\Ek h H vo/\1<=h/\h<=12/\∀(b:Addr) (as:List Addr) (H':Hp),H b=none->Aq H H'->b ∉ as->(∀a∈as,H a=none)->H' b=some (.lst (as.map V.ref))->AL H' as h (duF vo)->Q (.ref b) H'
def ld (q:Addr × Addr × List Int × Int):PyData:=.tuple [.tuple (q.2.2.1.map .int),.int q.2.2.2]
theorem IZ {K:PySem.W.Frag} {h:Nat} {H:Hp}:∀{ls:Ls},CO h H ls->Reps K H (vls ls) (ls.map ld)
 | [],_=>.nil
 | q :: _,g=>by
   obtain ⟨g1,g2,_⟩:=g q (mem_cons_self ..)
   exact .cons (.tup (SqT.of g1) (.cons (.tup (SqT.of g2) (.ints _)) (.cons (.int _) .nil))) (IZ (g.sub fun _ m=>mem_cons_of_mem _ m))
theorem Oi:∀ls:Ls,PyData.canLayAll0 (ls.map ld)=true/\PyData.depthAll (ls.map ld)<=2
 | []=>⟨rfl,Nat.zero_le _⟩
 | q :: r=>by
   obtain ⟨h1,h2⟩:=Oi r
   obtain ⟨i1,i2⟩:=EV q.2.2.1
   refine ⟨?_,?_⟩
   ·show ((PyData.canLayAll0 (q.2.2.1.map .int) && (true && true)) && PyData.canLayAll0 (r.map ld))=true
    rw [h1,i1];rfl
   ·show max (max (PyData.depthAll (q.2.2.1.map .int)+1) (max 0 0)+1) (PyData.depthAll (r.map ld))<=2
    omega
theorem Kp (ls:Ls):SeqAt.shaped (.list (ls.map ld))=true:=by
 obtain ⟨h1,h2⟩:=Oi ls
 unfold SeqAt.shaped
 rw [Bool.and_eq_true]
 refine ⟨h1,decide_eq_true ?_⟩
 show PyData.depthAll (ls.map ld)+1<=64
 omega
theorem NV:∀ls:Ls,PyData.eqvAll (ls.map ld) (ls.map ld)=true
 | []=>rfl
 | q :: r=>by
   show ((PyData.eqvAll (q.2.2.1.map .int) (q.2.2.1.map .int) && ((q.2.2.2 == q.2.2.2) && true)) && PyData.eqvAll (r.map ld) (r.map ld))=true
   rw [NV r,BK,decide_eq_true rfl,beq_self_eq_true]
   rfl
def rD (xs:List Int):PyData:=.list (xs.map .int)
theorem ND:∀rss:List (List Int),PyData.canLayAll0 (rss.map rD)=true/\PyData.depthAll (rss.map rD)<=1
 | []=>⟨rfl,Nat.zero_le _⟩
 | q :: r=>by
   obtain ⟨h1,h2⟩:=ND r
   obtain ⟨i1,i2⟩:=EV q
   refine ⟨?_,?_⟩
   ·show (PyData.canLayAll0 (q.map .int) && PyData.canLayAll0 (r.map rD))=true
    rw [h1,i1];rfl
   ·show max (PyData.depthAll (q.map .int)+1) (PyData.depthAll (r.map rD))<=1
    omega
theorem Fv (rss:List (List Int)):SeqAt.shaped (.list (rss.map rD))=true:=by
 obtain ⟨h1,h2⟩:=ND rss
 unfold SeqAt.shaped
 rw [Bool.and_eq_true]
 refine ⟨h1,decide_eq_true ?_⟩
 show PyData.depthAll (rss.map rD)+1<=64
 omega
def BW (h:Nat) (F:Nat->Nat->Int):List (List Int):=(List.range h).map fun x=>(List.range h).map fun y=>F x y
theorem HQ {K:PySem.W.Frag} {H:Hp}:∀{as:List Addr} {rss:List (List Int)},as.length=rss.length->(∀(i:Nat) (a:Addr) (r:List Int),as[i]?=some a->rss[i]?=some r->H a=some (.lst (r.map V.int)))->Reps K H (as.map V.ref) (rss.map rD)
 | [],[],_,_=>.nil
 | a :: as,r :: rss,l,e=>.cons (.lst (SqL.of (e 0 a r rfl rfl)) (.ints _)) (HQ (Nat.succ.inj l) fun i b q h1 h2=>e (i+1) b q h1 h2)
theorem LA {h x:Nat} {F:Nat->Nat->Int} (hx:x < h):(BW h F)[x]?=some ((List.range h).map fun y=>F x y):=by
 unfold BW
 rw [List.getElem?_map,List.getElem?_range hx]
 rfl
theorem GP (h:Nat) (F:Nat->Nat->Int):(BW h F).length=h:=by unfold BW;rw [length_map,length_range]
theorem AL.reps {K:PySem.W.Frag} {H:Hp} {as:List Addr} {h:Nat} {F:Nat->Nat->Int} (g:AL H as h F):Reps K H (as.map V.ref) ((BW h F).map rD) :=
 HQ (by rw [g.1,GP]) fun i a r h1 h2=>by
  have hi:i < h:=by have:=(List.getElem?_eq_some_iff.mp h1).1;have:=g.1;omega
  rw [LA hi] at h2
  rw [<- Option.some.inj h2]
  exact g.2.2 i a h1
def Jx (as:List Addr) (h:Nat) (F:Nat->Nat->Int):Tb:=as.zip (BW h F)
theorem AL.vtb {H:Hp} {as:List Addr} {h:Nat} {F:Nat->Nat->Int} (g:AL H as h F):vtb (Jx as h F)=as.map V.ref:=by
 unfold Law.vtb Jx
 rw [show (fun r:Addr × List Int=>V.ref r.1)=V.ref ∘ Prod.fst from rfl,<- map_map,map_fst_zip (by rw [g.1,GP];exact Nat.le_refl _)]
theorem AL.good {H:Hp} {as:List Addr} {h:Nat} {F:Nat->Nat->Int} (g:AL H as h F):Ru H (Jx as h F) h:=by
 refine ⟨by unfold Jx;rw [length_zip,g.1,GP,Nat.min_self],fun r m=>?_⟩
 obtain ⟨i,hi⟩:=List.getElem?_of_mem m
 unfold Jx at hi
 rw [List.getElem?_zip_eq_some] at hi
 have hx:i < h:=by have:=(List.getElem?_eq_some_iff.mp hi.1).1;have:=g.1;omega
 rw [LA hx] at hi
 rw [<- Option.some.inj hi.2]
 exact ⟨g.2.2 i _ hi.1,by rw [length_map,length_range]⟩
theorem Dt {X:Cx} (K:PySem.W.Frag) (hK:X.K=K:=by rfl):Ch X (.type "list") (fun xs H Q=>∃p ys,xs=[.ref p]/\(SqL K H p ys\/SqT K H p ys)/\∀l,H l=none->Q (.ref l) (upd H l (.lst ys))):=by
 subst hK
 exact Bk
theorem GX {h x y:Nat} {H:Hp}:∀{vo:Vo},Ek h H vo->Pr vo->x < h->y < h->Jh (fun rs=>Ds x y (Cc rs)) vo=duF vo x y
 | [],_,_,_,_=>rfl
 | q :: r,g,n,hx,hy=>by
   have ih:=GX (vo:=r) (fun z m=>g z (mem_cons_of_mem _ m)) (fun z m=>n z (mem_cons_of_mem _ m)) hx hy
   have gl:=(g q (mem_cons_self ..)).2.2
   have nr:=(n q (mem_cons_self ..)).2.2
   unfold duF Jh at ih ⊢
   simp only [map_cons,sum_cons] at ih ⊢
   rw [ih]
   refine congrArg (·+_) ?_
   have e:Ds x y (Cc q.2.2.1)=decide (Bg q.2.2.1 x < Bg q.2.2.1 y):=by
    unfold Ds
    rw [FT nr (by omega) (by omega)]
    by_cases c:Bg q.2.2.1 x < Bg q.2.2.1 y
    ·rw [if_pos c,decide_eq_true c];rfl
    ·rw [if_neg c,decide_eq_false c];rfl
   show (if Ds x y (Cc q.2.2.1)=true then q.2.2.2 else 0)=if decide (Bg q.2.2.1 x < Bg q.2.2.1 y)=true then q.2.2.2 else 0
   rw [e]
structure D0 (h x:Nat) (L:Nat->Nat->Int) (be bf:List Int):Prop where
 lenb:be.length=h
 lenf:bf.length=h
 own:be.getD x 0=L x x
 low:∀y,y < h->y≠x->L x y<=be.getD y 0
 stab:∀d y,d < h->y < h->d≠x->y≠x->d≠y->min (be.getD d 0) (L d y)<=be.getD y 0
 par:∃rk:Nat->Nat,∀y,y < h->y≠x->∃p:Nat,p < h/\bf.getD y 0=(p:Int)/\rk p < rk y/\(p=x->be.getD y 0=L x y)/\(p≠x->be.getD y 0=min (be.getD p 0) (L p y))
structure Dij (h x:Nat) (L:Nat->Nat->Int) (be bf left:List Int) (rk:Nat->Nat):Prop where
 lenb:be.length=h
 lenf:bf.length=h
 nd:left.Nodup
 sub:∀z∈left,∃y:Nat,y < h/\y≠x/\z=(y:Int)
 own:be.getD x 0=L x x
 low:∀y,y < h->y≠x->L x y<=be.getD y 0
 ord:∀d y:Nat,d < h->d≠x->(d:Int) ∉ left->(y:Int)∈left->be.getD y 0<=be.getD d 0
 stab:∀d y:Nat,d < h->y < h->d≠x->y≠x->d≠y->(d:Int) ∉ left->min (be.getD d 0) (L d y)<=be.getD y 0
 rkc:∀d:Nat,d < h->(d:Int) ∉ left->rk d+left.length < h
 par:∀y,y < h->y≠x->∃p:Nat,p < h/\bf.getD y 0=(p:Int)/\(p:Int) ∉ left/\((y:Int) ∉ left->rk p < rk y)/\(p=x->be.getD y 0=L x y)/\(p≠x->be.getD y 0=min (be.getD p 0) (L p y))
theorem Dij.done {h x:Nat} {L:Nat->Nat->Int} {be bf:List Int} {rk:Nat->Nat} (g:Dij h x L be bf [] rk):D0 h x L be bf :=
 ⟨g.lenb,g.lenf,g.own,g.low,fun d y h1 h2 h3 h4 h5=>g.stab d y h1 h2 h3 h4 h5 (by simp),rk,fun y h1 h2=>let ⟨p,a,b,_,c,d⟩:=g.par y h1 h2;⟨p,a,b,c (by simp),d⟩⟩
def CA (h x:Nat):List Int:=((List.range h).filter fun y=>decide (y≠x)).map fun y:Nat=>(y:Int)
theorem D4 {h x:Nat} {z:Int}:z∈CA h x↔∃y:Nat,y < h/\y≠x/\z=(y:Int):=by
 unfold CA
 simp only [mem_map,mem_filter,mem_range,decide_eq_true_eq]
 exact ⟨fun ⟨y,⟨a,b⟩,e⟩=>⟨y,a,b,e.symm⟩,fun ⟨y,a,b,e⟩=>⟨y,⟨a,b⟩,e.symm⟩⟩
theorem LF (h x:Nat):(CA h x).Nodup:=by
 unfold CA
 exact List.Pairwise.map _ (fun a b (ne:a≠b) e=>ne (Int.ofNat.inj e)) (List.Pairwise.filter _ nodup_range)
theorem Df {xs ys:List Int} (n:xs.Nodup) (s:∀z∈xs,z∈ys):xs.length<=ys.length:=by
 induction xs generalizing ys with
 | nil=>exact Nat.zero_le _
 | cons a r ih =>
   rw [nodup_cons] at n
   have ma:=s a (mem_cons_self ..)
   have:=ih (ys:=ys.erase a) n.2 fun z mz=>(mem_erase_of_ne (fun e=>n.1 (by rw [<- e];exact mz))).mpr (s z (mem_cons_of_mem _ mz))
   rw [length_erase_of_mem ma] at this
   have:=length_pos_of_mem ma
   rw [length_cons]
   omega
theorem Kv {h x:Nat} (hx:x < h):(CA h x).length < h:=by
 have a:=Df (xs:=(x:Int) :: CA h x) (ys:=(List.range h).map fun y:Nat=>(y:Int)) (nodup_cons.mpr ⟨fun m=>by
  obtain ⟨y,_,n,e⟩:=D4.mp m
  exact n (Int.ofNat.inj e).symm,LF h x⟩) (fun z m=>by
  rcases mem_cons.mp m with m | m
  ·rw [m];exact mem_map.mpr ⟨x,mem_range.mpr hx,rfl⟩
  ·obtain ⟨y,a,_,e⟩:=D4.mp m
   rw [e];exact mem_map.mpr ⟨y,mem_range.mpr a,rfl⟩)
 rw [length_cons,length_map,length_range] at a
 omega
theorem Dij.start {h x:Nat} (hx:x < h) (L:Nat->Nat->Int):Dij h x L ((List.range h).map fun y=>L x y) (List.replicate h (x:Int)) (CA h x) fun _=>0:=by
 have g:∀y,y < h->((List.range h).map fun y=>L x y).getD y 0=L x y:=fun y hy=>by
  rw [getD_eq_getElem?_getD,List.getElem?_map,List.getElem?_range hy];rfl
 have inn:∀d:Nat,d < h->d≠x->(d:Int)∈CA h x:=fun d a b=>D4.mpr ⟨d,a,b,rfl⟩
 refine ⟨by simp,by simp,LF h x,fun z m=>D4.mp m,g x hx,fun y hy _=>by rw [g y hy];exact Int.le_refl _,fun d y a b c=>absurd (inn d a b) c,fun d y a _ b _ _ c=>absurd (inn d a b) c,fun d a _=>by have:=Kv hx;omega,fun y hy ny=>⟨x,hx,?_,fun m=>?_,fun c=>absurd (inn y hy ny) c,fun _=>g y hy,fun c=>absurd rfl c⟩⟩
 ·rw [getD_eq_getElem?_getD,List.getElem?_replicate,if_pos hy];rfl
 ·obtain ⟨y,_,n,e⟩:=D4.mp m
  exact n (Int.ofNat.inj e).symm
def Upd (h t:Nat) (L:Nat->Nat->Int) (be bf zs be' bf':List Int):Prop:=be'.length=h/\bf'.length=h/\∀y:Nat,y < h ->
 ((y:Int)∈zs/\be.getD y 0 < min (be.getD t 0) (L t y)->be'.getD y 0=min (be.getD t 0) (L t y)/\bf'.getD y 0=(t:Int)) /\
 (¬ ((y:Int)∈zs/\be.getD y 0 < min (be.getD t 0) (L t y))->be'.getD y 0=be.getD y 0/\bf'.getD y 0=bf.getD y 0)
theorem Dij.step {h x t:Nat} {L:Nat->Nat->Int} {be bf left be' bf':List Int} {rk:Nat->Nat} (g:Dij h x L be bf left rk) (hx:x < h) (ht:(t:Int)∈left) (best:∀y:Nat,(y:Int)∈left->be.getD y 0<=be.getD t 0)
 (u:Upd h t L be bf (left.erase (t:Int)) be' bf'):Dij h x L be' bf' (left.erase (t:Int)) fun y=>if y=t then h - left.length else rk y:=by
 obtain ⟨u1,u2,u3⟩:=u
 obtain ⟨t',th,tx,et⟩:=g.sub _ ht
 have ett:t=t':=Int.ofNat.inj et
 subst ett
 have mem:∀{z:Int},z∈left.erase (t:Int)↔z≠(t:Int)/\z∈left:=fun {z}=>g.nd.mem_erase_iff
 have ge:∀y,y < h->be.getD y 0<=be'.getD y 0:=fun y hy=>by
  by_cases c:(y:Int)∈left.erase (t:Int)/\be.getD y 0 < min (be.getD t 0) (L t y)
  ·rw [((u3 y hy).1 c).1];omega
  ·rw [((u3 y hy).2 c).1];exact Int.le_refl _
 have out:∀y:Nat,y < h->(y:Int) ∉ left.erase (t:Int)->be'.getD y 0=be.getD y 0/\bf'.getD y 0=bf.getD y 0:=fun y hy n=>(u3 y hy).2 fun c=>n c.1
 have nx:(x:Int) ∉ left:=fun m=>by
  obtain ⟨y,_,n,e⟩:=g.sub _ m
  exact n (Int.ofNat.inj e).symm
 have nt:(t:Int) ∉ left.erase (t:Int):=fun m=>(mem.mp m).1 rfl
 have cut:∀{d:Nat},(d:Int) ∉ left.erase (t:Int)->d=t\/(d:Int) ∉ left:=fun {d} n=>by
  by_cases c:d=t
  ·exact .inl c
  ·exact .inr fun m=>n (mem.mpr ⟨fun e=>c (Int.ofNat.inj e),m⟩)
 have hxlt:∀{y:Nat},(y:Int)∈left->y < h/\y≠x:=fun {y} m=>by
  obtain ⟨y',a,b,e⟩:=g.sub _ m
  rw [show y=y' from Int.ofNat.inj e];exact ⟨a,b⟩
 have len:(left.erase (t:Int)).length=left.length - 1:=length_erase_of_mem ht
 have pos:=length_pos_of_mem ht
 refine ⟨u1,u2,g.nd.erase _,fun z m=>g.sub z (mem.mp m).2,?_,fun y hy ny=>Int.le_trans (g.low y hy ny) (ge y hy),fun d y hd dx dn ym=>?_,fun d y hd hy dx yx dy dn=>?_,fun d hd dn=>?_,fun y hy yx=>?_⟩
 ·rw [(out x hx fun m=>nx (mem.mp m).2).1];exact g.own
 ·have ym':=mem.mp ym
  have yh:=hxlt ym'.2
  rw [(out d hd dn).1]
  have bd:be.getD t 0<=be.getD d 0:=by
   rcases cut dn with e | n
   ·rw [e];exact Int.le_refl _
   ·exact g.ord d t hd dx n ht
  have by':=best y ym'.2
  by_cases c:(y:Int)∈left.erase (t:Int)/\be.getD y 0 < min (be.getD t 0) (L t y)
  ·rw [((u3 y yh.1).1 c).1];omega
  ·rw [((u3 y yh.1).2 c).1];omega
 ·rw [(out d hd dn).1]
  have gy:=ge y hy
  rcases cut dn with e | n
  ·subst e
   by_cases c:(y:Int)∈left.erase (d:Int)
   ·by_cases c2:be.getD y 0 < min (be.getD d 0) (L d y)
    ·rw [((u3 y hy).1 ⟨c,c2⟩).1];exact Int.le_refl _
    ·omega
   ·rcases cut c with e | n
    ·exact absurd e.symm dy
    ·have:=g.ord y d hy yx n ht
     omega
  ·have:=g.stab d y hd hy dx yx dy n
   omega
 ·rw [len]
  rcases cut dn with e | n
  ·show (if d=t then h - left.length else rk d)+_ < h
   rw [if_pos e]
   have:=g.rkc x hx nx
   omega
  ·show (if d=t then h - left.length else rk d)+_ < h
   rw [if_neg (fun e=>n (by rw [e];exact ht))]
   have:=g.rkc d hd n
   omega
 ·obtain ⟨p,hp,p1,p2,p3,p4,p5⟩:=g.par y hy yx
  by_cases c:(y:Int)∈left.erase (t:Int)/\be.getD y 0 < min (be.getD t 0) (L t y)
  ·obtain ⟨c1,c2⟩:=(u3 y hy).1 c
   exact ⟨t,th,c2,nt,fun n=>absurd c.1 n,fun e=>absurd e tx,fun _=>by rw [c1,(out t th nt).1]⟩
  ·obtain ⟨c1,c2⟩:=(u3 y hy).2 c
   have pn:(p:Int) ∉ left.erase (t:Int):=fun m=>p2 (mem.mp m).2
   have pt:p≠t:=fun e=>p2 (by rw [e];exact ht)
   refine ⟨p,hp,by rw [c2,p1],pn,fun n=>?_,fun e=>by rw [c1];exact p4 e,fun e=>by rw [c1,(out p hp pn).1];exact p5 e⟩
   show (if p=t then h - left.length else rk p) < if y=t then h - left.length else rk y
   rw [if_neg pt]
   rcases cut n with e | n
   ·rw [if_pos e]
    have:=g.rkc p hp p2
    omega
   ·rw [if_neg (fun e=>n (by rw [e];exact ht))]
    exact p3 n
theorem D0.le {h x:Nat} {L:Nat->Nat->Int} {be bf be' bf':List Int} (g:D0 h x L be bf) (g':D0 h x L be' bf'):∀y,y < h->y≠x->be.getD y 0<=be'.getD y 0:=by
 obtain ⟨rk,par⟩:=g.par
 have key:∀n y,rk y<=n->y < h->y≠x->be.getD y 0<=be'.getD y 0:=by
  intro n
  induction n with
  | zero =>
    intro y r hy yx
    obtain ⟨p,_,_,p1,_⟩:=par y hy yx
    omega
  | succ n ih =>
    intro y r hy yx
    obtain ⟨p,hp,_,p1,p2,p3⟩:=par y hy yx
    by_cases c:p=x
    ·rw [p2 c];exact g'.low y hy yx
    ·rw [p3 c]
     have a:=ih p (by omega) hp c
     have b:=g'.stab p y hp hy c yx (fun e=>by rw [e] at p1;exact Nat.lt_irrefl _ p1)
     omega
 exact fun y=>key (rk y) y (Nat.le_refl _)
theorem D0.uniq {h x:Nat} {L:Nat->Nat->Int} {be bf be' bf':List Int} (g:D0 h x L be bf) (g':D0 h x L be' bf'):be=be':=by
 apply ext_getElem
 ·rw [g.lenb,g'.lenb]
 ·intro y h1 h2
  have e1:be[y]=be.getD y 0:=by rw [getD_eq_getElem?_getD,List.getElem?_eq_getElem h1];rfl
  have e2:be'[y]=be'.getD y 0:=by rw [getD_eq_getElem?_getD,List.getElem?_eq_getElem h2];rfl
  rw [e1,e2]
  by_cases c:y=x
  ·rw [c,g.own,g'.own]
  ·have hy:y < h:=by rw [<- g.lenb];exact h1
   exact Int.le_antisymm (g.le g' y hy c) (g'.le g y hy c)
theorem D0.cut {h x:Nat} {L:Nat->Nat->Int} {be bf:List Int} (g:D0 h x L be bf) {y u v:Nat} (hu:u < h) (hv:v < h) (cu:u=x\/be.getD y 0 < be.getD u 0) (cv:v≠x/\be.getD v 0<=be.getD y 0):L u v<=be.getD y 0:=by
 by_cases c:u=x
 ·subst c
  have:=g.low v hv cv.1
  omega
 ·have b:be.getD y 0 < be.getD u 0:=cu.resolve_left c
  have:=g.stab u v hu hv c cv.1 (fun e=>by rw [e] at b;omega)
  omega
def lk (L:Nat->Nat->Int) (ws:List Nat):List Int:=(List.range (ws.length - 1)).map fun k=>L (ws.getD k 0) (ws.getD (k+1) 0)
theorem Fu (L:Nat->Nat->Int) (p w:Nat) (r:List Nat):lk L (p :: w :: r)=L p w :: lk L (w :: r):=by
 unfold lk
 rw [show (p :: w :: r).length - 1=((w :: r).length - 1)+1 from rfl,range_succ_eq_map,map_cons,map_map]
 rfl
structure Hu (h x y:Nat) (L:Nat->Nat->Int) (be:List Int) (rk:Nat->Nat) (w:Nat) (r:List Nat):Prop where
 all:∀z∈w :: r,z < h
 rise:(w :: r).Pairwise fun a b=>rk a < rk b
 last:(w :: r).getLast?=some y
 above:∀l∈lk L (w :: r),be.getD y 0<=l
 mid:w≠x->be.getD y 0<=be.getD w 0/\(be.getD y 0=be.getD w 0\/be.getD y 0∈lk L (w :: r))
 fin:w=x->be.getD y 0∈lk L (w :: r)/\r≠[]
theorem Hu.start {h x y:Nat} {L:Nat->Nat->Int} {be:List Int} (rk:Nat->Nat) (hy:y < h) (ne:y≠x):Hu h x y L be rk y [] :=
 ⟨fun z m=>by rw [mem_singleton.mp m];exact hy,pairwise_singleton ..,rfl,(fun l m=>by cases m),fun _=>⟨Int.le_refl _,.inl rfl⟩,fun e=>absurd e ne⟩
theorem Hu.step {h x y w p:Nat} {L:Nat->Nat->Int} {be:List Int} {rk:Nat->Nat} {r:List Nat} (g:Hu h x y L be rk w r) (wx:w≠x) (hp:p < h) (pr:rk p < rk w)
 (p1:p=x->be.getD w 0=L x w) (p2:p≠x->be.getD w 0=min (be.getD p 0) (L p w)):Hu h x y L be rk p (w :: r):=by
 obtain ⟨m1,m2⟩:=g.mid wx
 have key:be.getD y 0<=L p w:=by
  by_cases c:p=x
  ·have:=p1 c;rw [c];omega
  ·have:=p2 c;omega
 refine ⟨fun z m=>?_,pairwise_cons.mpr ⟨fun z m=>?_,g.rise⟩,?_,fun l m=>?_,fun c=>?_,fun c=>?_⟩
 ·rcases mem_cons.mp m with m | m
  ·rw [m];exact hp
  ·exact g.all z m
 ·rcases mem_cons.mp m with m | m
  ·rw [m];exact pr
  ·exact Nat.lt_trans pr ((pairwise_cons.mp g.rise).1 z m)
 ·rw [List.getLast?_cons_cons];exact g.last
 ·rw [Fu] at m
  rcases mem_cons.mp m with m | m
  ·rw [m];exact key
  ·exact g.above l m
 ·have:=p2 c
  refine ⟨by omega,?_⟩
  rw [Fu]
  rcases m2 with e | e
  ·by_cases z:be.getD p 0<=L p w
   ·exact .inl (by omega)
   ·exact .inr (by rw [show be.getD y 0=L p w by omega];exact mem_cons_self ..)
  ·exact .inr (mem_cons_of_mem _ e)
 ·rw [Fu]
  have:=p1 c
  refine ⟨?_,by simp⟩
  rcases m2 with e | e
  ·rw [e,this,c];exact mem_cons_self ..
  ·exact mem_cons_of_mem _ e
structure E6 (h x y:Nat) (L:Nat->Nat->Int) (v:Int) (ws:List Nat):Prop where
 all:∀z∈ws,z < h
 nd:ws.Nodup
 first:ws.head?=some x
 last:ws.getLast?=some y
 two:2<=ws.length
 least:v∈lk L ws/\∀l∈lk L ws,v<=l
theorem Hu.way {h x y:Nat} {L:Nat->Nat->Int} {be:List Int} {rk:Nat->Nat} {r:List Nat} (g:Hu h x y L be rk x r):E6 h x y L (be.getD y 0) (x :: r):=by
 obtain ⟨f1,f2⟩:=g.fin rfl
 refine ⟨g.all,g.rise.imp fun z e=>by rw [e] at z;exact Nat.lt_irrefl _ z,rfl,g.last,?_,f1,g.above⟩
 have:=length_pos_iff.mpr f2
 rw [length_cons]
 omega
theorem HY {h x:Nat} (hx:x < h):(CA h x).length+1=h:=by
 have a:=Kv hx
 have b:=Df (xs:=(List.range h).map fun y:Nat=>(y:Int)) (ys:=(x:Int) :: CA h x) (List.Pairwise.map _ (fun a b (ne:a≠b) e=>ne (Int.ofNat.inj e)) nodup_range) fun z m=>by
  obtain ⟨y,hy,e⟩:=mem_map.mp m
  by_cases c:y=x
  ·rw [<- e,c];exact mem_cons_self ..
  ·exact mem_cons_of_mem _ (D4.mpr ⟨y,mem_range.mp hy,c,e.symm⟩)
 rw [length_cons,length_map,length_range] at b
 omega
theorem E1 (i x:Nat):CA (i+1) x=CA i x++if i=x then [] else [(i:Int)]:=by
 unfold CA
 rw [range_succ,filter_append,map_append]
 by_cases c:i=x
 ·rw [if_pos c];simp [c]
 ·rw [if_neg c];simp [c]
theorem JV {xs:List Int} {z:Nat} (hz:z < xs.length) (v:Int) (y:Nat):(xs.set z v).getD y 0=if y=z then v else xs.getD y 0:=by
 rw [getD_eq_getElem?_getD,List.getElem?_set,getD_eq_getElem?_getD]
 by_cases c:z=y
 ·subst c;rw [if_pos rfl,if_pos hz,if_pos rfl];rfl
 ·rw [if_neg c,if_neg (Ne.symm c)]
theorem Upd.nil {h t:Nat} {L:Nat->Nat->Int} {be bf:List Int} (l1:be.length=h) (l2:bf.length=h):Upd h t L be bf [] be bf:=⟨l1,l2,fun y _=>⟨fun c=>(nomatch c.1),fun _=>⟨rfl,rfl⟩⟩⟩
theorem Upd.put {h t z:Nat} {L:Nat->Nat->Int} {be bf zs be' bf':List Int} (u:Upd h t L be bf zs be' bf') (hz:z < h) (c:be.getD z 0 < min (be.getD t 0) (L t z)):Upd h t L be bf (zs++[(z:Int)]) (be'.set z (min (be.getD t 0) (L t z))) (bf'.set z (t:Int)):=by
 obtain ⟨u1,u2,u3⟩:=u
 refine ⟨by rw [length_set,u1],by rw [length_set,u2],fun y hy=>?_⟩
 rw [JV (by omega),JV (by omega)]
 by_cases e:y=z
 ·subst e
  rw [if_pos rfl,if_pos rfl]
  exact ⟨fun _=>⟨rfl,rfl⟩,fun n=>absurd ⟨mem_append_right _ (mem_singleton.mpr rfl),c⟩ n⟩
 ·rw [if_neg e,if_neg e]
  have m:(y:Int)∈zs++[(z:Int)]↔(y:Int)∈zs:=by
   rw [mem_append,mem_singleton]
   exact ⟨fun h=>h.elim id fun h=>absurd (Int.ofNat.inj h) e,.inl⟩
  rw [m]
  exact u3 y hy
theorem Upd.skip {h t z:Nat} {L:Nat->Nat->Int} {be bf zs be' bf':List Int} (u:Upd h t L be bf zs be' bf') (c:¬ be.getD z 0 < min (be.getD t 0) (L t z)):Upd h t L be bf (zs++[(z:Int)]) be' bf':=by
 obtain ⟨u1,u2,u3⟩:=u
 refine ⟨u1,u2,fun y hy=>?_⟩
 by_cases e:y=z
 ·subst e
  refine ⟨fun k=>absurd k.2 c,fun _=>(u3 y hy).2 fun k=>c k.2⟩
 ·have m:(y:Int)∈zs++[(z:Int)]↔(y:Int)∈zs:=by
   rw [mem_append,mem_singleton]
   exact ⟨fun h=>h.elim id fun h=>absurd (Int.ofNat.inj h) e,.inl⟩
  rw [m]
  exact u3 y hy
theorem Upd.at {h t y:Nat} {L:Nat->Nat->Int} {be bf zs be' bf':List Int} (u:Upd h t L be bf zs be' bf') (hy:y < h) (n:(y:Int) ∉ zs):be'.getD y 0=be.getD y 0:=((u.2.2 y hy).2 fun c=>n c.1).1
theorem FK {a:Int}:∀xs:List Int,xs.erase a=xs.eraseIdx (xs.idxOf a)
 | []=>rfl
 | b :: r=>by
   rw [erase_cons,idxOf_cons]
   by_cases c:b=a
   ·rw [if_pos (by simp [c])];simp [c]
   ·have n:(b == a)=false:=by simp [c]
    rw [if_neg (by rw [n];decide),n]
    show b :: r.erase a=_
    rw [FK r]
    rfl
def Qk:HO->Bool
 | .tbl _=>false
 | _=>true
structure Sm (H H':Hp):Prop where
 keep:∀b u,H b=some u->Qk u=true->H' b=some u
 gone:∀b,H' b=none->H b=none
theorem Sm.of {H H':Hp} (s:Aq H H'):Sm H H':=⟨fun b u e _=>s b u e,fun b e=>none_of s e⟩
theorem Sm.trans {H H1 H2:Hp} (a:Sm H H1) (b:Sm H1 H2):Sm H H2:=⟨fun c u e n=>b.keep c u (a.keep c u e n) n,fun c e=>a.gone c (b.gone c e)⟩
theorem Sm.put {H H':Hp} {l:Addr} {o:HO} (s:Sm H H') (n:H l=none):Sm H (upd H' l o):=⟨fun b u e k=>by
 rw [Ai (AZ e n)]
 exact s.keep b u e k,fun b e=>by
 by_cases c:b=l
 ·rw [c];exact n
 ·rw [Ai c] at e;exact s.gone b e⟩
theorem Sm.lst {H H':Hp} (s:Sm H H') {b:Addr} {xs:List V} (e:H b=some (.lst xs)):H' b=some (.lst xs):=s.keep _ _ e rfl
theorem Sm.tup {H H':Hp} (s:Sm H H') {b:Addr} {xs:List V} (e:H b=some (.tup xs)):H' b=some (.tup xs):=s.keep _ _ e rfl
theorem AL.sm {H H':Hp} {as:List Addr} {h:Nat} {F:Nat->Nat->Int} (g:AL H as h F) (s:Sm H H'):AL H' as h F:=⟨g.1,g.2.1,fun x a ha=>s.lst (g.2.2 x a ha)⟩
theorem QL {P:Addr} {pos:Pos} {q:Str} {H H':Hp} (t:GD P pos q H) (s:SmL P H H') (g:∀b,H' b=none->H b=none):Sm H H':=⟨fun b u e n=>s b u (fun z=>by
 rw [z] at e
 rcases t with t | ⟨_,t,_⟩
 ·rw [t] at e;rw [<- Option.some.inj e] at n;cases n
 ·rw [t] at e;rw [<- Option.some.inj e] at n;cases n) e,g⟩
abbrev LT (P:Addr) (H:Hp):Prop:=GD P OC RJ H
abbrev L1 (P:Addr) (H:Hp):Prop:=E3 P OC RJ H
def CP (P:Addr) (h:Nat) (H:Hp):Prop:=LT P H/\(h=1\/L1 P H)
theorem CP.same {P:Addr} {h:Nat} {H H':Hp} (t:CP P h H) (s:Aq H H'):CP P h H':=⟨t.1.same s,t.2.imp id fun t=>t.same s⟩
def M8 (P:Addr):Sp:=fun vs H Q _=>∃(a:Addr) (as:List Addr) (h x:Nat) (L:Nat->Nat->Int),vs=[.ref a,.int (x:Int)]/\H a=some (.lst (as.map V.ref))/\AL H as h L/\x < h/\h<=12/\LT P H /\
 ∀(t b f:Addr) (be bf:List Int) (H':Hp),Sm H H'->(CP P h H->Aq H H')->CP P h H'->H t=none->H b=none->H f=none->b≠f->H' t=some (.tup [.ref b,.ref f])->H' b=some (.lst (be.map V.int))->H' f=some (.lst (bf.map V.int))->D0 h x L be bf->Q (.ref t) H'
theorem QT (a b:Int):(if b < a then b else a)=min a b:=by split <;> omega
theorem set_map (xs:List Int) (z:Nat) (v:Int):(xs.map V.int).set z (.int v)=(xs.set z v).map V.int:=by rw [map_set]
abbrev Us:=List (Addr × List Int)
def fU (us:Us) (x y:Nat):Int:=(us.getD x (0,[])).2.getD y 0
theorem NL {us:Us} {x h:Nat} {r:Addr × List Int} (e:us[x]?=some r) (l:r.2.length=h):((List.range h).map fun y=>fU us x y)=r.2:=by
 have e':us.getD x (0,[])=r:=by rw [getD_eq_getElem?_getD,e];rfl
 unfold fU
 rw [e']
 apply ext_getElem
 ·simp [l]
 ·intro i h1 h2
  simp [h2]
def Bi (h:Nat) (L F:Nat->Nat->Int):Prop:=∀x,x < h->∃bf,D0 h x L ((List.range h).map fun y=>F x y) bf
theorem Bi.uniq {h:Nat} {L F F':Nat->Nat->Int} (g:Bi h L F) (g':Bi h L F') {x y:Nat} (hx:x < h) (hy:y < h):F x y=F' x y:=by
 obtain ⟨bf,r⟩:=g x hx
 obtain ⟨bf',r'⟩:=g' x hx
 have e:=congrArg (fun l:List Int=>l.getD y 0) (r.uniq r')
 simpa [getD_eq_getElem?_getD,hy] using e
theorem Dn {h y:Nat} (F:Nat->Int) (hy:y < h):((List.range h).map fun y=>F y).getD y 0=F y:=by rw [getD_eq_getElem?_getD,List.getElem?_map,List.getElem?_range hy];rfl
structure MX (H:Hp) (t:Addr) (h x:Nat) (L:Nat->Nat->Int) (be:List Int):Prop where
 is:∃(b f:Addr) (bf:List Int),H t=some (.tup [.ref b,.ref f])/\H b=some (.lst (be.map V.int))/\H f=some (.lst (bf.map V.int))/\D0 h x L be bf
theorem MX.same {H H':Hp} {t:Addr} {h x:Nat} {L:Nat->Nat->Int} {be:List Int} (s:Aq H H') (g:MX H t h x L be):MX H' t h x L be:=by
 obtain ⟨b,f,bf,h1,h2,h3,h4⟩:=g.is
 exact ⟨b,f,bf,s _ _ h1,s _ _ h2,s _ _ h3,h4⟩
def AM (ws:List Nat):List Int:=ws.map fun w:Nat=>(w:Int)
def Pe:Sp:=fun vs H Q _=>∃(t:Addr) (h x y:Nat) (L:Nat->Nat->Int) (be:List Int),vs=[.ref t,.int (x:Int),.int (y:Int)]/\MX H t h x L be/\y < h/\y≠x/\h<=12 /\
 ∀(r:Addr) (ws:List Nat) (H':Hp),H r=none->Aq H H'->H' r=some (.lst ((AM ws).map V.int))->E6 h x y L (be.getD y 0) ws->Q (.ref r) H'
def K3 (x y:Nat) (be:List Int) (i:Nat):Bool:=decide (i=x\/be.getD y 0 < be.getD i 0)
def OR:Sp:=fun vs H Q _=>∃(t:Addr) (h x y:Nat) (L:Nat->Nat->Int) (be:List Int),vs=[.ref t,.int (x:Int),.int (y:Int)]/\MX H t h x L be/\x < h/\y < h/\h<=12/\∀H':Hp,Aq H H'->Q (.int (A9 h (K3 x y be))) H'
theorem Qf:∀{h k:Nat} (f:Nat->Bool),k < h->Builtin.bitOr (A9 h f) (1*2 ^ k)=A9 h fun i=>f i || decide (i=k):=by
 have key:∀(h k:Nat) (f:Nat->Bool),k < h->A9 h (fun i=>f i || decide (i=k))=A9 h f+2 ^ k*(if (!f k)=true then 1 else 0):=by
  intro h
  induction h with
  | zero=>intro k f hk;omega
  | succ h ih =>
    intro k f hk
    rw [Cu,Cu]
    by_cases c:k=h
    ·subst c
     rw [AS k (g:=f) (fun i hi=>by rw [decide_eq_false (by omega),Bool.or_false])]
     cases f k <;> simp
    ·rw [ih k f (by omega),decide_eq_false (show ¬ h=k from fun e=>c e.symm),Bool.or_false]
     omega
 intro h k f hk
 rw [OP,BX,decide_eq_true hk,Bool.true_and,key h k f hk]
theorem Bi.tri {h:Nat} {L F:Nat->Nat->Int} (g:Bi h L F) {x y w:Nat} (hx:x < h) (hy:y < h) (hw:w < h) (xy:y≠x) (xw:w≠x) (yw:w≠y):min (F x y) (F y w)<=F x w:=by
 obtain ⟨bf,r⟩:=g x hx
 obtain ⟨bf',r'⟩:=g y hy
 obtain ⟨rk,par⟩:=r'.par
 have key:∀n w,rk w<=n->w < h->w≠x->w≠y->min (F x y) (F y w)<=F x w:=by
  intro n
  induction n with
  | zero =>
    intro w rn hw wx wy
    obtain ⟨p,_,_,p1,_⟩:=par w hw wy
    omega
  | succ n ih =>
    intro w rn hw wx wy
    obtain ⟨p,hp,_,p1,p2,p3⟩:=par w hw wy
    rw [Dn (F y) hw] at p2 p3
    by_cases c:p=y
    ·rw [p2 c]
     have:=r.stab y w hy hw xy wx (Ne.symm wy)
     rwa [Dn (F x) hy,Dn (F x) hw] at this
    ·have e:=p3 c
     rw [Dn (F y) hp] at e
     rw [e]
     by_cases d:p=x
     ·have:=r.low w hw wx
      rw [Dn (F x) hw] at this
      rw [d]
      omega
     ·have a:=ih p (by omega) hp d c
      have b:=r.stab p w hp hw d wx (fun e=>by rw [e] at p1;exact Nat.lt_irrefl _ p1)
      rw [Dn (F x) hp,Dn (F x) hw] at b
      omega
 exact key (rk w) w (Nat.le_refl _) hw xw yw
theorem Bi.low {h:Nat} {L F:Nat->Nat->Int} (g:Bi h L F) {x y:Nat} (hx:x < h) (hy:y < h) (ne:y≠x):L x y<=F x y:=by
 obtain ⟨bf,r⟩:=g x hx
 have:=r.low y hy ne
 rwa [Dn (F x) hy] at this
theorem Bi.trans {h:Nat} {L F:Nat->Nat->Int} (g:Bi h L F) {x y z:Nat} (hx:x < h) (hy:y < h) (hz:z < h) (a:F y x < F x y) (b:F z y < F y z):F z x < F x z:=by
 have xy:y≠x:=fun e=>by rw [e] at a;omega
 have yz:z≠y:=fun e=>by rw [e] at b;omega
 by_cases c:z=x
 ·rw [c] at b;omega
 ·have t1:=g.tri hx hy hz xy c yz
  have t2:=g.tri hy hz hx yz (Ne.symm xy) (Ne.symm c)
  have t3:=g.tri hz hx hy (Ne.symm c) (Ne.symm yz) xy
  omega
def EZ (F:Nat->Nat->Int) (z o:Int):Bool:=decide (F z.toNat o.toNat < F o.toNat z.toNat)
def DH (F:Nat->Nat->Int) (z:Int) (os:List Int):Bool:=os.any (EZ F z)
def unb (F:Nat->Nat->Int) (left:List Int):List Int:=left.filter fun z=>!DH F z left
theorem LC {h:Nat} {L F:Nat->Nat->Int} (g:Bi h L F):∀{left:List Int},left≠[]->(∀z∈left,∃i:Nat,i < h/\z=(i:Int))->∃z∈left,∀o∈left,EZ F z o=false
 | [],n,_=>absurd rfl n
 | [a],_,_=>⟨a,mem_singleton.mpr rfl,fun o mo=>by
   rw [mem_singleton.mp mo]
   exact decide_eq_false (Int.lt_irrefl _)⟩
 | a :: b :: r,_,s=>by
   obtain ⟨m,mm,hm⟩:=LC g (left:=b :: r) (by simp) fun z mz=>s z (mem_cons_of_mem _ mz)
   obtain ⟨i,hi,rfl⟩:=s a (mem_cons_self ..)
   obtain ⟨j,hj,rfl⟩:=s m (mem_cons_of_mem _ mm)
   by_cases c:EZ F (j:Int) (i:Int)=true
   ·refine ⟨(i:Int),mem_cons_self ..,fun o mo=>?_⟩
    rcases mem_cons.mp mo with e | mo
    ·rw [e];exact decide_eq_false (Int.lt_irrefl _)
    ·obtain ⟨k,hk,rfl⟩:=s o (mem_cons_of_mem _ mo)
     have n:=hm _ mo
     unfold EZ at c n ⊢
     have c:=of_decide_eq_true c
     have n:=of_decide_eq_false n
     refine decide_eq_false fun e=>n ?_
     exact g.trans hk hi hj e c
   ·refine ⟨(j:Int),mem_cons_of_mem _ mm,fun o mo=>?_⟩
    rcases mem_cons.mp mo with e | mo
    ·rw [e];exact Bool.eq_false_iff.mpr c
    ·exact hm o mo
theorem QS {h:Nat} {L F:Nat->Nat->Int} (g:Bi h L F) {left:List Int} (n:left≠[]) (s:∀z∈left,∃i:Nat,i < h/\z=(i:Int)):unb F left≠[]:=fun e=>by
 obtain ⟨z,mz,hz⟩:=LC g n s
 have:z∈unb F left:=mem_filter.mpr ⟨mz,by
  show (!DH F z left)=true
  unfold DH
  rw [Bool.not_eq_true',any_eq_false]
  exact fun o mo=>by rw [hz o mo];decide⟩
 rw [e] at this
 cases this
def Au (F:Nat->Nat->Int):Nat->List Int->List Int
 | 0,_=>[]
 | _+1,[]=>[]
 | s+1,z :: r=>(unb F (z :: r)).getD 0 0 :: Au F s ((z :: r).erase ((unb F (z :: r)).getD 0 0))
theorem DP (F:Nat->Nat->Int) {s:Nat} {left:List Int} (n:left≠[]):Au F (s+1) left=(unb F left).getD 0 0 :: Au F s (left.erase ((unb F left).getD 0 0)):=by
 cases left with
 | nil=>exact absurd rfl n
 | cons z r=>rfl
theorem DY (F:Nat->Nat->Int):∀s,Au F s []=[]
 | 0=>rfl
 | _+1=>rfl
theorem DJ (F:Nat->Nat->Int) (left:List Int):Au F 0 left=[]:=by cases left <;> rfl
def off (H:Hp) (D:Addr):Hp:=fun b=>if b=D then none else H b
theorem Ld (H:Hp) (D:Addr):Aq (off H D) H:=fun b o e=>by
 unfold off at e
 split at e
 ·cases e
 ·exact e
theorem Jf {H:Hp} {D b:Addr} {o:HO} (e:H b=some o) (n:b≠D):off H D b=some o:=by
 unfold off
 rw [if_neg n]
 exact e
theorem Ox {H:Hp} {D:Addr}:off H D D=none:=by unfold off;rw [if_pos rfl]
theorem DL {H H':Hp} {D:Addr} {o:HO} (s:Aq (off H D) H'):Aq (off H D) (upd H' D o):=fun b u e=>by
 rw [Ai (fun z=>by rw [z,Ox] at e;cases e)]
 exact s _ _ e
theorem Ny {H0 H:Hp} {D:Addr} (s:Aq H0 H) (n:H0 D=none):Aq H0 (off H D):=fun b o e=>Jf (s _ _ e) fun z=>by rw [z,n] at e;cases e
theorem Lr {H:Hp} {D:Addr} {o:HO}:off (upd H D o) D=off H D:=funext fun b=>by
 unfold off
 by_cases c:b=D
 ·rw [if_pos c,if_pos c]
 ·rw [if_neg c,if_neg c,Ai c]
theorem OQ (n:Nat):(ups n).Pairwise (·<=·):=pairwise_map.mpr (pairwise_lt_range.imp fun h=>by omega)
theorem Qi (n:Nat):(ups n).map V.int=(List.range n).map fun i:Nat=>V.int (i:Int):=by unfold ups;rw [map_map];rfl
theorem QB {ms ns:List Int} {n:Nat} (p:ms.Perm ns) (s:ms.Pairwise (·<=·)) (h:ns.Perm (ups n)):ms=ups n:=(p.trans h).eq_of_pairwise (fun a b _ _ x y=>Int.le_antisymm x y) s (OQ n)
def PJ:Sp:=fun vs H Q _=>∃n:Int,vs=[.int n]/\1<=n/\n<=12/\Q (.bl true) H
def PH:Sp:=fun vs H Q _=>∃n:Int,vs=[.int n]/\1<=n/\n<=60/\Q (.bl true) H
def Qp (K:PySem.W.Frag):Sp:=fun vs H Q _=>∃(l:Addr) (ns:List Int) (n:Nat),vs=[.ref l,.int (n:Int)]/\H l=some (.lst (ns.map V.int))/\ns.Perm (ups n)/\n<=12/\∀H':Hp,Aq H H'->Q (.bl true) H'
abbrev fsW (h s:Int) (l:Addr):List (Str × V):=[("hands",.int h),("seats",.int s),("lots",.ref l)]
theorem Rf (x:V):putF "hands" x []=([("hands",x)]:List (Str × V)):=rfl
theorem Rp (x y:V):putF "seats" y [("hands",x)]=([("hands",x),("seats",y)]:List (Str × V)):=by
 unfold putF;rw [if_neg (by decide)];rfl
theorem RO (x y z:V):putF "lots" z [("hands",x),("seats",y)]=([("hands",x),("seats",y),("lots",z)]:List (Str × V)):=by
 unfold putF;rw [if_neg (by decide)];unfold putF;rw [if_neg (by decide)];rfl
def IsP (C:Addr) (H:Hp) (a:Addr) (h s:Nat) (ns:List Int):Prop:=∃dx l,H a=some (.ins C dx (fsW (h:Int) (s:Int) l))/\H l=some (.lst (ns.map V.int))
theorem IsP.same {C:Addr} {H H':Hp} {a:Addr} {h s:Nat} {ns:List Int} (e:Aq H H') (k:IsP C H a h s ns):IsP C H' a h s ns:=let ⟨dx,l,k1,k2⟩:=k;⟨dx,l,e _ _ k1,e _ _ k2⟩
theorem IsP.sm {C:Addr} {H H':Hp} {a:Addr} {h s:Nat} {ns:List Int} (e:Sm H H') (k:IsP C H a h s ns):IsP C H' a h s ns:=let ⟨dx,l,k1,k2⟩:=k;⟨dx,l,e.keep _ _ k1 rfl,e.lst k2⟩
structure DT (C:Addr) (H:Hp) (a:Addr) (h s:Nat) (ns:List Int):Prop where
 is:IsP C H a h s ns
 pm:ns.Perm (ups h)
 h1:1<=h
 h12:h<=12
 s1:1<=s
 s60:s<=60
theorem DT.same {C:Addr} {H H':Hp} {a:Addr} {h s:Nat} {ns:List Int} (e:Aq H H') (k:DT C H a h s ns):DT C H' a h s ns:=⟨k.is.same e,k.pm,k.h1,k.h12,k.s1,k.s60⟩
theorem DT.sm {C:Addr} {H H':Hp} {a:Addr} {h s:Nat} {ns:List Int} (e:Sm H H') (k:DT C H a h s ns):DT C H' a h s ns:=⟨k.is.sm e,k.pm,k.h1,k.h12,k.s1,k.s60⟩
theorem DF {h:Nat} {z:Int} (m:z∈ups h):∃i:Nat,i < h/\z=(i:Int):=by
 unfold ups at m
 obtain ⟨i,hi,e⟩:=mem_map.mp m
 exact ⟨i,mem_range.mp hi,e.symm⟩
def Lk (K:PySem.W.Frag):Sp:=fun vs H Q _=>∃(a C dx:Addr) (h s:Nat) (lv:V) (ns:List Int),vs=[.ref a,.int (h:Int),.int (s:Int),lv]/\H a=some (.ins C dx [])/\Cls K C/\C4 K C "hands"/\C4 K C "seats"/\C4 K C "lots" /\
 1<=h/\h<=12/\1<=s/\s<=60/\((lv=.non/\ns=ups h)\/∃l,lv=.ref l/\H l=some (.lst (ns.map V.int))/\ns.Perm (ups h)) /\
 ∀(l':Addr) (H':Hp),l'≠a->H l'=none->Aq (off H a) H'->H' a=some (.ins C dx (fsW (h:Int) (s:Int) l'))->H' l'=some (.lst (ns.map V.int))->Q .non H'
def NE:Sp:=fun vs H Q _=>∃(r l:Addr) (rs:List Addr) (h i:Nat) (F:Nat->Nat->Int) (zs:List Int),vs=[.ref r,.int (i:Int),.ref l]/\H r=some (.lst (rs.map V.ref))/\AL H rs h F/\i < h/\H l=some (.lst (zs.map V.int))/\(∀z∈zs,∃j:Nat,j < h/\z=(j:Int))/\zs.length<=60/\∀H':Hp,Aq H H'->Q (.bl (DH F (i:Int) zs)) H'
def MM (C:Addr):Sp:=fun vs H Q _=>∃(a r:Addr) (rs:List Addr) (h s:Nat) (ns:List Int) (L F:Nat->Nat->Int),vs=[.ref a,.ref r]/\DT C H a h s ns/\H r=some (.lst (rs.map V.ref))/\AL H rs h F/\Bi h L F/\∀(p:Addr) (H':Hp),H p=none->Aq H H'->H' p=some (.lst ((Au F s ns).map V.int))->Q (.ref p) H'
def ovF (ls:Ls) (x y:Nat):Int:=Ce (Ds x y) (dsL ls)
def Bv (ls:Ls) (x y:Nat):Int:=ovF ls x y - ovF ls y x
def Kc:Sp:=fun vs H Q _=>∃(a:Addr) (as:List Addr) (h:Nat) (F:Nat->Nat->Int),vs=[.ref a]/\H a=some (.lst (as.map V.ref))/\AL H as h F/\h<=12/\∀(b:Addr) (bs:List Addr) (H':Hp),H b=none->b ∉ bs->(∀c∈bs,H c=none)->Aq H H'->H' b=some (.lst (bs.map V.ref))->AL H' bs h (fun x y=>F x y - F y x)->Q (.ref b) H'
structure Rw where
 t:Addr
 x:Nat
 y:Nat
 s:Int
 w:Addr
 ws:List Nat
 cut:Int
def Mt (F:Nat->Nat->Int) (x y i:Nat):Bool:=decide (i=x\/F x y < F x i)
structure EK (h:Nat) (L F:Nat->Nat->Int) (H:Hp) (q:Rw):Prop where
 tup:H q.t=some (.tup [.int (q.x:Int),.int (q.y:Int),.int q.s,.ref q.w,.int q.cut])
 way:H q.w=some (.lst ((AM q.ws).map V.int))
 hx:q.x < h
 hy:q.y < h
 ne:q.y≠q.x
 str:q.s=F q.x q.y
 isw:E6 h q.x q.y L q.s q.ws
 cutE:q.cut=A9 h (Mt F q.x q.y)
theorem EK.same {h:Nat} {L F:Nat->Nat->Int} {H H':Hp} {q:Rw} (e:Aq H H') (k:EK h L F H q):EK h L F H' q:=⟨e _ _ k.tup,e _ _ k.way,k.hx,k.hy,k.ne,k.str,k.isw,k.cutE⟩
theorem EK.sm {h:Nat} {L F:Nat->Nat->Int} {H H':Hp} {q:Rw} (e:Sm H H') (k:EK h L F H q):EK h L F H' q:=⟨e.tup k.tup,e.lst k.way,k.hx,k.hy,k.ne,k.str,k.isw,k.cutE⟩
theorem EK.congr {h:Nat} {L F F':Nat->Nat->Int} {H:Hp} {q:Rw} (k:EK h L F H q) (e:∀y,y < h->F q.x y=F' q.x y):EK h L F' H q:=⟨k.tup,k.way,k.hx,k.hy,k.ne,by rw [k.str,e _ k.hy],k.isw,by
 rw [k.cutE]
 exact AS h fun i hi=>by unfold Mt;rw [e _ k.hy,e i hi]⟩
def vrw (rows:List Rw):List V:=rows.map fun q=>.ref q.t
def Fe (h x:Nat):List Nat:=(List.range h).filter fun y=>decide (y≠x)
theorem Of (h x:Nat):CA h x=AM (Fe h x):=rfl
def pairsOf (h n:Nat):List (Nat × Nat):=(List.range n).flatMap fun x=>(Fe h x).map fun y=>(x,y)
def JI:Sp:=fun vs H Q _=>∃(t:Addr) (h x:Nat) (L:Nat->Nat->Int) (be:List Int),vs=[.ref t,.int (x:Int)]/\MX H t h x L be/\x < h/\h<=12 /\
 ∀(r:Addr) (rows:List Rw) (H':Hp),H r=none->Aq H H'->H' r=some (.lst (vrw rows))->(∀q∈rows,EK h L (fun _ y=>be.getD y 0) H' q/\q.x=x/\H q.t=none/\H q.w=none)->rows.map (fun q=>(q.x,q.y))=(Fe h x).map (fun y=>(x,y))->Q (.ref r) H'
structure KM (H:Hp) (p:Addr) (h s:Nat) (ns:List Int) (ls:Ls) (F:Nat->Nat->Int):Prop where
 is:∃(m sh pk:Addr) (ms:List Addr) (rows:List Rw),H p=some (.tup [.ref m,.ref sh,.ref pk])/\H m=some (.lst (ms.map V.ref))/\AL H ms h (ovF ls)/\H sh=some (.lst (vrw rows))/\(∀q∈rows,EK h (Bv ls) F H q)/\rows.map (fun q=>(q.x,q.y))=pairsOf h h/\H pk=some (.lst ((Au F s ns).map V.int))
 strong:Bi h (Bv ls) F
def QK (H H':Hp) (p:Addr):Prop:=∀(m sh pk:Addr) (ms:List Addr),H' p=some (.tup [.ref m,.ref sh,.ref pk])->H' m=some (.lst (ms.map V.ref))->H m=none/\H sh=none/\H pk=none/\∀a∈ms,H a=none
def KC (C P:Addr):Sp:=fun vs H Q _=>∃(a l:Addr) (h s:Nat) (ns:List Int) (ls:Ls),vs=[.ref a,.ref l]/\DT C H a h s ns/\H l=some (.lst (vls ls))/\CO h H ls/\ls.length<=60/\LT P H /\
 ∀(p:Addr) (F:Nat->Nat->Int) (H':Hp),Sm H H'->(CP P h H->Aq H H')->CP P h H'->H p=none->KM H' p h s ns ls F->QK H H' p->Q (.ref p) H'
theorem CP.put {P l:Addr} {h:Nat} {H:Hp} {xs:List V} {o:HO} (t:CP P h H) (e:H l=some (.lst xs)):CP P h (upd H l o):=⟨GD.put t.1 e,t.2.imp id fun z=>E3.put z e⟩
theorem HM (ws:List Nat):(AM ws).length=ws.length:=by unfold AM;rw [length_map]
theorem EE (a b:List Rw):vrw (a++b)=vrw a++vrw b:=by unfold vrw;rw [map_append]
theorem C5 (a:List Rw):(vrw a).length=a.length:=by unfold vrw;rw [length_map]
theorem Q9 {us:Us} {r:Addr × List Int} {x:Nat} (h:x < us.length) (y:Nat):fU (us++[r]) x y=fU us x y:=by
 unfold fU
 rw [show (us++[r]).getD x (0,[])=us.getD x (0,[]) from by rw [getD_eq_getElem?_getD (l:=us++[r]),getD_eq_getElem?_getD (l:=us),List.getElem?_append_left h]]
theorem QN {us:Us} {r:Addr × List Int} (y:Nat):fU (us++[r]) us.length y=r.2.getD y 0:=by
 unfold fU
 rw [getD_eq_getElem?_getD (l:=us++[r]),List.getElem?_append_right (Nat.le_refl _),Nat.sub_self]
 rfl
theorem DM (h n:Nat):pairsOf h (n+1)=pairsOf h n++(Fe h n).map fun y=>(n,y):=by
 unfold pairsOf
 rw [range_succ,flatMap_append]
 simp
theorem CT {h:Nat}:∀{n:Nat},n<=h->(pairsOf h n).length+n=n*h
 | 0,_=>by simp [pairsOf]
 | n+1,hn=>by
   have ih:=CT (h:=h) (n:=n) (by omega)
   have b:(Fe h n).length+1=h:=by
    have:=HY (h:=h) (x:=n) (by omega)
    rwa [Of,HM] at this
   rw [DM,length_append,length_map,Nat.succ_mul]
   omega
def putF (F:Nat->Nat->Int) (x y:Nat) (n:Int):Nat->Nat->Int:=fun x' y'=>F x' y'+if x'=x/\y'=y then n else 0
abbrev Prs:=List (Addr × Nat × Nat)
def HD (ps:Prs):List V:=ps.map fun q=>.ref q.1
theorem AL.setv {H:Hp} {as:List Addr} {h:Nat} {F:Nat->Nat->Int} (g:AL H as h F) {x y:Nat} {a:Addr} (ha:as[x]?=some a) (v:Int):AL (upd H a (.lst ((((List.range h).map fun y=>F x y).map V.int).set y (.int v)))) as h (putF F x y (v - F x y)):=by
 have:=g.put (y:=y) ha (v - F x y)
 rwa [show F x y+(v - F x y)=v by omega] at this
theorem O2 {z:Int} {zs:List Int}:inV (V.int z) (zs.map V.int)=decide (z∈zs):=by
 unfold inV
 rw [any_map]
 by_cases c:z∈zs
 ·rw [decide_eq_true c]
  exact any_eq_true.mpr ⟨z,c,by simp [eqV]⟩
 ·rw [decide_eq_false c]
  refine Bool.eq_false_iff.mpr fun e=>c ?_
  obtain ⟨y,my,ey⟩:=any_eq_true.mp e
  have:y=z:=by simpa [eqV] using ey
  rw [<- this];exact my
theorem QX {z:Int} {zs:List Int} (m:z∈zs):(if false=true then !inV (V.int z) (zs.map V.int) else inV (V.int z) (zs.map V.int))=true:=by rw [if_neg (by decide),O2,decide_eq_true m]
theorem Rn {z:Int} {zs:List Int} (m:z ∉ zs):(if false=true then !inV (V.int z) (zs.map V.int) else inV (V.int z) (zs.map V.int))=false:=by rw [if_neg (by decide),O2,decide_eq_false m]
theorem OD (zs:List Int):(zs.map V.int).all Fh=true:=by rw [all_map];exact all_eq_true.mpr fun _ _=>rfl
theorem Jc {ws:List Nat} {k:Nat} (h:k < ws.length):atI ((AM ws).map V.int) (k:Int)=some (.int ((ws.getD k 0:Nat):Int)):=by
 refine atN ?_
 unfold AM
 rw [List.getElem?_map,List.getElem?_eq_getElem h,getD_eq_getElem?_getD,List.getElem?_eq_getElem h]
 rfl
theorem Er (ws:List Nat):(AM ws).length=ws.length:=by unfold AM;rw [length_map]
theorem FA {ws:List Nat} {y:Nat} (h:ws.getLast?=some y):atI ((AM ws).map V.int) (-1)=some (.int (y:Int)):=by
 have hp:0 < ws.length:=by
  cases ws with
  | nil=>cases h
  | cons a r=>rw [length_cons];omega
 have:atI ((AM ws).map V.int) (-1)=((AM ws).map V.int)[ws.length - 1]?:=by
  unfold atI ixN
  rw [length_map,Er,if_neg (by decide),if_pos (by omega)]
  show ((AM ws).map V.int)[((-1:Int)+(ws.length:Int)).toNat]?=_
  congr 1
  omega
 rw [this,List.getElem?_map]
 unfold AM
 rw [List.getElem?_map,<- List.getLast?_eq_getElem?,h]
 rfl
theorem Fg (ps:Prs):(HD ps).length=ps.length:=length_map ..
def E5 (h:Nat) (pk:List Int):List Int:=(List.range h).map fun i:Nat=>if (i:Int)∈pk then 1 else 0
def Pk (C:Addr):Sp:=fun vs H Q _=>∃(a p:Addr) (h s:Nat) (ns:List Int) (ls:Ls) (F:Nat->Nat->Int),vs=[.ref a,.ref p]/\DT C H a h s ns/\(∃m sh pk:Addr,H p=some (.tup [.ref m,.ref sh,.ref pk])/\H pk=some (.lst ((Au F s ns).map V.int)))/\∀(r:Addr) (H':Hp),H r=none->Aq H H'->H' r=some (.lst ((E5 h (Au F s ns)).map V.int))->Q (.ref r) H'
def QA (C P:Addr):Sp:=fun vs H Q _=>∃(a l:Addr) (h s:Nat) (ns:List Int) (ls:Ls),vs=[.ref a,.ref l]/\DT C H a h s ns/\H l=some (.lst (vls ls))/\CO h H ls/\ls.length<=60/\LT P H /\
 ∀(r:Addr) (F:Nat->Nat->Int) (H':Hp),Sm H H'->(CP P h H->Aq H H')->CP P h H'->H' r=some (.lst ((E5 h (Au F s ns)).map V.int))->Bi h (Bv ls) F->Q (.ref r) H'
theorem ID {h:Nat} {z:Int}:z∈ups h↔∃i:Nat,i < h/\z=(i:Int):=by
 unfold ups
 rw [mem_map]
 exact ⟨fun ⟨i,hi,e⟩=>⟨i,mem_range.mp hi,e.symm⟩,fun ⟨i,hi,e⟩=>⟨i,mem_range.mpr hi,e.symm⟩⟩
theorem HZ {h n x y:Nat}:(x,y)∈pairsOf h n↔x < n/\y < h/\y≠x:=by
 unfold pairsOf Fe
 simp only [mem_flatMap,mem_range,mem_map,mem_filter,decide_eq_true_eq,Prod.mk.injEq]
 exact ⟨fun ⟨a,ha,b,⟨hb,ne⟩,e1,e2⟩=>by subst e1 e2;exact ⟨ha,hb,ne⟩,fun ⟨a,b,c⟩=>⟨x,a,y,⟨b,c⟩,rfl,rfl⟩⟩
theorem EX {rows:List Rw} {i:Nat} {x:V} (h:(vrw rows)[i]?=some x):∃q,rows[i]?=some q/\x=.ref q.t/\q∈rows/\rows.take (i+1)=rows.take i++[q]:=by
 unfold vrw at h
 rw [List.getElem?_map] at h
 obtain ⟨q,hq,rfl⟩:=Option.map_eq_some_iff.mp h
 exact ⟨q,hq,rfl,mem_of_getElem? hq,by rw [take_add_one,hq];rfl⟩
theorem Qt (h:Nat):(ups h).Nodup:=by
 unfold ups
 exact pairwise_map.mpr (nodup_range.imp fun n e=>n (by omega))
theorem Qc (h:Nat):((List.range h).map fun i:Nat=>V.int (i:Int))=(ups h).map V.int:=by
 unfold ups
 rw [map_map]
 rfl
theorem FY {h:Nat} {F G:Nat->Nat->Int} (e:∀x y,x < h->y < h->F x y=G x y):∀(s:Nat) (left:List Int),(∀o∈left,∃i:Nat,i < h/\o=(i:Int))->Au F s left=Au G s left
 | 0,left,_=>by rw [DJ,DJ]
 | s+1,[],_=>by rw [DY,DY]
 | s+1,o :: left,sub=>by
   have ub:unb F (o :: left)=unb G (o :: left):=by
    unfold unb
    refine filter_congr fun a m=>?_
    congr 1
    unfold DH
    rw [Bool.eq_iff_iff,any_eq_true,any_eq_true]
    have key:∀b∈o :: left,EZ F a b=EZ G a b:=fun b mb=>by
     obtain ⟨i,hi,rfl⟩:=sub a m
     obtain ⟨j,hj,rfl⟩:=sub b mb
     unfold EZ
     rw [Int.toNat_natCast,Int.toNat_natCast,e i j hi hj,e j i hj hi]
    exact ⟨fun ⟨b,mb,k⟩=>⟨b,mb,by rw [<- key b mb];exact k⟩,fun ⟨b,mb,k⟩=>⟨b,mb,by rw [key b mb];exact k⟩⟩
   rw [DP F (cons_ne_nil _ _),DP G (cons_ne_nil _ _),ub,FY e s _ fun b m=>sub b (mem_of_mem_erase m)]
def Lay (k:Nat) (d:PyData):Prop:=d.canLay0=true/\d.depth<=k
mutual
theorem N0:∀d:PyData,d.canLay0=true->PyData.eqv d d=true
 | .none,_=>rfl
 | .bool b,_=>by show (b == b)=true;exact beq_self_eq_true b
 | .int i,_=>by show (i == i)=true;exact beq_self_eq_true i
 | .str x,_=>by show (x == x)=true;exact beq_self_eq_true x
 | .list xs,h=>eqv_mes xs h
 | .tuple xs,h=>eqv_mes xs h
 | .dict _,h=>nomatch h
theorem eqv_mes:∀xs:List PyData,PyData.canLayAll0 xs=true->PyData.eqvAll xs xs=true
 | [],_=>rfl
 | x :: xs,h=>by
   have h':(PyData.canLay0 x && PyData.canLayAll0 xs)=true:=h
   rw [Bool.and_eq_true] at h'
   show (PyData.eqv x x && PyData.eqvAll xs xs)=true
   rw [N0 x h'.1,eqv_mes xs h'.2]
   rfl
end
theorem Fn {k:Nat}:∀{xs:List PyData},(∀x∈xs,Lay k x)->PyData.canLayAll0 xs=true/\PyData.depthAll xs<=k
 | [],_=>⟨rfl,Nat.zero_le _⟩
 | x :: xs,h=>by
   obtain ⟨a,b⟩:=Fn (xs:=xs) fun y m=>h y (mem_cons_of_mem _ m)
   obtain ⟨c,d⟩:=h x (mem_cons_self ..)
   refine ⟨?_,?_⟩
   ·show (PyData.canLay0 x && PyData.canLayAll0 xs)=true
    rw [a,c];rfl
   ·show max (PyData.depth x) (PyData.depthAll xs)<=k
    omega
theorem Ea {k:Nat} {xs:List PyData} (h:∀x∈xs,Lay k x):Lay (k+1) (.list xs):=⟨(Fn h).1,Nat.succ_le_succ (Fn h).2⟩
theorem LO {k:Nat} {xs:List PyData} (h:∀x∈xs,Lay k x):Lay (k+1) (.tuple xs):=⟨(Fn h).1,Nat.succ_le_succ (Fn h).2⟩
theorem Gu {α:Type} {k:Nat} {f:α->PyData} (h:∀x,Lay k (f x)) (xs:List α):∀d∈xs.map f,Lay k d:=fun d m=>by
 obtain ⟨x,_,rfl⟩:=mem_map.mp m
 exact h x
theorem Lay.shaped {k:Nat} {d:PyData} (h:Lay k d) (k64:k<=64):SeqAt.shaped d=true:=by
 unfold SeqAt.shaped
 rw [h.1,decide_eq_true (Nat.le_trans h.2 k64)]
 rfl
theorem Lay.eqv {k:Nat} {d:PyData} (h:Lay k d):PyData.eqv d d=true:=N0 d h.1
section
variable {h y:Nat} {v:Int} {L F:Nat->Nat->Int}
inductive On (h y:Nat) (v:Int) (L:Nat->Nat->Int):List (Nat × Nat)->Prop
 | start:On h y v L [(y,y)]
 | put {ps:List (Nat × Nat)} {k n:Nat}:On h y v L ps->k < h->k ∉ ps.map Prod.fst->n∈ps.map Prod.fst->v<=L k n->On h y v L (ps++[(k,n)])
def Jr (h:Nat) (v:Int) (L:Nat->Nat->Int) (ks:List Nat):Prop:=∀k,k < h->k ∉ ks->∀n∈ks,L k n < v
theorem On.mem_y {ps:List (Nat × Nat)} (o:On h y v L ps):y∈ps.map Prod.fst:=by
 induction o with
 | start=>exact mem_cons_self ..
 | put _ _ _ _ _ ih=>rw [map_append];exact mem_append_left _ ih
theorem On.nd {ps:List (Nat × Nat)} (o:On h y v L ps):(ps.map Prod.fst).Nodup:=by
 induction o with
 | start=>exact nodup_cons.mpr ⟨(fun m=>nomatch m),nodup_nil⟩
 | put _ _ nk _ _ ih =>
   rw [map_append]
   refine nodup_append.mpr ⟨ih,nodup_cons.mpr ⟨(fun m=>nomatch m),nodup_nil⟩,fun a ma b mb e=>?_⟩
   rw [map_singleton,mem_singleton] at mb
   exact nk (by have z:=ma;rw [e,mb] at z;exact z)
theorem On.lt {ps:List (Nat × Nat)} (hy:y < h) (o:On h y v L ps):∀k∈ps.map Prod.fst,k < h:=by
 induction o with
 | start=>intro k m;rw [map_singleton,mem_singleton] at m;rw [m];exact hy
 | put _ hk _ _ _ ih =>
   intro z m
   rw [map_append] at m
   rcases mem_append.mp m with m | m
   ·exact ih z m
   ·rw [map_singleton,mem_singleton] at m;rw [m];exact hk
theorem OE {ks:List Nat} (nd:ks.Nodup) (lt:∀k∈ks,k < h):ks.length<=h:=by
 have:=Df (xs:=AM ks) (ys:=ups h) (List.Pairwise.map _ (fun a b (ne:a≠b) e=>ne (Int.ofNat.inj e)) nd) fun z mz=>by
  obtain ⟨u,mu,rfl⟩:=mem_map.mp mz
  exact mem_map.mpr ⟨u,mem_range.mpr (lt u mu),rfl⟩
 rw [Er,BH] at this
 exact this
theorem On.len {ps:List (Nat × Nat)} (hy:y < h) (o:On h y v L ps):ps.length<=h:=by
 have:=OE o.nd (o.lt hy)
 rw [length_map] at this
 exact this
theorem On.strong {ps:List (Nat × Nat)} (g:Bi h L F) (hy:y < h) (o:On h y v L ps):∀k∈ps.map Prod.fst,k≠y->v<=F k y:=by
 induction o with
 | start=>intro k m ne;rw [map_singleton,mem_singleton] at m;exact absurd m ne
 | @put ps k n o hk nk mn lv ih =>
   intro z m ne
   rw [map_append] at m
   rcases mem_append.mp m with m | m
   ·exact ih z m ne
   ·rw [map_singleton,mem_singleton] at m
    have m:k=z:=m.symm
    subst m
    have nz:n≠k:=fun e=>nk (by rw [<- e];exact mn)
    have hn:=o.lt hy n mn
    by_cases c:n=y
    ·subst c
     exact Int.le_trans lv (g.low hk hy nz)
    ·have a:=g.tri hk hn hy nz (Ne.symm ne) (Ne.symm c)
     have b:=ih n mn c
     have d:=g.low hk hn nz
     omega
theorem Ni {ks:List Nat} (g:Bi h L F) (c:Jr h v L ks) (hy:y < h) (my:y∈ks) {x:Nat} (hx:x < h) (nx:x ∉ ks):F x y < v:=by
 obtain ⟨bf,re⟩:=g x hx
 obtain ⟨rk,pr⟩:=re.par
 have row:∀{i:Nat},i < h->((List.range h).map fun y=>F x y).getD i 0=F x i:=fun {i} hi=>by
  rw [getD_eq_getElem?_getD,List.getElem?_map,List.getElem?_range hi]
  rfl
 have key:∀n z,rk z < n->z < h->z∈ks->F x z < v:=by
  intro n
  induction n with
  | zero=>intro z k;exact absurd k (Nat.not_lt_zero _)
  | succ n ih =>
    intro z k hz mz
    obtain ⟨p,ph,_,pk,p1,p2⟩:=pr z hz (fun e=>nx (by rw [<- e];exact mz))
    rw [row hz] at p1 p2
    by_cases e:p=x
    ·rw [p1 e]
     exact c x hx nx z mz
    ·rw [row ph] at p2
     rw [p2 e]
     by_cases mp:p∈ks
     ·have:=ih p (by omega) ph mp
      omega
     ·have:=c p ph mp z mz
      omega
 exact key (rk y+1) y (by omega) hy my
theorem OT (L:Nat->Nat->Int) {ws:List Nat} {w:Nat} (e:ws.getLast?=some w) (n:Nat):lk L (ws++[n])=lk L ws++[L w n]:=by
 have l1:1<=ws.length:=by
  cases ws with
  | nil=>cases e
  | cons _ _=>simp
 unfold lk
 rw [show (ws++[n]).length - 1=(ws.length - 1)+1 by rw [length_append];show ws.length+1 - 1=_;omega,range_succ,map_append]
 congr 1
 ·refine map_congr_left fun k mk=>?_
  have hk:=mem_range.mp mk
  rw [getD_eq_getElem?_getD,getD_eq_getElem?_getD,List.getElem?_append_left (by omega),List.getElem?_append_left (by omega),<- getD_eq_getElem?_getD,<- getD_eq_getElem?_getD]
 ·rw [map_singleton]
  have a1:(ws++[n]).getD (ws.length - 1) 0=w:=by
   rw [getD_eq_getElem?_getD,List.getElem?_append_left (by omega),<- List.getLast?_eq_getElem?,e]
   rfl
  have a2:(ws++[n]).getD (ws.length - 1+1) 0=n:=by
   rw [getD_eq_getElem?_getD,List.getElem?_append_right (by omega),show ws.length - 1+1 - ws.length=0 by omega]
   rfl
  rw [a1,a2]
structure Walk (x:Nat) (v:Int) (L:Nat->Nat->Int) (ks ws:List Nat) (w:Nat):Prop where
 mem:∀z∈ws,z∈ks
 dec:ws.Pairwise (fun a b=>ks.idxOf b < ks.idxOf a)
 first:ws.head?=some x
 last:ws.getLast?=some w
 links:∀l∈lk L ws,v<=l
 low:∀z∈ws,ks.idxOf w<=ks.idxOf z
 len:ws.length+ks.idxOf w<=ks.length
theorem Walk.start {x:Nat} {ks:List Nat} (m:x∈ks):Walk x v L ks [x] x :=
 ⟨fun z mz=>by rw [mem_singleton.mp mz];exact m,pairwise_singleton _ _,rfl,rfl,(fun l ml=>nomatch ml),(fun z mz=>by rw [mem_singleton.mp mz];exact Nat.le_refl _),by have:=idxOf_lt_length_iff.mpr m;show 1+_<=_;omega⟩
theorem Walk.step {x w n:Nat} {ks ws:List Nat} (k:Walk x v L ks ws w) (mn:n∈ks) (lt:ks.idxOf n < ks.idxOf w) (lv:v<=L w n):Walk x v L ks (ws++[n]) n:=by
 refine ⟨fun z mz=>?_,pairwise_append.mpr ⟨k.dec,pairwise_singleton _ _,fun a ma b mb=>?_⟩,?_,by rw [List.getLast?_append];rfl,fun l ml=>?_,fun z mz=>?_,?_⟩
 ·rcases mem_append.mp mz with mz | mz
  ·exact k.mem z mz
  ·rw [mem_singleton.mp mz];exact mn
 ·rw [mem_singleton.mp mb]
  have:=k.low a ma
  omega
 ·rw [List.head?_append,k.first]
  rfl
 ·rw [OT L k.last] at ml
  rcases mem_append.mp ml with ml | ml
  ·exact k.links l ml
  ·rw [mem_singleton.mp ml];exact lv
 ·rcases mem_append.mp mz with mz | mz
  ·have:=k.low z mz
   omega
  ·rw [mem_singleton.mp mz];exact Nat.le_refl _
 ·have:=k.len
  rw [length_append]
  show _+1+_<=_
  omega
theorem Ly (g:Bi h L F) {u:Int} (hy:y < h):∀(x:Nat) (r:List Nat),r≠[]->(∀z∈x :: r,z < h)->(x :: r).Nodup->(x :: r).getLast?=some y->(∀l∈lk L (x :: r),u<=l)->u<=F x y
 | x,[],ne,_,_,_,_=>absurd rfl ne
 | x,[w],_,al,nd,la,li=>by
   have la:w=y:=Option.some.inj la
   subst la
   rw [Fu] at li
   have a:=li _ (mem_cons_self ..)
   have nx:w≠x:=fun e=>(nodup_cons.mp nd).1 (by rw [<- e];exact mem_cons_self ..)
   exact Int.le_trans a (g.low (al x (mem_cons_self ..)) hy nx)
 | x,w :: z :: r,_,al,nd,la,li=>by
   rw [Fu] at li
   have nd2:=(nodup_cons.mp nd)
   have hx:=al x (mem_cons_self ..)
   have hw:=al w (mem_cons_of_mem _ (mem_cons_self ..))
   have la2:(w :: z :: r).getLast?=some y:=by rw [List.getLast?_cons_cons] at la;exact la
   have my:y∈z :: r:=by
    have:(z :: r).getLast?=some y:=by rw [List.getLast?_cons_cons] at la2;exact la2
    exact mem_of_getLast? this
   have a:=li _ (mem_cons_self ..)
   have b:=Ly g hy w (z :: r) (fun e=>nomatch e) (fun q m=>al q (mem_cons_of_mem _ m)) nd2.2 la2 fun l m=>li l (mem_cons_of_mem _ m)
   have wx:w≠x:=fun e=>nd2.1 (by rw [<- e];exact mem_cons_self ..)
   have yx:y≠x:=fun e=>nd2.1 (by rw [<- e];exact mem_cons_of_mem _ my)
   have yw:y≠w:=fun e=>(nodup_cons.mp nd2.2).1 (by rw [<- e];exact my)
   have c:=g.low hx hw wx
   have d:=g.tri hx hw hy wx yx yw
   omega
theorem Walk.way {x:Nat} {ks ws:List Nat} (g:Bi h L F) (hy:y < h) (lt:∀k∈ks,k < h) (k:Walk x (F x y) L ks ws y) (ne:x≠y):E6 h x y L (F x y) ws:=by
 have nd:ws.Nodup:=k.dec.imp fun z e=>by rw [e] at z;exact Nat.lt_irrefl _ z
 obtain ⟨r,rfl⟩:∃r,ws=x :: r:=by
  have:=k.first
  cases ws with
  | nil=>cases this
  | cons a r=>cases this;exact ⟨r,rfl⟩
 have rn:r≠[]:=fun e=>by
  have:=k.last
  rw [e] at this
  cases this
  exact ne rfl
 have two:2<=(x :: r).length:=by have:=length_pos_iff.mpr rn;rw [length_cons];omega
 refine ⟨fun z m=>lt z (k.mem z m),nd,rfl,k.last,two,?_,k.links⟩
 by_cases c:F x y∈lk L (x :: r)
 ·exact c
 ·have:=Ly g (u:=F x y+1) hy x r rn (fun z m=>lt z (k.mem z m)) nd k.last fun l m=>by
   have a:=k.links l m
   have b:l≠F x y:=fun e=>c (by rw [<- e];exact m)
   omega
  omega
theorem On.next {ps:List (Nat × Nat)} (o:On h y v L ps):∀k,k∈ps.map Prod.fst->k≠y->∃n,ps.lookup k=some n/\n∈ps.map Prod.fst/\v<=L k n/\(ps.map Prod.fst).idxOf n < (ps.map Prod.fst).idxOf k:=by
 induction o with
 | start=>intro k m ne;rw [map_singleton,mem_singleton] at m;exact absurd m ne
 | @put ps k n o hk nk mn lv ih =>
   intro z m ne
   have idx:∀{q:Nat},q∈ps.map Prod.fst->((ps++[(k,n)]).map Prod.fst).idxOf q=(ps.map Prod.fst).idxOf q:=fun {q} mq=>by rw [map_append,idxOf_append,if_pos mq]
   rw [map_append] at m
   rcases mem_append.mp m with m | m
   ·obtain ⟨a,a1,a2,a3,a4⟩:=ih z m ne
    refine ⟨a,?_,by rw [map_append];exact mem_append_left _ a2,a3,by rw [idx a2,idx m];exact a4⟩
    rw [lookup_append,a1]
    rfl
   ·rw [map_singleton,mem_singleton] at m
    have m:k=z:=m.symm
    subst m
    refine ⟨n,?_,by rw [map_append];exact mem_append_left _ mn,lv,?_⟩
    ·rw [lookup_append]
     have:ps.lookup k=none:=by
      rw [lookup_eq_none_iff]
      intro q mq
      exact bne_iff_ne.mpr (fun e=>nk (mem_map.mpr ⟨q,mq,e.symm⟩))
     rw [this]
     simp
    ·rw [idx mn,map_append,idxOf_append,if_neg nk]
     have:=idxOf_lt_length_iff.mpr mn
     omega
end
theorem Ik {X:Cx} (hu:X.A.units+1 < cLine):OpR X (compareOp .NotIn) (fun y x H Q=>∃a o,x=.ref a/\DE H a y o/\Q (.bl (!o.isSome)) H):=by
 intro pins s σ H x y u v Q I rx ry h
 obtain ⟨a,o,rfl,g,q⟩:=h
 cases ry
 exact ON hu I g rx fun s' I'=>⟨.bl (!o.isSome),H,I',rfl,q⟩
theorem M7 {K:PySem.W.Frag} {a b:Addr} {xs zs:List V} {tt:TT} {te:TE} {σ:St} {H1:Hp} {Q:Addr->Hp->Prop} {n m:Nat} (hn:n=σ.length) (hm:m=σ.length+1) (hxz:zs.length<=xs.length) (hz:zs.length<=sizeLine) (Pv:Addr->Nat->List V->Hp->Prop)
 (h0:∀D,H1 D=none->Pv D 0 [] (upd H1 D (.lst []))) (hD:∀D i ys H,Pv D i ys H->H D=some (.lst ys)/\ys.length<=i) (hl:∀D i ys H,H1 D=none->Pv D i ys H->SqL K H a xs/\SqL K H b zs)
 (hs:∀D i x z T ys H (K1:VK) (K2:Hp->Prop),H1 D=none->xs[i]?=some x->zs[i]?=some z->Pv D i ys H->H T=none->(∀y H5,H5 D=some (.lst ys)->Pv D (i+1) (ys++[y]) (upd H5 D (.lst (ys++[y])))->K1 y H5)->(∀H4,Pv D (i+1) ys H4->K2 H4) ->
  tt (σ++[some x,some z]) (upd H T (.tup [x,z])) fun b H4=>if b=true then te (σ++[some x,some z]) H4 K1 else K2 H4)
 (hd:∀D ys H,H1 D=none->Pv D zs.length ys H->Q D H) :
 ∀D,H1 D=none->∃W:Nat->Nat->List V->Hp->Prop,(∃m,W 0 m [] (upd H1 D (.lst [])))/\∀i k ys H2,W i k ys H2 ->
  H2 D=some (.lst ys)/\(((Itz K a b).stop i H2/\Q D H2)\/((Itz K a b).go i H2/\ys.length < sizeLine/\∀x H3,(Itz K a b).yld i H2 x H3->∀os:St,os.length=2->Q0 K 2 (JG (Et n) (JG (Et m) Qx)) x (σ++os) H3 fun σ4 H4=>(∃os':St,σ4=σ++os'/\os'.length=2)/\tt σ4 H4 fun b H5=>if b=true then te σ4 H5 fun y H6=>H6 D=some (.lst ys)/\∃m',m' < k/\W (i+1) m' (ys++[y]) (upd H6 D (.lst (ys++[y])))
   else ∃m',m' < k/\W (i+1) m' ys H5)):=by
 intro D hDn
 subst hn hm
 refine ⟨fun i m ys H=>m=zs.length - i/\i<=zs.length/\Pv D i ys H,⟨zs.length,rfl,Nat.zero_le _,h0 D hDn⟩,?_⟩
 rintro i m ys H2 ⟨rfl,hi,p⟩
 obtain ⟨e,l⟩:=hD D i ys H2 p
 obtain ⟨q1,q2⟩:=hl D i ys H2 hDn p
 refine ⟨e,?_⟩
 by_cases hlt':i < zs.length
 ·have hlt:i < xs.length:=by omega
  refine .inr ⟨⟨xs,zs,xs[i],zs[i],q1,q2,by simp [hlt],by simp [hlt']⟩,Nat.lt_of_le_of_lt l (Nat.lt_of_lt_of_le hlt' hz),fun x H3 y os ho=>?_⟩
  obtain ⟨T,v,w,rfl,hT,rfl,hy,hw⟩:=y
  have q5:=hs D i v w T ys H2 (fun y H6=>H6 D=some (.lst ys)/\∃m',m' < zs.length - i/\m'=zs.length - (i+1)/\i+1<=zs.length/\Pv D (i+1) (ys++[y]) (upd H6 D (.lst (ys++[y])))) (fun H5=>∃m',m' < zs.length - i/\m'=zs.length - (i+1)/\i+1<=zs.length/\Pv D (i+1) ys H5) hDn (hy xs q1) (hw zs q2) p hT (fun y H5 h5 p5=>⟨h5,zs.length - (i+1),by omega,rfl,hlt',p5⟩) fun H4 p4=>⟨zs.length - (i+1),by omega,rfl,hlt',p4⟩
  match os,ho with
  | [o1,o2],_ =>
    have e2:((σ++[o1,o2]).set σ.length (some v)).set (σ.length+1) (some w)=σ++[some v,some w]:=by
     rw [set_append_right _ _ (Nat.le_refl _),Nat.sub_self,set_append_right _ _ (Nat.le_succ _)]
     rw [show (List.length σ+1) - List.length σ=1 by omega]
     rfl
    refine ⟨T,[v,w],rfl,SqT.of Ab,rfl,v,[w],rfl,w,[],rfl,rfl,?_⟩
    refine ⟨⟨[some v,some w],e2,rfl⟩,?_⟩
    rw [e2]
    exact q5
 ·have ei:i=zs.length:=by omega
  subst ei
  exact .inl ⟨⟨xs,zs,q1,q2,.inr (Nat.le_refl _)⟩,hd D ys H2 hDn p⟩
theorem KS {X:Cx} (K:PySem.W.Frag) (hc:X.calm=true) (hK:X.K=K:=by rfl):Ch X (.builtin "max") (fun xs H Q=>∃(a:Addr) (ns:List Int),xs=[.ref a]/\SqL K H a (ns.map V.int)/\0 < ns.length/\∀M,M∈ns->(∀z∈ns,z<=M)->Q (.int M) H):=by
 subst hK
 exact Ir hc
def LR:Sp:=fun vs H Q _=>∃(w:Addr) (h x y:Nat) (L:Nat->Nat->Int) (v:Int) (ws:List Nat),vs=[.ref w,.int (x:Int),.int (y:Int),.int (h:Int)]/\H w=some (.lst ((AM ws).map V.int))/\E6 h x y L v ws/\h<=12/\∀H':Hp,Aq H H'->Q (.bl true) H'
structure Lz (h x y:Nat) (L:Nat->Nat->Int) (v:Int) (g:Nat->Bool):Prop where
 hx:x < h
 hy:y < h
 gx:g x=true
 gy:g y=false
 le:∀u w,u < h->w < h->g u=true->g w=false->L u w<=v
def MS:Sp:=fun vs H Q _=>∃(h x y:Nat) (L:Nat->Nat->Int) (v:Int) (g:Nat->Bool),vs=[.int (A9 h g),.int (x:Int),.int (y:Int),.int (h:Int)]/\Lz h x y L v g/\h<=12/\Q (.bl true) H
def M6:Sp:=fun vs H Q _=>∃(a w:Addr) (as:List Addr) (h x y:Nat) (L:Nat->Nat->Int) (v:Int) (ws:List Nat),vs=[.ref a,.ref w]/\H a=some (.lst (as.map V.ref))/\AL H as h L/\H w=some (.lst ((AM ws).map V.int))/\E6 h x y L v ws/\h<=12/\∀H':Hp,Aq H H'->Q (.int v) H'
def MO:Sp:=fun vs H Q _=>∃(a:Addr) (as:List Addr) (h x y:Nat) (L:Nat->Nat->Int) (v:Int) (g:Nat->Bool),vs=[.ref a,.int (A9 h g)]/\H a=some (.lst (as.map V.ref))/\AL H as h L/\Lz h x y L v g/\h<=12/\∀(m:Int) (H':Hp),Aq H H'->m<=v->Q (.int m) H'
theorem L5 {h x y:Nat} {L:Nat->Nat->Int} {v:Int} {ws:List Nat} (iw:E6 h x y L v ws):ws.length<=h:=OE iw.nd iw.all
def MH:Sp:=fun vs H Q _=>∃h:Nat,vs=[.int (h:Int)]/\h<=12/\∀(l:Addr) (ps:Prs) (H':Hp),H l=none->Aq H H'->H' l=some (.lst (HD ps))->(∀q∈ps,H' q.1=some (.tup [.int (q.2.1:Int),.int (q.2.2:Int)]))->ps.map (fun q=>q.2)=pairsOf h h->Q (.ref l) H'
structure RwG (h:Nat) (L F:Nat->Nat->Int) (H:Hp) (q:Rw):Prop where
 tup:H q.t=some (.tup [.int (q.x:Int),.int (q.y:Int),.int q.s,.ref q.w,.int q.cut])
 way:H q.w=some (.lst ((AM q.ws).map V.int))
 ne:q.y≠q.x
 str:q.s=F q.x q.y
 isw:E6 h q.x q.y L q.s q.ws
 cutE:∃g,q.cut=A9 h g/\Lz h q.x q.y L q.s g
theorem RwG.same {h:Nat} {L F:Nat->Nat->Int} {H H':Hp} {q:Rw} (e:Aq H H') (k:RwG h L F H q):RwG h L F H' q:=⟨e _ _ k.tup,e _ _ k.way,k.ne,k.str,k.isw,k.cutE⟩
theorem EK.gen {h:Nat} {L F:Nat->Nat->Int} {H:Hp} {q:Rw} (g:Bi h L F) (k:EK h L F H q):RwG h L F H q:=by
 refine ⟨k.tup,k.way,k.ne,k.str,k.isw,Mt F q.x q.y,k.cutE,k.hx,k.hy,?_,?_,fun u w hu hw gu gw=>?_⟩
 ·unfold Mt;exact decide_eq_true (.inl rfl)
 ·unfold Mt
  refine decide_eq_false fun c=>?_
  rcases c with c | c
  ·exact k.ne c
  ·exact Int.lt_irrefl _ c
 ·obtain ⟨bf,re⟩:=g q.x k.hx
  have row:∀{i:Nat},i < h->((List.range h).map fun y=>F q.x y).getD i 0=F q.x i:=fun {i} hi=>by
   rw [getD_eq_getElem?_getD,List.getElem?_map,List.getElem?_range hi]
   rfl
  unfold Mt at gu gw
  have gu:=of_decide_eq_true gu
  have gw:=of_decide_eq_false gw
  have:=re.cut (y:=q.y) hu hw (by rw [row k.hy,row hu];exact gu) ⟨fun e=>gw (.inl e),by rw [row hw,row k.hy];exact Int.not_lt.mp fun z=>gw (.inr z)⟩
  rw [row k.hy] at this
  rw [k.str]
  exact this
structure Dk (H:Hp) (p:Addr) (h s:Nat) (ns:List Int) (ls:Ls) (F:Nat->Nat->Int):Prop where
 is:∃(m sh pk:Addr) (ms:List Addr) (rows:List Rw),H p=some (.tup [.ref m,.ref sh,.ref pk])/\H m=some (.lst (ms.map V.ref))/\AL H ms h (ovF ls)/\H sh=some (.lst (vrw rows))/\(∀q∈rows,RwG h (Bv ls) F H q)/\rows.map (fun q=>(q.x,q.y))=pairsOf h h/\H pk=some (.lst ((Au F s ns).map V.int))
 strong:Bi h (Bv ls) F
theorem Dk.same {H H':Hp} {p:Addr} {h s:Nat} {ns:List Int} {ls:Ls} {F:Nat->Nat->Int} (e:Aq H H') (k:Dk H p h s ns ls F):Dk H' p h s ns ls F:=by
 obtain ⟨m,sh,pk,ms,rows,k1,k2,k3,k4,k5,k6,k7⟩:=k.is
 exact ⟨⟨m,sh,pk,ms,rows,e _ _ k1,e _ _ k2,k3.same e,e _ _ k4,fun q mq=>(k5 q mq).same e,k6,e _ _ k7⟩,k.strong⟩
theorem KM.gen {H:Hp} {p:Addr} {h s:Nat} {ns:List Int} {ls:Ls} {F:Nat->Nat->Int} (k:KM H p h s ns ls F):Dk H p h s ns ls F:=by
 obtain ⟨m,sh,pk,ms,rows,k1,k2,k3,k4,k5,k6,k7⟩:=k.is
 exact ⟨⟨m,sh,pk,ms,rows,k1,k2,k3,k4,fun q mq=>(k5 q mq).gen k.strong,k6,k7⟩,k.strong⟩
def Mq:Sp:=fun vs H Q _=>∃(a:Addr) (as:List Addr) (h:Nat) (L F:Nat->Nat->Int) (q:Rw),vs=[.ref a,.ref q.t]/\H a=some (.lst (as.map V.ref))/\AL H as h L/\RwG h L F H q/\h<=12/\∀H':Hp,Aq H H'->Q (.bl true) H'
def Mg:Sp:=fun vs H Q _=>∃(sh:Addr) (h:Nat) (L F:Nat->Nat->Int) (rows:List Rw),vs=[.ref sh,.int (h:Int)]/\H sh=some (.lst (vrw rows))/\(∀q∈rows,RwG h L F H q)/\rows.map (fun q=>(q.x,q.y))=pairsOf h h/\Bi h L F/\(∀x,x < h->L x x=0)/\1<=h/\h<=12/\∀(b:Addr) (as:List Addr) (H':Hp),H b=none->Aq H H'->H' b=some (.lst (as.map V.ref))->AL H' as h F->Q (.ref b) H'
def IsC (CC C:Addr) (H:Hp) (k a:Addr) (h s:Nat) (ns:List Int):Prop:=(∃dk,H k=some (.ins CC dk [("way",.ref a)]))/\DT C H a h s ns
theorem IsC.same {CC C:Addr} {H H':Hp} {k a:Addr} {h s:Nat} {ns:List Int} (e:Aq H H') (z:IsC CC C H k a h s ns):IsC CC C H' k a h s ns:=let ⟨⟨dk,z1⟩,z2⟩:=z;⟨⟨dk,e _ _ z1⟩,z2.same e⟩
def DX (h:Nat) (ls ls':Ls):Bool:=decide (BW h (ovF ls)=BW h (ovF ls'))
def Mr (CC C:Addr):Sp:=fun vs H Q _=>∃(k a l p:Addr) (h s:Nat) (ns:List Int) (ls ls':Ls) (F:Nat->Nat->Int),vs=[.ref k,.ref l,.ref p]/\IsC CC C H k a h s ns/\H l=some (.lst (vls ls))/\CO h H ls/\ls.length<=60/\Dk H p h s ns ls' F/\∀H':Hp,Aq H H'->Q (.bl (DX h ls' ls)) H'
def Ln (CC C:Addr):Sp:=fun vs H Q _=>∃(k a l p o:Addr) (h s:Nat) (ns os:List Int) (ls ls':Ls) (F:Nat->Nat->Int),vs=[.ref k,.ref l,.ref p,.ref o]/\IsC CC C H k a h s ns/\H l=some (.lst (vls ls))/\CO h H ls/\ls.length<=60/\Dk H p h s ns ls' F/\DX h ls' ls=true/\H o=some (.lst (os.map V.int))/\∀H':Hp,Aq H H'->Q (.bl (decide (E5 h (Au F s ns)=os))) H'
theorem RwG.hx {h:Nat} {L F:Nat->Nat->Int} {H:Hp} {q:Rw} (k:RwG h L F H q):q.x < h:=let ⟨_,_,c⟩:=k.cutE;c.hx
theorem RwG.hy {h:Nat} {L F:Nat->Nat->Int} {H:Hp} {q:Rw} (k:RwG h L F H q):q.y < h:=let ⟨_,_,c⟩:=k.cutE;c.hy
def Os (K:PySem.W.Frag):Sp:=fun vs H Q _=>∃(k C dk:Addr) (x:V),vs=[.ref k,x]/\H k=some (.ins C dk [])/\Cls K C/\C4 K C "way"/\∀H':Hp,Aq (off H k) H'->H' k=some (.ins C dk [("way",x)])->Q .non H'
theorem QF (x:V):L2.putF "way" x []=([("way",x)]:List (Str × V)):=rfl
theorem MB (i x:Nat):Fe (i+1) x=Fe i x++if i=x then [] else [i]:=by
 unfold Fe
 rw [range_succ,filter_append]
 by_cases c:i=x <;> simp [c]
theorem Em (a b:Prs):HD (a++b)=HD a++HD b:=by unfold HD;rw [map_append]
def prD (q:Nat × Nat):PyData:=.tuple [.int (q.1:Int),.int (q.2:Int)]
theorem GY {K:PySem.W.Frag} {H:Hp}:∀{ps:Prs},(∀q∈ps,H q.1=some (.tup [.int (q.2.1:Int),.int (q.2.2:Int)]))->Reps K H (HD ps) ((ps.map fun q=>q.2).map prD)
 | [],_=>.nil
 | q :: ps,g=>.cons (.tup (SqT.of (g q (mem_cons_self ..))) (.cons (.int _) (.cons (.int _) .nil))) (GY fun r m=>g r (mem_cons_of_mem _ m))
theorem Im (ps:List (Nat × Nat)):SeqAt.shaped (.list (ps.map prD))=true:=by
 have lay:∀ps:List (Nat × Nat),PyData.canLayAll0 (ps.map prD)=true/\PyData.depthAll (ps.map prD)<=1:=by
  intro ps
  induction ps with
  | nil=>exact ⟨rfl,Nat.zero_le _⟩
  | cons q r ih=>exact ⟨by show (true && _)=true;rw [Bool.true_and];exact ih.1,by show max (max 0 (max 0 0)+1) _<=1;exact Nat.max_le.mpr ⟨by decide,ih.2⟩⟩
 have:=lay ps
 unfold SeqAt.shaped
 exact Bool.and_eq_true_iff.mpr ⟨this.1,decide_eq_true (by show _+1<=_;omega)⟩
theorem LP:∀ps:List (Nat × Nat),PyData.eqvAll (ps.map prD) (ps.map prD)=true
 | []=>rfl
 | q :: r=>by
   show (PyData.eqvAll [.int (q.1:Int),.int (q.2:Int)] [.int (q.1:Int),.int (q.2:Int)] && PyData.eqvAll (r.map prD) (r.map prD))=true
   rw [LP r,show PyData.eqvAll [.int (q.1:Int),.int (q.2:Int)] [.int (q.1:Int),.int (q.2:Int)]=true from (BK [(q.1:Int),(q.2:Int)] _).trans (decide_eq_true rfl)]
   rfl
theorem Js:∀a b:List (List Int),PyData.eqvAll (a.map rD) (b.map rD)=decide (a=b)
 | [],[]=>rfl
 | [],_ :: _=>by rw [decide_eq_false (fun z=>nomatch z)];rfl
 | _ :: _,[]=>by rw [decide_eq_false (fun z=>nomatch z)];rfl
 | x :: a,y :: b=>by
   show (PyData.eqvAll (x.map .int) (y.map .int) && PyData.eqvAll (a.map rD) (b.map rD))=_
   rw [BK,Js a b,Bool.eq_iff_iff]
   simp
theorem Ql {h:Nat} {F G:Nat->Nat->Int} (e:BW h F=BW h G) {x y:Nat} (hx:x < h) (hy:y < h):F x y=G x y:=by
 unfold BW at e
 have a:=congrArg (fun l:List (List Int)=>(l[x]?.getD [])[y]?.getD 0) e
 simp only [List.getElem?_map,List.getElem?_range hx,List.getElem?_range hy,Option.map_some,Option.getD_some] at a
 exact a
def onK (ps:List (Nat × Nat)):List (Key × V):=ps.map fun q=>(Sum.inl (q.1:Int),V.int (q.2:Int))
theorem Ji (k:Nat):∀ps:List (Nat × Nat),Cn (onK ps) (Sum.inl (k:Int))=(ps.lookup k).map fun n:Nat=>V.int (n:Int)
 | []=>rfl
 | q :: ps=>by
   have ih:=Ji k ps
   by_cases c:q.1=k
   ·rw [show onK (q :: ps)=(Sum.inl (q.1:Int),V.int (q.2:Int)) :: onK ps from rfl,Fc (by rw [c])]
    obtain ⟨a,b⟩:=q
    cases c
    rw [lookup_cons_self]
    rfl
   ·obtain ⟨a,b⟩:=q
    have e:Cn (onK ((a,b) :: ps)) (Sum.inl (k:Int))=Cn (onK ps) (Sum.inl (k:Int)):=EM fun z=>c (Int.ofNat.inj (Sum.inl.inj z))
    rw [e,ih,lookup_cons]
    rw [show (k == a)=false from beq_eq_false_iff_ne.mpr fun z=>c z.symm]
theorem P2 {k:Nat} {ps:List (Nat × Nat)}:(ps.lookup k).isSome=decide (k∈ps.map Prod.fst):=by
 rw [Bool.eq_iff_iff,decide_eq_true_eq,Option.isSome_iff_ne_none,ne_eq,lookup_eq_none_iff]
 constructor
 ·intro c
  by_cases m:k∈ps.map Prod.fst
  ·exact m
  ·exact absurd (fun q mq=>bne_iff_ne.mpr fun z=>m (mem_map.mpr ⟨q,mq,z.symm⟩)) c
 ·intro m c
  obtain ⟨q,mq,e⟩:=mem_map.mp m
  exact bne_iff_ne.mp (c q mq) e.symm
theorem Lo {k:Nat} {ps:List (Nat × Nat)}:(Cn (onK ps) (Sum.inl (k:Int))).isSome=decide (k∈ps.map Prod.fst):=by rw [Ji,Option.isSome_map,P2]
theorem Qy {k n:Nat} {ps:List (Nat × Nat)} (nk:k ∉ ps.map Prod.fst):Ck (onK ps) (Sum.inl (k:Int)) (.int (n:Int))=onK (ps++[(k,n)]):=by
 unfold Ck
 rw [if_neg ?_]
 ·unfold onK;rw [map_append];rfl
 ·intro c
  obtain ⟨q,mq,e⟩:=any_eq_true.mp c
  unfold onK at mq
  obtain ⟨r,mr,rfl⟩:=mem_map.mp mq
  have e:=of_decide_eq_true e
  exact nk (mem_map.mpr ⟨r,mr,Int.ofNat.inj (Sum.inl.inj e)⟩)
def Dj (L:Nat->Nat->Int) (v:Int) (k:Nat) (ps:List (Nat × Nat)) (z:Int):Bool:=decide (z.toNat∈ps.map Prod.fst) && decide (v<=L k z.toNat)
def Nf:Sp:=fun vs H Q _=>∃(a hl:Addr) (as:List Addr) (h y:Nat) (v:Int) (L:Nat->Nat->Int) (hs:List Int),vs=[.ref a,.int (y:Int),.int v,.ref hl]/\H a=some (.lst (as.map V.ref))/\AL H as h L/\y < h/\h<=12/\H hl=some (.lst (hs.map V.int))/\hs.Perm (ups h) /\
 ∀(d:Addr) (ps:List (Nat × Nat)) (H':Hp),Aq H H'->H' d=some (.dK (onK ps))->On h y v L ps->Jr h v L (ps.map Prod.fst)->Q (.ref d) H'
def Oo:Sp:=fun vs H Q _=>∃(a hl:Addr) (as:List Addr) (h x y:Nat) (v:Int) (L F:Nat->Nat->Int) (hs:List Int),vs=[.ref a,.int (x:Int),.int (y:Int),.int v,.ref hl]/\H a=some (.lst (as.map V.ref))/\AL H as h L/\x < h/\y < h/\x≠y/\h<=12/\H hl=some (.lst (hs.map V.int))/\hs.Perm (ups h)/\Bi h L F/\v=F x y /\
 ∀(w:Addr) (ws:List Nat) (H':Hp),H w=none->Aq H H'->H' w=some (.lst ((AM ws).map V.int))->E6 h x y L v ws->Q (.ref w) H'
theorem LQ (ws:List Nat) (n:Nat):(AM ws).map V.int++[V.int (n:Int)]=(AM (ws++[n])).map V.int:=by unfold AM;rw [map_append,map_append];rfl
def Ht (H:Hp) (p:Addr) (h s:Nat) (ns:List Int) (ls:Ls) (F:Nat->Nat->Int) (rows:List Rw):Prop:=∃(m sh pk:Addr) (ms:List Addr),H p=some (.tup [.ref m,.ref sh,.ref pk])/\H m=some (.lst (ms.map V.ref))/\AL H ms h (ovF ls)/\H sh=some (.lst (vrw rows))/\(∀q∈rows,RwG h (Bv ls) F H q)/\rows.map (fun q=>(q.x,q.y))=pairsOf h h/\H pk=some (.lst ((Au F s ns).map V.int))
theorem Ht.same {H H':Hp} {p:Addr} {h s:Nat} {ns:List Int} {ls:Ls} {F:Nat->Nat->Int} {rows:List Rw} (e:Aq H H') (k:Ht H p h s ns ls F rows):Ht H' p h s ns ls F rows:=by
 obtain ⟨m,sh,pk,ms,k1,k2,k3,k4,k5,k6,k7⟩:=k
 exact ⟨m,sh,pk,ms,e _ _ k1,e _ _ k2,k3.same e,e _ _ k4,fun q mq=>(k5 q mq).same e,k6,e _ _ k7⟩
theorem Ht.gen {H:Hp} {p:Addr} {h s:Nat} {ns:List Int} {ls:Ls} {F:Nat->Nat->Int} {rows:List Rw} (st:Bi h (Bv ls) F) (k:Ht H p h s ns ls F rows):Dk H p h s ns ls F:=by
 obtain ⟨m,sh,pk,ms,k1,k2,k3,k4,k5,k6,k7⟩:=k
 exact ⟨⟨m,sh,pk,ms,rows,k1,k2,k3,k4,k5,k6,k7⟩,st⟩
theorem Dk.rows {H:Hp} {p:Addr} {h s:Nat} {ns:List Int} {ls:Ls} {F:Nat->Nat->Int} (k:Dk H p h s ns ls F):∃rows,Ht H p h s ns ls F rows:=by
 obtain ⟨m,sh,pk,ms,rows,k1,k2,k3,k4,k5,k6,k7⟩:=k.is
 exact ⟨rows,m,sh,pk,ms,k1,k2,k3,k4,k5,k6,k7⟩
def rwD (q:Rw):PyData:=.tuple [.int (q.x:Int),.int (q.y:Int),.int q.s,.list ((AM q.ws).map .int),.int q.cut]
def HA (h s:Nat) (ns:List Int) (ls:Ls) (F:Nat->Nat->Int) (rows:List Rw):PyData:=.tuple [.list ((BW h (ovF ls)).map rD),.list (rows.map rwD),.list ((Au F s ns).map .int)]
theorem EI (ns:List Int):Lay 1 (.list (ns.map .int)):=Ea (Gu (fun i=>⟨rfl,Nat.le_refl 0⟩) ns)
theorem Pj {k:Nat} {d:PyData} (i:Lay 0 d):Lay k d:=⟨i.1,Nat.le_trans i.2 (Nat.zero_le _)⟩
theorem Nr {j k:Nat} {d:PyData} (i:Lay j d) (e:j<=k):Lay k d:=⟨i.1,Nat.le_trans i.2 e⟩
theorem Q7 (q:Rw):Lay 2 (rwD q):=LO fun x m=>by
 have li:∀z:Int,Lay 1 (.int z):=fun z=>Pj ⟨rfl,Nat.le_refl 0⟩
 simp only [mem_cons,List.not_mem_nil,or_false] at m
 rcases m with rfl | rfl | rfl | rfl | rfl
 ·exact li _
 ·exact li _
 ·exact li _
 ·exact EI _
 ·exact li _
theorem MG (h s:Nat) (ns:List Int) (ls:Ls) (F:Nat->Nat->Int) (rows:List Rw):Lay 4 (HA h s ns ls F rows):=LO fun x m=>by
 simp only [mem_cons,List.not_mem_nil,or_false] at m
 rcases m with rfl | rfl | rfl
 ·exact Nr (Ea (Gu (fun r=>EI r) _)) (by decide)
 ·exact Ea (Gu Q7 _)
 ·exact Nr (EI _) (by decide)
def RwC (H:Hp) (q:Rw):Prop:=H q.t=some (.tup [.int (q.x:Int),.int (q.y:Int),.int q.s,.ref q.w,.int q.cut])/\H q.w=some (.lst ((AM q.ws).map V.int))
theorem L7 {K:PySem.W.Frag} {H:Hp}:∀{cs:List Rw},(∀q∈cs,RwC H q)->Reps K H (vrw cs) (cs.map rwD)
 | [],_=>.nil
 | q :: cs,g=>.cons (.tup (SqT.of (g q (mem_cons_self ..)).1) (.cons (.int _) (.cons (.int _) (.cons (.int _) (.cons (.lst (SqL.of (g q (mem_cons_self ..)).2) (.ints _)) (.cons (.int _) .nil)))))) (L7 fun r m=>g r (mem_cons_of_mem _ m))
def N8 (K:PySem.W.Frag):Sp:=fun vs H Q _=>∃(p:Addr) (h s:Nat) (ns:List Int) (ls:Ls) (F:Nat->Nat->Int) (rows:List Rw),vs=[.ref p]/\Ht H p h s ns ls F rows/\h<=12/\∀(c:Addr) (H':Hp),Aq H H'->Rep K H' (.ref c) (HA h s ns ls F rows)->Q (.ref c) H'
theorem G9 {h:Nat} {rows:List Rw} (h12:h<=12) (e:rows.map (fun q=>(q.x,q.y))=pairsOf h h):rows.length<=144:=by
 have a1:=congrArg List.length e
 rw [length_map] at a1
 have a2:=CT (h:=h) (n:=h) (Nat.le_refl _)
 have a3:h*h<=12*12:=Nat.mul_le_mul h12 h12
 omega
theorem Jz:∀(n:Nat) (f:Nat->Bool) (k:Nat),k < n->f k=false->A9 n (fun i=>f i || decide (k=i))=A9 n f+2 ^ k
 | 0,_,_,h,_=>by omega
 | n+1,f,k,h,e=>by
   rw [Cu,Cu]
   by_cases c:k=n
   ·subst c
    rw [e,decide_eq_true rfl,if_pos (show (false || true)=true from rfl),if_neg (by decide)]
    rw [AS k (g:=f) fun i hi=>by rw [decide_eq_false (show ¬ k=i by omega),Bool.or_false]]
    omega
   ·rw [Jz n f k (by omega) e,decide_eq_false c,Bool.or_false]
    omega
theorem J9 (n:Nat):∀l:List Nat,l.Nodup->(∀k∈l,k < n)->(l.map fun k=>(2:Int) ^ k).sum=A9 n (fun j=>decide (j∈l))
 | [],_,_=>by
   rw [map_nil,sum_nil]
   exact (FP fun i _=>rfl).symm
 | k :: l,nd,lt=>by
   obtain ⟨nk,nd'⟩:=nodup_cons.mp nd
   have ih:=J9 n l nd' fun z m=>lt z (mem_cons_of_mem _ m)
   rw [map_cons,sum_cons,ih,Int.add_comm,<- Jz n (fun j=>decide (j∈l)) k (lt k (mem_cons_self ..)) (decide_eq_false nk)]
   exact AS n fun i _=>by rw [Bool.eq_iff_iff,Bool.or_eq_true,decide_eq_true_eq,decide_eq_true_eq,decide_eq_true_eq,mem_cons];exact ⟨fun z=>z.elim .inr fun e=>.inl e.symm,fun z=>z.elim (fun e=>.inr e.symm) .inl⟩
def MW:Sp:=fun vs H Q _=>∃(p a:Addr) (as:List Addr) (c:Int) (h s:Nat) (ns:List Int) (ls:Ls) (F:Nat->Nat->Int) (rows:List Rw),vs=[.ref p,.ref a,.int c]/\Ht H p h s ns ls F rows/\Bi h (Bv ls) F/\H a=some (.lst (as.map V.ref))/\AL H as h (Bv ls)/\Sz 200 c/\1<=h/\h<=12 /\
 ∀(p':Addr) (rows':List Rw) (H':Hp),Aq H H'->Ht H' p' h s ns ls F rows'->Q (.ref p') H'
theorem RwG.upd {h:Nat} {L F:Nat->Nat->Int} {H:Hp} {q:Rw} {a:Addr} {xs:List V} {o:HO} (k:RwG h L F H q) (e:H a=some (.lst xs)) (ne:q.w≠a):RwG h L F (L2.upd H a o) q:=⟨by rw [Ai (DZ k.tup e (fun z=>nomatch z))];exact k.tup,by rw [Ai ne];exact k.way,k.ne,k.str,k.isw,k.cutE⟩
theorem O4 (h:Nat) (pk:List Int):(E5 h pk).length=h:=by unfold E5;rw [length_map,length_range]
theorem Og {xs:List V} {j:Nat}:Gs xs none (some (j:Int))=xs.take j:=by
 unfold Gs
 rw [HT.sIx_none,HT.sIx_nat,drop_zero,Nat.sub_zero]
 by_cases h:j<=xs.length
 ·rw [Nat.min_eq_left h]
 ·rw [Nat.min_eq_right (by omega),take_of_length_le (Nat.le_refl _),take_of_length_le (by omega)]
theorem ED (h:Nat) (ls:Ls):DX h ls ls=true:=decide_eq_true rfl
def PU (CC C:Addr):Sp:=fun vs H Q _=>∃(k a l p o:Addr) (c:Int) (h s:Nat) (ns:List Int) (ls:Ls) (F:Nat->Nat->Int),vs=[.ref k,.ref l,.ref p,.ref o,.int c]/\IsC CC C H k a h s ns/\H l=some (.lst (vls ls))/\CO h H ls/\ls.length<=60/\Dk H p h s ns ls F/\H o=some (.lst ((E5 h (Au F s ns)).map V.int))/\Sz 200 c/\∀H':Hp,Aq H H'->Q (.bl true) H'
theorem NW {xs:List Int} {j:Nat} {x y:Int} (h:xs[j]?=some x) (n:y≠x):xs≠xs.take j++[y]++xs.drop (j+1):=fun e=>by
 have a:=congrArg (fun l:List Int=>l[j]?) e
 obtain ⟨hl,_⟩:=List.getElem?_eq_some_iff.mp h
 have l1:(xs.take j).length=j:=by rw [length_take];omega
 replace a:xs[j]?=(xs.take j++[y]++xs.drop (j+1))[j]?:=a
 rw [h,append_assoc,List.getElem?_append_right (by omega),l1,Nat.sub_self] at a
 exact n (Option.some.inj a).symm
theorem Jj {h:Nat} {F G:Nat->Nat->Int} (e:∀x y,x < h->y < h->F x y=G x y):BW h F=BW h G:=by
 unfold BW
 exact map_congr_left fun x mx=>map_congr_left fun y my=>e x y (mem_range.mp mx) (mem_range.mp my)
theorem KK (h:Nat) (ls ls':Ls):DX h ls ls'=DX h ls' ls:=by
 unfold DX
 exact decide_eq_decide.mpr eq_comm
theorem IV (b:Bool):PyData.eqv (.list ([b,b].map .bool)) (.list ([b,b].map .bool))=true/\SeqAt.shaped (.list ([b,b].map .bool))=true:=by
 have l:Lay 1 (.list ([b,b].map .bool)):=Ea (Gu (fun i=>⟨rfl,Nat.le_refl 0⟩) _)
 exact ⟨l.eqv,l.shaped (by decide)⟩
def PL (CC C P:Addr):Sp:=fun vs H Q _=>∃(k a l sb p:Addr) (h s:Nat) (ns:List Int) (vo:Vo) (ls:Ls) (F:Nat->Nat->Int),vs=[.ref k,.ref a,.ref l,.ref sb,.ref p]/\IsC CC C H k a h s ns/\H l=some (.lst (vvo vo))/\Ek h H vo/\NK vo/\1<=vo.length/\vo.length<=12/\H sb=some (.lst (vls ls))/\CO h H ls/\ls.length<=60/\Dk H p h s ns ls F/\CP P h H/\∀H':Hp,Aq H H'->Q (.bl true) H'
def top (i:Nat):Stmt:=PySem.Challenge.pw_pollproof_k57_other_papers_let_by.main.body.getD i (.Pass ⟨0,0,0,0⟩)
abbrev Dx:Stmt:=top 2
abbrev Ev:Stmt:=top 3
abbrev CG:Stmt:=top 4
abbrev CD:Stmt:=top 5
abbrev CB:Stmt:=top 8
abbrev D3:Stmt:=top 11
abbrev Dg:Stmt:=top 13
abbrev BB:Stmt:=top 15
abbrev CF:Stmt:=top 21
abbrev AV:Stmt:=top 31
abbrev Bd:Stmt:=top 33
abbrev BN:Stmt:=top 37
abbrev CJ:Stmt:=top 41
abbrev Cq:Stmt:=top 42
abbrev Cr:Stmt:=top 43
abbrev BR:Stmt:=top 45
abbrev B5:Stmt:=top 48
abbrev Cs:Stmt:=top 49
abbrev BS:Stmt:=top 51
abbrev BM:Stmt:=top 53
abbrev B4:Stmt:=Dr (top 29) 0
abbrev Bj:Stmt:=Dr (top 38) 5
abbrev Dq:Stmt:=top 7
abbrev BL:Stmt:=top 9
abbrev AO:Stmt:=top 10
abbrev DB:Stmt:=top 12
abbrev Dz:Stmt:=top 14
abbrev AJ:Stmt:=top 16
abbrev Cp:Stmt:=top 25
abbrev Ct:Stmt:=top 26
abbrev Co:Stmt:=top 27
abbrev B7:Stmt:=top 44
abbrev BQ:Stmt:=top 47
abbrev BU:Stmt:=top 50
abbrev B0:Stmt:=top 52
abbrev AU:Stmt:=Dr (top 38) 3
abbrev CI:Stmt:=top 32
abbrev Bu:Stmt:=top 36
abbrev Cv:Stmt:=top 46
abbrev B6:Stmt:=top 54
abbrev B8:Stmt:=Dr (top 28) 0
abbrev A7:Stmt:=Dr (top 34) 0
abbrev Br:Stmt:=Dr (top 38) 4
abbrev Bo:Stmt:=top 56
abbrev BF:Stmt:=Dr (top 28) 4
abbrev Bn:Stmt:=Dr (top 29) 2
abbrev Cd:Stmt:=top 55
abbrev Fi:Stmt:=top 57
theorem Ng:Ap ["hands"] ["hands"] (Ac Dx):=⟨rfl,rfl,rfl,by decide +kernel,rfl,by decide +kernel,by decide +kernel⟩
theorem Oe:Ap ["mask","hand"] ["mask","hand"] (Ac Ev):=⟨rfl,rfl,rfl,by decide +kernel,rfl,by decide +kernel,by decide +kernel⟩
theorem Kw:Ap ["mask","hand"] ["mask","hand"] (Ac CG):=⟨rfl,rfl,rfl,by decide +kernel,rfl,by decide +kernel,by decide +kernel⟩
theorem KR:Ap ["mask"] ["mask"] (Ac CD):=⟨rfl,rfl,rfl,by decide +kernel,rfl,by decide +kernel,by decide +kernel⟩
theorem J8:Ap ["leads"] ["leads"] (Ac CB):=⟨rfl,rfl,rfl,by decide +kernel,rfl,by decide +kernel,by decide +kernel⟩
theorem Iy:Ap ["reached","x","y","way"] ["reached","x","y"] (Ac D3):=⟨rfl,rfl,rfl,by decide +kernel,rfl,by decide +kernel,by decide +kernel⟩
theorem MZ:Ap ["way","x","y","hands"] ["way","x","y","hands"] (Ac Dg):=⟨rfl,rfl,rfl,by decide +kernel,rfl,by decide +kernel,by decide +kernel⟩
theorem Hw:Ap ["leads","way"] ["leads","way"] (Ac BB):=⟨rfl,rfl,rfl,by decide +kernel,rfl,by decide +kernel,by decide +kernel⟩
theorem JP:Ap ["thing"] ["thing"] (Ac CF):=⟨rfl,rfl,rfl,by decide +kernel,rfl,by decide +kernel,by decide +kernel⟩
theorem C3:Ap ["hands","pairs","x"] ["hands"] (Ac AV):=⟨rfl,rfl,rfl,by decide +kernel,rfl,by decide +kernel,by decide +kernel⟩
theorem CW:Ap ["shown","hands","strengths","row"] ["shown","hands"] (Ac Bd):=⟨rfl,rfl,rfl,by decide +kernel,rfl,by decide +kernel,by decide +kernel⟩
theorem IL:Ap ["strengths","hand","others"] ["strengths","hand","others"] (Ac BN):=⟨rfl,rfl,rfl,by decide +kernel,rfl,by decide +kernel,by decide +kernel⟩
theorem JK:Ap ["_law_script","_law_k"] ["_law_script","_law_k"] (Ac CJ):=⟨rfl,rfl,rfl,by decide +kernel,rfl,by decide +kernel,by decide +kernel⟩
theorem DR:Ap ["_law_cell_here","_law_by","_law_number"] ["_law_cell_here","_law_by"] (Ac Cq):=⟨rfl,rfl,rfl,by decide +kernel,rfl,by decide +kernel,by decide +kernel⟩
theorem Dd:Ap ["_law_cell_here","_law_hands","_law_left","_law_found"] ["_law_cell_here","_law_hands"] (Ac Cr):=⟨rfl,rfl,rfl,by decide +kernel,rfl,by decide +kernel,by decide +kernel⟩
theorem Ej:Ap ["_law_ranks_here","_law_tiers","_law_rank"] ["_law_ranks_here"] (Ac BR):=⟨rfl,rfl,rfl,by decide +kernel,rfl,by decide +kernel,by decide +kernel⟩
theorem Jl:Ap ["_law_many"] ["_law_many"] (Ac B5):=⟨rfl,rfl,rfl,by decide +kernel,rfl,by decide +kernel,by decide +kernel⟩
theorem IW:Ap ["_law_ranks_here","_law_hand"] ["_law_ranks_here","_law_hand"] (Ac Cs):=⟨rfl,rfl,rfl,by decide +kernel,rfl,by decide +kernel,by decide +kernel⟩
theorem C6:Ap ["_law_leads_here","_law_y","_law_worth","_law_hands","_law_onward","_law_turn","_law_hand","_law_near"] ["_law_leads_here","_law_y","_law_worth","_law_hands"] (Ac BS):=⟨rfl,rfl,rfl,by decide +kernel,rfl,by decide +kernel,by decide +kernel⟩
theorem Ga:Ap ["_law_paper","_law_steps"] ["_law_paper"] (Ac BM):=⟨rfl,rfl,rfl,by decide +kernel,rfl,by decide +kernel,by decide +kernel⟩
theorem Gr:Ap ["self","way"] ["self","way"] (Ac B4):=⟨rfl,rfl,rfl,by decide +kernel,rfl,by decide +kernel,by decide +kernel⟩
theorem Fx:Ap ["self","paper"] ["self","paper"] (Ac Bj):=⟨rfl,rfl,rfl,by decide +kernel,rfl,by decide +kernel,by decide +kernel⟩
theorem Cg:Ap ["sheet","hands","many","slip","number","behind","tier","others","x","y"] ["sheet","hands"] (Ac Dq):=⟨rfl,rfl,rfl,by decide +kernel,rfl,by decide +kernel,by decide +kernel⟩
theorem FW:Ap ["many","hands"] ["many"] (Ac BL):=⟨rfl,rfl,rfl,by decide +kernel,rfl,by decide +kernel,by decide +kernel⟩
theorem Bh:Ap ["leads","x","best","before","left","through","hand","link"] ["leads","x"] (Ac AO):=⟨rfl,rfl,rfl,by decide +kernel,rfl,by decide +kernel,by decide +kernel⟩
theorem D7:Ap ["reached","x","y","cut","hand","strong"] ["reached","x","y"] (Ac DB):=⟨rfl,rfl,rfl,by decide +kernel,rfl,by decide +kernel,by decide +kernel⟩
theorem Mj:Ap ["cut","x","y","hands"] ["cut","x","y","hands"] (Ac Dz):=⟨rfl,rfl,rfl,by decide +kernel,rfl,by decide +kernel,by decide +kernel⟩
theorem DC:Ap ["leads","cut","outside"] ["leads","cut"] (Ac AJ):=⟨rfl,rfl,rfl,by decide +kernel,rfl,by decide +kernel,by decide +kernel⟩
theorem IX:Ap ["thing"] ["thing"] (Ac Cp):=⟨rfl,rfl,rfl,by decide +kernel,rfl,by decide +kernel,by decide +kernel⟩
theorem Jp:Ap ["thing"] ["thing"] (Ac Ct):=⟨rfl,rfl,rfl,by decide +kernel,rfl,by decide +kernel,by decide +kernel⟩
theorem Kk:Ap ["thing","hands"] ["thing","hands"] (Ac Co):=⟨rfl,rfl,rfl,by decide +kernel,rfl,by decide +kernel,by decide +kernel⟩
theorem C8:Ap ["_law_cell_here","_law_hands","_law_number","_law_order_here","_law_most","_law_spread"] ["_law_cell_here","_law_hands"] (Ac B7):=⟨rfl,rfl,rfl,by decide +kernel,rfl,by decide +kernel,by decide +kernel⟩
theorem Cy:Ap ["_law_votes_here","_law_many","_law_ranks_here","_law_number","_law_slip_here"] ["_law_votes_here"] (Ac BQ):=⟨rfl,rfl,rfl,by decide +kernel,rfl,by decide +kernel,by decide +kernel⟩
theorem Cb:Ap ["_law_votes_here","_law_hands","_law_found","_law_ranks_here","_law_number","_law_x","_law_y"] ["_law_votes_here","_law_hands"] (Ac BU):=⟨rfl,rfl,rfl,by decide +kernel,rfl,by decide +kernel,by decide +kernel⟩
theorem CV:Ap ["_law_leads_here","_law_x","_law_y","_law_worth","_law_hands","_law_onward","_law_some"] ["_law_leads_here","_law_x","_law_y","_law_worth","_law_hands"] (Ac B0):=⟨rfl,rfl,rfl,by decide +kernel,rfl,by decide +kernel,by decide +kernel⟩
theorem BJ:Ap ["self","strengths","picks","left","first"] ["self","strengths"] (Ac AU):=⟨rfl,rfl,rfl,by decide +kernel,rfl,by decide +kernel,by decide +kernel⟩
theorem FV:Ap ["leads","row","hands"] ["leads","row"] (Ac CI):=⟨rfl,rfl,rfl,by decide +kernel,rfl,by decide +kernel,by decide +kernel⟩
theorem E4:Ap ["reached","x","others"] ["reached","x"] (Ac Bu):=⟨rfl,rfl,rfl,by decide +kernel,rfl,by decide +kernel,by decide +kernel⟩
theorem C0:Ap ["_law_script","_law_start","_law_most","_law_hands","_law_votes_here","_law_k","_law_number","_law_many"] ["_law_script","_law_start","_law_most","_law_hands"] (Ac Cv):=⟨rfl,rfl,rfl,by decide +kernel,rfl,by decide +kernel,by decide +kernel⟩
theorem AC:Ap ["_law_paper","_law_leads_here","_law_cell_here","_law_hands","_law_steps","_law_one","_law_x","_law_y","_law_worth","_law_some","_law_cut","_law_number","_law_beyond"] ["_law_paper","_law_leads_here","_law_cell_here"] (Ac B6):=⟨rfl,rfl,rfl,by decide +kernel,rfl,by decide +kernel,by decide +kernel⟩
theorem Kl:Ap ["self","hands","seats","lots"] ["self","hands","seats","lots"] (Ac B8):=⟨rfl,rfl,rfl,by decide +kernel,rfl,by decide +kernel,by decide +kernel⟩
theorem Bq:Ap ["self","sheet","paper","hands","many","leads"] ["self","sheet","paper"] (Ac A7):=⟨rfl,rfl,rfl,by decide +kernel,rfl,by decide +kernel,by decide +kernel⟩
theorem AY:Ap ["self","sheet","many","leads","shown","strengths","x","reached"] ["self","sheet"] (Ac Br):=⟨rfl,rfl,rfl,by decide +kernel,rfl,by decide +kernel,by decide +kernel⟩
theorem Bx:Ap ["_law_checker","_law_way","_law_votes_here","_law_sheet_here","_law_paper","_law_more","_law_other_here","_law_alike","_law_crossed"] ["_law_checker","_law_way","_law_votes_here","_law_sheet_here","_law_paper"] (Ac Bo):=⟨rfl,rfl,rfl,by decide +kernel,rfl,by decide +kernel,by decide +kernel⟩
theorem GQ:Ap ["self","sheet"] ["self","sheet"] (Ac BF):=⟨rfl,rfl,rfl,by decide +kernel,rfl,by decide +kernel,by decide +kernel⟩
theorem Fj:Ap ["self","sheet","paper","outcome"] ["self","sheet","paper","outcome"] (Ac Bn):=⟨rfl,rfl,rfl,by decide +kernel,rfl,by decide +kernel,by decide +kernel⟩
theorem CL:Ap ["_law_checker","_law_sheet_here","_law_paper","_law_outcome","_law_cell_here","_law_at","_law_more","_law_less"] ["_law_checker","_law_sheet_here","_law_paper","_law_outcome","_law_cell_here"] (Ac Cd):=⟨rfl,rfl,rfl,by decide +kernel,rfl,by decide +kernel,by decide +kernel⟩
theorem CH:Ap ["_law_script","_law_first","_law_hands","_law_way","_law_votes_here","_law_sheet_here","_law_handed","_law_paper","_law_other_here","_law_held","_law_outcome","_law_checker","_law_one"] ["_law_script"] (Ac Fi):=⟨rfl,rfl,rfl,by decide +kernel,rfl,by decide +kernel,by decide +kernel⟩
set_option genInjectivity false in
set_option genSizeOf false in
structure Ads where
 f_all_of:Addr
 d_all_of:FuncData
 f_holds:Addr
 d_holds:FuncData
 f_with_one:Addr
 d_with_one:FuncData
 f_members:Addr
 d_members:FuncData
 f_hands_of:Addr
 d_hands_of:FuncData
 f_way_by:Addr
 d_way_by:FuncData
 f_is_way:Addr
 d_is_way:FuncData
 f_least_link:Addr
 d_least_link:FuncData
 f_is_whole:Addr
 d_is_whole:FuncData
 f_pairs_in_order:Addr
 d_pairs_in_order:FuncData
 f_strengths_in:Addr
 d_strengths_in:FuncData
 f_is_beaten:Addr
 d_is_beaten:FuncData
 f_law_cell:Addr
 d_law_cell:FuncData
 f_law_mixed:Addr
 d_law_mixed:FuncData
 f_law_order:Addr
 d_law_order:FuncData
 f_law_slip:Addr
 d_law_slip:FuncData
 f_law_leads:Addr
 d_law_leads:FuncData
 f_law_place:Addr
 d_law_place:FuncData
 f_law_reach:Addr
 d_law_reach:FuncData
 f_law_copy:Addr
 d_law_copy:FuncData
 f_Checker_init:Addr
 d_Checker_init:FuncData
 f_Pairs_told_by:Addr
 d_Pairs_told_by:FuncData
 f_overs:Addr
 d_overs:FuncData
 f_leads_of:Addr
 d_leads_of:FuncData
 f_reached_from:Addr
 d_reached_from:FuncData
 f_cut_by:Addr
 d_cut_by:FuncData
 f_is_cut:Addr
 d_is_cut:FuncData
 f_greatest_link:Addr
 d_greatest_link:FuncData
 f_are_hands:Addr
 d_are_hands:FuncData
 f_are_seats:Addr
 d_are_seats:FuncData
 f_are_lots:Addr
 d_are_lots:FuncData
 f_law_ranks:Addr
 d_law_ranks:FuncData
 f_law_sheet:Addr
 d_law_sheet:FuncData
 f_law_overs:Addr
 d_law_overs:FuncData
 f_law_way_back:Addr
 d_law_way_back:FuncData
 f_Pairs_picks_by:Addr
 d_Pairs_picks_by:FuncData
 f_is_shown:Addr
 d_is_shown:FuncData
 f_shown_from:Addr
 d_shown_from:FuncData
 f_law_votes:Addr
 d_law_votes:FuncData
 f_law_other:Addr
 d_law_other:FuncData
 f_Way_init:Addr
 d_Way_init:FuncData
 f_PairsChecker_right:Addr
 d_PairsChecker_right:FuncData
 f_Pairs_counted:Addr
 d_Pairs_counted:FuncData
 f_law_two_sheets:Addr
 d_law_two_sheets:FuncData
 f_Way_outcome:Addr
 d_Way_outcome:FuncData
 f_Checker_passes:Addr
 d_Checker_passes:FuncData
 f_law_let_by:Addr
 d_law_let_by:FuncData
 f_law:Addr
 d_law:FuncData
 c_Pairs:Addr
 c_PairsChecker:Addr
 c_Checker:Addr
 t_MOST_HANDS:Tok
 t_MOST_SEATS:Tok
 lc:Addr
 lP:Addr
structure Tx (K:PySem.W.Frag) (mg:Str->Option Value) (base:Heap) (a:Ads):Prop where
 F_all_of:Fun K "all_of" "all_of" Dx a.f_all_of a.d_all_of
 b_all_of:A4 K a.d_all_of ["hands"] []
 m_all_of:mg "all_of"=some (.ref a.f_all_of)
 F_holds:Fun K "holds" "holds" Ev a.f_holds a.d_holds
 b_holds:A4 K a.d_holds ["mask","hand"] []
 m_holds:mg "holds"=some (.ref a.f_holds)
 F_with_one:Fun K "with_one" "with_one" CG a.f_with_one a.d_with_one
 b_with_one:A4 K a.d_with_one ["mask","hand"] []
 m_with_one:mg "with_one"=some (.ref a.f_with_one)
 F_members:Fun K "members" "members" CD a.f_members a.d_members
 b_members:A4 K a.d_members ["mask"] []
 m_members:mg "members"=some (.ref a.f_members)
 F_hands_of:Fun K "hands_of" "hands_of" CB a.f_hands_of a.d_hands_of
 b_hands_of:A4 K a.d_hands_of ["leads"] []
 m_hands_of:mg "hands_of"=some (.ref a.f_hands_of)
 F_way_by:Fun K "way_by" "way_by" D3 a.f_way_by a.d_way_by
 b_way_by:A4 K a.d_way_by ["reached","x","y"] []
 m_way_by:mg "way_by"=some (.ref a.f_way_by)
 F_is_way:Fun K "is_way" "is_way" Dg a.f_is_way a.d_is_way
 b_is_way:A4 K a.d_is_way ["way","x","y","hands"] []
 m_is_way:mg "is_way"=some (.ref a.f_is_way)
 F_least_link:Fun K "least_link" "least_link" BB a.f_least_link a.d_least_link
 b_least_link:A4 K a.d_least_link ["leads","way"] []
 m_least_link:mg "least_link"=some (.ref a.f_least_link)
 F_is_whole:Fun K "is_whole" "is_whole" CF a.f_is_whole a.d_is_whole
 b_is_whole:A4 K a.d_is_whole ["thing"] []
 m_is_whole:mg "is_whole"=some (.ref a.f_is_whole)
 F_pairs_in_order:Fun K "pairs_in_order" "pairs_in_order" AV a.f_pairs_in_order a.d_pairs_in_order
 b_pairs_in_order:A4 K a.d_pairs_in_order ["hands"] []
 m_pairs_in_order:mg "pairs_in_order"=some (.ref a.f_pairs_in_order)
 F_strengths_in:Fun K "strengths_in" "strengths_in" Bd a.f_strengths_in a.d_strengths_in
 b_strengths_in:A4 K a.d_strengths_in ["shown","hands"] []
 m_strengths_in:mg "strengths_in"=some (.ref a.f_strengths_in)
 F_is_beaten:Fun K "is_beaten" "is_beaten" BN a.f_is_beaten a.d_is_beaten
 b_is_beaten:A4 K a.d_is_beaten ["strengths","hand","others"] []
 m_is_beaten:mg "is_beaten"=some (.ref a.f_is_beaten)
 F_law_cell:Fun K "_law_cell" "_law_cell" CJ a.f_law_cell a.d_law_cell
 b_law_cell:A4 K a.d_law_cell ["_law_script","_law_k"] []
 m_law_cell:mg "_law_cell"=some (.ref a.f_law_cell)
 F_law_mixed:Fun K "_law_mixed" "_law_mixed" Cq a.f_law_mixed a.d_law_mixed
 b_law_mixed:A4 K a.d_law_mixed ["_law_cell_here","_law_by"] []
 m_law_mixed:mg "_law_mixed"=some (.ref a.f_law_mixed)
 F_law_order:Fun K "_law_order" "_law_order" Cr a.f_law_order a.d_law_order
 b_law_order:A4 K a.d_law_order ["_law_cell_here","_law_hands"] []
 m_law_order:mg "_law_order"=some (.ref a.f_law_order)
 F_law_slip:Fun K "_law_slip" "_law_slip" BR a.f_law_slip a.d_law_slip
 b_law_slip:A4 K a.d_law_slip ["_law_ranks_here"] []
 m_law_slip:mg "_law_slip"=some (.ref a.f_law_slip)
 F_law_leads:Fun K "_law_leads" "_law_leads" B5 a.f_law_leads a.d_law_leads
 b_law_leads:A4 K a.d_law_leads ["_law_many"] []
 m_law_leads:mg "_law_leads"=some (.ref a.f_law_leads)
 F_law_place:Fun K "_law_place" "_law_place" Cs a.f_law_place a.d_law_place
 b_law_place:A4 K a.d_law_place ["_law_ranks_here","_law_hand"] []
 m_law_place:mg "_law_place"=some (.ref a.f_law_place)
 F_law_reach:Fun K "_law_reach" "_law_reach" BS a.f_law_reach a.d_law_reach
 b_law_reach:A4 K a.d_law_reach ["_law_leads_here","_law_y","_law_worth","_law_hands"] []
 m_law_reach:mg "_law_reach"=some (.ref a.f_law_reach)
 F_law_copy:Fun K "_law_copy" "_law_copy" BM a.f_law_copy a.d_law_copy
 b_law_copy:A4 K a.d_law_copy ["_law_paper"] []
 m_law_copy:mg "_law_copy"=some (.ref a.f_law_copy)
 F_Checker_init:Fun K "__init__" "Checker.__init__" B4 a.f_Checker_init a.d_Checker_init
 b_Checker_init:A4 K a.d_Checker_init ["self","way"] []
 F_Pairs_told_by:Fun K "told_by" "Pairs.told_by" Bj a.f_Pairs_told_by a.d_Pairs_told_by
 b_Pairs_told_by:A4 K a.d_Pairs_told_by ["self","paper"] []
 F_overs:Fun K "overs" "overs" Dq a.f_overs a.d_overs
 b_overs:A4 K a.d_overs ["sheet","hands"] []
 m_overs:mg "overs"=some (.ref a.f_overs)
 F_leads_of:Fun K "leads_of" "leads_of" BL a.f_leads_of a.d_leads_of
 b_leads_of:A4 K a.d_leads_of ["many"] []
 m_leads_of:mg "leads_of"=some (.ref a.f_leads_of)
 F_reached_from:Fun K "reached_from" "reached_from" AO a.f_reached_from a.d_reached_from
 b_reached_from:A4 K a.d_reached_from ["leads","x"] []
 m_reached_from:mg "reached_from"=some (.ref a.f_reached_from)
 F_cut_by:Fun K "cut_by" "cut_by" DB a.f_cut_by a.d_cut_by
 b_cut_by:A4 K a.d_cut_by ["reached","x","y"] []
 m_cut_by:mg "cut_by"=some (.ref a.f_cut_by)
 F_is_cut:Fun K "is_cut" "is_cut" Dz a.f_is_cut a.d_is_cut
 b_is_cut:A4 K a.d_is_cut ["cut","x","y","hands"] []
 m_is_cut:mg "is_cut"=some (.ref a.f_is_cut)
 F_greatest_link:Fun K "greatest_link" "greatest_link" AJ a.f_greatest_link a.d_greatest_link
 b_greatest_link:A4 K a.d_greatest_link ["leads","cut"] []
 m_greatest_link:mg "greatest_link"=some (.ref a.f_greatest_link)
 F_are_hands:Fun K "are_hands" "are_hands" Cp a.f_are_hands a.d_are_hands
 b_are_hands:A4 K a.d_are_hands ["thing"] []
 m_are_hands:mg "are_hands"=some (.ref a.f_are_hands)
 F_are_seats:Fun K "are_seats" "are_seats" Ct a.f_are_seats a.d_are_seats
 b_are_seats:A4 K a.d_are_seats ["thing"] []
 m_are_seats:mg "are_seats"=some (.ref a.f_are_seats)
 F_are_lots:Fun K "are_lots" "are_lots" Co a.f_are_lots a.d_are_lots
 b_are_lots:A4 K a.d_are_lots ["thing","hands"] []
 m_are_lots:mg "are_lots"=some (.ref a.f_are_lots)
 F_law_ranks:Fun K "_law_ranks" "_law_ranks" B7 a.f_law_ranks a.d_law_ranks
 b_law_ranks:A4 K a.d_law_ranks ["_law_cell_here","_law_hands"] []
 m_law_ranks:mg "_law_ranks"=some (.ref a.f_law_ranks)
 F_law_sheet:Fun K "_law_sheet" "_law_sheet" BQ a.f_law_sheet a.d_law_sheet
 b_law_sheet:A4 K a.d_law_sheet ["_law_votes_here"] []
 m_law_sheet:mg "_law_sheet"=some (.ref a.f_law_sheet)
 F_law_overs:Fun K "_law_overs" "_law_overs" BU a.f_law_overs a.d_law_overs
 b_law_overs:A4 K a.d_law_overs ["_law_votes_here","_law_hands"] []
 m_law_overs:mg "_law_overs"=some (.ref a.f_law_overs)
 F_law_way_back:Fun K "_law_way_back" "_law_way_back" B0 a.f_law_way_back a.d_law_way_back
 b_law_way_back:A4 K a.d_law_way_back ["_law_leads_here","_law_x","_law_y","_law_worth","_law_hands"] []
 m_law_way_back:mg "_law_way_back"=some (.ref a.f_law_way_back)
 F_Pairs_picks_by:Fun K "picks_by" "Pairs.picks_by" AU a.f_Pairs_picks_by a.d_Pairs_picks_by
 b_Pairs_picks_by:A4 K a.d_Pairs_picks_by ["self","strengths"] []
 F_is_shown:Fun K "is_shown" "is_shown" CI a.f_is_shown a.d_is_shown
 b_is_shown:A4 K a.d_is_shown ["leads","row"] []
 m_is_shown:mg "is_shown"=some (.ref a.f_is_shown)
 F_shown_from:Fun K "shown_from" "shown_from" Bu a.f_shown_from a.d_shown_from
 b_shown_from:A4 K a.d_shown_from ["reached","x"] []
 m_shown_from:mg "shown_from"=some (.ref a.f_shown_from)
 F_law_votes:Fun K "_law_votes" "_law_votes" Cv a.f_law_votes a.d_law_votes
 b_law_votes:A4 K a.d_law_votes ["_law_script","_law_start","_law_most","_law_hands"] []
 m_law_votes:mg "_law_votes"=some (.ref a.f_law_votes)
 F_law_other:Fun K "_law_other" "_law_other" B6 a.f_law_other a.d_law_other
 b_law_other:A4 K a.d_law_other ["_law_paper","_law_leads_here","_law_cell_here"] []
 m_law_other:mg "_law_other"=some (.ref a.f_law_other)
 F_Way_init:P1 K "__init__" "Way.__init__" B8 a.f_Way_init a.d_Way_init
 b_Way_init:A4 K a.d_Way_init ["self","hands","seats","lots"] []
 F_PairsChecker_right:Fun K "right" "PairsChecker.right" A7 a.f_PairsChecker_right a.d_PairsChecker_right
 b_PairsChecker_right:A4 K a.d_PairsChecker_right ["self","sheet","paper"] []
 F_Pairs_counted:Fun K "counted" "Pairs.counted" Br a.f_Pairs_counted a.d_Pairs_counted
 b_Pairs_counted:A4 K a.d_Pairs_counted ["self","sheet"] []
 F_law_two_sheets:Fun K "_law_two_sheets" "_law_two_sheets" Bo a.f_law_two_sheets a.d_law_two_sheets
 b_law_two_sheets:A4 K a.d_law_two_sheets ["_law_checker","_law_way","_law_votes_here","_law_sheet_here","_law_paper"] []
 m_law_two_sheets:mg "_law_two_sheets"=some (.ref a.f_law_two_sheets)
 F_Way_outcome:Fun K "outcome" "Way.outcome" BF a.f_Way_outcome a.d_Way_outcome
 b_Way_outcome:A4 K a.d_Way_outcome ["self","sheet"] []
 F_Checker_passes:Fun K "passes" "Checker.passes" Bn a.f_Checker_passes a.d_Checker_passes
 b_Checker_passes:A4 K a.d_Checker_passes ["self","sheet","paper","outcome"] []
 F_law_let_by:Fun K "_law_let_by" "_law_let_by" Cd a.f_law_let_by a.d_law_let_by
 b_law_let_by:A4 K a.d_law_let_by ["_law_checker","_law_sheet_here","_law_paper","_law_outcome","_law_cell_here"] []
 m_law_let_by:mg "_law_let_by"=some (.ref a.f_law_let_by)
 F_law:Fun K "law" "law" Fi a.f_law a.d_law
 b_law:A4 K a.d_law ["_law_script"] []
 m_law:mg "law"=some (.ref a.f_law)
 z_all:mg "all"=none
 z_any:mg "any"=none
 z_bool:mg "bool"=none
 z_enumerate:mg "enumerate"=none
 z_int:mg "int"=none
 z_isinstance:mg "isinstance"=none
 z_len:mg "len"=none
 z_list:mg "list"=none
 z_max:mg "max"=none
 z_min:mg "min"=none
 z_range:mg "range"=none
 z_reversed:mg "reversed"=none
 z_set:mg "set"=none
 z_sorted:mg "sorted"=none
 z_sum:mg "sum"=none
 z_tuple:mg "tuple"=none
 z_zip:mg "zip"=none
 k_MOST_HANDS:mg "MOST_HANDS"=some (.int 12 a.t_MOST_HANDS)
 k_MOST_SEATS:mg "MOST_SEATS"=some (.int 60 a.t_MOST_SEATS)
 m_Pairs:mg "Pairs"=some (.ref a.c_Pairs)
 cl_Pairs:Cls K a.c_Pairs
 mk_Pairs:Mk K a.c_Pairs a.f_Way_init
 me_Pairs_picks_by:Kg K a.c_Pairs "picks_by" a.f_Pairs_picks_by
 me_Pairs_counted:Kg K a.c_Pairs "counted" a.f_Pairs_counted
 me_Pairs_told_by:Kg K a.c_Pairs "told_by" a.f_Pairs_told_by
 me_Pairs_outcome:Kg K a.c_Pairs "outcome" a.f_Way_outcome
 na_Pairs_hands:C4 K a.c_Pairs "hands"
 na_Pairs_seats:C4 K a.c_Pairs "seats"
 na_Pairs_lots:C4 K a.c_Pairs "lots"
 m_PairsChecker:mg "PairsChecker"=some (.ref a.c_PairsChecker)
 cl_PairsChecker:Cls K a.c_PairsChecker
 mk_PairsChecker:Mk K a.c_PairsChecker a.f_Checker_init
 me_PairsChecker_right:Kg K a.c_PairsChecker "right" a.f_PairsChecker_right
 me_PairsChecker_passes:Kg K a.c_PairsChecker "passes" a.f_Checker_passes
 na_PairsChecker_way:C4 K a.c_PairsChecker "way"
 ia_PairsChecker_Checker:Qh K a.c_PairsChecker a.c_Checker
 m_Checker:mg "Checker"=some (.ref a.c_Checker)
 cl_Checker:Cls K a.c_Checker
 lam:GH base mg a.lc a.lP
 lcode:a.d_reached_from.code=.ref a.lc
local macro_rules | `(tactic| trivial)=>`(tactic| refine Sz.neg (by trivial))
local macro_rules | `(tactic| trivial)=>`(tactic| refine Sz.fdiv (by trivial))
local macro_rules | `(tactic| trivial)=>`(tactic| refine Sz.sub (by trivial) (by trivial))
local macro_rules | `(tactic| trivial)=>`(tactic| refine Sz.add (by trivial) (by trivial))
local macro_rules | `(tactic| trivial)=>`(tactic| refine Sz.mul (by trivial) (by trivial))
local macro_rules | `(tactic| trivial)=>`(tactic| exact Pu _ (by first | decide | decide +kernel) (szd 200))
local macro_rules | `(tactic| trivial)=>`(tactic| first | assumption | exact szd 64 | exact szd 200 | exact szd 1000)
local macro_rules | `(tactic| and_intros)=>`(tactic| (repeat (first | refine ⟨_,rfl,?_⟩ | refine ⟨_,_,rfl,rfl,?_⟩ | refine ⟨rfl,?_⟩ | refine ⟨(by show (_:Int)≠0;first | decide | decide +kernel),?_⟩ | refine ⟨⟨(by show (_:Int)≠0;decide),szd 9000⟩,?_⟩ | refine ⟨(by show NH _ _;exact ⟨by decide,by decide,by decide⟩),?_⟩ | refine ⟨(by show Np _ _;refine ⟨_,_,(by trivial),(by trivial),?_⟩;decide +kernel),?_⟩ | refine ⟨_,_,_,_,rfl,rfl,SqL.of (by assumption),(by rfl),?_⟩ | refine ⟨_,_,_,_,rfl,rfl,SqT.of (by assumption),(by rfl),?_⟩ | refine ⟨_,_,rfl,.inl (SqL.of (by assumption)),?_⟩ | refine ⟨_,_,rfl,.inr (SqT.of (by assumption)),?_⟩)))
local macro_rules | `(tactic| nofun)=>`(tactic| first | exact .inl rfl | exact .inr rfl | assumption | exact ⟨rfl,by decide +kernel,by decide +kernel,rfl,by decide +kernel,rfl,by decide +kernel,rfl,by decide +kernel⟩)
local macro_rules | `($a *> $b)=>`(@Aa _ _ _ _ _ $a $b (by rfl))
local macro_rules | `($a >> $b)=>`(@Af _ _ _ _ _ $a $b)
local macro_rules | `($a <&> ($b <|> $c))=>`(@An _ _ _ _ _ _ _ _ $a $b $c)
section
variable {P:Program} {w:World} {K:PySem.W.Frag} {mg:Str->Option Value} {base:Heap} {ad:Ads}
theorem HV (T:Tx K mg base ad):AN P w K mg base CX0 1 ad.f_all_of ad.d_all_of ["hands"] Ro:=by
 refine T.F_all_of.ok Ng (fun vs H Q E h=>?_) (fun cdv A outer s H vs Q E hr h=>?_)
 ·obtain ⟨h,rfl,_⟩:=h
  rfl
 obtain ⟨h,rfl,h0,h1,q⟩:=h
 refine ⟨_,(@Ah _ _ _ (@As _ _ _ _ (IG<&>((Jm<&>(Ag<|>(pv 0)))<|>Ag)))),?_⟩
 exact ⟨_,rfl,_,_,rfl,rfl,⟨h0,by omega,by decide⟩,_,_,rfl,rfl,q⟩
theorem G6 (T:Tx K mg base ad):AN P w K mg base CX0 1 ad.f_holds ad.d_holds ["mask","hand"] Pq:=by
 refine T.F_holds.ok Oe (fun vs H Q E h=>?_) (fun cdv A outer s H vs Q E hr h=>?_)
 ·obtain ⟨m,h,rfl,_⟩:=h
  rfl
 obtain ⟨m,h,rfl,h0,q⟩:=h
 refine ⟨_,(@Ah _ _ _ (@As _ _ _ _ (@BA _ _ _ _ _ _ _ _ GS (KJ<&>((Nq<&>((pv 0)<|>(pv 1)))<|>Ag)) Ag (Ax _)))),?_⟩
 refine ⟨_,rfl,_,rfl,_,_,rfl,rfl,h0,_,_,rfl,rfl,rfl,?_⟩
 show Q (.bl (decide (V.int (Builtin.bitAnd (m / 2 ^ h.toNat) 1)=V.int 1))) H
 rw [Ii]
 exact q
theorem Gd (T:Tx K mg base ad):AN P w K mg base CX0 1 ad.f_with_one ad.d_with_one ["mask","hand"] Qr:=by
 refine T.F_with_one.ok Kw (fun vs H Q E h=>?_) (fun cdv A outer s H vs Q E hr h=>?_)
 ·obtain ⟨m,h,rfl,_⟩:=h
  rfl
 obtain ⟨m,h,rfl,h0,h1,q⟩:=h
 refine ⟨_,(@Ah _ _ _ (@As _ _ _ _ (Rj<&>((pv 0)<|>(Jm<&>(Ag<|>(pv 1))))))),?_⟩
 exact ⟨_,rfl,_,rfl,_,_,rfl,rfl,⟨h0,by omega,by decide⟩,_,_,rfl,rfl,q⟩
theorem EB (T:Tx K mg base ad):AN P w K mg base CX0 1 ad.f_members ad.d_members ["mask"] MD:=by
 refine T.F_members.ok KR (fun vs H Q E h=>?_) (fun cdv A outer s H vs Q E hr h=>?_)
 ·obtain ⟨m,rfl,_⟩:=h
  rfl
 obtain ⟨m,rfl,m0,m1,q⟩:=h
 refine ⟨_,(@Ah _ _ _ (@As _ _ _ _ (Bb (fsc:=Ac CD) (N:=["mask"]) (Nc:=["mask","hand"]) rfl rfl (by nofun) rfl (AG rfl T.z_range ((QH PySem.F.plainAttrs_int PySem.F.slot_int_bit_length PySem.F.type_int_bit_length Pg (pv 0))*>Ae)) (fun _ _ _ _=>(CM (@Ay _ _ _ _ _ _ _ _ GS (KJ<&>((Nq<&>((pv 0)<|>(pv 1)))<|>Ag)) Ag (Ax _)))) (fun _ _ _ _=>(pv 1))))),?_⟩
 have hb:(Builtin.Int.intBits m)<=12:=intBits_le_iff.mpr (by show m.natAbs < 4096;omega)
 refine ⟨_,rfl,rfl,m,rfl,rfl,_,rfl,by omega,by omega,?_⟩
 have en:((Builtin.Int.intBits m:Nat):Int).toNat=Builtin.Int.intBits m:=by omega
 rw [en]
 refine AQ (Av (by omega)) (fun D i ys H'=>ys=(hands i (bit m)).map V.int/\H'=upd H D (.lst ys)) (fun D hD=>⟨rfl,rfl⟩) (fun D i ys H' ⟨e1,e2⟩=>by rw [e2,e1];exact ⟨Ab,by rw [length_map];exact Dy i (bit m)⟩) ?_ ?_
 ·rintro D i ys H' K1 K2 hD hi ⟨e1,rfl⟩ k1 k2
  have ei:(0+(i:Int)).toNat=i:=by omega
  refine ⟨_,rfl,_,rfl,_,_,rfl,rfl,(by show (0:Int)<=0+(i:Int);omega),_,_,rfl,rfl,rfl,_,rfl,?_⟩
  dsimp only
  rw [show decide (V.int (Builtin.bitAnd (m / 2 ^ (0+(i:Int)).toNat) 1)=V.int 1)=bit m i from by rw [Ii,ei]]
  have ms:=Di i (bit m)
  cases e:bit m i with
  | true =>
    rw [e,if_pos rfl] at ms
    refine RG ⟨_,rfl,?_⟩
    refine k1 _ _ Ab ⟨?_,by rw [AT]⟩
    rw [ms,map_append,e1,Int.zero_add]
    rfl
  | false =>
    rw [e,if_neg (by decide)] at ms
    refine RY ?_
    exact k2 _ ⟨by rw [ms];exact e1,rfl⟩
 ·rintro D ys H' hD ⟨rfl,rfl⟩
  refine q D _ hD (Ad hD _) ?_
  rw [Ab,No m0 m1]
theorem Ed (T:Tx K mg base ad):AN P w K mg base CX0 1 ad.f_hands_of ad.d_hands_of ["leads"] LX:=by
 refine T.F_hands_of.ok J8 (fun vs H Q E h=>?_) (fun cdv A outer s H vs Q E hr h=>?_)
 ·obtain ⟨a,t,h,rfl,_⟩:=h
  rfl
 obtain ⟨a,t,h,rfl,ha,hl,h12,q⟩:=h
 refine ⟨_,(@Ah _ _ _ (@As _ _ _ _ (C7 rfl (by rfl) T.z_list (by rfl) T.z_range (@At _ _ _ _ _ _ _ _ _ A0 (by rfl) T.z_len PySem.boot_len ((pv 0)*>Ae) (by decide) (by decide) (by rfl) (by rfl))))),?_⟩
 and_intros
 have e:(vtb t).length=h:=by unfold vtb;rw [length_map,hl]
 refine ⟨by omega,fun l hl0=>?_⟩
 rw [e,show (List.map (fun i:Nat=>V.int (i:Int)) (List.range h))=(ups h).map V.int from (by unfold ups;rw [map_map];rfl)]
 exact q l _ hl0 (Ad hl0 _) Ab
theorem Ml (T:Tx K mg base ad):AN P w K mg base CX0 1 ad.f_way_by ad.d_way_by ["reached","x","y"] Pe:=by
 refine T.F_way_by.ok Iy (fun vs H Q E h=>?_) (fun cdv A outer s H vs Q E hr h=>?_)
 ·obtain ⟨t,h,x,y,L,be,rfl,_⟩:=h
  rfl
 obtain ⟨t,h,x,y,L,be,rfl,td,hy,yx,h12,q⟩:=h
 refine ⟨_,((@Ao _ _ (3) _ _ _ _ Iy.nd rfl (Or.inl rfl) (@Bf _ _ _ _ ((pv 2)*>Ae)) (by rfl) (by nofun))>>((Eh PassesOwn.never (@Ay _ _ _ _ _ _ _ _ GU (@Al _ _ _ _ _ _ _ A3 (pv 3) Ag (fun _ _=>rfl)) (pv 1) (Ax _)) (@Ah _ _ _ (@Ci _ _ _ _ (Dw PySem.F.plainAttrs_list PySem.F.slot_list_insert PySem.F.type_list_insert Mw (pv 3) (Ag*>((@Al _ _ _ _ _ _ _ A3 (@Al _ _ _ _ _ _ _ AE (pv 0) Ag (fun _ _=>rfl)) (@Al _ _ _ _ _ _ _ A3 (pv 3) Ag (fun _ _=>rfl)) (fun _ _=>rfl))*>Ae))) (by rfl))))>>(@Ah _ _ _ (@As _ _ _ _ (pv 3))))),?_⟩
 obtain ⟨b,f,bf,et,eb,ef,re⟩:=td.is
 obtain ⟨rk,par⟩:=re.par
 and_intros
 refine ⟨(by show 1<=sizeLine;decide),fun l hl=>?_⟩
 have s1:=Ad hl (.lst [V.int (y:Int)])
 have e1:(upd H l (.lst [V.int (y:Int)])) l=some (.lst ((AM (y :: [])).map V.int)):=Ab
 generalize upd H l (.lst [V.int (y:Int)])=H1 at s1 e1 ⊢
 refine ⟨fun m σ' H'=>∃(w:Nat) (r:List Nat),σ'=[some (.ref t),some (.int (x:Int)),some (.int (y:Int)),some (.ref l)]/\Aq H H'/\H' l=some (.lst ((AM (w :: r)).map V.int))/\Hu h x y L be rk w r/\rk w=m,⟨_,y,[],rfl,s1,e1,Hu.start rk hy yx,rfl⟩,?_⟩
 rintro m σ' H' ⟨w,r,rfl,s2,e2,pt,rm⟩
 have wh:w < h:=pt.all w (mem_cons_self ..)
 have at0:atI ((AM (w :: r)).map V.int) ((0:Nat):Int)=some (.int (w:Int)):=DN rfl
 have rl:r.length<=12:=by
  have:=Df (xs:=AM (w :: r)) (ys:=ups h) (List.Pairwise.map _ (fun a b (ne:a≠b) e=>ne (Int.ofNat.inj e)) (pt.rise.imp fun z e=>by rw [e] at z;exact Nat.lt_irrefl _ z)) fun z mz=>by
   obtain ⟨v,mv,rfl⟩:=mem_map.mp mz
   exact mem_map.mpr ⟨v,mem_range.mpr (pt.all v mv),rfl⟩
  unfold AM at this
  rw [length_map,BH,length_cons] at this
  omega
 refine ⟨_,rfl,l,_,_,_,rfl,rfl,SqL.of e2,at0,?_⟩
 and_intros
 by_cases c:w=x
 ·refine ifF (KW (by rw [c])) ?_
  subst c
  and_intros
  exact q l (w :: r) H' hl s2 e2 pt.way
 ·refine ifT (Ow fun e=>c (Int.ofNat.inj e)) ?_
  obtain ⟨p,hp,p1,p2,p3,p4⟩:=par w wh c
  refine ⟨fun σ' H'=>∃(w':Nat) (r:List Nat),σ'=[some (.ref t),some (.int (x:Int)),some (.int (y:Int)),some (.ref l)]/\Aq H H'/\H' l=some (.lst ((AM (w' :: r)).map V.int))/\Hu h x y L be rk w' r/\rk w' < m,fun σ' H' ⟨w',r,a1,a2,a3,a4,a5⟩=>⟨rk w',a5,w',r,a1,a2,a3,a4,rfl⟩,?_⟩
  have et2:=s2 _ _ et
  and_intros
  refine ⟨.inl ⟨rfl,_,SqL.of e2⟩,?_⟩
  and_intros
  refine ⟨l,_,_,_,rfl,rfl,SqL.of e2,at0,?_⟩
  refine ⟨f,_,_,_,rfl,rfl,SqL.of (s2 _ _ ef),atG (by rw [re.lenf];exact wh),?_⟩
  rw [p1]
  refine ⟨l,_,0,V.int (p:Int),rfl,rfl,e2,Nat.zero_le _,AW (by unfold AM;rw [length_map,length_map,length_cons];omega),?_⟩
  exact ⟨p,w :: r,rfl,Aw s2 hl,by rw [Ab];rfl,pt.step c hp p2 p3 p4,by omega⟩
theorem Mx (T:Tx K mg base ad):AN P w K mg base CX0 1 ad.f_is_way ad.d_is_way ["way","x","y","hands"] LR:=by
 refine T.F_is_way.ok MZ (fun vs H Q E h=>?_) (fun cdv A outer s H vs Q E hr h=>?_)
 ·obtain ⟨w,h,x,y,L,v,ws,rfl,_⟩:=h
  rfl
 obtain ⟨w,h,x,y,L,v,ws,rfl,hw,iw,h12,q⟩:=h
 refine ⟨_,((@Da _ _ _ _ _ _ _ _ (PW.pt (@ET _ _ _ _ _ _ _ (@Ay _ _ _ _ _ _ _ _ G8 (@At _ _ _ _ _ _ _ _ _ A0 (by rfl) T.z_len PySem.boot_len ((pv 0)*>Ae) (by decide) (by decide) (by rfl) (by rfl)) Ag (Ax _)) (@ET _ _ _ _ _ _ _ (@Ay _ _ _ _ _ _ _ _ GU (@Al _ _ _ _ _ _ _ A3 (pv 0) Ag (fun _ _=>rfl)) (pv 1) (Ax _)) (@EA _ _ _ _ (@Ay _ _ _ _ _ _ _ _ GU (@Al _ _ _ _ _ _ _ A3 (pv 0) (@LL _ _ _ _ _ _ K5 Ag) (fun _ _=>rfl)) (pv 2) (Ax _)))))) (@Ah _ _ _ (@As _ _ _ _ Cz)) AK)>>(@Ah _ _ _ (@As _ _ _ _ (@Du _ _ _ _ _ _ _ (@At _ _ _ _ _ _ _ _ _ (GI rfl) (by rfl) T.z_all PyProof.Rows.boot_all ((Bb (fsc:=Ac Dg) (N:=["way","x","y","hands"]) (Nc:=["way","x","y","hands","hand"]) rfl rfl (by nofun) rfl (A5 (pv 0)) (fun _ _ _ _=>AF) (fun _ _ _ _=>(Ff Fr G8 Ag (pv 4) (pv 3))))*>Ae) (by decide) (by decide) (by rfl) (by rfl)) (@DG _ _ _ _ _ (@BA _ _ _ _ _ _ _ _ GS (My rfl (by rfl) T.z_len (by rfl) T.z_set (pv 0)) (@At _ _ _ _ _ _ _ _ _ A0 (by rfl) T.z_len PySem.boot_len ((pv 0)*>Ae) (by decide) (by decide) (by rfl) (by rfl)) (Ax _))))))),?_⟩
 have wl:=L5 iw
 have two:=iw.two
 have ln:=Er ws
 have at0:atI ((AM ws).map V.int) 0=some (.int (x:Int)):=by
  have:=Jc (ws:=ws) (k:=0) (by omega)
  rw [show ws.getD 0 0=x from by rw [getD_eq_getElem?_getD,<- List.head?_eq_getElem?,iw.first];rfl] at this
  exact this
 and_intros
 refine ifF (decide_eq_false (by rw [length_map,ln];omega)) ?_
 and_intros
 refine ⟨w,_,_,_,rfl,rfl,SqL.of hw,at0,?_⟩
 and_intros
 refine ifF (KW rfl) ?_
 and_intros
 refine ⟨w,_,_,_,rfl,rfl,SqL.of hw,FA iw.last,?_⟩
 and_intros
 refine ifF (KW rfl) ?_
 and_intros
 refine ⟨⟨_,SqL.of hw⟩,?_⟩
 refine AB (xs:=(AM ws).map V.int) (by rw [length_map];exact Av (by omega)) (fun D j ys J=>ys=(List.replicate j true).map V.bl/\J=upd H D (.lst ys)) (fun D hD=>⟨rfl,rfl⟩) (fun D j ys J ⟨f1,f2⟩=>⟨by rw [f2];exact Ab,by rw [f1,length_map,length_replicate];exact Nat.le_refl _⟩) (fun D j ys J hD ⟨_,f2⟩=>by rw [f2];exact SqL.of (Ad hD _ _ _ hw)) ?_ ?_
 ·rintro D j u ys J K1 K2 hD hx ⟨f1,rfl⟩ k1 k2
  obtain ⟨z,hz,rfl⟩:=int_at hx
  obtain ⟨n,mn,rfl⟩:=mem_map.mp (mem_of_getElem? hz)
  have nh:=iw.all n mn
  refine yes (ifT rfl ?_)
  and_intros
  dsimp only
  rw [decide_eq_true (show (n:Int) < (h:Int) by omega)]
  refine k1 _ _ Ab ⟨?_,by rw [AT]⟩
  rw [f1,replicate_succ',map_append]
  rfl
 rintro D ys H1 hD ⟨rfl,rfl⟩
 have s1:=Ad hD (.lst ((List.replicate ((AM ws).map V.int).length true).map V.bl))
 have e1:(upd H D (.lst ((List.replicate ((AM ws).map V.int).length true).map V.bl))) D=some (.lst ((List.replicate ((AM ws).map V.int).length true).map V.bl)):=Ab
 generalize upd H D (.lst ((List.replicate ((AM ws).map V.int).length true).map V.bl))=H1 at s1 e1 ⊢
 refine ⟨D,_,rfl,SqL.of e1,?_⟩
 rw [show (List.replicate ((AM ws).map V.int).length true).all id=true from all_eq_true.mpr fun b m=>(mem_replicate.mp m).2]
 and_intros
 refine ⟨w,AM ws,rfl,SqL.of (s1 _ _ hw),by omega,fun ms m1 m2=>?_⟩
 have el:ms.length=(AM ws).length:=Nat.le_antisymm (Df m1 fun z mz=>(m2 z).mp mz) (Df (List.Pairwise.map _ (fun a b (ne:a≠b) e=>ne (Int.ofNat.inj e)) iw.nd) fun z mz=>(m2 z).mpr mz)
 and_intros
 refine ⟨w,_,rfl,.inl (SqL.of (s1 _ _ hw)),?_⟩
 and_intros
 rw [show decide (V.int (ms.length:Int)=V.int (((AM ws).map V.int).length:Int))=true from Qa (by rw [length_map,el])]
 exact q _ s1
theorem Hy (T:Tx K mg base ad):AN P w K mg base CX0 1 ad.f_least_link ad.d_least_link ["leads","way"] M6:=by
 refine T.F_least_link.ok Hw (fun vs H Q E h=>?_) (fun cdv A outer s H vs Q E hr h=>?_)
 ·obtain ⟨a,w,as,h,x,y,L,v,ws,rfl,_⟩:=h
  rfl
 obtain ⟨a,w,as,h,x,y,L,v,ws,rfl,ha,tb,hw,iw,h12,q⟩:=h
 refine ⟨_,(@Ah _ _ _ (@As _ _ _ _ (@At _ _ _ _ _ _ _ _ _ (Nb rfl) (by rfl) T.z_min PyProof.Rows.boot_min ((Ot (fsc:=Ac BB) (N:=["leads","way"]) (Nc:=["leads","way","one","other"]) rfl rfl ⟨rfl,by decide +kernel,by decide +kernel,by decide +kernel,by decide +kernel,rfl,by decide +kernel,rfl,by decide +kernel⟩ rfl (Qq rfl T.z_zip ((pv 1)*>((D9 Ex (pv 1) (Eu Ag) E2)*>Ae))) (fun _ _ _ _=>AF) (fun _ _ _ _=>(@Al _ _ _ _ _ _ _ (AD K) (@Al _ _ _ _ _ _ _ (AD K) (pv 0) (pv 2) (fun _ _=>rfl)) (pv 3) (fun _ _=>rfl))))*>Ae) (by decide) (by decide) (by rfl) (by rfl)))),?_⟩
 have wl:=L5 iw
 have two:=iw.two
 have ln:=Er ws
 and_intros
 refine ⟨w,_,rfl,SqL.of hw,fun d hd=>?_⟩
 rw [show Gs ((AM ws).map V.int) (some 1) none=((AM ws).drop 1).map V.int from (ES (j:=1)).trans (map_drop ..).symm]
 have s1:=Ad hd ((.lst (((AM ws).drop 1).map V.int)))
 have e1:(upd H d ((.lst (((AM ws).drop 1).map V.int)))) d=some ((.lst (((AM ws).drop 1).map V.int))):=Ab
 generalize upd H d ((.lst (((AM ws).drop 1).map V.int)))=H1 at s1 e1 ⊢
 refine ⟨w,d,rfl,⟨_,SqL.of (s1 _ _ hw)⟩,⟨_,SqL.of e1⟩,?_⟩
 refine M7 (xs:=(AM ws).map V.int) (zs:=((AM ws).drop 1).map V.int) rfl rfl (by rw [length_map,length_map,length_drop];omega) (by rw [length_map,length_drop];exact Av (by omega)) (fun D2 i ys J=>ys=((List.range i).map fun k=>L (ws.getD k 0) (ws.getD (k+1) 0)).map V.int/\J D2=some (.lst ys)/\Aq H1 J) (fun D2 hD2=>⟨rfl,Ab,Ad hD2 _⟩) (fun D2 i ys J ⟨f1,f2,_⟩=>⟨f2,by rw [f1,length_map,length_map,length_range];exact Nat.le_refl _⟩) (fun D2 i ys J hD2 ⟨_,_,f3⟩=>⟨SqL.of (f3 _ _ (s1 _ _ hw)),SqL.of (f3 _ _ e1)⟩) ?_ ?_
 ·rintro D2 i u z Tt ys J K1 K2 hD2 hu hz ⟨f1,f2,f3⟩ hT k1 k2
  have il:i+1 < ws.length:=by
   have:=(List.getElem?_eq_some_iff.mp hz).1
   rw [length_map,length_drop] at this
   omega
  have sT:=Ad hT (.tup [u,z])
  have sD:=(s1.trans f3).trans sT
  have wi:∀k,k < ws.length->ws.getD k 0 < h:=fun k hk=>by
   rw [getD_eq_getElem?_getD,List.getElem?_eq_getElem hk]
   exact iw.all _ (getElem_mem hk)
  have eu:u=.int ((ws.getD i 0:Nat):Int):=by
   have a:=Jc (ws:=ws) (k:=i) (by omega)
   rw [DN hu] at a
   exact Option.some.inj a
  have ez:z=.int ((ws.getD (i+1) 0:Nat):Int):=by
   have a:=Jc (ws:=ws) (k:=i+1) il
   rw [List.getElem?_map,List.getElem?_drop,<- List.getElem?_map,Nat.add_comm] at hz
   rw [DN hz] at a
   exact Option.some.inj a
  subst eu ez
  obtain ⟨ar,_,_,r3,r4⟩:=(tb.same sD).row (wi i (by omega))
  refine yes (ifT rfl ?_)
  refine ⟨_,rfl,_,rfl,a,_,_,_,rfl,rfl,SqL.of (sD _ _ ha),r3,?_⟩
  refine ⟨_,rfl,ar,_,_,_,rfl,rfl,SqL.of r4,BC (L (ws.getD i 0)) (wi (i+1) il),?_⟩
  refine k1 _ _ (sT _ _ f2) ⟨?_,Ab,Aw (f3.trans sT) hD2⟩
  rw [f1,range_succ,map_append,map_append]
  rfl
 rintro D2 ys H2 hD2 ⟨f1,f2,f3⟩
 have lz:(((AM ws).drop 1).map V.int).length=ws.length - 1:=by rw [length_map,length_drop,ln]
 rw [lz] at f1
 subst f1
 refine ⟨D2,lk L ws,rfl,SqL.of f2,?_,fun M Mm Ma=>?_⟩
 ·unfold lk
  rw [length_map,length_range]
  omega
 rw [Int.le_antisymm (Ma v iw.least.1) (iw.least.2 M Mm)]
 exact q _ (s1.trans f3)
theorem El (T:Tx K mg base ad):AN P w K mg base CX0 1 ad.f_is_whole ad.d_is_whole ["thing"] PB:=by
 refine T.F_is_whole.ok JP (fun vs H Q E h=>?_) (fun cdv A outer s H vs Q E hr h=>?_)
 ·obtain ⟨c,rfl,_⟩:=h
  rfl
 obtain ⟨c,rfl,q⟩:=h
 refine ⟨_,(@Ah _ _ _ (@As _ _ _ _ (@Du _ _ _ _ _ _ _ (@At _ _ _ _ _ _ _ _ _ Eg (by rfl) T.z_isinstance PyProof.Rows.boot_isinstance ((pv 0)*>((Ft (v:=.ty "int") rfl T.z_int PyProof.Rows.boot_int rfl)*>Ae)) (by decide) (by decide) (by rfl) (by rfl)) (@DG _ _ _ _ _ (@NX _ _ _ _ (@At _ _ _ _ _ _ _ _ _ Eg (by rfl) T.z_isinstance PyProof.Rows.boot_isinstance ((pv 0)*>((Ft (v:=.ty "bool") rfl T.z_bool PyProof.Rows.boot_bool rfl)*>Ae)) (by decide) (by decide) (by rfl) (by rfl))))))),?_⟩
 refine ⟨_,rfl,_,_,_,_,rfl,DU.int c,JR,_,rfl,?_⟩
 refine RG ?_
 exact ⟨_,rfl,_,_,_,_,rfl,DU.int c,Ja,_,rfl,q⟩
theorem EO (T:Tx K mg base ad):AN P w K mg base CX0 1 ad.f_pairs_in_order ad.d_pairs_in_order ["hands"] MH:=by
 refine T.F_pairs_in_order.ok C3 (fun vs H Q E h=>?_) (fun cdv A outer s H vs Q E hr h=>?_)
 ·obtain ⟨h,rfl,_⟩:=h
  rfl
 obtain ⟨h,rfl,h12,q⟩:=h
 refine ⟨_,((@Ao _ _ (1) _ _ _ _ C3.nd rfl (Or.inl rfl) (@Bf _ _ _ _ Ae) (by rfl) (by nofun))>>((B9 PassesOwn.never rfl (AG rfl T.z_range ((pv 0)*>Ae)) (AA (i:=2) C3.nd rfl (Or.inr rfl)) (@Ah _ _ _ (@Ci _ _ _ _ (Dw PySem.F.plainAttrs_list PySem.F.slot_list_extend PySem.F.type_list_extend Ij (pv 1) ((Bb (fsc:=Ac AV) (N:=["hands","pairs","x"]) (Nc:=["hands","pairs","x","y"]) rfl rfl (by nofun) rfl (AG rfl T.z_range ((pv 0)*>Ae)) (fun _ _ _ _=>(CM (@Ay _ _ _ _ _ _ _ _ GU (pv 3) (pv 2) (Ax _)))) (fun _ _ _ _=>(@CY _ _ _ _ _ ((pv 2)*>((pv 3)*>Ae)))))*>Ae)) (by rfl))))>>(@Ah _ _ _ (@As _ _ _ _ (pv 1))))),?_⟩
 and_intros
 refine ⟨(by show 0<=sizeLine;decide),fun l hl=>?_⟩
 have s1:=Ad hl ((.lst []))
 have e1:(upd H l ((.lst []))) l=some ((.lst [])):=Ab
 generalize upd H l ((.lst []))=H1 at s1 e1 ⊢
 and_intros
 refine ⟨by omega,by omega,D8 (fun i σ' H'=>∃(v2:Option V) (ps:Prs),σ'=[some (.int (h:Int)),some (.ref l),v2]/\Aq H H'/\H' l=some (.lst (HD ps))/\(∀q∈ps,H' q.1=some (.tup [.int (q.2.1:Int),.int (q.2.2:Int)]))/\ps.map (fun q=>q.2)=pairsOf h i) ⟨none,[],rfl,s1,e1,(fun q m=>nomatch m),rfl⟩ ?_ ?_⟩
 ·rintro i σ' H' hi ⟨v2,ps,rfl,s2,e2,g2,p2⟩
  rw [Int.toNat_natCast] at hi
  have z0:(0:Int)+(i:Int)=(i:Int):=Int.zero_add _
  rw [z0]
  have pl:ps.length<=144:=by
   have a1:=congrArg List.length p2
   rw [length_map] at a1
   have a2:=CT (h:=h) (n:=i) (by omega)
   have a3:i*h<=12*12:=Nat.mul_le_mul (by omega) h12
   omega
  and_intros
  refine ⟨.inl ⟨rfl,_,SqL.of e2⟩,?_⟩
  and_intros
  refine ⟨by omega,by omega,?_⟩
  rw [Int.toNat_natCast]
  refine AQ (Av (by omega)) (fun D k ys J=>∃qs:Prs,ys=HD qs/\qs.length<=k/\J D=some (.lst ys)/\Aq H' J/\(∀q∈qs,J q.1=some (.tup [.int (q.2.1:Int),.int (q.2.2:Int)]))/\qs.map (fun q=>q.2)=(Fe k i).map fun y=>(i,y)) (fun D hD=>⟨[],rfl,Nat.le_refl _,Ab,Ad hD _,(fun q m=>nomatch m),rfl⟩) (fun D k ys J ⟨qs,f1,f2,f3,_⟩=>⟨f3,by rw [f1,Fg];exact f2⟩) ?_ ?_
  ·rintro D k ys J K1 K2 hD hk ⟨qs,rfl,f2,f3,f4,f5,f6⟩ k1 k2
   have zk:(0:Int)+(k:Int)=(k:Int):=Int.zero_add _
   rw [zk]
   have bs:=MB k i
   and_intros
   by_cases c:k=i
   ·refine ifF (KW (by omega)) ?_
    rw [if_pos c,append_nil] at bs
    exact k2 _ ⟨qs,rfl,by omega,f3,f4,f5,by rw [bs];exact f6⟩
   ·refine ifT (Ow (by omega)) ?_
    rw [if_neg c] at bs
    refine ⟨_,rfl,_,rfl,(by show 2<=sizeLine;decide),fun t ht=>?_⟩
    have sT:=Ad ht (.tup [V.int (i:Int),V.int (k:Int)])
    have eT:(upd J t (.tup [V.int (i:Int),V.int (k:Int)])) t=some (.tup [V.int (i:Int),V.int (k:Int)]):=Ab
    generalize upd J t (.tup [V.int (i:Int),V.int (k:Int)])=J2 at sT eT ⊢
    have f3':=sT _ _ f3
    refine k1 _ _ f3' ⟨qs++[(t,i,k)],by rw [Em];rfl,by rw [length_append];show _+1<=_;omega,Ab,Aw (f4.trans sT) hD,fun q m=>?_,by rw [map_append,f6,bs,map_append];rfl⟩
    rcases mem_append.mp m with m | m
    ·rw [Ai (DZ (sT _ _ (f5 q m)) f3' (fun z=>nomatch z))]
     exact sT _ _ (f5 q m)
    ·rw [mem_singleton.mp m,Ai (DZ eT f3' (fun z=>nomatch z))]
     exact eT
  rintro D ys H3 hD ⟨qs,rfl,f2,f3,f4,f5,f6⟩
  have e3:=f4 _ _ e2
  refine ⟨l,D,_,_,rfl,rfl,e3,f3,(by rw [Fg,Fg];exact Nat.le_of_lt (AW (by omega))),?_⟩
  rw [<- Em]
  refine ⟨_,ps++qs,rfl,Aw (s2.trans f4) hl,Ab,fun q m=>?_,by rw [map_append,p2,f6,<- DM]⟩
  rcases mem_append.mp m with m | m
  ·rw [Ai (DZ (f4 _ _ (g2 q m)) e3 (fun z=>nomatch z))]
   exact f4 _ _ (g2 q m)
  ·rw [Ai (DZ (f5 q m) e3 (fun z=>nomatch z))]
   exact f5 q m
 ·rintro σ' H' ⟨v2,ps,rfl,s2,e2,g2,p2⟩
  rw [Int.toNat_natCast] at p2
  exact ⟨_,rfl,q l ps H' hl s2 e2 g2 p2⟩
theorem Gi (T:Tx K mg base ad):AN P w K mg base CX0 1 ad.f_strengths_in ad.d_strengths_in ["shown","hands"] Mg:=by
 refine T.F_strengths_in.ok CW (fun vs H Q E h=>?_) (fun cdv A outer s H vs Q E hr h=>?_)
 ·obtain ⟨sh,h,L,F,rows,rfl,_⟩:=h
  rfl
 obtain ⟨sh,h,L,F,rows,rfl,hsh,rg,ro',st,l0,h1,h12,q⟩:=h
 refine ⟨_,((Dm (j:=2) (fsc:=Ac Bd) (N:=["shown","hands","strengths","row"]) (Nc:=["shown","hands","strengths","row","x"]) rfl rfl (by nofun) rfl CW.nd rfl rfl (AG rfl T.z_range ((pv 1)*>Ae)) (fun _ _ _ _=>AF) (fun _ _ _ _=>(by exact (Hn (fsc:=Ac Bd) (Nc:=["shown","hands","strengths","row","x"]) (Nd:=["shown","hands","strengths","row","x","y"]) rfl (by nofun) rfl (AG rfl T.z_range ((pv 1)*>Ae)) (fun _ _ _ _=>AF) (fun _ _ _ _=>Ag)))) rfl)>>((B9 PassesOwn.never rfl (A5 (pv 0)) (AA (i:=3) CW.nd rfl (Or.inl rfl)) (@Ah _ _ _ (Fy (@Al _ _ _ _ _ _ _ AE (pv 3) Ag (fun _ _=>rfl)) (GF (@Al _ _ _ _ _ _ _ A3 (pv 2) (@Al _ _ _ _ _ _ _ AE (pv 3) Ag (fun _ _=>rfl)) (fun _ _=>rfl)) (@Al _ _ _ _ _ _ _ AE (pv 3) Ag (fun _ _=>rfl)) En))))>>(@Ah _ _ _ (@As _ _ _ _ (pv 2))))),?_⟩
 and_intros
 refine ⟨by omega,by omega,?_⟩
 rw [Int.toNat_natCast]
 refine AQ (Av (by omega)) (fun D i ys J=>∃as:List Addr,ys=as.map V.ref/\as.length=i/\as.Nodup/\J D=some (.lst ys)/\Aq H J/\D ∉ as/\∀a∈as,H a=none/\J a=some (.lst (((List.range h).map fun _=>(0:Int)).map V.int))) (fun D hD=>⟨[],rfl,rfl,nodup_nil,Ab,Ad hD _,(fun m=>nomatch m),fun _ m=>nomatch m⟩) (fun D i ys J ⟨as,f1,f2,_,f3,_⟩=>⟨f3,by rw [f1,length_map,f2];exact Nat.le_refl _⟩) ?_ ?_
 ·rintro D i ys J K1 K2 hD hi ⟨as,rfl,f2,f3,f4,f5,f6,f7⟩ k1 k2
  refine yes (ifT rfl ?_)
  refine ⟨_,rfl,(h:Int),rfl,by omega,by omega,?_⟩
  rw [Int.toNat_natCast]
  refine AQ (Av (by omega)) (fun D2 j ys J2=>ys=((List.range j).map fun _=>(0:Int)).map V.int/\J2=upd J D2 (.lst ys)) (fun D2 hD2=>⟨rfl,rfl⟩) (fun D2 j ys J2 ⟨g1,g2⟩=>⟨by rw [g2];exact Ab,by rw [g1,length_map,length_map,length_range];exact Nat.le_refl _⟩) ?_ ?_
  ·rintro D2 j ys J2 L1 L2 hD2 hj ⟨g1,rfl⟩ l1 l2
   refine yes (ifT rfl ?_)
   refine l1 _ _ Ab ⟨?_,by rw [AT]⟩
   rw [g1,range_succ,map_append,map_append]
   rfl
  rintro D2 ys J2 hD2 ⟨rfl,rfl⟩
  have sD:=Ad hD2 (.lst (((List.range h).map fun _=>(0:Int)).map V.int))
  have eD:(upd J D2 (.lst (((List.range h).map fun _=>(0:Int)).map V.int))) D2=some (.lst (((List.range h).map fun _=>(0:Int)).map V.int)):=Ab
  have dd:D2≠D:=fun z=>by rw [z,f4] at hD2;cases hD2
  have na:D2 ∉ as:=fun m=>by rw [(f7 D2 m).2] at hD2;cases hD2
  generalize upd J D2 (.lst (((List.range h).map fun _=>(0:Int)).map V.int))=J5 at sD eD ⊢
  refine k1 _ _ (sD _ _ f4) ⟨as++[D2],by rw [map_append];rfl,by rw [length_append,f2];rfl,nodup_append.mpr ⟨f3,by simp,fun a ma b mb e=>na (by rw [<- mem_singleton.mp mb,<- e];exact ma)⟩,Ab,Aw (f5.trans sD) hD,fun m=>?_,fun a m=>?_⟩
  ·rcases mem_append.mp m with m | m
   ·exact f6 m
   ·exact dd (mem_singleton.mp m).symm
  ·rcases mem_append.mp m with m | m
   ·exact ⟨(f7 a m).1,by rw [Ai (fun z=>f6 (by rw [<- z];exact m))];exact sD _ _ (f7 a m).2⟩
   ·rw [mem_singleton.mp m]
    exact ⟨none_of f5 hD2,by rw [Ai dd];exact eD⟩
 rintro D ys H1 hD ⟨as,rfl,f2,f3,f4,f5,f6,f7⟩
 have tb0:AL H1 as h (fun _ _=>0):=⟨f2,f3,fun x a ha=>(f7 a (mem_of_getElem? ha)).2⟩
 have nw:∀a∈as,H a=none:=fun a m=>(f7 a m).1
 clear f7 f3 f2
 and_intros
 refine ⟨⟨_,SqL.of (f5 _ _ hsh)⟩,BD (xs:=vrw rows) (fun i σ' H'=>∃(v3:Option V) (G:Nat->Nat->Int),σ'=[some (.ref sh),some (.int (h:Int)),some (.ref D),v3]/\CZ as H1 H'/\AL H' as h G/\∀x y,G x y=if (x,y)∈(rows.take i).map (fun q=>(q.x,q.y)) then F x y else 0) ⟨none,fun _ _=>0,rfl,CZ.of (fun _ _ e=>e),tb0,fun x y=>(if_neg (fun z=>nomatch z)).symm⟩ (fun i σ' H' _ ⟨_,_,_,k,_⟩=>SqL.of (k.same f5 nw _ _ hsh)) ?_ ?_⟩
 ·rintro i w σ' H2 hw ⟨v3,G,rfl,kp,tb,eG⟩
  obtain ⟨r,hr0,rfl,mr,et⟩:=EX hw
  have ro:=(rg r mr).same (kp.same f5 nw)
  obtain ⟨ax,r1,r2,r3,r4⟩:=tb.row ro.hx
  have eD:=kp _ _ f6 f4
  have rt:=ro.tup
  and_intros
  refine ⟨D,_,_,_,rfl,rfl,SqL.of eD,r3,?_⟩
  and_intros
  refine ⟨ax,_,_,r.y,rfl,rfl,r4,EY (by rw [length_map,length_map,length_range];exact ro.hy),?_⟩
  have tb2:=tb.setv (y:=r.y) r1 r.s
  refine ⟨_,_,rfl,kp.put r2,tb2,fun x y=>?_⟩
  show (G x y+if x=r.x/\y=r.y then (r.s - G r.x r.y) else 0)=_
  rw [et,map_append]
  by_cases e:x=r.x/\y=r.y
  ·rw [if_pos e,if_pos (mem_append_right _ (by rw [e.1,e.2];exact mem_singleton.mpr rfl)),e.1,e.2,ro.str]
   omega
  ·rw [if_neg e,Int.add_zero,eG]
   have mm:(x,y)∈(rows.take i).map (fun q=>(q.x,q.y))++[r].map (fun q=>(q.x,q.y))↔(x,y)∈(rows.take i).map (fun q=>(q.x,q.y)):=by
    rw [mem_append]
    refine ⟨fun z=>z.elim id fun z=>?_,.inl⟩
    have:=mem_singleton.mp z
    exact absurd ⟨congrArg Prod.fst this,congrArg Prod.snd this⟩ e
   by_cases g:(x,y)∈(rows.take i).map (fun q=>(q.x,q.y))
   ·rw [if_pos g,if_pos (mm.mpr g)]
   ·rw [if_neg g,if_neg (fun z=>g (mm.mp z))]
 ·rintro σ' H2 ⟨v3,G,rfl,kp,tb,eG⟩
  rw [C5,take_of_length_le (Nat.le_refl _),ro'] at eG
  and_intros
  refine q D as H2 hD (kp.same f5 nw) (kp _ _ f6 f4) (tb.congr fun x y hx hy=>?_)
  rw [eG]
  by_cases e:x=y
  ·rw [if_neg (fun z=>(HZ.mp z).2.2 e.symm),<- e]
   obtain ⟨bf,re⟩:=st x hx
   have:=re.own
   rw [l0 x hx,getD_eq_getElem?_getD,List.getElem?_map,List.getElem?_range hx] at this
   exact this.symm
  ·rw [if_pos (HZ.mpr ⟨hx,hy,Ne.symm e⟩)]
theorem Jk (T:Tx K mg base ad):AN P w K mg base CX0 1 ad.f_is_beaten ad.d_is_beaten ["strengths","hand","others"] NE:=by
 refine T.F_is_beaten.ok IL (fun vs H Q E h=>?_) (fun cdv A outer s H vs Q E hr h=>?_)
 ·obtain ⟨r,l,rs,h,i,F,zs,rfl,_⟩:=h
  rfl
 obtain ⟨r,l,rs,h,i,F,zs,rfl,hr0,tb,hi,hl,sub,z60,q⟩:=h
 refine ⟨_,(@Ah _ _ _ (@As _ _ _ _ (@At _ _ _ _ _ _ _ _ _ (O7 rfl) (by rfl) T.z_any PyProof.Rows.boot_any ((Bb (fsc:=Ac BN) (N:=["strengths","hand","others"]) (Nc:=["strengths","hand","others","other"]) rfl rfl (by nofun) rfl (A5 (pv 2)) (fun _ _ _ _=>AF) (fun _ _ _ _=>(@BA _ _ _ _ _ _ _ _ GN (@Al _ _ _ _ _ _ _ (AD K) (@Al _ _ _ _ _ _ _ (AD K) (pv 0) (pv 3) (fun _ _=>rfl)) (pv 1) (fun _ _=>rfl)) (@Al _ _ _ _ _ _ _ (AD K) (@Al _ _ _ _ _ _ _ (AD K) (pv 0) (pv 1) (fun _ _=>rfl)) (pv 3) (fun _ _=>rfl)) (Ax _))))*>Ae) (by decide) (by decide) (by rfl) (by rfl)))),?_⟩
 refine ⟨_,rfl,l,rfl,⟨_,SqL.of hl⟩,?_⟩
 refine AB (xs:=zs.map V.int) (by rw [length_map];exact Av (by omega)) (fun D k ys J=>ys=((zs.take k).map (EZ F (i:Int))).map V.bl/\J=upd H D (.lst ys)) (fun D hD=>⟨rfl,rfl⟩) (fun D k ys J ⟨f1,f2⟩=>⟨by rw [f2];exact Ab,by rw [f1,length_map,length_map];exact length_take_le _ _⟩) (fun D k ys J hD ⟨_,f2⟩=>by rw [f2];exact SqL.of (Ad hD _ _ _ hl)) ?_ ?_
 ·rintro D k w ys J K1 K2 hD hw ⟨f1,rfl⟩ k1 k2
  obtain ⟨z,hz,rfl⟩:=int_at hw
  obtain ⟨j,hj,rfl⟩:=sub z (mem_of_getElem? hz)
  have sD:=Ad hD (.lst ys)
  obtain ⟨ai,_,_,a3,a4⟩:=(tb.same sD).row hi
  obtain ⟨aj,_,_,b3,b4⟩:=(tb.same sD).row hj
  have er:=sD _ _ hr0
  refine yes (ifT rfl ?_)
  refine ⟨_,rfl,_,rfl,r,_,_,_,rfl,rfl,SqL.of er,b3,?_⟩
  refine ⟨_,rfl,aj,_,_,_,rfl,rfl,SqL.of b4,BC (F j) hi,?_⟩
  refine ⟨_,rfl,_,rfl,r,_,_,_,rfl,rfl,SqL.of er,a3,?_⟩
  refine ⟨_,rfl,ai,_,_,_,rfl,rfl,SqL.of a4,BC (F i) hj,?_⟩
  and_intros
  refine k1 _ _ Ab ⟨?_,by rw [AT]⟩
  rw [f1,take_add_one,hz,map_append,map_append]
  rfl
 rintro D ys H1 hD ⟨rfl,rfl⟩
 rw [length_map,take_of_length_le (Nat.le_refl _)]
 refine ⟨D,_,rfl,SqL.of Ab,?_⟩
 rw [show (zs.map (EZ F (i:Int))).any id=DH F (i:Int) zs from (by unfold DH;rw [any_map];rfl)]
 exact q _ (Ad hD _)
theorem Eo (T:Tx K mg base ad):AN P w K mg base CX0 1 ad.f_law_cell ad.d_law_cell ["_law_script","_law_k"] (Rm K):=by
 refine T.F_law_cell.ok JK (fun vs H Q E h=>?_) (fun cdv A outer s H vs Q E hr h=>?_)
 ·obtain ⟨p,ns,k,rfl,_⟩:=h
  rfl
 obtain ⟨p,ns,k,rfl,hS,h63,k0,k1,q⟩:=h
 refine ⟨_,((@Da _ _ _ _ _ _ _ _ (@Ay _ _ _ _ _ _ _ _ G8 (pv 1) (@At _ _ _ _ _ _ _ _ _ A0 (by rfl) T.z_len PySem.boot_len ((pv 0)*>Ae) (by decide) (by decide) (by rfl) (by rfl)) (Ax _)) (@Ah _ _ _ (@As _ _ _ _ (Be<&>((@Al _ _ _ _ _ _ _ A3 (pv 0) (pv 1) (fun _ _=>rfl))<|>(Hr<&>(Ag<|>Ag)))))) AK)>>(@Ah _ _ _ (@As _ _ _ _ (Be<&>((DK<&>((AX<&>((DK<&>((pv 1)<|>(pv 1)))<|>Ag))<|>Ag))<|>Ag))))),?_⟩
 have hl:(ns.map V.int).length=ns.length:=length_map _
 have szk:Sz 64 k:=Ef (by omega) (by omega)
 have p40:(0:Int) < 10 ^ (40:Int).toNat:=by decide +kernel
 refine ⟨_,rfl,_,rfl,p,_,rfl,.inl hS,_,_,rfl,rfl,_,rfl,?_⟩
 refine NM (fun c=>?_) (fun c=>?_)
 ·have c':k < (((ns.map V.int).length:Nat):Int):=of_decide_eq_true c
  rw [hl] at c'
  obtain ⟨v,hv⟩:=Pf k0 c'
  refine ⟨_,rfl,_,rfl,p,_,_,_,rfl,rfl,hS,hv,_,_,rfl,rfl,Qu,_,_,rfl,rfl,(Int.ne_of_gt p40),?_⟩
  exact q _ (By v p40).1 (By v p40).2
 ·and_intros
  have m:=By ((k*k+7)*48271) (show (0:Int) < 1009 by decide)
  exact q _ m.1 (Int.lt_trans m.2 (by decide))
theorem Db (T:Tx K mg base ad):AN P w K mg base CX0 1 ad.f_law_mixed ad.d_law_mixed ["_law_cell_here","_law_by"] PD:=by
 refine T.F_law_mixed.ok DR (fun vs H Q E h=>?_) (fun cdv A outer s H vs Q E hr h=>?_)
 ·obtain ⟨c,b,rfl,_⟩:=h
  rfl
 obtain ⟨c,b,rfl,szc,szb,q⟩:=h
 refine ⟨_,((@Ao _ _ (2) _ _ _ _ DR.nd rfl (Or.inl rfl) (AX<&>((DK<&>((pv 0)<|>Ag))<|>(DK<&>((pv 1)<|>Ag)))) (by rfl) (by nofun))>>((@Ao _ _ (2) _ _ _ _ DR.nd rfl (Or.inl rfl) (Be<&>((AX<&>((pv 2)<|>Ag))<|>(AX<&>((Hr<&>(Ag<|>Ag))<|>Ag)))) (by rfl) (by nofun))>>(@Ah _ _ _ (@As _ _ _ _ (Bs<&>((Be<&>((DK<&>((pv 2)<|>(pv 2)))<|>(AX<&>((Hr<&>(Ag<|>Ag))<|>Ag))))<|>Ag)))))),?_⟩
 and_intros
 exact q _ (L3 _).1 (L3 _).2
theorem EQ (T:Tx K mg base ad):AN P w K mg base CX0 1 ad.f_law_order ad.d_law_order ["_law_cell_here","_law_hands"] Nl:=by
 refine T.F_law_order.ok Dd (fun vs H Q E h=>?_) (fun cdv A outer s H vs Q E hr h=>?_)
 ·obtain ⟨c,h,rfl,_⟩:=h
  rfl
 obtain ⟨c,h,rfl,c0,c1,h1,h12,q⟩:=h
 refine ⟨_,((@Ao _ _ (2) _ _ _ _ Dd.nd rfl (Or.inl rfl) (C7 rfl (by rfl) T.z_list (by rfl) T.z_range (pv 1)) (by rfl) (by nofun))>>((@Ao _ _ (3) _ _ _ _ Dd.nd rfl (Or.inl rfl) (@Bf _ _ _ _ Ae) (by rfl) (by nofun))>>((Eh PassesOwn.never (@Ay _ _ _ _ _ _ _ _ (EC (K:=K) hr.units) (pv 2) (@Bf _ _ _ _ Ae) (Ax _)) ((@Ci _ _ _ _ (Dw PySem.F.plainAttrs_list PySem.F.slot_list_append PySem.F.type_list_append BG (pv 3) ((Dw PySem.F.plainAttrs_list PySem.F.slot_list_pop PySem.F.type_list_pop NF (pv 2) ((Be<&>((pv 0)<|>(@At _ _ _ _ _ _ _ _ _ A0 (by rfl) T.z_len PySem.boot_len ((pv 2)*>Ae) (by decide) (by decide) (by rfl) (by rfl))))*>Ae))*>Ae)) (by rfl))>>(@Ah _ _ _ (@Ao _ _ (0) _ _ _ _ Dd.nd rfl (Or.inl rfl) (Bs<&>((pv 0)<|>(AX<&>((@At _ _ _ _ _ _ _ _ _ A0 (by rfl) T.z_len PySem.boot_len ((pv 2)*>Ae) (by decide) (by decide) (by rfl) (by rfl))<|>Ag)))) (by rfl) (by nofun)))))>>(@Ah _ _ _ (@As _ _ _ _ (pv 3)))))),?_⟩
 obtain ⟨n,rfl⟩:∃n:Nat,h=(n:Int):=⟨h.toNat,by omega⟩
 and_intros
 refine ⟨by omega,fun l hl=>?_⟩
 rw [show (List.map (fun i:Nat=>V.int (i:Int)) (List.range n))=(ups n).map V.int from (by unfold ups;rw [map_map];rfl)]
 have s1:=Ad hl (.lst ((ups n).map V.int))
 have e1:(upd H l (.lst ((ups n).map V.int))) l=some (.lst ((ups n).map V.int)):=Ab
 generalize upd H l (.lst ((ups n).map V.int))=H1 at s1 e1 ⊢
 refine ⟨(by show 0<=sizeLine;decide),fun lo hlo0=>?_⟩
 have ll:l≠lo:=fun z=>by rw [<- z,e1] at hlo0;cases hlo0
 have hlo:H lo=none:=none_of s1 hlo0
 have s2:=s1.trans (Ad hlo0 (.lst []))
 have e2:(upd H1 lo (.lst [])) l=some (.lst ((ups n).map V.int)):=by rw [Ai ll];exact e1
 have e3:(upd H1 lo (.lst [])) lo=some (.lst (([]:List Int).map V.int)):=Ab
 generalize upd H1 lo (.lst [])=H2 at s2 e2 e3 ⊢
 refine ⟨fun m σ' H'=>∃(z:Int) (left got:List Int),σ'=[some (.int z),some (.int (n:Int)),some (.ref l),some (.ref lo)]/\0<=z/\z < 10 ^ 40/\Aq H H'/\H' l=some (.lst (left.map V.int))/\H' lo=some (.lst (got.map V.int))/\left.length=m/\left.length<=12/\got.length<=12 - left.length/\(got++left).Perm (ups n),⟨n,c,ups n,[],rfl,c0,c1,s2,e2,e3,BH n,by rw [BH];omega,Nat.zero_le _,List.Perm.refl _⟩,?_⟩
 rintro m σ' H' ⟨z,left,got,rfl,z0,z1,s3,f1,f2,f3,f6,f4,f5⟩
 refine ⟨_,rfl,(by show 0<=sizeLine;decide),fun z3 hz3=>?_⟩
 have s34:=Ad hz3 (.lst [])
 have e4:(upd H' z3 (.lst [])) z3=some (.lst (([]:List Int).map V.int)):=Ab
 generalize upd H' z3 (.lst [])=H4 at s34 e4 ⊢
 refine ⟨.list (left.map .int),.list (([]:List Int).map .int),.lst (SqL.of (s34 _ _ f1)) (.ints _),.lst (SqL.of e4) (.ints []),(AR _).2,(AR _).2,?_⟩
 rw [show PyData.eqv (.list (left.map .int)) (.list (([]:List Int).map .int))=decide (left=[]) from BK _ _]
 refine ⟨_,rfl,?_⟩
 have g1:=s34 _ _ f1
 have g2:=s34 _ _ f2
 have s4:=s3.trans s34
 by_cases cl:left=[]
 ·refine ifF (by rw [decide_eq_true cl];rfl) ?_
  rw [cl,append_nil] at f5
  and_intros
  exact q lo got H4 s4 g2 (by rw [Int.toNat_natCast];exact f5)
 ·refine ifT (by rw [decide_eq_false cl];rfl) ?_
  have pl:0 < left.length:=length_pos_iff.mpr cl
  refine ⟨fun σ' H'=>∃(z:Int) (left' got':List Int),σ'=[some (.int z),some (.int (n:Int)),some (.ref l),some (.ref lo)]/\0<=z/\z < 10 ^ 40/\Aq H H'/\H' l=some (.lst (left'.map V.int))/\H' lo=some (.lst (got'.map V.int))/\left'.length=m - 1/\left'.length<=12/\got'.length<=12 - left'.length/\(got'++left').Perm (ups n),fun σ' H' e=>⟨m - 1,by omega,e⟩,?_⟩
  have mm:=By z (show (0:Int) < (left.length:Int) by omega)
  and_intros
  refine ⟨.inl ⟨rfl,_,SqL.of g2⟩,?_⟩
  and_intros
  refine ⟨.inl ⟨rfl,_,SqL.of g1⟩,?_⟩
  and_intros
  refine ⟨(by show (_:Int)≠0;rw [length_map];omega),?_⟩
  dsimp only
  rw [length_map]
  generalize z.fmod (left.length:Int)=j' at mm ⊢
  obtain ⟨j,rfl⟩:∃j:Nat,j'=(j:Int):=⟨j'.toNat,by omega⟩
  have hj:j < left.length:=by omega
  refine ⟨l,_,_,j,V.int left[j],rfl,rfl,g1,by omega,by omega,Ri (by rw [length_map];exact hj),(by rw [List.getElem?_map,List.getElem?_eq_getElem hj];rfl),?_⟩
  have k2:(upd H4 l (.lst ((left.map V.int).eraseIdx j))) lo=some (.lst (got.map V.int)):=by rw [Ai (Ne.symm ll)];exact g2
  have k1:(upd H4 l (.lst ((left.map V.int).eraseIdx j))) l=some (.lst ((left.eraseIdx j).map V.int)):=by rw [Ab,map_erase]
  have s5:=Aw (o:=.lst ((left.map V.int).eraseIdx j)) s4 hl
  generalize upd H4 l (.lst ((left.map V.int).eraseIdx j))=H5 at s5 k1 k2 ⊢
  refine ⟨lo,_,_,rfl,rfl,k2,(by rw [length_map];exact AW (by omega)),?_⟩
  have k1':(upd H5 lo (.lst (got.map V.int++[V.int left[j]]))) l=some (.lst ((left.eraseIdx j).map V.int)):=by rw [Ai ll];exact k1
  have k2':(upd H5 lo (.lst (got.map V.int++[V.int left[j]]))) lo=some (.lst ((got++[left[j]]).map V.int)):=by rw [Ab,map_append];rfl
  have s6:=Aw (o:=.lst (got.map V.int++[V.int left[j]])) s5 hlo
  generalize upd H5 lo (.lst (got.map V.int++[V.int left[j]]))=H6 at s6 k1' k2' ⊢
  have le:(left.eraseIdx j).length=left.length - 1:=by rw [length_eraseIdx,if_pos hj]
  have lc:=Op (d:=((left.eraseIdx j).length:Int)+1) z0 (by omega) z1
  and_intros
  rw [length_map]
  refine ⟨⟨by show (_:Int)≠0;omega,(show Sz 64 (((left.eraseIdx j).length:Int)+1) from Ef (by omega) (by omega)).mono (by decide)⟩,?_⟩
  exact ⟨_,_,_,rfl,lc.1,lc.2,s6,k1',k2',by omega,by omega,by rw [length_append];show got.length+1<=_;omega,erase_perm (List.getElem?_eq_getElem hj) f5⟩
theorem Km (T:Tx K mg base ad):AN P w K mg base CX0 1 ad.f_law_slip ad.d_law_slip ["_law_ranks_here"] (QV K):=by
 refine T.F_law_slip.ok Ej (fun vs H Q E h=>?_) (fun cdv A outer s H vs Q E hr h=>?_)
 ·obtain ⟨p,rs,rfl,_⟩:=h
  rfl
 obtain ⟨p,rs,rfl,hS,h12,q⟩:=h
 refine ⟨_,((@Ao _ _ (1) _ _ _ _ Ej.nd rfl (Or.inl rfl) (@Bf _ _ _ _ Ae) (by rfl) (by nofun))>>((B9 PassesOwn.never rfl (A5 (IK rfl (by rfl) T.z_sorted (by rfl) T.z_set (pv 0))) (AA (i:=2) Ej.nd rfl (Or.inr rfl)) (@Ah _ _ _ (@Ci _ _ _ _ (Dw PySem.F.plainAttrs_list PySem.F.slot_list_append PySem.F.type_list_append BG (pv 1) ((@At _ _ _ _ _ _ _ _ _ (JO rfl) (by rfl) T.z_sum PyProof.Rows.boot_sum ((Bb (fsc:=Ac BR) (N:=["_law_ranks_here","_law_tiers","_law_rank"]) (Nc:=["_law_ranks_here","_law_tiers","_law_rank","_law_hand"]) rfl rfl (by nofun) rfl (AG rfl T.z_range ((@At _ _ _ _ _ _ _ _ _ A0 (by rfl) T.z_len PySem.boot_len ((pv 0)*>Ae) (by decide) (by decide) (by rfl) (by rfl))*>Ae)) (fun _ _ _ _=>(CM (Oz GS GN (@Al _ _ _ _ _ _ _ (AD K) (pv 0) (pv 3) (fun _ _=>rfl)) (pv 2) Ag))) (fun _ _ _ _=>(Jm<&>(Ag<|>(pv 3)))))*>Ae) (by decide) (by decide) (by rfl) (by rfl))*>Ae)) (by rfl))))>>(@Ah _ _ _ (@As _ _ _ _ (@Bm _ _ _ _ _ _ _ _ _ Hz (by rfl) T.z_tuple PyProof.Rows.boot_tuple ((Bb (fsc:=Ac BR) (N:=["_law_ranks_here","_law_tiers","_law_rank"]) (Nc:=["_law_ranks_here","_law_tiers","_law_rank","_law_tier"]) rfl rfl (by nofun) rfl (A5 (pv 1)) (fun _ _ _ _=>(CM (@Ay _ _ _ _ _ _ _ _ GN (pv 3) Ag (Ax _)))) (fun _ _ _ _=>(pv 3)))*>Ae) (by decide) (by decide) (by rfl) (by rfl)))))),?_⟩
 refine ⟨(by show 0<=sizeLine;decide),fun l hl=>?_⟩
 have s0:=Ad hl (.lst [])
 have e0:(upd H l (.lst [])) l=some (.lst (([]:List Int).map V.int)):=Ab
 generalize upd H l (.lst [])=H0 at s0 e0 ⊢
 and_intros
 refine ⟨p,rs,rfl,s0.seq hS,by omega,fun l2 ms m1 m2 hl2=>?_⟩
 obtain rfl:=Px m1 m2
 have sl:=Kb rs
 have s1:=s0.trans (Ad hl2 (.lst ((CQ rs).map V.int)))
 have e1:(upd H0 l2 (.lst ((CQ rs).map V.int))) l=some (.lst (([]:List Int).map V.int)):=Ad hl2 _ _ _ e0
 have el:(upd H0 l2 (.lst ((CQ rs).map V.int))) l2=some (.lst ((CQ rs).map V.int)):=Ab
 have ll:l2≠l:=fun z=>by rw [z,e0] at hl2;cases hl2
 generalize upd H0 l2 (.lst ((CQ rs).map V.int))=H1 at s1 e1 el ⊢
 refine ⟨l2,rfl,⟨_,SqL.of el⟩,BD (xs:=(CQ rs).map V.int) (fun i σ' H'=>∃v2:Option V,σ'=[some (.ref p),some (.ref l),v2]/\Aq H H'/\H' l2=some (.lst ((CQ rs).map V.int))/\H' l=some (.lst ((HG rs ((CQ rs).take i)).map V.int))) ⟨none,rfl,s1,el,e1⟩ (fun i σ' H' _ ⟨_,_,_,e,_⟩=>SqL.of e) ?_ ?_⟩
 ·rintro i w σ' H' hw ⟨v2,rfl,s2,f1,f2⟩
  obtain ⟨r,hr0,rfl⟩:=int_at hw
  have il:=(List.getElem?_eq_some_iff.mp hr0).1
  have et:(CQ rs).take (i+1)=(CQ rs).take i++[r]:=by rw [take_add_one,hr0];rfl
  have hl':(rs.map V.int).length=rs.length:=length_map _
  and_intros
  refine ⟨.inl ⟨rfl,_,SqL.of f2⟩,?_⟩
  refine ⟨_,rfl,p,_,rfl,.inl (s2.seq hS),_,rfl,by omega,by omega,?_⟩
  have en:(((rs.map V.int).length:Nat):Int).toNat=rs.length:=by omega
  rw [en]
  refine AQ (Av (by omega)) (fun D j ys H2=>ys=((hands j (fun k=>isR rs r k && decide (0 < r))).map fun h=>(1:Int)*2 ^ h.toNat).map V.int/\H2=upd H' D (.lst ys)) (fun D hD=>⟨rfl,rfl⟩) (fun D j ys H2 ⟨g1,g2⟩=>⟨by rw [g2];exact Ab,by rw [g1,length_map,length_map];exact Dy _ _⟩) ?_ ?_
  ·rintro D j ys H2 K1 K2 hD hj ⟨g1,rfl⟩ k1 k2
   obtain ⟨z,hz⟩:∃z,rs[j]?=some z:=⟨_,List.getElem?_eq_getElem hj⟩
   have sD:=Ad hD (.lst ys)
   have ms:=Di j (fun k=>isR rs r k && decide (0 < r))
   have e0:(0:Int)+(j:Int)=(j:Int):=Int.zero_add _
   have no:(isR rs r j && decide (0 < r))=false->K2 (upd H' D (.lst ys)):=fun e=>by
    rw [e,if_neg (by decide)] at ms
    exact k2 _ ⟨by rw [ms];exact g1,rfl⟩
   refine ⟨_,rfl,_,rfl,p,_,_,_,rfl,rfl,(s2.trans sD).seq hS,(by rw [e0];exact atN hz),_,rfl,rfl,_,rfl,?_⟩
   by_cases c:z=r
   ·have ei:isR rs r j=true:=by unfold isR;rw [hz,c];exact decide_eq_true rfl
    refine ifT (Qa c) ?_
    refine ⟨_,_,rfl,rfl,_,rfl,?_⟩
    by_cases cz:0 < r
    ·refine ifT (decide_eq_true cz) ?_
     rw [show (isR rs r j && decide (0 < r))=true from by rw [ei,decide_eq_true cz];rfl,if_pos rfl] at ms
     refine ⟨_,rfl,_,_,rfl,rfl,(by rw [e0];exact Ig (by omega)),?_⟩
     refine k1 _ _ Ab ⟨?_,by rw [AT]⟩
     rw [ms,map_append,map_append,g1]
     show _=_++[V.int (1*2 ^ (j:Int).toNat)]
     rw [e0]
    ·exact ifF (decide_eq_false cz) (no (by rw [decide_eq_false cz,Bool.and_false]))
   ·have ei:isR rs r j=false:=by unfold isR;rw [hz];exact decide_eq_false fun e=>c (Option.some.inj e)
    refine ifF (RN c) ?_
    exact ⟨_,rfl,ifF rfl (no (by rw [ei,Bool.false_and]))⟩
  ·rintro D ys H2 hD ⟨rfl,rfl⟩
   refine ⟨D,_,rfl,SqL.of Ab,?_⟩
   have e:((hands rs.length (fun k=>isR rs r k && decide (0 < r))).map fun h=>(1:Int)*2 ^ h.toNat).sum=if 0 < r then CU rs r else 0:=by
    rw [show ((hands rs.length (fun k=>isR rs r k && decide (0 < r))).map fun h=>(1:Int)*2 ^ h.toNat).sum=A9 rs.length (fun k=>isR rs r k && decide (0 < r)) from EJ _ _]
    by_cases cz:0 < r
    ·rw [if_pos cz]
     exact AS _ fun k _=>by rw [decide_eq_true cz,Bool.and_true]
    ·rw [if_neg cz]
     exact FP fun k _=>by rw [decide_eq_false cz,Bool.and_false]
   rw [e]
   have sD:=Ad hD (.lst (((hands rs.length (fun k=>isR rs r k && decide (0 < r))).map fun h=>(1:Int)*2 ^ h.toNat).map V.int))
   have g1:=sD _ _ f1
   have g2:=sD _ _ f2
   generalize upd H' D (.lst (((hands rs.length (fun k=>isR rs r k && decide (0 < r))).map fun h=>(1:Int)*2 ^ h.toNat).map V.int))=H3 at sD g1 g2 ⊢
   refine ⟨l,_,_,rfl,rfl,g2,(by unfold HG;rw [length_map,length_map];exact AW (Nat.le_trans (length_take_le _ _) (by omega))),?_⟩
   refine ⟨_,rfl,Aw (s2.trans sD) hl,by rw [Ai ll];exact g1,?_⟩
   rw [Ab,et]
   unfold HG
   rw [map_append,map_append]
   rfl
 ·rintro σ' H' ⟨v2,rfl,s2,f1,f2⟩
  rw [length_map,take_of_length_le (Nat.le_refl _)] at f2
  have al:(HG rs (CQ rs)).length=(CQ rs).length:=length_map _
  refine ⟨_,rfl,l,rfl,⟨_,SqL.of f2⟩,?_⟩
  refine AB (xs:=(HG rs (CQ rs)).map V.int) (by rw [length_map];exact Av (by omega)) (fun D i ys J=>ys=(((HG rs (CQ rs)).take i).filter fun t=>decide (0 < t)).map V.int/\J=upd H' D (.lst ys)) (fun D hD=>⟨rfl,rfl⟩)
   (fun D i ys J ⟨g1,g2⟩=>⟨by rw [g2];exact Ab,by rw [g1,length_map];exact Nat.le_trans (length_filter_le _ _) (length_take_le _ _)⟩) (fun D i ys J hD ⟨_,g2⟩=>by rw [g2];exact SqL.of (Ad hD _ _ _ f2)) ?_ ?_
  ·rintro D i x ys J K1 K2 hD hx ⟨g1,rfl⟩ k1 k2
   obtain ⟨z,hz,rfl⟩:=int_at hx
   have et:(HG rs (CQ rs)).take (i+1)=(HG rs (CQ rs)).take i++[z]:=by rw [take_add_one,hz];rfl
   refine ⟨_,rfl,_,_,rfl,rfl,_,rfl,?_⟩
   by_cases c:0 < z
   ·refine ifT (decide_eq_true c) ?_
    refine ⟨_,rfl,?_⟩
    refine k1 _ _ Ab ⟨?_,by rw [AT]⟩
    rw [et,filter_append,map_append,g1]
    simp [c]
   ·refine ifF (decide_eq_false c) ?_
    refine k2 _ ⟨?_,rfl⟩
    rw [et,filter_append,g1]
    simp [c]
  ·rintro D ys J hD ⟨rfl,rfl⟩
   rw [length_map,take_of_length_le (Nat.le_refl _),Hs _ fun u m=>Fa.mp m]
   refine ⟨D,_,rfl,.inl ⟨SqL.of Ab,fun t ht=>?_⟩⟩
   have s9:=s2.trans (Ad hD (.lst ((((CQ rs).filter fun r=>decide (0 < r)).map (CU rs)).map V.int)))
   exact q t _ (none_of s9 ht) (s9.trans (Ad ht _)) Ab
theorem Jt (T:Tx K mg base ad):AN P w K mg base CX0 1 ad.f_law_leads ad.d_law_leads ["_law_many"] Kc:=by
 refine T.F_law_leads.ok Jl (fun vs H Q E h=>?_) (fun cdv A outer s H vs Q E hr h=>?_)
 ·obtain ⟨a,as,h,F,rfl,_⟩:=h
  rfl
 obtain ⟨a,as,h,F,rfl,ha,g,h12,q⟩:=h
 refine ⟨_,(@Ah _ _ _ (@As _ _ _ _ (GB (fsc:=Ac B5) (N:=["_law_many"]) (Nc:=["_law_many","_law_x"]) rfl rfl (by nofun) rfl (AG rfl T.z_range ((@At _ _ _ _ _ _ _ _ _ A0 (by rfl) T.z_len PySem.boot_len ((pv 0)*>Ae) (by decide) (by decide) (by rfl) (by rfl))*>Ae)) (fun _ _ _ _=>AF) (fun _ _ _ _=>(by exact (FN (fsc:=Ac B5) (Nc:=["_law_many","_law_x"]) (Nd:=["_law_many","_law_x","_law_y"]) rfl (by nofun) rfl (AG rfl T.z_range ((@At _ _ _ _ _ _ _ _ _ (Mu K) (by rfl) T.z_len PySem.boot_len ((pv 0)*>Ae) (by decide) (by decide) (by rfl) (by rfl))*>Ae)) (fun _ _ _ _=>AF) (fun _ _ _ _=>(IG<&>((@Al _ _ _ _ _ _ _ (AD K) (@Al _ _ _ _ _ _ _ (AD K) (pv 0) (pv 1) (fun _ _=>rfl)) (pv 2) (fun _ _=>rfl))<|>(@Al _ _ _ _ _ _ _ (AD K) (@Al _ _ _ _ _ _ _ (AD K) (pv 0) (pv 2) (fun _ _=>rfl)) (pv 1) (fun _ _=>rfl))))))))))),?_⟩
 have al:(as.map V.ref).length=h:=by rw [length_map,g.1]
 and_intros
 refine ⟨by omega,by omega,?_⟩
 rw [al,Int.toNat_natCast]
 refine AQ (Av (by omega)) (fun D i ys J=>∃bs:List Addr,ys=bs.map V.ref/\bs.length=i/\bs.Nodup/\J D=some (.lst ys)/\Aq H J/\D ∉ bs/\(∀c∈bs,H c=none)/\∀k b,bs[k]?=some b->J b=some (.lst (((List.range h).map fun y=>F k y - F y k).map V.int))) (fun D hD=>⟨[],rfl,rfl,nodup_nil,Ab,Ad hD _,(fun m=>nomatch m),(fun _ m=>nomatch m),fun k r e=>by cases e⟩) (fun D i ys J ⟨u,f1,f2,_,f3,_⟩=>⟨f3,by rw [f1,length_map,f2];exact Nat.le_refl _⟩)  ?_ ?_
 ·rintro D i ys J K1 K2 hD hi ⟨bs,rfl,f2,f3,f4,f5,f6,f7,f8⟩ k1 k2
  refine yes (ifT rfl ?_)
  have gJ:=g.same f5
  have aJ0:=f5 _ _ ha
  have z0:(0:Int)+(i:Int)=(i:Int):=Int.zero_add _
  rw [z0]
  refine ⟨_,rfl,.ref a,h,rfl,.inl ⟨_,SqL.of aJ0,al.symm⟩,?_⟩
  refine ⟨_,rfl,by omega,by omega,?_⟩
  rw [Int.toNat_natCast]
  refine AQ (Av (by omega)) (fun D2 j ys J2=>ys=((List.range j).map fun y=>F i y - F y i).map V.int/\J2=upd J D2 (.lst ys)) (fun D2 hD2=>⟨rfl,rfl⟩) (fun D2 j ys J2 ⟨f1,f2⟩=>⟨by rw [f2];exact Ab,by rw [f1,length_map,length_map,length_range];exact Nat.le_refl _⟩) ?_ ?_
  ·rintro D2 j ys J2 L1 L2 hD2 hj ⟨e,rfl⟩ l1 l2
   have zj:(0:Int)+(j:Int)=(j:Int):=Int.zero_add _
   rw [zj]
   refine yes (ifT rfl ?_)
   have sD:=Ad hD2 (.lst ys)
   have aJ:=sD _ _ aJ0
   obtain ⟨ri,_,_,a1,a2⟩:=(gJ.same sD).row hi
   obtain ⟨rj,_,_,b1,b2⟩:=(gJ.same sD).row hj
   refine ⟨_,rfl,_,rfl,a,_,_,_,rfl,rfl,SqL.of aJ,a1,?_⟩
   refine ⟨_,rfl,ri,_,_,_,rfl,rfl,SqL.of a2,BC (F i) hj,?_⟩
   refine ⟨_,rfl,_,rfl,a,_,_,_,rfl,rfl,SqL.of aJ,b1,?_⟩
   refine ⟨_,rfl,rj,_,_,_,rfl,rfl,SqL.of b2,BC (F j) hi,?_⟩
   and_intros
   refine l1 _ _ Ab ⟨?_,by rw [AT]⟩
   rw [e,range_succ,map_append,map_append]
   rfl
  rintro D2 ys H5 hD2 ⟨rfl,rfl⟩
  have sD:=Ad hD2 (.lst (((List.range h).map fun y=>F i y - F y i).map V.int))
  have eD:(upd J D2 (.lst (((List.range h).map fun y=>F i y - F y i).map V.int))) D2=some (.lst (((List.range h).map fun y=>F i y - F y i).map V.int)):=Ab
  have dd:D2≠D:=fun z=>by rw [z,f4] at hD2;cases hD2
  have na:D2 ∉ bs:=fun m=>by
   obtain ⟨k,hk⟩:=List.getElem?_of_mem m
   rw [f8 k D2 hk] at hD2
   cases hD2
  have nD2:=none_of f5 hD2
  generalize upd J D2 (.lst (((List.range h).map fun y=>F i y - F y i).map V.int))=J5 at sD eD ⊢
  refine k1 _ _ (sD _ _ f4) ⟨bs++[D2],by rw [map_append];rfl,by rw [length_append,f2];rfl,nodup_append.mpr ⟨f3,by simp,fun a ma b mb e=>na (by rw [<- mem_singleton.mp mb,<- e];exact ma)⟩,Ab,Aw (f5.trans sD) hD,fun m=>?_,fun c m=>?_,fun k b e=>?_⟩
  ·rcases mem_append.mp m with m | m
   ·exact f6 m
   ·exact dd (mem_singleton.mp m).symm
  ·rcases mem_append.mp m with m | m
   ·exact f7 c m
   ·rw [mem_singleton.mp m];exact nD2
  ·by_cases c:k < bs.length
   ·rw [List.getElem?_append_left c] at e
    rw [Ai (fun z=>f6 (by rw [<- z];exact mem_of_getElem? e))]
    exact sD _ _ (f8 k b e)
   ·rw [List.getElem?_append_right (by omega)] at e
    have ek:k=i:=by
     have:=(List.getElem?_eq_some_iff.mp e).1
     rw [length_singleton] at this
     omega
    rw [ek,f2,Nat.sub_self] at e
    cases Option.some.inj e
    rw [Ai dd,ek]
    exact eD
 rintro D ys H2 hD ⟨bs,rfl,f2,f3,f4,f5,f6,f7,f8⟩
 exact q D bs H2 hD f6 f7 f5 f4 ⟨f2,f3,f8⟩
theorem Fd (T:Tx K mg base ad):AN P w K mg base CX0 1 ad.f_law_place ad.d_law_place ["_law_ranks_here","_law_hand"] P9:=by
 refine T.F_law_place.ok IW (fun vs H Q E h=>?_) (fun cdv A outer s H vs Q E hr h=>?_)
 ·obtain ⟨a,rs,i,rfl,_⟩:=h
  rfl
 obtain ⟨a,rs,i,rfl,ha,hi,q⟩:=h
 refine ⟨_,((@Da _ _ _ _ _ _ _ _ (@Ay _ _ _ _ _ _ _ _ GS (@Al _ _ _ _ _ _ _ A3 (pv 0) (pv 1) (fun _ _=>rfl)) Ag (Ax _)) (@Ah _ _ _ (@As _ _ _ _ (Hr<&>(Ag<|>Ag)))) AK)>>(@Ah _ _ _ (@As _ _ _ _ (@Al _ _ _ _ _ _ _ A3 (pv 0) (pv 1) (fun _ _=>rfl))))),?_⟩
 refine ⟨_,rfl,_,rfl,a,_,_,_,rfl,rfl,SqL.of ha,atG hi,?_⟩
 unfold Bg at q
 and_intros
 by_cases c:rs.getD i 0=0
 ·refine ifT (Qa c) ?_
  rw [if_pos c] at q
  and_intros
  exact q
 ·refine ifF (RN c) ?_
  rw [if_neg c] at q
  and_intros
  refine ⟨a,_,_,_,rfl,rfl,SqL.of ha,atG hi,?_⟩
  exact q
theorem Fm (T:Tx K mg base ad):AN P w K mg base CX0 1 ad.f_law_reach ad.d_law_reach ["_law_leads_here","_law_y","_law_worth","_law_hands"] Nf:=by
 refine T.F_law_reach.ok C6 (fun vs H Q E h=>?_) (fun cdv A outer s H vs Q E hr h=>?_)
 ·obtain ⟨a,hl,as,h,y,v,L,hs,rfl,_⟩:=h
  rfl
 obtain ⟨a,hl,as,h,y,v,L,hs,rfl,ha,tb,hy,h12,hhl,ph,q⟩:=h
 refine ⟨_,((@Ao _ _ (4) _ _ _ _ C6.nd rfl (Or.inr rfl) (OM (OA (pv 1) (pv 1) Pl) rfl rfl (by decide) (by decide)) (by rfl) (by nofun))>>((B9 PassesOwn.never rfl (A5 (pv 3)) (AA (i:=5) C6.nd rfl (Or.inl rfl)) (@Ah _ _ _ (B9 PassesOwn.never rfl (A5 (pv 3)) (AA (i:=6) C6.nd rfl (Or.inr rfl)) ((Dm (j:=7) (fsc:=Ac BS) (N:=["_law_leads_here","_law_y","_law_worth","_law_hands","_law_onward","_law_turn","_law_hand","_law_near"]) (Nc:=["_law_leads_here","_law_y","_law_worth","_law_hands","_law_onward","_law_turn","_law_hand","_law_near","_law_other_here"]) rfl rfl (by nofun) rfl C6.nd rfl rfl (A5 (pv 3)) (fun _ _ _ _=>(CM (PW.pt (@GR _ _ _ _ _ _ _ (@Ay _ _ _ _ _ _ _ _ (QO (u1 hr.units)) (pv 8) (pv 4) (by with_unfolding_all rfl)) (@EN _ _ _ _ (@Ay _ _ _ _ _ _ _ _ R0 (@Al _ _ _ _ _ _ _ (AD K) (@Al _ _ _ _ _ _ _ (AD K) (pv 0) (pv 6) (fun _ _=>rfl)) (pv 8) (fun _ _=>rfl)) (pv 2) (Ax _))))))) (fun _ _ _ _=>(pv 8)) rfl)>>(@Ah _ _ _ (@Da _ _ _ _ _ _ _ _ (PW.pt (@GR _ _ _ _ _ _ _ (@Ay _ _ _ _ _ _ _ _ (Ik (u1 hr.units)) (pv 6) (pv 4) (by with_unfolding_all rfl)) (@EN _ _ _ _ (@Ay _ _ _ _ _ _ _ _ (EC (K:=K) hr.units) (pv 7) (@Bf _ _ _ _ Ae) (Ax _))))) (@Ah _ _ _ (LG (u1 hr.units) (pv 4) (pv 6) (@Al _ _ _ _ _ _ _ A3 (pv 7) Ag (fun _ _=>rfl)) rfl)) AK))))))>>(@Ah _ _ _ (@As _ _ _ _ (pv 4))))),?_⟩
 have hsl:hs.length=h:=by rw [ph.length_eq,BH]
 and_intros
 intro d hd
 and_intros
 refine ⟨Ab,[(Sum.inl (y:Int),V.int (y:Int))],rfl,(by show 1<=15;decide),?_⟩
 rw [AT,show FF [] [(Sum.inl (y:Int),V.int (y:Int))]=onK [(y,y)] from rfl]
 have s1:=Ad hd ((.dK (onK [(y,y)])))
 have e1:(upd H d ((.dK (onK [(y,y)])))) d=some ((.dK (onK [(y,y)]))):=Ab
 generalize upd H d ((.dK (onK [(y,y)])))=H1 at s1 e1 ⊢
 have hl1:=s1 _ _ hhl
 have ndl:∀{J:Hp} {xs:List V} {ps:List (Nat × Nat)} {z:Addr},J d=some (.dK (onK ps))->J z=some (.lst xs)->z≠d:=fun e1 e2 z=>by rw [z,e1] at e2;cases e2
 and_intros
 refine ⟨⟨_,SqL.of hl1⟩,BD (xs:=hs.map V.int) (fun i σ' J=>∃(v5 v6 v7:Option V) (ps:List (Nat × Nat)),σ'=[some (.ref a),some (.int (y:Int)),some (.int v),some (.ref hl),some (.ref d),v5,v6,v7]/\Aq H J/\J d=some (.dK (onK ps))/\On h y v L ps/\(Jr h v L (ps.map Prod.fst)\/i+1<=ps.length)) ⟨none,none,none,[(y,y)],rfl,s1,e1,.start,.inr (Nat.le_refl _)⟩ (fun i σ' J _ ⟨_,_,_,_,_,z,_⟩=>SqL.of (z _ _ hhl)) ?_ ?_⟩
 ·rintro i w σ' J1 hw ⟨v5,v6,v7,ps,rfl,s2,e2,on2,cl2⟩
  and_intros
  refine ⟨⟨_,SqL.of (s2 _ _ hhl)⟩,BD (xs:=hs.map V.int) (fun j σ' J=>∃(v6 v7:Option V) (ps:List (Nat × Nat)),σ'=[some (.ref a),some (.int (y:Int)),some (.int v),some (.ref hl),some (.ref d),some w,v6,v7]/\Aq H J/\J d=some (.dK (onK ps))/\On h y v L ps/\(Jr h v L (ps.map Prod.fst)\/i+2<=ps.length\/(i+1<=ps.length/\∀k:Nat,(k:Int)∈hs.take j->k ∉ ps.map Prod.fst->∀n∈ps.map Prod.fst,L k n < v))) ⟨v6,v7,ps,rfl,s2,e2,on2,cl2.elim .inl fun z=>.inr (.inr ⟨z,fun k m=>nomatch m⟩)⟩ (fun i σ' J _ ⟨_,_,_,_,z,_⟩=>SqL.of (z _ _ hhl)) ?_ ?_⟩
  ·rintro j w2 σ' J2 hw2 ⟨v6,v7,ps,rfl,s3,e3,on3,cl3⟩
   obtain ⟨z,hz,rfl⟩:=int_at hw2
   obtain ⟨k,hk,rfl⟩:=DF (ph.mem_iff.mp (mem_of_getElem? hz))
   have et:hs.take (j+1)=hs.take j++[(k:Int)]:=by rw [take_add_one,hz];rfl
   have tb3:=tb.same s3
   have ha3:=s3 _ _ ha
   have hl3:=s3 _ _ hhl
   have pl:=on3.len hy
   obtain ⟨ar,_,_,r3,r4⟩:=tb3.row hk
   and_intros
   refine ⟨⟨_,SqL.of hl3⟩,?_⟩
   refine AB (xs:=hs.map V.int) (by rw [length_map];exact Av (by omega)) (fun D m ys J=>ys=((hs.take m).filter (Dj L v k ps)).map V.int/\J=upd J2 D (.lst ys)) (fun D hD=>⟨rfl,rfl⟩) (fun D m ys J ⟨f1,f2⟩=>⟨by rw [f2];exact Ab,by rw [f1,length_map];exact Nat.le_trans (length_filter_le _ _) (length_take_le _ _)⟩) (fun D m ys J hD ⟨_,f2⟩=>by rw [f2];exact SqL.of (Ad hD _ _ _ hl3)) ?_ ?_
   ·rintro D m u ys J K1 K2 hD hu ⟨f1,rfl⟩ k1 k2
    obtain ⟨z2,hz2,rfl⟩:=int_at hu
    obtain ⟨o,ho,rfl⟩:=DF (ph.mem_iff.mp (mem_of_getElem? hz2))
    have eo:hs.take (m+1)=hs.take m++[(o:Int)]:=by rw [take_add_one,hz2];rfl
    have sD:=Ad hD (.lst ys)
    have nb:Dj L v k ps (o:Int)=(decide (o∈ps.map Prod.fst) && decide (v<=L k o)):=by unfold Dj;rw [Int.toNat_natCast]
    and_intros
    refine ⟨d,_,rfl,DE.k (k:=Sum.inl (o:Int)) (sD _ _ e3),?_⟩
    rw [Lo]
    refine ⟨_,rfl,?_⟩
    by_cases c1:o∈ps.map Prod.fst
    ·refine ifT (decide_eq_true c1) ?_
     and_intros
     refine ⟨a,_,_,_,rfl,rfl,SqL.of (sD _ _ ha3),r3,?_⟩
     refine ⟨_,rfl,ar,_,_,_,rfl,rfl,SqL.of (sD _ _ r4),BC (L k) ho,?_⟩
     and_intros
     by_cases c2:v<=L k o
     ·refine ifT (decide_eq_true c2) ?_
      refine ⟨_,rfl,?_⟩
      refine k1 _ _ Ab ⟨?_,by rw [AT]⟩
      rw [eo,filter_append,map_append,f1]
      simp [nb,c1,c2]
     ·refine ifF (decide_eq_false c2) ?_
      refine k2 _ ⟨?_,rfl⟩
      rw [eo,filter_append,f1]
      simp [nb,c2]
    ·refine ifF (decide_eq_false c1) ?_
     refine k2 _ ⟨?_,rfl⟩
     rw [eo,filter_append,f1]
     simp [nb,c1]
   rintro D ys J3 hD ⟨f1,rfl⟩
   rw [length_map,take_of_length_le (Nat.le_refl _)] at f1
   subst f1
   have sD:=Ad hD (.lst ((hs.filter (Dj L v k ps)).map V.int))
   have eD:(upd J2 D (.lst ((hs.filter (Dj L v k ps)).map V.int))) D=some (.lst ((hs.filter (Dj L v k ps)).map V.int)):=Ab
   have e4:=sD _ _ e3
   have s4:=s3.trans sD
   generalize upd J2 D (.lst ((hs.filter (Dj L v k ps)).map V.int))=J3 at sD eD e4 s4 ⊢
   and_intros
   refine ⟨d,_,rfl,DE.k (k:=Sum.inl (k:Int)) e4,?_⟩
   rw [Lo]
   refine ⟨_,rfl,?_⟩
   by_cases ck:k∈ps.map Prod.fst
   ·refine ifF (by rw [decide_eq_true ck];rfl) ?_
    refine ⟨_,_,ps,rfl,s4,e4,on3,?_⟩
    rcases cl3 with c | c | ⟨c1,c2⟩
    ·exact .inl c
    ·exact .inr (.inl c)
    ·refine .inr (.inr ⟨c1,fun k' m nk=>?_⟩)
     rw [et] at m
     rcases mem_append.mp m with m | m
     ·exact c2 k' m nk
     ·exact absurd (by rw [Int.ofNat.inj (mem_singleton.mp m)];exact ck) nk
   ·refine ifT (by rw [decide_eq_false ck];rfl) ?_
    and_intros
    refine ⟨(by show 0<=sizeLine;decide),fun z5 hz5=>?_⟩
    have s5:=Ad hz5 (.lst [])
    have ez5:(upd J3 z5 (.lst [])) z5=some (.lst (([]:List Int).map V.int)):=Ab
    have e5:=s5 _ _ e4
    have eD5:=s5 _ _ eD
    have s45:=s4.trans s5
    generalize upd J3 z5 (.lst [])=J4 at s5 ez5 e5 eD5 s45 ⊢
    refine ⟨.list ((hs.filter (Dj L v k ps)).map .int),.list (([]:List Int).map .int),.lst (SqL.of eD5) (.ints _),.lst (SqL.of ez5) (.ints []),(AR _).2,(AR _).2,?_⟩
    rw [show PyData.eqv (.list ((hs.filter (Dj L v k ps)).map .int)) (.list (([]:List Int).map .int))=decide (hs.filter (Dj L v k ps)=[]) from BK _ _]
    have mem:∀n,n∈ps.map Prod.fst->v<=L k n->(n:Int)∈hs.filter (Dj L v k ps):=fun n mn lv=>by
     refine mem_filter.mpr ⟨ph.mem_iff.mpr (ID.mpr ⟨n,on3.lt hy n mn,rfl⟩),?_⟩
     unfold Dj
     rw [Int.toNat_natCast,decide_eq_true mn,decide_eq_true lv]
     rfl
    have back:∀z∈hs.filter (Dj L v k ps),∃n:Nat,n∈ps.map Prod.fst/\v<=L k n/\z=(n:Int):=fun z m=>by
     obtain ⟨m1,m2⟩:=mem_filter.mp m
     obtain ⟨n,hn,rfl⟩:=DF (ph.mem_iff.mp m1)
     unfold Dj at m2
     rw [Int.toNat_natCast] at m2
     obtain ⟨a1,a2⟩:=Bool.and_eq_true_iff.mp m2
     exact ⟨n,of_decide_eq_true a1,of_decide_eq_true a2,rfl⟩
    generalize hs.filter (Dj L v k ps)=fs at eD5 mem back ⊢
    refine ⟨_,rfl,?_⟩
    cases fs with
    | nil =>
      refine ifF rfl ?_
      refine ⟨_,_,ps,rfl,s45,e5,on3,?_⟩
      have cl:∀n∈ps.map Prod.fst,L k n < v:=fun n mn=>by
       by_cases c:v<=L k n
       ·exact absurd (mem n mn c) (fun z=>nomatch z)
       ·omega
      rcases cl3 with c | c | ⟨c1,c2⟩
      ·exact .inl c
      ·exact .inr (.inl c)
      ·refine .inr (.inr ⟨c1,fun k' m nk=>?_⟩)
       rw [et] at m
       rcases mem_append.mp m with m | m
       ·exact c2 k' m nk
       ·rw [Int.ofNat.inj (mem_singleton.mp m)]
        exact cl
    | cons f fr =>
      refine ifT rfl ?_
      obtain ⟨n,mn,lv,rfl⟩:=back f (mem_cons_self ..)
      and_intros
      refine ⟨D,_,_,_,rfl,rfl,SqL.of eD5,(show atI _ ((0:Nat):Int)=_ from atN rfl),?_⟩
      refine ⟨_,rfl,_,rfl,d,_,rfl,Jn.k (k:=Sum.inl (k:Int)) e5 (by unfold onK;rw [length_map];exact AW (by omega)),?_⟩
      rw [Qy ck]
      refine ⟨_,_,ps++[(k,n)],rfl,Aw s45 hd,Ab,on3.put hk ck mn lv,?_⟩
      rcases cl3 with c | c | ⟨c1,c2⟩
      ·exact absurd (c k hk ck n mn) (by omega)
      ·exact .inr (.inl (by rw [length_append];omega))
      ·exact .inr (.inl (by rw [length_append];show _<=_+1;omega))
  ·rintro σ' J2 ⟨v6,v7,ps,rfl,s3,e3,on3,cl3⟩
   refine ⟨_,_,_,ps,rfl,s3,e3,on3,?_⟩
   rcases cl3 with c | c | c
   ·exact .inl c
   ·exact .inr c
   ·refine .inl fun k hk nk n mn=>c.2 k ?_ nk n mn
    rw [length_map,take_of_length_le (Nat.le_refl _)]
    exact ph.mem_iff.mpr (ID.mpr ⟨k,hk,rfl⟩)
 ·rintro σ' J1 ⟨v5,v6,v7,ps,rfl,s2,e2,on2,cl2⟩
  refine ⟨_,rfl,q d ps J1 s2 e2 on2 ?_⟩
  rcases cl2 with c | c
  ·exact c
  ·rw [length_map] at c
   have:=on2.len hy
   omega
theorem Dp (T:Tx K mg base ad):AN P w K mg base CX0 1 ad.f_law_copy ad.d_law_copy ["_law_paper"] (N8 K):=by
 refine T.F_law_copy.ok Ga (fun vs H Q E h=>?_) (fun cdv A outer s H vs Q E hr h=>?_)
 ·obtain ⟨p,h,s',ns,ls,F,rows,rfl,_⟩:=h
  rfl
 obtain ⟨p,h,s',ns,ls,F,rows,rfl,pr,h12,q⟩:=h
 refine ⟨_,((Dm (j:=1) (fsc:=Ac BM) (N:=["_law_paper","_law_steps"]) (Nc:=["_law_paper","_law_steps","_law_one"]) rfl rfl (by nofun) rfl Ga.nd rfl rfl (A5 (@Al _ _ _ _ _ _ _ AE (pv 0) Ag (fun _ _=>rfl))) (fun _ _ _ _=>AF) (fun _ _ _ _=>(@CY _ _ _ _ _ ((@Al _ _ _ _ _ _ _ (Dc K) (pv 2) Ag (fun _ _=>rfl))*>((@Al _ _ _ _ _ _ _ (Dc K) (pv 2) Ag (fun _ _=>rfl))*>((@Al _ _ _ _ _ _ _ (Dc K) (pv 2) Ag (fun _ _=>rfl))*>((@Bm _ _ _ _ _ _ _ _ _ (Dt K) (by rfl) T.z_list PyProof.Rows.boot_list ((@Al _ _ _ _ _ _ _ (Dc K) (pv 2) Ag (fun _ _=>rfl))*>Ae) (by decide) (by decide) (by rfl) (by rfl))*>((@Al _ _ _ _ _ _ _ (Dc K) (pv 2) Ag (fun _ _=>rfl))*>Ae))))))) rfl)>>(@Ah _ _ _ (@As _ _ _ _ (@CY _ _ _ _ _ ((Bb (fsc:=Ac BM) (N:=["_law_paper","_law_steps"]) (Nc:=["_law_paper","_law_steps","_law_row"]) rfl rfl (by nofun) rfl (A5 (@Al _ _ _ _ _ _ _ AE (pv 0) Ag (fun _ _=>rfl))) (fun _ _ _ _=>AF) (fun _ _ _ _=>(@Bm _ _ _ _ _ _ _ _ _ (Dt K) (by rfl) T.z_list PyProof.Rows.boot_list ((pv 2)*>Ae) (by decide) (by decide) (by rfl) (by rfl))))*>((pv 1)*>((@Bm _ _ _ _ _ _ _ _ _ Bk (by rfl) T.z_list PyProof.Rows.boot_list ((@Al _ _ _ _ _ _ _ AE (pv 0) Ag (fun _ _=>rfl))*>Ae) (by decide) (by decide) (by rfl) (by rfl))*>Ae))))))),?_⟩
 obtain ⟨m,sh,pk,ms,p1,p2,p3,p4,p5,p6,p7⟩:=pr
 have rl:=G9 h12 p6
 and_intros
 refine ⟨⟨_,SqL.of p4⟩,?_⟩
 refine AB (xs:=vrw rows) (by rw [C5];exact Av (by omega)) (fun D i ys J=>∃cs:List Rw,ys=vrw cs/\cs.length=i/\J D=some (.lst ys)/\Aq H J/\(∀q∈cs,RwC J q/\q.w≠D)/\cs.map rwD=(rows.take i).map rwD) (fun D hD=>⟨[],rfl,rfl,Ab,Ad hD _,(fun q m=>nomatch m),rfl⟩) (fun D i ys J ⟨qs,f1,f2,f3,_⟩=>⟨f3,by rw [f1,C5,f2];exact Nat.le_refl _⟩) (fun D i ys J hD ⟨_,_,_,_,f4,_⟩=>SqL.of (f4 _ _ p4)) ?_ ?_
 ·rintro D i w ys J K1 K2 hD hw ⟨cs,rfl,f2,f3,f4,f5,f6⟩ kk1 kk2
  obtain ⟨r,hr0,rfl,mr,et⟩:=EX hw
  have rt:=f4 _ _ (p5 r mr).tup
  have rwy:=f4 _ _ (p5 r mr).way
  refine yes (ifT rfl ?_)
  and_intros
  intro w2 hw2
  have sw:=Ad hw2 ((.lst ((AM r.ws).map V.int)))
  have ew:(upd J w2 ((.lst ((AM r.ws).map V.int)))) w2=some ((.lst ((AM r.ws).map V.int))):=Ab
  generalize upd J w2 ((.lst ((AM r.ws).map V.int)))=J2 at sw ew ⊢
  have rt:=sw _ _ rt
  and_intros
  refine ⟨(by show 5<=sizeLine;decide),fun t ht=>?_⟩
  have sT:=Ad ht ((.tup [V.int (r.x:Int),V.int (r.y:Int),V.int r.s,V.ref w2,V.int r.cut]))
  have eT:(upd J2 t ((.tup [V.int (r.x:Int),V.int (r.y:Int),V.int r.s,V.ref w2,V.int r.cut]))) t=some ((.tup [V.int (r.x:Int),V.int (r.y:Int),V.int r.s,V.ref w2,V.int r.cut])):=Ab
  generalize upd J2 t ((.tup [V.int (r.x:Int),V.int (r.y:Int),V.int r.s,V.ref w2,V.int r.cut]))=J3 at sT eT ⊢
  have s2:=sw.trans sT
  have f3':=s2 _ _ f3
  have wD:w2≠D:=fun z=>by rw [z,f3] at hw2;cases hw2
  refine kk1 _ _ f3' ⟨cs++[⟨t,r.x,r.y,r.s,w2,r.ws,r.cut⟩],by rw [EE];rfl,by rw [length_append,f2];rfl,Ab,Aw (f4.trans s2) hD,fun q m=>?_,by rw [map_append,f6,et,map_append];rfl⟩
  rcases mem_append.mp m with m | m
  ·obtain ⟨⟨a1,a2⟩,a3⟩:=f5 q m
   exact ⟨⟨by rw [Ai (DZ (s2 _ _ a1) f3' (fun z=>nomatch z))];exact s2 _ _ a1,by rw [Ai a3];exact s2 _ _ a2⟩,a3⟩
  ·rw [mem_singleton.mp m]
   exact ⟨⟨by rw [Ai (DZ eT f3' (fun z=>nomatch z))];exact eT,by rw [Ai wD];exact sT _ _ ew⟩,wD⟩
 rintro D ys H2 hD ⟨cs,rfl,f2,f3,f4,f5,f6⟩
 rw [C5,take_of_length_le (Nat.le_refl _)] at f6
 have p1':=f4 _ _ p1
 have p2':=f4 _ _ p2
 have p3':=p3.same f4
 and_intros
 refine ⟨⟨_,SqL.of p2'⟩,?_⟩
 refine AB (xs:=ms.map V.ref) (by rw [length_map,p3'.1];exact Av (by omega)) (fun D i ys J=>∃bs:List Addr,ys=bs.map V.ref/\bs.length=i/\bs.Nodup/\J D=some (.lst ys)/\Aq H2 J/\D ∉ bs/\(∀a∈bs,H2 a=none)/\∀k b,bs[k]?=some b->J b=some (.lst (((List.range h).map fun y=>ovF ls k y).map V.int))) (fun D hD=>⟨[],rfl,rfl,nodup_nil,Ab,Ad hD _,(fun m=>nomatch m),(fun _ m=>nomatch m),(fun _ _ e=>by cases e)⟩) (fun D i ys J ⟨bs,f1,f2,_,f3,_⟩=>⟨f3,by rw [f1,length_map,f2];exact Nat.le_refl _⟩) (fun D i ys J hD ⟨_,_,_,_,_,f5,_⟩=>SqL.of (f5 _ _ p2')) ?_ ?_
 ·rintro D i x ys J K1 K2 hD hx ⟨bs,rfl,f2,f3,f4,f5,f6,f7,f8⟩ k1 k2
  rw [List.getElem?_map] at hx
  obtain ⟨a,ha,rfl⟩:=Option.map_eq_some_iff.mp hx
  refine yes (ifT rfl ?_)
  refine ⟨_,rfl,a,_,rfl,.inl (SqL.of (f5 _ _ (p3'.2.2 i a ha))),fun D2 hD2=>?_⟩
  have sD:=Ad hD2 (.lst (((List.range h).map fun y=>ovF ls i y).map V.int))
  have eD:(upd J D2 (.lst (((List.range h).map fun y=>ovF ls i y).map V.int))) D2=some (.lst (((List.range h).map fun y=>ovF ls i y).map V.int)):=Ab
  have dd:D2≠D:=fun z=>by rw [z,f4] at hD2;cases hD2
  have na:D2 ∉ bs:=fun m=>by
   obtain ⟨k,hk⟩:=List.getElem?_of_mem m
   rw [f8 k D2 hk] at hD2
   cases hD2
  have nD:D ∉ bs:=f6
  have nD2:=none_of f5 hD2
  generalize upd J D2 (.lst (((List.range h).map fun y=>ovF ls i y).map V.int))=J5 at sD eD ⊢
  refine k1 _ _ (sD _ _ f4) ⟨bs++[D2],by rw [map_append];rfl,by rw [length_append,f2];rfl,nodup_append.mpr ⟨f3,by simp,fun a ma b mb e=>na (by rw [<- mem_singleton.mp mb,<- e];exact ma)⟩,Ab,Aw (f5.trans sD) hD,fun m=>?_,fun a m=>?_,fun k b e=>?_⟩
  ·rcases mem_append.mp m with m | m
   ·exact f6 m
   ·exact dd (mem_singleton.mp m).symm
  ·rcases mem_append.mp m with m | m
   ·exact f7 a m
   ·rw [mem_singleton.mp m];exact nD2
  ·by_cases c:k < bs.length
   ·rw [List.getElem?_append_left c] at e
    rw [Ai (fun z=>f6 (by rw [<- z];exact mem_of_getElem? e))]
    exact sD _ _ (f8 k b e)
   ·rw [List.getElem?_append_right (by omega)] at e
    have ek:k=i:=by
     have:=(List.getElem?_eq_some_iff.mp e).1
     rw [length_singleton] at this
     omega
    rw [ek,f2,Nat.sub_self] at e
    cases Option.some.inj e
    rw [Ai dd,ek]
    exact eD
 rintro g ys H3 hg ⟨gs,rfl,g2,g3,eg,sg,g6,g7,g8⟩
 have tg:AL H3 gs h (ovF ls):=⟨by rw [g2,length_map,p3'.1],g3,g8⟩
 have p13:=sg _ _ p1'
 have s23:=f4.trans sg
 and_intros
 refine ⟨pk,_,rfl,.inl (SqL.of (s23 _ _ p7)),fun k2 hk2=>?_⟩
 have s4:=Ad hk2 ((.lst ((Au F s' ns).map V.int)))
 have e4:(upd H3 k2 ((.lst ((Au F s' ns).map V.int)))) k2=some ((.lst ((Au F s' ns).map V.int))):=Ab
 generalize upd H3 k2 ((.lst ((Au F s' ns).map V.int)))=H4 at s4 e4 ⊢
 and_intros
 refine ⟨(by show 3<=sizeLine;decide),fun t ht=>?_⟩
 have s5:=Ad ht ((.tup [V.ref g,V.ref D,V.ref k2]))
 have e5:(upd H4 t ((.tup [V.ref g,V.ref D,V.ref k2]))) t=some ((.tup [V.ref g,V.ref D,V.ref k2])):=Ab
 generalize upd H4 t ((.tup [V.ref g,V.ref D,V.ref k2]))=H5 at s5 e5 ⊢
 have s35:=s4.trans s5
 have s25:=sg.trans s35
 refine q t _ (f4.trans s25) (.tup (SqT.of e5) (.cons (.lst (SqL.of (s35 _ _ eg)) (tg.same s35).reps) (.cons (.lst (SqL.of (s25 _ _ f3)) ?_) (.cons (.lst (SqL.of (s5 _ _ e4)) (.ints _)) .nil))))
 rw [<- f6]
 exact L7 fun q m=>⟨s25 _ _ (f5 q m).1.1,s25 _ _ (f5 q m).1.2⟩
theorem Gq (T:Tx K mg base ad):AN P w K mg base CX0 1 ad.f_Checker_init ad.d_Checker_init ["self","way"] (Os K):=by
 refine T.F_Checker_init.ok Gr (fun vs H Q E h=>?_) (fun cdv A outer s H vs Q E hr h=>?_)
 ·obtain ⟨k,C,dk,x,rfl,_⟩:=h
  rfl
 obtain ⟨k,C,dk,x,rfl,hk,cl,na,q⟩:=h
 refine ⟨_,(@Ah _ _ _ (IS (pv 0) (pv 1) rfl)),?_⟩
 refine ⟨_,rfl,_,rfl,k,C,dk,[],rfl,hk,cl,na,(by simp only [length_nil];decide),?_⟩
 rw [QF]
 exact q _ (DL (Ld H k)) Ab
theorem Dv (T:Tx K mg base ad):AN P w K mg base CX0 1 ad.f_Pairs_told_by ad.d_Pairs_told_by ["self","paper"] (Pk ad.c_Pairs):=by
 refine T.F_Pairs_told_by.ok Fx (fun vs H Q E h=>?_) (fun cdv A outer s H vs Q E hr h=>?_)
 ·obtain ⟨a,p,h,s,ns,ls,F,rfl,_⟩:=h
  rfl
 obtain ⟨a,p,h,s,ns,ls,F,rfl,md,pp,q⟩:=h
 refine ⟨_,(@Ah _ _ _ (@As _ _ _ _ (Bb (fsc:=Ac Bj) (N:=["self","paper"]) (Nc:=["self","paper","hand"]) rfl rfl (by nofun) rfl (AG rfl T.z_range ((DO (pv 0) rfl)*>Ae)) (fun _ _ _ _=>AF) (fun _ _ _ _=>(JN (@Ay _ _ _ _ _ _ _ _ (Li K) (pv 2) (@Al _ _ _ _ _ _ _ (Dc K) (pv 1) Ag (fun _ _=>rfl)) (by with_unfolding_all rfl)) Ag Ag))))),?_⟩
 obtain ⟨dx,la,k1,k2⟩:=id md.is
 obtain ⟨m,sh,pk,p1,p7⟩:=pp
 have h12:=md.h12
 and_intros
 refine ⟨a,_,dx,_,_,rfl,k1,T.cl_Pairs,T.na_Pairs_hands,rfl,?_⟩
 refine ⟨_,rfl,by omega,by omega,?_⟩
 rw [Int.toNat_natCast]
 refine AQ (Av (by omega)) (fun D i ys J=>ys=((List.range i).map fun j:Nat=>if (j:Int)∈Au F s ns then (1:Int) else 0).map V.int/\J=upd H D (.lst ys)) (fun D hD=>⟨rfl,rfl⟩) (fun D i ys J ⟨g1,g2⟩=>⟨by rw [g2];exact Ab,by rw [g1,length_map,length_map,length_range];exact Nat.le_refl _⟩) ?_ ?_
 ·rintro D i ys J K1 K2 hD hi ⟨g1,rfl⟩ kk1 kk2
  have e0:(0:Int)+(i:Int)=(i:Int):=Int.zero_add _
  have s1:=Ad hD (.lst ys)
  rw [e0]
  refine yes (ifT rfl ?_)
  have p1':=s1 _ _ p1
  have p7':=s1 _ _ p7
  and_intros
  refine ⟨OD _,?_⟩
  by_cases c:(i:Int)∈Au F s ns
  ·rw [QX c]
   refine ⟨_,rfl,?_⟩
   refine ifT rfl ?_
   refine kk1 _ _ Ab ⟨?_,by rw [AT]⟩
   rw [range_succ,map_append,map_append,g1]
   simp [c]
  ·rw [Rn c]
   refine ⟨_,rfl,?_⟩
   refine ifF rfl ?_
   refine kk1 _ _ Ab ⟨?_,by rw [AT]⟩
   rw [range_succ,map_append,map_append,g1]
   simp [c]
 rintro D ys H1 hD ⟨rfl,rfl⟩
 exact q D _ hD (Ad hD _) Ab
theorem JS (T:Tx K mg base ad):AN P w K mg base CX0 2 ad.f_overs ad.d_overs ["sheet","hands"] Nj:=by
 refine T.F_overs.ok Cg (fun vs H Q E h=>?_) (fun cdv A outer s H vs Q E hr h=>?_)
 ·obtain ⟨l,ls,h,rfl,_⟩:=h
  rfl
 obtain ⟨l,ls,h,rfl,hl,g0,l60,h1,h12,q⟩:=h
 refine ⟨_,((Dm (j:=2) (fsc:=Ac Dq) (N:=["sheet","hands","many","slip","number","behind","tier","others","x","y"]) (Nc:=["sheet","hands","many","slip","number","behind","tier","others",".s8","y","x"]) rfl rfl (by nofun) rfl Cg.nd rfl rfl (AG rfl T.z_range ((pv 1)*>Ae)) (fun _ _ _ _=>AF) (fun _ _ _ _=>(by exact (Hn (fsc:=Ac Dq) (Nc:=["sheet","hands","many","slip","number","behind","tier","others",".s8","y","x"]) (Nd:=["sheet","hands","many","slip","number","behind","tier","others",".s8",".s9","x","y"]) rfl (by nofun) rfl (AG rfl T.z_range ((pv 1)*>Ae)) (fun _ _ _ _=>AF) (fun _ _ _ _=>Ag)))) rfl)>>((B9 PassesOwn.never rfl (A5 (pv 0)) (FH rfl (Bp (AA (i:=3) Cg.nd rfl (Or.inl rfl)) (Bp (AA (i:=4) Cg.nd rfl (Or.inl rfl)) Ew))) ((@Ao _ _ (5) _ _ _ _ Cg.nd rfl (Or.inl rfl) (@Aj _ _ _ _ _ _ _ _ _ _ _ _ _ _ _ _ (HV T) (hr.mono (by decide)) rfl T.m_all_of T.F_all_of.kp T.b_all_of .nil Ar ((pv 1)*>Ae) (by decide) (by rfl) (by rfl)) (by rfl) (by nofun))>>(@Ah _ _ _ (B9 PassesOwn.never rfl (QR (pv 3)) (AA (i:=6) Cg.nd rfl (Or.inl rfl)) ((@Ao _ _ (5) _ _ _ _ Cg.nd rfl (Or.inl rfl) (KJ<&>((pv 5)<|>(@LL _ _ _ _ _ _ Qs (pv 6)))) (by rfl) (by nofun))>>((@Ao _ _ (7) _ _ _ _ Cg.nd rfl (Or.inl rfl) (@Aj _ _ _ _ _ _ _ _ _ _ _ _ _ _ _ _ (EB T) (hr.mono (by decide)) rfl T.m_members T.F_members.kp T.b_members .nil Ar ((pv 5)*>Ae) (by decide) (by rfl) (by rfl)) (by rfl) (by nofun))>>(@Ah _ _ _ (B9 PassesOwn.never rfl (A5 (@Aj _ _ _ _ _ _ _ _ _ _ _ _ _ _ _ _ (EB T) (hr.mono (by decide)) rfl T.m_members T.F_members.kp T.b_members .nil Ar ((pv 6)*>Ae) (by decide) (by rfl) (by rfl))) (AA (i:=8) Cg.nd rfl (Or.inl rfl)) (@Ah _ _ _ (B9 PassesOwn.never rfl (A5 (pv 7)) (AA (i:=9) Cg.nd rfl (Or.inl rfl)) (@Ah _ _ _ (Fy (AX<&>((@Al _ _ _ _ _ _ _ A3 (@Al _ _ _ _ _ _ _ A3 (pv 2) (pv 8) (fun _ _=>rfl)) (pv 9) (fun _ _=>rfl))<|>(pv 4))) (GF (@Al _ _ _ _ _ _ _ A3 (pv 2) (pv 8) (fun _ _=>rfl)) (pv 9) En)))))))))))))>>(@Ah _ _ _ (@As _ _ _ _ (pv 2))))),?_⟩
 and_intros
 refine ⟨by omega,by omega,?_⟩
 rw [Int.toNat_natCast]
 refine AQ (Av (by omega)) (fun D i ys J=>∃as:List Addr,ys=as.map V.ref/\as.length=i/\as.Nodup/\J D=some (.lst ys)/\Aq H J/\D ∉ as/\∀a∈as,H a=none/\J a=some (.lst (((List.range h).map fun _=>(0:Int)).map V.int))) (fun D hD=>⟨[],rfl,rfl,nodup_nil,Ab,Ad hD _,(fun m=>nomatch m),fun _ m=>nomatch m⟩) (fun D i ys J ⟨as,f1,f2,_,f3,_⟩=>⟨f3,by rw [f1,length_map,f2];exact Nat.le_refl _⟩) ?_ ?_
 ·rintro D i ys J K1 K2 hD hi ⟨as,rfl,f2,f3,f4,f5,f6,f7⟩ k1 k2
  refine yes (ifT rfl ?_)
  refine ⟨_,rfl,(h:Int),rfl,by omega,by omega,?_⟩
  rw [Int.toNat_natCast]
  refine AQ (Av (by omega)) (fun D2 j ys J2=>ys=((List.range j).map fun _=>(0:Int)).map V.int/\J2=upd J D2 (.lst ys)) (fun D2 hD2=>⟨rfl,rfl⟩) (fun D2 j ys J2 ⟨g1,g2⟩=>⟨by rw [g2];exact Ab,by rw [g1,length_map,length_map,length_range];exact Nat.le_refl _⟩) ?_ ?_
  ·rintro D2 j ys J2 L1 L2 hD2 hj ⟨g1,rfl⟩ l1 l2
   refine yes (ifT rfl ?_)
   refine l1 _ _ Ab ⟨?_,by rw [AT]⟩
   rw [g1,range_succ,map_append,map_append]
   rfl
  rintro D2 ys J2 hD2 ⟨rfl,rfl⟩
  have sD:=Ad hD2 (.lst (((List.range h).map fun _=>(0:Int)).map V.int))
  have eD:(upd J D2 (.lst (((List.range h).map fun _=>(0:Int)).map V.int))) D2=some (.lst (((List.range h).map fun _=>(0:Int)).map V.int)):=Ab
  have dd:D2≠D:=fun z=>by rw [z,f4] at hD2;cases hD2
  have na:D2 ∉ as:=fun m=>by rw [(f7 D2 m).2] at hD2;cases hD2
  generalize upd J D2 (.lst (((List.range h).map fun _=>(0:Int)).map V.int))=J5 at sD eD ⊢
  refine k1 _ _ (sD _ _ f4) ⟨as++[D2],by rw [map_append];rfl,by rw [length_append,f2];rfl,nodup_append.mpr ⟨f3,by simp,fun a ma b mb e=>na (by rw [<- mem_singleton.mp mb,<- e];exact ma)⟩,Ab,Aw (f5.trans sD) hD,fun m=>?_,fun a m=>?_⟩
  ·rcases mem_append.mp m with m | m
   ·exact f6 m
   ·exact dd (mem_singleton.mp m).symm
  ·rcases mem_append.mp m with m | m
   ·exact ⟨(f7 a m).1,by rw [Ai (fun z=>f6 (by rw [<- z];exact m))];exact sD _ _ (f7 a m).2⟩
   ·rw [mem_singleton.mp m]
    exact ⟨none_of f5 hD2,by rw [Ai dd];exact eD⟩
 rintro D ys H1 hD ⟨as,rfl,f2,f3,f4,f5,f6,f7⟩
 have tb0:AL H1 as h (fun _ _=>0):=⟨f2,f3,fun x a ha=>(f7 a (mem_of_getElem? ha)).2⟩
 have nw:∀a∈as,H a=none:=fun a m=>(f7 a m).1
 have out:∀{b:Addr} {o:HO},H b=some o->b ∉ as:=fun {b o} e m=>by rw [nw b m] at e;cases e
 clear f7 f3 f2
 refine ⟨_,rfl,l,rfl,⟨_,SqL.of (f5 _ _ hl)⟩,BD (xs:=vls ls) (fun i σ' H'=>∃v3 v4 v5 v6 v7 v8 v9:Option V,σ'=[some (.ref l),some (.int (h:Int)),some (.ref D),v3,v4,v5,v6,v7,v8,v9]/\CZ as H1 H'/\AL H' as h (fun x y=>Ce (Ds x y) (dsL (ls.take i)))) ⟨none,none,none,none,none,none,none,rfl,CZ.of (fun _ _ e=>e),tb0⟩ (fun i σ' H' _ ⟨_,_,_,_,_,_,_,_,k,_⟩=>SqL.of (k.same f5 nw _ _ hl)) ?_ ?_⟩
 ·rintro i w σ' H' hw ⟨v3,v4,v5,v6,v7,v8,v9,rfl,k1,tb⟩
  obtain ⟨f,hf,rfl,fm,et⟩:=Pi hw
  obtain ⟨g1,g2,g3⟩:=g0 f fm
  have kH:=k1.same f5 nw
  refine ⟨f.1,_,rfl,SqT.of (kH _ _ g1),rfl,_,_,rfl,_,_,rfl,rfl,?_⟩
  and_intros
  refine ⟨by omega,by omega,?_⟩
  rw [Int.toNat_natCast,HK]
  and_intros
  obtain ⟨ts,ets⟩:∃ts,ts=f.2.2.1:=⟨_,rfl⟩
  obtain ⟨n,en⟩:∃n,n=f.2.2.2:=⟨_,rfl⟩
  obtain ⟨F0,eF0⟩:∃F0:Nat->Nat->Int,F0=fun x y=>Ce (Ds x y) (dsL (ls.take i)):=⟨_,rfl⟩
  rw [<- ets] at g2 g3
  rw [<- eF0] at tb
  rw [<- en]
  refine ⟨⟨_,SqT.of (kH _ _ g2)⟩,PM (xs:=ts.map V.int) (fun j σ' H2=>∃v6 v7 v8 v9:Option V,σ'=[some (.ref l),some (.int (h:Int)),some (.ref D),some (.ref f.2.1),some (.int n),some (.int (A9 h (stT (ts.take j)).1)),v6,v7,v8,v9]/\CZ as H1 H2/\AL H2 as h (fun x y=>F0 x y+n*(stT (ts.take j)).2 x y)) ⟨_,_,_,_,rfl,k1,tb.congr fun x y _ _=>(by show F0 x y=F0 x y+n*0;rw [Int.mul_zero,Int.add_zero])⟩ (fun j σ' H2 _ ⟨_,_,_,_,_,k,_⟩=>SqT.of (k.same f5 nw _ _ g2)) ?_ ?_⟩
  ·rintro j u σ' H2 hu ⟨v6,v7,v8,v9,rfl,k2,tb2⟩
   obtain ⟨t,ht,rfl⟩:=int_at hu
   have ej:ts.take (j+1)=ts.take j++[t]:=by rw [take_add_one,ht];rfl
   have es:=Oh (ts.take j) t
   rw [<- ej] at es
   have eb:Builtin.bitAnd (A9 h (stT (ts.take j)).1) (Builtin.bitNot t)=A9 h (stT (ts.take (j+1))).1:=by
    rw [Kt,es]
    exact AS h fun i _=>by rw [PR];rfl
   and_intros
   have mb:=HX h12 (stT (ts.take (j+1))).1
   rw [<- eb] at mb
   refine ⟨mb.1,mb.2,fun po Ho hpo so eo=>?_⟩
   rw [eb] at eo
   and_intros
   obtain ⟨gt,egt⟩:=KP h12 g3 (mem_of_getElem? ht)
   have mt:=HX h12 gt
   rw [<- egt] at mt
   refine ⟨mt.1,mt.2,fun px Hx hpx sx ex=>?_⟩
   have tbx:=tb2.same (so.trans sx)
   have npo:po ∉ as:=tb2.not hpo
   have npx:px ∉ as:=(tb2.same so).not hpx
   have kx:=(k2.trans (CZ.of so)).trans (CZ.of sx)
   have eo':=sx _ _ eo
   have memx:∀{z:Int},z∈hands 12 (bit t)↔∃i:Nat,i < h/\bit t i=true/\z=(i:Int):=fun {z}=>by
    rw [egt,GT h12]
    refine ⟨fun ⟨i,a,b,e⟩=>⟨i,a,by rw [BX,decide_eq_true a,b];rfl,e⟩,fun ⟨i,a,b,e⟩=>⟨i,a,?_,e⟩⟩
    rw [BX,decide_eq_true a] at b
    exact b
   have memy:∀{z:Int},z∈hands 12 (bit (A9 h (stT (ts.take (j+1))).1))↔∃i:Nat,i < h/\(stT (ts.take (j+1))).1 i=true/\z=(i:Int):=fun {z}=>GT h12 _
   have ndx:=FX 12 (bit t)
   have ndy:=FX 12 (bit (A9 h (stT (ts.take (j+1))).1))
   generalize exs:hands 12 (bit t)=xs at ex memx ndx
   generalize eys:hands 12 (bit (A9 h (stT (ts.take (j+1))).1))=ys at eo' memy ndy
   clear eo
   refine ⟨px,rfl,⟨_,SqL.of ex⟩,BD (xs:=xs.map V.int) (fun k σ' H3=>∃(v8 v9:Option V) (G:Nat->Nat->Int),σ'=[some (.ref l),some (.int (h:Int)),some (.ref D),some (.ref f.2.1),some (.int n),some (.int (Builtin.bitAnd (A9 h (stT (ts.take j)).1) (Builtin.bitNot t))),some (.int t),some (.ref po),v8,v9]/\CZ as Hx H3/\AL H3 as h G/\∀x' y':Nat,G x' y'=F0 x' y'+n*(stT (ts.take j)).2 x' y'+if (x':Int)∈xs.take k/\(y':Int)∈ys then n else 0) ⟨_,_,_,rfl,CZ.of (fun _ _ e=>e),tbx,fun x' y'=>(by rw [if_neg (fun z=>nomatch z.1)];exact (Int.add_zero _).symm)⟩ (fun k σ' H3 _ ⟨_,_,_,_,kk,_⟩=>SqL.of (kk _ _ npx ex)) ?_ ?_⟩
   ·rintro k u σ' H3 hu ⟨v8,v9,G,rfl,k3,tb3,eG⟩
    obtain ⟨zx,hzx,rfl⟩:=int_at hu
    obtain ⟨x,hx,bx,rfl⟩:=memx.mp (mem_of_getElem? hzx)
    obtain ⟨ekx,nkx⟩:=IQ ndx hzx
    and_intros
    refine ⟨⟨_,SqL.of (k3 _ _ npo eo')⟩,BD (xs:=ys.map V.int) (fun m σ' H4=>∃(v9:Option V) (G':Nat->Nat->Int),σ'=[some (.ref l),some (.int (h:Int)),some (.ref D),some (.ref f.2.1),some (.int n),some (.int (Builtin.bitAnd (A9 h (stT (ts.take j)).1) (Builtin.bitNot t))),some (.int t),some (.ref po),some (.int (x:Int)),v9]/\CZ as Hx H4/\AL H4 as h G'/\∀x' y':Nat,G' x' y'=G x' y'+if x'=x/\(y':Int)∈ys.take m then n else 0) ⟨_,_,rfl,k3,tb3,fun x' y'=>(by rw [if_neg (fun z=>nomatch z.2)];exact (Int.add_zero _).symm)⟩ (fun m σ' H4 _ ⟨_,_,_,kk,_⟩=>SqL.of (kk _ _ npo eo')) ?_ ?_⟩
    ·rintro m u σ' H4 hu ⟨v9,G',rfl,k4,tb4,eG'⟩
     obtain ⟨zy,hzy,rfl⟩:=int_at hu
     obtain ⟨y,hy,_,rfl⟩:=memy.mp (mem_of_getElem? hzy)
     obtain ⟨eky,nky⟩:=IQ ndy hzy
     obtain ⟨a,r1,r2,r3,r4⟩:=tb4.row hx
     have eD:=k4 _ _ f6 (kx _ _ f6 f4)
     refine ⟨_,rfl,_,rfl,D,_,_,_,rfl,rfl,SqL.of eD,r3,?_⟩
     refine ⟨_,rfl,a,_,_,_,rfl,rfl,SqL.of r4,BC (G' x) hy,?_⟩
     and_intros
     refine ⟨D,_,_,_,rfl,rfl,SqL.of eD,r3,?_⟩
     refine ⟨_,rfl,a,_,_,y,rfl,rfl,r4,EY (by rw [length_map,length_map,length_range];exact hy),?_⟩
     refine ⟨_,Hg G' x y n,rfl,k4.put r2,tb4.put r1 n,fun x' y'=>?_⟩
     unfold Hg
     rw [eG',eky]
     refine LM n _ ?_ ?_
     ·rw [Kx]
      exact ⟨fun ⟨a,b⟩=>b.elim (fun c=>.inl ⟨a,c⟩) fun c=>.inr ⟨a,c⟩,fun z=>z.elim (fun c=>⟨c.1,.inl c.2⟩) fun c=>⟨c.1,.inr c.2⟩⟩
     ·exact fun z=>nky (by rw [<- z.2.2];exact z.1.2)
    ·rintro σ' H4 ⟨v9,G',rfl,k4,tb4,eG'⟩
     rw [length_map,take_of_length_le (Nat.le_refl _)] at eG'
     refine ⟨_,_,_,rfl,k4,tb4,fun x' y'=>?_⟩
     rw [eG',eG,ekx]
     refine LM n _ ?_ ?_
     ·rw [Kx]
      exact ⟨fun ⟨a,b⟩=>a.elim (fun c=>.inl ⟨c,b⟩) fun c=>.inr ⟨c,b⟩,fun z=>z.elim (fun c=>⟨.inl c.1,c.2⟩) fun c=>⟨.inr c.1,c.2⟩⟩
     ·exact fun z=>nkx (by rw [<- z.2.1];exact z.1.1)
   ·rintro σ' H3 ⟨v8,v9,G,rfl,k3,tb3,eG⟩
    rw [length_map,take_of_length_le (Nat.le_refl _)] at eG
    refine ⟨_,_,_,_,by rw [eb],kx.trans k3,tb3.congr fun x y hx hy=>?_⟩
    rw [eG,es]
    show _=F0 x y+n*((stT (ts.take j)).2 x y+if (bit t x && ((stT (ts.take j)).1 y && !bit t y))=true then 1 else 0)
    rw [Int.mul_add,<- Int.add_assoc]
    have e2:(stT (ts.take (j+1))).1 y=((stT (ts.take j)).1 y && !bit t y):=by rw [es];rfl
    have e1:((x:Int)∈xs/\(y:Int)∈ys)↔(bit t x && ((stT (ts.take j)).1 y && !bit t y))=true:=by
     rw [<- e2,Bool.and_eq_true,memx,memy]
     exact ⟨fun ⟨⟨i,_,b,e⟩,⟨k,_,c,e'⟩⟩=>⟨by rw [Int.ofNat.inj e];exact b,by rw [Int.ofNat.inj e'];exact c⟩,fun ⟨a,b⟩=>⟨⟨x,hx,a,rfl⟩,⟨y,hy,b,rfl⟩⟩⟩
    by_cases c:(bit t x && ((stT (ts.take j)).1 y && !bit t y))=true
    ·rw [if_pos c,if_pos (e1.mpr c),Int.mul_one]
    ·rw [if_neg c,if_neg (fun z=>c (e1.mp z)),Int.mul_zero]
  ·rintro σ' H2 ⟨v6,v7,v8,v9,rfl,k2,tb2⟩
   rw [length_map,take_of_length_le (Nat.le_refl _)] at tb2
   refine ⟨_,_,_,_,_,_,_,rfl,k2,tb2.congr fun x y hx hy=>?_⟩
   rw [et,LZ,<- ets,<- en,eF0,MN g3 hx hy]
 ·rintro σ' H' ⟨v3,v4,v5,v6,v7,v8,v9,rfl,k1,tb⟩
  rw [LJ,take_of_length_le (Nat.le_refl _)] at tb
  exact ⟨_,rfl,q D as H' hD (k1.same f5 nw) f6 nw (k1 _ _ f6 f4) tb⟩
theorem FQ (T:Tx K mg base ad):AN P w K mg base CX0 2 ad.f_leads_of ad.d_leads_of ["many"] Kc:=by
 refine T.F_leads_of.ok FW (fun vs H Q E h=>?_) (fun cdv A outer s H vs Q E hr h=>?_)
 ·obtain ⟨a,as,h,F,rfl,_⟩:=h
  rfl
 obtain ⟨a,as,h,F,rfl,ha,g,h12,q⟩:=h
 refine ⟨_,((@Ao _ _ (1) _ _ _ _ FW.nd rfl (Or.inr rfl) (@Aj _ _ _ _ _ _ _ _ _ _ _ _ _ _ _ _ (Ed T) (hr.mono (by decide)) rfl T.m_hands_of T.F_hands_of.kp T.b_hands_of .nil Ar ((pv 0)*>Ae) (by decide) (by rfl) (by rfl)) (by rfl) (by nofun))>>(@Ah _ _ _ (@As _ _ _ _ (GB (fsc:=Ac BL) (N:=["many","hands"]) (Nc:=["many","hands","x"]) rfl rfl (by nofun) rfl (A5 (pv 1)) (fun _ _ _ _=>AF) (fun _ _ _ _=>(by exact (FN (fsc:=Ac BL) (Nc:=["many","hands","x"]) (Nd:=["many","hands","x","y"]) rfl (by nofun) rfl (Jv K (pv 1)) (fun _ _ _ _=>AF) (fun _ _ _ _=>(IG<&>((@Al _ _ _ _ _ _ _ (AD K) (@Al _ _ _ _ _ _ _ (AD K) (pv 0) (pv 2) (fun _ _=>rfl)) (pv 3) (fun _ _=>rfl))<|>(@Al _ _ _ _ _ _ _ (AD K) (@Al _ _ _ _ _ _ _ (AD K) (pv 0) (pv 3) (fun _ _=>rfl)) (pv 2) (fun _ _=>rfl)))))))))))),?_⟩
 and_intros
 refine ⟨a,Jx as h F,h,rfl,(by rw [g.vtb];exact ha),g.good.1,h12,fun l H1 hl s1 e1=>?_⟩
 and_intros
 have ul:=BH h
 refine ⟨⟨_,SqL.of e1⟩,?_⟩
 refine AB (xs:=(ups h).map V.int) (by rw [length_map,ul];exact Av (by omega)) (fun D i ys J=>∃bs:List Addr,ys=bs.map V.ref/\bs.length=i/\bs.Nodup/\J D=some (.lst ys)/\Aq H1 J/\D ∉ bs/\(∀c∈bs,H1 c=none)/\∀k b,bs[k]?=some b->J b=some (.lst (((List.range h).map fun y=>F k y - F y k).map V.int))) (fun D hD=>⟨[],rfl,rfl,nodup_nil,Ab,Ad hD _,(fun m=>nomatch m),(fun _ m=>nomatch m),fun k r e=>by cases e⟩) (fun D i ys J ⟨u,f1,f2,_,f3,_⟩=>⟨f3,by rw [f1,length_map,f2];exact Nat.le_refl _⟩) (fun D i ys J hD ⟨_,_,_,_,_,f4,_⟩=>SqL.of (f4 _ _ e1)) ?_ ?_
 ·rintro D i x ys J K1 K2 hD hx ⟨bs,rfl,f2,f3,f4,f5,f6,f7,f8⟩ k1 k2
  obtain ⟨z,hz,rfl⟩:=int_at hx
  obtain ⟨rfl,hi⟩:=IH hz
  refine yes (ifT rfl ?_)
  have gJ:=(g.same s1).same f5
  refine ⟨_,rfl,l,rfl,⟨_,SqL.of (f5 _ _ e1)⟩,?_⟩
  refine AB (xs:=(ups h).map V.int) (by rw [length_map,ul];exact Av (by omega)) (fun D2 j ys J2=>ys=((List.range j).map fun y=>F i y - F y i).map V.int/\J2=upd J D2 (.lst ys)) (fun D2 hD2=>⟨rfl,rfl⟩) (fun D2 j ys J2 ⟨f1,f2⟩=>⟨by rw [f2];exact Ab,by rw [f1,length_map,length_map,length_range];exact Nat.le_refl _⟩) (fun D2 j ys J2 hD2 ⟨_,f2⟩=>by rw [f2];exact SqL.of (Ad hD2 _ _ _ (f5 _ _ e1))) ?_ ?_
  ·rintro D2 j y ys J2 L1 L2 hD2 hy ⟨e,rfl⟩ l1 l2
   obtain ⟨w,hw,rfl⟩:=int_at hy
   obtain ⟨rfl,hj⟩:=IH hw
   refine yes (ifT rfl ?_)
   have sD:=Ad hD2 (.lst ys)
   have aJ:=sD _ _ ((s1.trans f5) _ _ ha)
   obtain ⟨ri,_,_,a1,a2⟩:=(gJ.same sD).row hi
   obtain ⟨rj,_,_,b1,b2⟩:=(gJ.same sD).row hj
   refine ⟨_,rfl,_,rfl,a,_,_,_,rfl,rfl,SqL.of aJ,a1,?_⟩
   refine ⟨_,rfl,ri,_,_,_,rfl,rfl,SqL.of a2,BC (F i) hj,?_⟩
   refine ⟨_,rfl,_,rfl,a,_,_,_,rfl,rfl,SqL.of aJ,b1,?_⟩
   refine ⟨_,rfl,rj,_,_,_,rfl,rfl,SqL.of b2,BC (F j) hi,?_⟩
   and_intros
   refine l1 _ _ Ab ⟨?_,by rw [AT]⟩
   rw [e,range_succ,map_append,map_append]
   rfl
  rintro D2 ys H5 hD2 ⟨rfl,rfl⟩
  rw [length_map,ul]
  have sD:=Ad hD2 (.lst (((List.range h).map fun y=>F i y - F y i).map V.int))
  have eD:(upd J D2 (.lst (((List.range h).map fun y=>F i y - F y i).map V.int))) D2=some (.lst (((List.range h).map fun y=>F i y - F y i).map V.int)):=Ab
  have dd:D2≠D:=fun z=>by rw [z,f4] at hD2;cases hD2
  have na:D2 ∉ bs:=fun m=>by
   obtain ⟨k,hk⟩:=List.getElem?_of_mem m
   rw [f8 k D2 hk] at hD2
   cases hD2
  have nD2:=none_of f5 hD2
  generalize upd J D2 (.lst (((List.range h).map fun y=>F i y - F y i).map V.int))=J5 at sD eD ⊢
  refine k1 _ _ (sD _ _ f4) ⟨bs++[D2],by rw [map_append];rfl,by rw [length_append,f2];rfl,nodup_append.mpr ⟨f3,by simp,fun a ma b mb e=>na (by rw [<- mem_singleton.mp mb,<- e];exact ma)⟩,Ab,Aw (f5.trans sD) hD,fun m=>?_,fun c m=>?_,fun k b e=>?_⟩
  ·rcases mem_append.mp m with m | m
   ·exact f6 m
   ·exact dd (mem_singleton.mp m).symm
  ·rcases mem_append.mp m with m | m
   ·exact f7 c m
   ·rw [mem_singleton.mp m];exact nD2
  ·by_cases c:k < bs.length
   ·rw [List.getElem?_append_left c] at e
    rw [Ai (fun z=>f6 (by rw [<- z];exact mem_of_getElem? e))]
    exact sD _ _ (f8 k b e)
   ·rw [List.getElem?_append_right (by omega)] at e
    have ek:k=i:=by
     have:=(List.getElem?_eq_some_iff.mp e).1
     rw [length_singleton] at this
     omega
    rw [ek,f2,Nat.sub_self] at e
    cases Option.some.inj e
    rw [Ai dd,ek]
    exact eD
 rintro D ys H2 hD ⟨bs,rfl,f2,f3,f4,f5,f6,f7,f8⟩
 rw [length_map,ul] at f2
 exact q D bs H2 (none_of s1 hD) f6 (fun c m=>none_of s1 (f7 c m)) (s1.trans f5) f4 ⟨f2,f3,f8⟩
theorem Go (T:Tx K mg base ad):AN P w K mg base CX0 2 ad.f_reached_from ad.d_reached_from ["leads","x"] (M8 ad.lP):=by
 refine T.F_reached_from.okC Bh (fun vs H Q E h=>?_) (fun cdv hcd A outer s H vs Q E hr h=>?_)
 ·obtain ⟨a,as,h,x,L,rfl,_⟩:=h
  rfl
 obtain ⟨a,as,h,x,L,rfl,ha,tb,hx,h12,lt,q⟩:=h
 refine ⟨_,((@Ao _ _ (2) _ _ _ _ Bh.nd rfl (Or.inr rfl) (@Bm _ _ _ _ _ _ _ _ _ Bk (by rfl) T.z_list PyProof.Rows.boot_list ((@Al _ _ _ _ _ _ _ A3 (pv 0) (pv 1) (fun _ _=>rfl))*>Ae) (by decide) (by decide) (by rfl) (by rfl)) (by rfl) (by nofun))>>((Dm (j:=3) (fsc:=Ac AO) (N:=["leads","x","best","before","left","through","hand","link"]) (Nc:=["leads","x","best","before","left","through",".s6","link","hand"]) rfl rfl (by nofun) rfl Bh.nd rfl rfl (A5 (pv 0)) (fun _ _ _ _=>AF) (fun _ _ _ _=>(pv 1)) rfl)>>((Dm (j:=4) (fsc:=Ac AO) (N:=["leads","x","best","before","left","through","hand","link"]) (Nc:=["leads","x","best","before","left","through",".s6","link","hand"]) rfl rfl (by nofun) rfl Bh.nd rfl rfl (A5 (@Aj _ _ _ _ _ _ _ _ _ _ _ _ _ _ _ _ (Ed T) (hr.mono (by decide)) rfl T.m_hands_of T.F_hands_of.kp T.b_hands_of .nil Ar ((pv 0)*>Ae) (by decide) (by rfl) (by rfl))) (fun _ _ _ _=>(CM (@Ay _ _ _ _ _ _ _ _ GU (pv 8) (pv 1) (Ax _)))) (fun _ _ _ _=>(pv 8)) rfl)>>((Eh PassesOwn.never (@Ay _ _ _ _ _ _ _ _ (EC (K:=K) hr.units) (pv 4) (@Bf _ _ _ _ Ae) (Ax _)) ((@Ao _ _ (5) _ _ _ _ Bh.nd rfl (Or.inl rfl) (Mp (fsc:=Ac AO) (N:=["leads","x","best","before","left","through","hand","link"]) (Nc:=["leads","x","best","before","left","through",".s6","link","hand"]) (x:="hand") rfl T.lam (hcd.symm.trans T.lcode) (hr.mono (by decide)) rfl T.z_max rfl rfl (by nofun) rfl rfl (pv 4) (fun _ _ _ _ _=>(@Al _ _ _ _ _ _ _ (AD K) (pv 2) (pv 8) (fun _ _=>rfl)))) (by rfl) (by nofun))>>((@Ci _ _ _ _ (Dw PySem.F.plainAttrs_list PySem.F.slot_list_remove PySem.F.type_list_remove IB (pv 4) ((pv 5)*>Ae)) (by rfl))>>(@Ah _ _ _ (B9 PassesOwn.never rfl (A5 (pv 4)) (AA (i:=6) Bh.nd rfl (Or.inl rfl)) ((@Ao _ _ (7) _ _ _ _ Bh.nd rfl (Or.inl rfl) (@At _ _ _ _ _ _ _ _ _ (Id rfl) (by rfl) T.z_min PyProof.Rows.boot_min ((@Al _ _ _ _ _ _ _ A3 (pv 2) (pv 5) (fun _ _=>rfl))*>((@Al _ _ _ _ _ _ _ A3 (@Al _ _ _ _ _ _ _ A3 (pv 0) (pv 5) (fun _ _=>rfl)) (pv 6) (fun _ _=>rfl))*>Ae)) (by decide) (by decide) (by rfl) (by rfl)) (by rfl) (by nofun))>>(@Ah _ _ _ (@Da _ _ _ _ _ _ _ _ (@Ay _ _ _ _ _ _ _ _ GN (pv 7) (@Al _ _ _ _ _ _ _ A3 (pv 2) (pv 6) (fun _ _=>rfl)) (Ax _)) ((Fy (pv 7) (GF (pv 2) (pv 6) En))>>(@Ah _ _ _ (Fy (pv 5) (GF (pv 3) (pv 6) En)))) AK))))))))>>(@Ah _ _ _ (@As _ _ _ _ (@CY _ _ _ _ _ ((pv 2)*>((pv 3)*>Ae))))))))),?_⟩
 obtain ⟨ax,_,_,x3,x4⟩:=tb.row hx
 refine ⟨_,rfl,_,rfl,a,_,_,_,rfl,rfl,SqL.of ha,x3,?_⟩
 refine ⟨ax,_,rfl,.inl (SqL.of x4),fun b hb=>?_⟩
 obtain ⟨be0,ebe⟩:∃be0,be0=(List.range h).map fun y=>L x y:=⟨_,rfl⟩
 rw [<- ebe]
 have s1:=Ad hb (.lst (be0.map V.int))
 have e1:(upd H b (.lst (be0.map V.int))) b=some (.lst (be0.map V.int)):=Ab
 generalize upd H b (.lst (be0.map V.int))=H1 at s1 e1 ⊢
 and_intros
 refine ⟨⟨_,SqL.of (s1 _ _ ha)⟩,?_⟩
 refine AB (xs:=as.map V.ref) (by rw [length_map,tb.1];exact Av (by omega)) (fun D i ys J=>ys=(List.replicate i (x:Int)).map V.int/\J=upd H1 D (.lst ys)) (fun D hD=>⟨rfl,rfl⟩) (fun D i ys J ⟨f1,f2⟩=>⟨by rw [f2];exact Ab,by rw [f1,length_map,length_replicate];exact Nat.le_refl _⟩) (fun D i ys J hD ⟨_,f2⟩=>by rw [f2];exact SqL.of (Ad hD _ _ _ (s1 _ _ ha))) ?_ ?_
 ·rintro D i y ys J K1 K2 hD hy ⟨f1,rfl⟩ k1 k2
  refine yes (ifT rfl ?_)
  refine ⟨_,rfl,?_⟩
  refine k1 _ _ Ab ⟨?_,by rw [AT]⟩
  rw [f1,replicate_succ',map_append]
  rfl
 rintro f ys H2 hf ⟨rfl,rfl⟩
 rw [length_map,tb.1]
 have fb:f≠b:=fun z=>by rw [z,e1] at hf;cases hf
 have hfH:=none_of s1 hf
 have s2:=s1.trans (Ad hf (.lst ((List.replicate h (x:Int)).map V.int)))
 have e2:(upd H1 f (.lst ((List.replicate h (x:Int)).map V.int))) f=some (.lst ((List.replicate h (x:Int)).map V.int)):=Ab
 have b2:=Ad hf (.lst ((List.replicate h (x:Int)).map V.int)) _ _ e1
 generalize upd H1 f (.lst ((List.replicate h (x:Int)).map V.int))=H2 at s2 e2 b2 ⊢
 and_intros
 have tb2:=tb.same s2
 refine ⟨a,Jx as h L,h,rfl,(by rw [tb2.vtb];exact s2 _ _ ha),tb2.good.1,h12,fun l0 H3 hl0 s3 e3=>?_⟩
 have b3:=s3 _ _ b2
 have f3:=s3 _ _ e2
 have s3:=s2.trans s3
 and_intros
 refine ⟨⟨_,SqL.of e3⟩,?_⟩
 refine AB (xs:=(ups h).map V.int) (by rw [length_map,BH];exact Av (by omega)) (fun D i ys J=>ys=(CA i x).map V.int/\J=upd H3 D (.lst ys)) (fun D hD=>⟨rfl,rfl⟩) (fun D i ys J ⟨g1,g2⟩=>⟨by rw [g2];exact Ab,by rw [g1,length_map];unfold CA;rw [length_map];exact Nat.le_trans (length_filter_le _ _) (by rw [length_range];exact Nat.le_refl _)⟩) (fun D i ys J hD ⟨_,g2⟩=>by rw [g2];exact SqL.of (Ad hD _ _ _ e3)) ?_ ?_
 ·rintro D i y ys J K1 K2 hD hy ⟨g1,rfl⟩ k1 k2
  obtain ⟨z,hz,rfl⟩:=int_at hy
  obtain ⟨rfl,hi⟩:=IH hz
  and_intros
  by_cases c:i=x
  ·refine ifF (KW (by rw [c])) ?_
   exact k2 _ ⟨by rw [g1,E1,if_pos c,append_nil],rfl⟩
  ·refine ifT (Ow fun e=>c (Int.ofNat.inj e)) ?_
   refine ⟨_,rfl,?_⟩
   exact k1 _ _ Ab ⟨by rw [g1,E1,if_neg c,map_append];rfl,by rw [AT]⟩
 rintro l ys H4 hl ⟨rfl,rfl⟩
 rw [length_map,BH]
 have lb:l≠b:=fun z=>by rw [z,b3] at hl;cases hl
 have lf:l≠f:=fun z=>by rw [z,f3] at hl;cases hl
 have hlH:=none_of s3 hl
 have sn:=Ad hl (.lst ((CA h x).map V.int))
 have e4:(upd H3 l (.lst ((CA h x).map V.int))) l=some (.lst ((CA h x).map V.int)):=Ab
 have b4:=sn _ _ b3
 have f4:=sn _ _ f3
 have s4:=s3.trans sn
 generalize upd H3 l (.lst ((CA h x).map V.int))=H4 at s4 e4 b4 f4 ⊢
 have bl:=HY hx
 refine ⟨fun m σ' H'=>∃(v5 v6 v7:Option V) (be bf left:List Int) (rk:Nat->Nat),σ'=[some (V.ref a),some (.int (x:Int)),some (.ref b),some (.ref f),some (.ref l),v5,v6,v7]/\Sm H H'/\(CP ad.lP h H->Aq H H')/\LT ad.lP H'/\(left.length+1=h\/L1 ad.lP H')/\H' b=some (.lst (be.map V.int))/\H' f=some (.lst (bf.map V.int))/\H' l=some (.lst (left.map V.int))/\Dij h x L be bf left rk/\left.length=m,
  ⟨_,none,none,none,be0,List.replicate h (x:Int),CA h x,fun _=>0,rfl,Sm.of s4,(fun _=>s4),lt.same s4,.inl bl,b4,f4,e4,(by rw [ebe];exact Dij.start hx L),rfl⟩,?_⟩
 rintro m σ' H' ⟨v5,v6,v7,be,bf,left,rk,rfl,sm,sq,lt',l1,eb,ef,el,dj,lm⟩
 refine ⟨_,rfl,(by show 0<=sizeLine;decide),fun z3 hz3=>?_⟩
 have sz:=Ad hz3 (.lst [])
 have ez:(upd H' z3 (.lst [])) z3=some (.lst (([]:List Int).map V.int)):=Ab
 generalize upd H' z3 (.lst [])=H5 at sz ez ⊢
 have eb:=sz _ _ eb
 have ef:=sz _ _ ef
 have el:=sz _ _ el
 have sm:=sm.trans (Sm.of sz)
 have sq:CP ad.lP h H->Aq H H5:=fun z=>(sq z).trans sz
 have lt':=lt'.same sz
 have l1:left.length+1=h\/L1 ad.lP H5:=l1.imp id fun z=>z.same sz
 refine ⟨.list (left.map .int),.list (([]:List Int).map .int),.lst (SqL.of el) (.ints _),.lst (SqL.of ez) (.ints []),(AR _).2,(AR _).2,?_⟩
 rw [show PyData.eqv (.list (left.map .int)) (.list (([]:List Int).map .int))=decide (left=[]) from BK _ _]
 refine ⟨_,rfl,?_⟩
 by_cases cl:left=[]
 ·refine ifF (by rw [decide_eq_true cl];rfl) ?_
  subst cl
  and_intros
  refine ⟨(by show 2<=sizeLine;decide),fun t ht=>?_⟩
  have st:=Ad ht (.tup [V.ref b,V.ref f])
  have l1':h=1\/L1 ad.lP H5:=l1.imp (fun z=>by rw [length_nil] at z;omega) id
  exact q t b f be bf _ (sm.trans (Sm.of st)) (fun z=>(sq z).trans st) (CP.same ⟨lt',l1'⟩ st) (sm.gone t ht) hb hfH (Ne.symm fb) Ab (st _ _ eb) (st _ _ ef) dj.done
 ·refine ifT (by rw [decide_eq_false cl];rfl) ?_
  have pl:0 < left.length:=length_pos_iff.mpr cl
  refine ⟨fun σ' H'=>∃(v5 v6 v7:Option V) (be bf left:List Int) (rk:Nat->Nat),σ'=[some (V.ref a),some (.int (x:Int)),some (.ref b),some (.ref f),some (.ref l),v5,v6,v7]/\Sm H H'/\(CP ad.lP h H->Aq H H')/\LT ad.lP H'/\(left.length+1=h\/L1 ad.lP H')/\H' b=some (.lst (be.map V.int))/\H' f=some (.lst (bf.map V.int))/\H' l=some (.lst (left.map V.int))/\Dij h x L be bf left rk/\left.length=m - 1,fun σ' H' e=>⟨m - 1,by omega,e⟩,?_⟩
  and_intros
  refine ⟨l,left.map V.int,fun i=>be.getD (left.getD i 0).toNat 0,rfl,by rw [length_map];exact pl,lt',fun H6 q1 q2 q3 q4=>?_⟩
  have s56:=QL lt' q2 q4
  have eb:=s56.lst eb
  have ef:=s56.lst ef
  have el:=s56.lst el
  have sm:=sm.trans s56
  have lsub:∀{i:Nat} {z:Int},left[i]?=some z->∃y:Nat,z=(y:Int)/\y < h/\y≠x/\left.getD i 0=(y:Int):=fun {i z} e=>by
   obtain ⟨y,a1,a2,a3⟩:=dj.sub z (mem_of_getElem? e)
   exact ⟨y,a3,a1,a2,by rw [getD_eq_getElem?_getD,e];exact a3⟩
  have sq:CP ad.lP h H->Aq H H6:=fun z=>by
   have l1':L1 ad.lP H5:=by
    rcases (CP.same z (sq z)).2 with c | c
    ·have:=dj.sub _ (mem_of_getElem? (List.getElem?_eq_getElem pl))
     obtain ⟨y,a1,a2,_⟩:=this
     omega
    ·exact c
   rw [<- q3 l1']
   exact sq z
  clear q2 q3 q4 s56
  refine ⟨SqL.of el,fun i w hw=>?_,fun i w hw bst=>?_⟩
  ·obtain ⟨z,hz,rfl⟩:=int_at hw
   obtain ⟨y,rfl,hy,_,ey⟩:=lsub hz
   refine ⟨_,rfl,_,rfl,b,_,_,_,rfl,rfl,SqL.of eb,atG (by rw [dj.lenb];exact hy),?_⟩
   refine ⟨?_,rfl⟩
   show V.int (be.getD y 0)=V.int (be.getD (left.getD i 0).toNat 0)
   rw [ey]
   rfl
  obtain ⟨z,hz,rfl⟩:=int_at hw
  obtain ⟨t,rfl,hth,htx,et⟩:=lsub hz
  have tm:=mem_of_getElem? hz
  have best:∀y:Nat,(y:Int)∈left->be.getD y 0<=be.getD t 0:=fun y my=>by
   obtain ⟨j,hj⟩:=List.getElem?_of_mem my
   have jl:=(List.getElem?_eq_some_iff.mp hj).1
   have:=(bst j (by rw [length_map];exact jl)).1
   dsimp only at this
   rw [et,getD_eq_getElem?_getD (l:=left),hj] at this
   exact this
  clear bst
  and_intros
  refine ⟨.inl ⟨rfl,_,SqL.of el⟩,?_⟩
  and_intros
  refine ⟨l,left,(t:Int),rfl,rfl,el,tm,?_⟩
  rw [<- FK]
  have lme:(left.erase (t:Int)).length=left.length - 1:=length_erase_of_mem tm
  obtain ⟨lf2,elf⟩:∃lf2,lf2=left.erase (t:Int):=⟨_,rfl⟩
  rw [<- elf]
  have sub2:∀z∈lf2,∃y:Nat,y < h/\z=(y:Int):=fun z m=>by
   rw [elf] at m
   obtain ⟨y,a1,_,a3⟩:=dj.sub z (mem_of_mem_erase m)
   exact ⟨y,a1,a3⟩
  have nd2:lf2.Nodup:=by rw [elf];exact dj.nd.erase _
  have nt2:(t:Int) ∉ lf2:=fun m=>by rw [elf] at m;exact (dj.nd.mem_erase_iff.mp m).1 rfl
  rw [<- elf] at lme
  have k1:∀{c:Addr} {xs:List V},H6 c=some (.lst xs)->c≠l->(upd H6 l (.lst (lf2.map V.int))) c=some (.lst xs):=fun e n=>by rw [Ai n];exact e
  have el':(upd H6 l (.lst (lf2.map V.int))) l=some (.lst (lf2.map V.int)):=Ab
  have eb':=k1 eb (Ne.symm lb)
  have ef':=k1 ef (Ne.symm lf)
  have sm':=sm.put (o:=.lst (lf2.map V.int)) hlH
  have sq':CP ad.lP h H->Aq H (upd H6 l (.lst (lf2.map V.int))):=fun z=>Aw (sq z) hlH
  have l1':L1 ad.lP (upd H6 l (.lst (lf2.map V.int))):=E3.put q1 el
  generalize upd H6 l (.lst (lf2.map V.int))=H7 at el' eb' ef' sm' sq' l1' ⊢
  clear k1
  and_intros
  refine ⟨⟨_,SqL.of el'⟩,BD (xs:=lf2.map V.int) (fun k σ' H'=>∃(v6 v7:Option V) (be' bf':List Int),σ'=[some (V.ref a),some (.int (x:Int)),some (.ref b),some (.ref f),some (.ref l),some (.int (t:Int)),v6,v7]/\Sm H H'/\(CP ad.lP h H->Aq H H')/\L1 ad.lP H'/\H' b=some (.lst (be'.map V.int))/\H' f=some (.lst (bf'.map V.int))/\H' l=some (.lst (lf2.map V.int))/\Upd h t L be bf (lf2.take k) be' bf') ⟨_,_,be,bf,rfl,sm',sq',l1',eb',ef',el',Upd.nil dj.lenb dj.lenf⟩ (fun k σ' H' _ ⟨_,_,_,_,_,_,_,_,_,_,e,_⟩=>SqL.of e) ?_ ?_⟩
  ·rintro k w σ' H' hw ⟨v6,v7,be',bf',rfl,sm8,sq8,l18,eb8,ef8,el8,ud⟩
   obtain ⟨z,hz,rfl⟩:=int_at hw
   obtain ⟨y,hy,rfl⟩:=sub2 z (mem_of_getElem? hz)
   obtain ⟨ek,nk⟩:=IQ nd2 hz
   have lb8:be'.length=h:=ud.1
   have lf8:bf'.length=h:=ud.2.1
   have bt:be'.getD t 0=be.getD t 0:=ud.at hth fun m=>nt2 (mem_of_mem_take m)
   have by':be'.getD y 0=be.getD y 0:=ud.at hy nk
   obtain ⟨at8,_,_,r3,r4⟩:=(tb.sm sm8).row hth
   have ha8:=sm8.lst ha
   and_intros
   refine ⟨b,_,_,_,rfl,rfl,SqL.of eb8,atG (by omega),?_⟩
   refine ⟨_,rfl,_,rfl,a,_,_,_,rfl,rfl,SqL.of ha8,r3,?_⟩
   refine ⟨_,rfl,at8,_,_,_,rfl,rfl,SqL.of r4,BC (L t) hy,?_⟩
   refine ⟨_,_,rfl,?_⟩
   rw [QT,bt]
   and_intros
   refine ⟨b,_,_,_,rfl,rfl,SqL.of eb8,atG (by omega),?_⟩
   and_intros
   rw [by']
   by_cases c:be.getD y 0 < min (be.getD t 0) (L t y)
   ·refine ifT (decide_eq_true c) ?_
    and_intros
    refine ⟨b,_,_,y,rfl,rfl,eb8,EY (by rw [length_map];omega),?_⟩
    rw [set_map]
    have ef9:(upd H' b (.lst ((be'.set y (min (be.getD t 0) (L t y))).map V.int))) f=some (.lst (bf'.map V.int)):=by rw [Ai fb];exact ef8
    have eb9:(upd H' b (.lst ((be'.set y (min (be.getD t 0) (L t y))).map V.int))) b=some (.lst ((be'.set y (min (be.getD t 0) (L t y))).map V.int)):=Ab
    have el9:(upd H' b (.lst ((be'.set y (min (be.getD t 0) (L t y))).map V.int))) l=some (.lst (lf2.map V.int)):=by rw [Ai lb];exact el8
    have sm9:=sm8.put (o:=.lst ((be'.set y (min (be.getD t 0) (L t y))).map V.int)) hb
    have sq9:CP ad.lP h H->Aq H (upd H' b (.lst ((be'.set y (min (be.getD t 0) (L t y))).map V.int))):=fun z=>Aw (sq8 z) hb
    have l19:L1 ad.lP (upd H' b (.lst ((be'.set y (min (be.getD t 0) (L t y))).map V.int))):=E3.put l18 eb8
    generalize upd H' b (.lst ((be'.set y (min (be.getD t 0) (L t y))).map V.int))=H9 at ef9 eb9 el9 sm9 sq9 l19 ⊢
    and_intros
    refine ⟨f,_,_,y,rfl,rfl,ef9,EY (by rw [length_map];omega),?_⟩
    rw [set_map]
    exact ⟨_,_,be'.set y (min (be.getD t 0) (L t y)),bf'.set y (t:Int),rfl,sm9.put hfH,(fun z=>Aw (sq9 z) hfH),E3.put l19 ef9,by rw [Ai (Ne.symm fb)];exact eb9,Ab,by rw [Ai lf];exact el9,by rw [ek];exact ud.put hy c⟩
   ·refine ifF (decide_eq_false c) ?_
    exact ⟨_,_,be',bf',rfl,sm8,sq8,l18,eb8,ef8,el8,by rw [ek];exact ud.skip c⟩
  ·rintro σ' H' ⟨v6,v7,be',bf',rfl,sm8,sq8,l18,eb8,ef8,el8,ud⟩
   rw [length_map,take_of_length_le (Nat.le_refl _),elf] at ud
   exact ⟨_,_,_,be',bf',lf2,_,rfl,sm8,sq8,.inr l18,.inr l18,eb8,ef8,el8,by rw [elf];exact dj.step hx tm best ud,by omega⟩
theorem MA (T:Tx K mg base ad):AN P w K mg base CX0 2 ad.f_cut_by ad.d_cut_by ["reached","x","y"] OR:=by
 refine T.F_cut_by.ok D7 (fun vs H Q E h=>?_) (fun cdv A outer s H vs Q E hr h=>?_)
 ·obtain ⟨t,h,x,y,L,be,rfl,_⟩:=h
  rfl
 obtain ⟨t,h,x,y,L,be,rfl,td,hx,hy,h12,q⟩:=h
 refine ⟨_,((@Ao _ _ (3) _ _ _ _ D7.nd rfl (Or.inl rfl) (@Aj _ _ _ _ _ _ _ _ _ _ _ _ _ _ _ _ (Gd T) (hr.mono (by decide)) rfl T.m_with_one T.F_with_one.kp T.b_with_one .nil Ar (Ag*>((pv 1)*>Ae)) (by decide) (by rfl) (by rfl)) (by rfl) (by nofun))>>((B9 PassesOwn.never rfl (OX rfl T.z_enumerate ((@Al _ _ _ _ _ _ _ AE (pv 0) Ag (fun _ _=>rfl))*>Ae)) (FH rfl (Bp (AA (i:=4) D7.nd rfl (Or.inl rfl)) (Bp (AA (i:=5) D7.nd rfl (Or.inl rfl)) Ew))) (@Ah _ _ _ (@Da _ _ _ _ _ _ _ _ (@Ay _ _ _ _ _ _ _ _ GN (pv 5) (@Al _ _ _ _ _ _ _ A3 (@Al _ _ _ _ _ _ _ AE (pv 0) Ag (fun _ _=>rfl)) (pv 2) (fun _ _=>rfl)) (Ax _)) (@Ah _ _ _ (@Ao _ _ (3) _ _ _ _ D7.nd rfl (Or.inl rfl) (@Aj _ _ _ _ _ _ _ _ _ _ _ _ _ _ _ _ (Gd T) (hr.mono (by decide)) rfl T.m_with_one T.F_with_one.kp T.b_with_one .nil Ar ((pv 3)*>((pv 4)*>Ae)) (by decide) (by rfl) (by rfl)) (by rfl) (by nofun))) AK)))>>(@Ah _ _ _ (@As _ _ _ _ (pv 3))))),?_⟩
 obtain ⟨b,f,bf,et,eb,ef,re⟩:=td.is
 have bl:=re.lenb
 and_intros
 refine ⟨0,(x:Int),rfl,by omega,by omega,?_⟩
 rw [show Builtin.bitOr 0 (1*2 ^ (x:Int).toNat)=A9 h (fun i=>decide (i=x)) from (by
  rw [Int.toNat_natCast,show (0:Int)=A9 h (fun _=>false) from (FP fun _ _=>rfl).symm,Qf _ hx]
  exact AS h fun i _=>by rw [Bool.false_or])]
 and_intros
 refine ⟨⟨_,SqL.of eb⟩,NC (xs:=be.map V.int) (fun i σ' H'=>∃v4 v5:Option V,σ'=[some (.ref t),some (.int (x:Int)),some (.int (y:Int)),some (.int (A9 h fun j=>decide (j=x) || (decide (j < i) && decide (be.getD y 0 < be.getD j 0)))),v4,v5]/\Aq H H') ⟨none,none,?_,fun _ _ e=>e⟩ (fun i σ' H' _ ⟨_,_,_,e⟩=>SqL.of (e _ _ eb)) ?_ ?_⟩
 ·rw [AS h (g:=fun j=>decide (j=x) || (decide (j < 0) && decide (be.getD y 0 < be.getD j 0))) (fun j _=>by rw [decide_eq_false (Nat.not_lt_zero j),Bool.false_and,Bool.or_false])]
  rfl
 ·rintro i w T0 σ' H' hw ⟨v4,v5,rfl,s1⟩ hT
  obtain ⟨z,hz,rfl⟩:=int_at hw
  have hi:i < be.length:=(List.getElem?_eq_some_iff.mp hz).1
  have ez:be.getD i 0=z:=by rw [getD_eq_getElem?_getD,hz];rfl
  have s2:=Ad hT (.tup [.int (i:Int),.int z])
  have eT:(upd H' T0 (.tup [.int (i:Int),.int z])) T0=some (.tup [.int (i:Int),.int z]):=Ab
  generalize upd H' T0 (.tup [.int (i:Int),.int z])=H2 at s2 eT ⊢
  have s12:=s1.trans s2
  refine ⟨T0,_,rfl,SqT.of eT,rfl,_,_,rfl,_,_,rfl,rfl,?_⟩
  have et2:=s12 _ _ et
  and_intros
  refine ⟨b,_,_,_,rfl,rfl,SqL.of (s12 _ _ eb),atG (by omega),?_⟩
  and_intros
  by_cases c:be.getD y 0 < z
  ·refine ifT (decide_eq_true c) ?_
   and_intros
   refine ⟨_,(i:Int),rfl,by omega,by omega,?_⟩
   rw [Int.toNat_natCast,Qf _ (by omega)]
   refine ⟨some (.int (i:Int)),some (.int z),?_,s12⟩
   have em:A9 h (fun j=>(decide (j=x) || (decide (j < i) && decide (be.getD y 0 < be.getD j 0))) || decide (j=i))=A9 h (fun j=>decide (j=x) || (decide (j < i+1) && decide (be.getD y 0 < be.getD j 0))):=AS h fun j _=>?_
   ·rw [em];rfl
   ·by_cases e:j=i
    ·subst e
     rw [decide_eq_true rfl,decide_eq_true (show j < j+1 by omega),ez,decide_eq_true c]
     simp
    ·rw [decide_eq_false e,Bool.or_false]
     by_cases d:j < i
     ·rw [decide_eq_true d,decide_eq_true (show j < i+1 by omega)]
     ·rw [decide_eq_false d,decide_eq_false (show ¬ j < i+1 by omega)]
  ·refine ifF (decide_eq_false c) ?_
   refine ⟨some (.int (i:Int)),some (.int z),?_,s12⟩
   have em:A9 h (fun j=>decide (j=x) || (decide (j < i) && decide (be.getD y 0 < be.getD j 0)))=A9 h (fun j=>decide (j=x) || (decide (j < i+1) && decide (be.getD y 0 < be.getD j 0))):=AS h fun j _=>?_
   ·rw [em];rfl
   ·by_cases e:j=i
    ·subst e
     rw [ez,decide_eq_false c,Bool.and_false,Bool.and_false]
    ·by_cases d:j < i
     ·rw [decide_eq_true d,decide_eq_true (show j < i+1 by omega)]
     ·rw [decide_eq_false d,decide_eq_false (show ¬ j < i+1 by omega)]
 ·rintro σ' H' ⟨v4,v5,rfl,s1⟩
  rw [length_map,bl]
  and_intros
  rw [AS h (g:=K3 x y be) (fun j hj=>?_)]
  ·exact q _ s1
  ·unfold K3
   rw [decide_eq_true hj,Bool.true_and,Bool.decide_or]
theorem MF (T:Tx K mg base ad):AN P w K mg base CX0 2 ad.f_is_cut ad.d_is_cut ["cut","x","y","hands"] MS:=by
 refine T.F_is_cut.ok Mj (fun vs H Q E h=>?_) (fun cdv A outer s H vs Q E hr h=>?_)
 ·obtain ⟨h,x,y,L,v,g,rfl,_⟩:=h
  rfl
 obtain ⟨h,x,y,L,v,g,rfl,co,h12,q⟩:=h
 refine ⟨_,(@Ah _ _ _ (@As _ _ _ _ (@Du _ _ _ _ _ _ _ (Ff Fr Fr Ag (pv 0) (@Aj _ _ _ _ _ _ _ _ _ _ _ _ _ _ _ _ (HV T) (hr.mono (by decide)) rfl T.m_all_of T.F_all_of.kp T.b_all_of .nil Ar ((pv 3)*>Ae) (by decide) (by rfl) (by rfl))) (@Du _ _ _ _ _ _ _ (@Aj _ _ _ _ _ _ _ _ _ _ _ _ _ _ _ _ (G6 T) (hr.mono (by decide)) rfl T.m_holds T.F_holds.kp T.b_holds .nil Ar ((pv 0)*>((pv 1)*>Ae)) (by decide) (by rfl) (by rfl)) (@DG _ _ _ _ _ (@NX _ _ _ _ (@Aj _ _ _ _ _ _ _ _ _ _ _ _ _ _ _ _ (G6 T) (hr.mono (by decide)) rfl T.m_holds T.F_holds.kp T.b_holds .nil Ar ((pv 0)*>((pv 2)*>Ae)) (by decide) (by rfl) (by rfl)))))))),?_⟩
 have m0:=CS h g
 have m1:=Gy h g
 have bt:∀i:Nat,i < h->bit (A9 h g) i=g i:=fun i hi=>by rw [BX,decide_eq_true hi,Bool.true_and]
 and_intros
 refine ifT (decide_eq_true m0) ?_
 refine ⟨_,rfl,(h:Int),rfl,by omega,by omega,?_⟩
 rw [Int.toNat_natCast]
 and_intros
 refine ifT (decide_eq_true (by omega)) ?_
 refine ⟨_,rfl,_,rfl,_,_,rfl,by omega,?_⟩
 rw [Int.toNat_natCast,bt x co.hx,co.gx]
 and_intros
 refine ⟨_,_,rfl,by omega,?_⟩
 rw [Int.toNat_natCast,bt y co.hy,co.gy]
 and_intros
 exact q
theorem FD (T:Tx K mg base ad):AN P w K mg base CX0 2 ad.f_greatest_link ad.d_greatest_link ["leads","cut"] MO:=by
 refine T.F_greatest_link.ok DC (fun vs H Q E h=>?_) (fun cdv A outer s H vs Q E hr h=>?_)
 ·obtain ⟨a,as,h,x,y,L,v,g,rfl,_⟩:=h
  rfl
 obtain ⟨a,as,h,x,y,L,v,g,rfl,ha,tb,co,h12,q⟩:=h
 refine ⟨_,((@Ao _ _ (2) _ _ _ _ DC.nd rfl (Or.inr rfl) (Bb (fsc:=Ac AJ) (N:=["leads","cut","outside"]) (Nc:=["leads","cut","outside","hand"]) rfl rfl (by nofun) rfl (A5 (@Aj _ _ _ _ _ _ _ _ _ _ _ _ _ _ _ _ (Ed T) (hr.mono (by decide)) rfl T.m_hands_of T.F_hands_of.kp T.b_hands_of .nil Ar ((pv 0)*>Ae) (by decide) (by rfl) (by rfl))) (fun _ _ _ _=>(CM (@Cj _ _ _ _ (@Cl _ _ _ (@Aj _ _ _ _ _ _ _ _ _ _ _ _ _ _ _ _ (G6 T) (hr.mono (by decide)) rfl T.m_holds T.F_holds.kp T.b_holds .nil Ar ((pv 1)*>((pv 3)*>Ae)) (by decide) (by rfl) (by rfl)) (by intro _;rfl))))) (fun _ _ _ _=>(pv 3))) (by rfl) (by nofun))>>(@Ah _ _ _ (@As _ _ _ _ (@At _ _ _ _ _ _ _ _ _ (Ir rfl) (by rfl) T.z_max PyProof.Rows.boot_max ((GB (fsc:=Ac AJ) (N:=["leads","cut","outside"]) (Nc:=["leads","cut","outside","hand"]) rfl rfl (by nofun) rfl (A5 (@Aj _ _ _ _ _ _ _ _ _ _ _ _ _ _ _ _ (EB T) (hr.mono (by decide)) rfl T.m_members T.F_members.kp T.b_members .nil Ar ((pv 1)*>Ae) (by decide) (by rfl) (by rfl))) (fun _ _ _ _=>AF) (fun _ _ _ _=>(@At _ _ _ _ _ _ _ _ _ (KS K rfl) (by rfl) T.z_max PyProof.Rows.boot_max ((by exact (FN (fsc:=Ac AJ) (Nc:=["leads","cut","outside","hand"]) (Nd:=["leads","cut","outside","hand","other"]) rfl (by nofun) rfl (Jv K (pv 2)) (fun _ _ _ _=>AF) (fun _ _ _ _=>(@Al _ _ _ _ _ _ _ (AD K) (@Al _ _ _ _ _ _ _ (AD K) (pv 0) (pv 3) (fun _ _=>rfl)) (pv 4) (fun _ _=>rfl)))))*>Ae) (by decide) (by decide) (by rfl) (by rfl))))*>Ae) (by decide) (by decide) (by rfl) (by rfl))))),?_⟩
 have al:(as.map V.ref).length=h:=by rw [length_map,tb.1]
 have ul:=BH h
 have m0:=CS h g
 have m1:=Gy h g
 have p3:(2:Int) ^ h<=4096:=by
  have a:(2:Nat) ^ h<=2 ^ 12:=Nat.pow_le_pow_right (by decide) h12
  have e:((2 ^ h:Nat):Int)=(2:Int) ^ h:=by simp
  omega
 have bt:∀i:Nat,i < h->bit (A9 h g) i=g i:=fun i hi=>by rw [BX,decide_eq_true hi,Bool.true_and]
 and_intros
 refine ⟨a,Jx as h L,h,rfl,(by rw [tb.vtb];exact ha),tb.good.1,h12,fun l0 H1 hl0 s1 e1=>?_⟩
 refine ⟨l0,rfl,⟨_,SqL.of e1⟩,?_⟩
 refine AB (xs:=(ups h).map V.int) (by rw [length_map,ul];exact Av (by omega)) (fun D i ys J=>ys=(hands i fun k=>!g k).map V.int/\J=upd H1 D (.lst ys)) (fun D hD=>⟨rfl,rfl⟩) (fun D i ys J ⟨f1,f2⟩=>⟨by rw [f2];exact Ab,by rw [f1,length_map];exact Dy _ _⟩) (fun D i ys J hD ⟨_,f2⟩=>by rw [f2];exact SqL.of (Ad hD _ _ _ e1)) ?_ ?_
 ·rintro D i u ys J K1 K2 hD hu ⟨f1,rfl⟩ k1 k2
  obtain ⟨z,hz,rfl⟩:=int_at hu
  obtain ⟨rfl,hi⟩:=IH hz
  have ms:=Di i fun k=>!g k
  and_intros
  refine ⟨_,_,rfl,by omega,?_⟩
  rw [Int.toNat_natCast,bt i hi]
  cases e:g i with
  | true =>
    rw [e,if_neg (by decide)] at ms
    refine ⟨_,rfl,?_⟩
    refine ifF rfl ?_
    exact k2 _ ⟨by rw [ms];exact f1,rfl⟩
  | false =>
    rw [e,if_pos (by decide)] at ms
    refine ⟨_,rfl,?_⟩
    refine ifT rfl ?_
    refine ⟨_,rfl,?_⟩
    refine k1 _ _ Ab ⟨?_,by rw [AT]⟩
    rw [ms,map_append,f1]
    rfl
 rintro o ys H2 ho ⟨rfl,rfl⟩
 rw [length_map,ul]
 have s2:=s1.trans (Ad ho (.lst ((hands h fun k=>!g k).map V.int)))
 have e2:(upd H1 o (.lst ((hands h fun k=>!g k).map V.int))) o=some (.lst ((hands h fun k=>!g k).map V.int)):=Ab
 generalize upd H1 o (.lst ((hands h fun k=>!g k).map V.int))=H2 at s2 e2 ⊢
 have omem:∀z∈hands h (fun k=>!g k),∃i:Nat,i < h/\g i=false/\z=(i:Int):=fun z m=>by
  obtain ⟨i,hi,b,e⟩:=DD.mp m
  exact ⟨i,hi,by simpa using b,e⟩
 have oy:(y:Int)∈hands h (fun k=>!g k):=DD.mpr ⟨y,co.hy,by rw [co.gy];rfl,rfl⟩
 have ol:=Dy h (fun k=>!g k)
 generalize hands h (fun k=>!g k)=zs at e2 omem oy ol ⊢
 and_intros
 refine ⟨m0,by omega,fun mp H3 hmp s3 e3=>?_⟩
 have imem:∀z∈hands 12 (bit (A9 h g)),∃i:Nat,i < h/\g i=true/\z=(i:Int):=fun z m=>by
  obtain ⟨i,hi,b,e⟩:=DD.mp m
  rw [BX] at b
  obtain ⟨b1,b2⟩:=Bool.and_eq_true_iff.mp b
  exact ⟨i,of_decide_eq_true b1,b2,e⟩
 have ix:(x:Int)∈hands 12 (bit (A9 h g)):=DD.mpr ⟨x,by have:=co.hx;omega,by rw [bt x co.hx];exact co.gx,rfl⟩
 have il:=Dy 12 (bit (A9 h g))
 generalize hands 12 (bit (A9 h g))=ws at e3 imem ix il ⊢
 have s23:=s2.trans s3
 have e23:=s3 _ _ e2
 refine ⟨mp,rfl,⟨_,SqL.of e3⟩,?_⟩
 refine AB (xs:=ws.map V.int) (by rw [length_map];exact Av (by omega)) (fun D i ys J=>∃vs:List Int,ys=vs.map V.int/\vs.length=i/\(∀z∈vs,z<=v)/\J D=some (.lst ys)/\Aq H3 J) (fun D hD=>⟨[],rfl,rfl,(fun z m=>nomatch m),Ab,Ad hD _⟩) (fun D i ys J ⟨vs,f1,f2,_,f3,_⟩=>⟨f3,by rw [f1,length_map,f2];exact Nat.le_refl _⟩) (fun D i ys J hD ⟨_,_,_,_,_,f2⟩=>SqL.of (f2 _ _ e3)) ?_ ?_
 ·rintro D i u ys J K1 K2 hD hu ⟨vs,rfl,f2,f3,f4,f5⟩ k1 k2
  obtain ⟨z,hz,rfl⟩:=int_at hu
  obtain ⟨i',hi',gi,rfl⟩:=imem z (mem_of_getElem? hz)
  refine yes (ifT rfl ?_)
  have sJ:=s23.trans f5
  refine ⟨_,rfl,o,rfl,⟨_,SqL.of (f5 _ _ e23)⟩,?_⟩
  refine AB (xs:=zs.map V.int) (by rw [length_map];exact Av (by omega)) (fun D2 k ys J2=>ys=((zs.take k).map fun z=>L i' z.toNat).map V.int/\J2=upd J D2 (.lst ys)) (fun D2 hD2=>⟨rfl,rfl⟩) (fun D2 k ys J2 ⟨f1,f2⟩=>⟨by rw [f2];exact Ab,by rw [f1,length_map,length_map];exact length_take_le _ _⟩) (fun D2 k ys J2 hD2 ⟨_,f2⟩=>by rw [f2];exact SqL.of (Ad hD2 _ _ _ (f5 _ _ e23))) ?_ ?_
  ·rintro D2 k u ys2 J2 L1 L2 hD2 hu2 ⟨g1,rfl⟩ l1 l2
   obtain ⟨z2,hz2,rfl⟩:=int_at hu2
   obtain ⟨j,hj,gj,rfl⟩:=omem z2 (mem_of_getElem? hz2)
   refine yes (ifT rfl ?_)
   have sD:=sJ.trans (Ad hD2 (.lst ys2))
   obtain ⟨ar,_,_,r3,r4⟩:=(tb.same sD).row hi'
   refine ⟨_,rfl,_,rfl,a,_,_,_,rfl,rfl,SqL.of (sD _ _ ha),r3,?_⟩
   refine ⟨_,rfl,ar,_,_,_,rfl,rfl,SqL.of r4,BC (L i') hj,?_⟩
   refine l1 _ _ Ab ⟨?_,by rw [AT]⟩
   rw [g1,take_add_one,hz2,map_append,map_append]
   rfl
  rintro D2 ys2 J2 hD2 ⟨g1,rfl⟩
  rw [length_map,take_of_length_le (Nat.le_refl _)] at g1
  subst g1
  have sD:=Ad hD2 (.lst ((zs.map fun z=>L i' z.toNat).map V.int))
  refine ⟨D2,_,rfl,SqL.of Ab,(by rw [length_map];exact length_pos_of_mem oy),fun M Mm Ma=>?_⟩
  have Mv:M<=v:=by
   obtain ⟨z,mz,rfl⟩:=mem_map.mp Mm
   obtain ⟨j,hj,gj,rfl⟩:=omem z mz
   exact co.le i' j hi' hj gi gj
  refine k1 _ _ (sD _ _ f4) ⟨vs++[M],by rw [map_append];rfl,by rw [length_append,f2];rfl,fun z m=>?_,Ab,Aw (f5.trans sD) hD⟩
  rcases mem_append.mp m with m | m
  ·exact f3 z m
  ·rw [mem_singleton.mp m];exact Mv
 rintro D ys H4 hD ⟨vs,rfl,f2,f3,f4,f5⟩
 rw [length_map] at f2
 refine ⟨D,_,rfl,SqL.of f4,(by rw [f2];exact length_pos_of_mem ix),fun M Mm Ma=>?_⟩
 exact q M _ (s23.trans f5) (f3 M Mm)
theorem IN (T:Tx K mg base ad):AN P w K mg base CX0 2 ad.f_are_hands ad.d_are_hands ["thing"] PJ:=by
 refine T.F_are_hands.ok IX (fun vs H Q E h=>?_) (fun cdv A outer s H vs Q E hr h=>?_)
 ·obtain ⟨n,rfl,_⟩:=h
  rfl
 obtain ⟨n,rfl,n0,n1,q⟩:=h
 refine ⟨_,(@Ah _ _ _ (@As _ _ _ _ (@Du _ _ _ _ _ _ _ (@Aj _ _ _ _ _ _ _ _ _ _ _ _ _ _ _ _ (El T) (hr.mono (by decide)) rfl T.m_is_whole T.F_is_whole.kp T.b_is_whole .nil Ar ((pv 0)*>Ae) (by decide) (by rfl) (by rfl)) (@DG _ _ _ _ _ (Ff Fr Fr Ag (pv 0) (IU (v:=.int 12) rfl T.k_MOST_HANDS ⟨_,rfl⟩)))))),?_⟩
 refine ⟨_,rfl,n,rfl,?_⟩
 and_intros
 refine ifT (decide_eq_true n0) ?_
 and_intros
 show Q (.bl (decide (n<=12))) H
 rw [decide_eq_true n1]
 exact q
theorem IP (T:Tx K mg base ad):AN P w K mg base CX0 2 ad.f_are_seats ad.d_are_seats ["thing"] PH:=by
 refine T.F_are_seats.ok Jp (fun vs H Q E h=>?_) (fun cdv A outer s H vs Q E hr h=>?_)
 ·obtain ⟨n,rfl,_⟩:=h
  rfl
 obtain ⟨n,rfl,n0,n1,q⟩:=h
 refine ⟨_,(@Ah _ _ _ (@As _ _ _ _ (@Du _ _ _ _ _ _ _ (@Aj _ _ _ _ _ _ _ _ _ _ _ _ _ _ _ _ (El T) (hr.mono (by decide)) rfl T.m_is_whole T.F_is_whole.kp T.b_is_whole .nil Ar ((pv 0)*>Ae) (by decide) (by rfl) (by rfl)) (@DG _ _ _ _ _ (Ff Fr Fr Ag (pv 0) (IU (v:=.int 60) rfl T.k_MOST_SEATS ⟨_,rfl⟩)))))),?_⟩
 refine ⟨_,rfl,n,rfl,?_⟩
 and_intros
 refine ifT (decide_eq_true n0) ?_
 and_intros
 show Q (.bl (decide (n<=60))) H
 rw [decide_eq_true n1]
 exact q
theorem JF (T:Tx K mg base ad):AN P w K mg base CX0 2 ad.f_are_lots ad.d_are_lots ["thing","hands"] (Qp K):=by
 refine T.F_are_lots.ok Kk (fun vs H Q E h=>?_) (fun cdv A outer s H vs Q E hr h=>?_)
 ·obtain ⟨l,ns,n,rfl,_⟩:=h
  rfl
 obtain ⟨l,ns,n,rfl,hl,pm,n12,q⟩:=h
 refine ⟨_,((@Da _ _ _ _ _ _ _ _ (@Cj _ _ _ _ (@Cl _ _ _ (@At _ _ _ _ _ _ _ _ _ Eg (by rfl) T.z_isinstance PyProof.Rows.boot_isinstance ((pv 0)*>((Ft (v:=.ty "list") rfl T.z_list PyProof.Rows.boot_list rfl)*>Ae)) (by decide) (by decide) (by rfl) (by rfl)) (by intro _;rfl))) (@Ah _ _ _ (@As _ _ _ _ Cz)) AK)>>(@Ah _ _ _ (@As _ _ _ _ (@Du _ _ _ _ _ _ _ (@At _ _ _ _ _ _ _ _ _ (GI rfl) (by rfl) T.z_all PyProof.Rows.boot_all ((Bb (fsc:=Ac Co) (N:=["thing","hands"]) (Nc:=["thing","hands","hand"]) rfl rfl (by nofun) rfl (A5 (pv 0)) (fun _ _ _ _=>AF) (fun _ _ _ _=>(@Aj _ _ _ _ _ _ _ _ _ _ _ _ _ _ _ _ (El T) (hr.mono (by decide)) rfl T.m_is_whole T.F_is_whole.kp T.b_is_whole .nil Ar ((pv 2)*>Ae) (by decide) (by rfl) (by rfl))))*>Ae) (by decide) (by decide) (by rfl) (by rfl)) (@DG _ _ _ _ _ (@BA _ _ _ _ _ _ _ _ (FO (K:=K) hr.units) (@At _ _ _ _ _ _ _ _ _ Je (by rfl) T.z_sorted PyProof.Rows.boot_sorted ((pv 0)*>Ae) (by decide) (by decide) (by rfl) (by rfl)) (C7 rfl (by rfl) T.z_list (by rfl) T.z_range (pv 1)) (Ax _))))))),?_⟩
 have nl:ns.length=n:=by rw [pm.length_eq,BH]
 refine ⟨_,rfl,_,_,_,_,rfl,DU.lst hl,HI,?_⟩
 and_intros
 refine ⟨⟨_,SqL.of hl⟩,?_⟩
 refine AB (xs:=ns.map V.int) (by rw [length_map];exact Av (by omega)) (fun D i ys H'=>ys=(List.replicate i true).map V.bl/\H'=upd H D (.lst ys)) (fun D hD=>⟨rfl,rfl⟩) (fun D i ys H' ⟨f1,f2⟩=>⟨by rw [f2];exact Ab,by rw [f1,length_map,length_replicate];exact Nat.le_refl _⟩) (fun D i ys H' hD ⟨_,f2⟩=>by rw [f2];exact SqL.of (Ad hD _ _ _ hl)) ?_ ?_
 ·rintro D i x ys H' K1 K2 hD hx ⟨f1,rfl⟩ k1 k2
  obtain ⟨z,hz,rfl⟩:=int_at hx
  refine yes (ifT rfl ?_)
  refine ⟨_,rfl,z,rfl,?_⟩
  refine k1 _ _ Ab ⟨?_,by rw [AT]⟩
  rw [f1,replicate_succ',map_append]
  rfl
 ·rintro D ys H' hD ⟨rfl,rfl⟩
  refine ⟨D,_,rfl,SqL.of Ab,?_⟩
  rw [show (List.replicate (ns.map V.int).length true).all id=true from all_eq_true.mpr fun b m=>(mem_replicate.mp m).2]
  have s1:=Ad hD (.lst ((List.replicate (ns.map V.int).length true).map V.bl))
  generalize upd H D (.lst ((List.replicate (ns.map V.int).length true).map V.bl))=H1 at s1 ⊢
  and_intros
  refine ⟨l,ns,rfl,SqL.of (s1 _ _ hl),by omega,fun a ms pa sa ha=>?_⟩
  have e:=QB pa sa pm
  subst e
  have s2:=Ad ha (.lst ((ups n).map V.int))
  have e2:(upd H1 a (.lst ((ups n).map V.int))) a=some (.lst ((ups n).map V.int)):=Ab
  generalize upd H1 a (.lst ((ups n).map V.int))=H2 at s2 e2 ⊢
  and_intros
  refine ⟨by omega,fun b hb=>?_⟩
  rw [<- Qi]
  have s3:=Ad hb (.lst ((ups n).map V.int))
  refine ⟨.list ((ups n).map .int),.list ((ups n).map .int),.lst (SqL.of (s3 _ _ e2)) (.ints _),.lst (SqL.of Ab) (.ints _),(AR _).2,(AR _).2,?_⟩
  rw [show PyData.eqv (.list ((ups n).map .int)) (.list ((ups n).map .int))=true from by show PyData.eqvAll _ _=true;rw [BK];exact decide_eq_true rfl]
  exact q _ ((s1.trans s2).trans s3)
theorem IO (T:Tx K mg base ad):AN P w K mg base CX0 2 ad.f_law_ranks ad.d_law_ranks ["_law_cell_here","_law_hands"] M0:=by
 refine T.F_law_ranks.ok C8 (fun vs H Q E h=>?_) (fun cdv A outer s H vs Q E hr h=>?_)
 ·obtain ⟨c,h,rfl,_⟩:=h
  rfl
 obtain ⟨c,h,rfl,c0,c1,h1,h12,q⟩:=h
 refine ⟨_,((@Ao _ _ (2) _ _ _ _ C8.nd rfl (Or.inl rfl) (@Aj _ _ _ _ _ _ _ _ _ _ _ _ _ _ _ _ (Db T) (hr.mono (by decide)) rfl T.m_law_mixed T.F_law_mixed.kp T.b_law_mixed .nil Ar ((pv 0)*>(Ag*>Ae)) (by decide) (by rfl) (by rfl)) (by rfl) (by nofun))>>((@Da _ _ _ _ _ _ _ _ (@Ay _ _ _ _ _ _ _ _ G8 (Be<&>((pv 2)<|>Ag)) Ag (Ax _)) ((@Ao _ _ (3) _ _ _ _ C8.nd rfl (Or.inr rfl) (@Aj _ _ _ _ _ _ _ _ _ _ _ _ _ _ _ _ (EQ T) (hr.mono (by decide)) rfl T.m_law_order T.F_law_order.kp T.b_law_order .nil Ar ((Bs<&>((pv 2)<|>Ag))*>((pv 1)*>Ae)) (by decide) (by rfl) (by rfl)) (by rfl) (by nofun))>>((@Ao _ _ (4) _ _ _ _ C8.nd rfl (Or.inr rfl) (@Al _ _ _ _ _ _ _ A3 (@Bf _ _ _ _ ((pv 1)*>((Be<&>((Bs<&>((pv 2)<|>Ag))<|>(AX<&>((pv 1)<|>Ag))))*>Ae))) (Be<&>((Bs<&>((pv 2)<|>Ag))<|>Ag)) (fun _ _=>rfl)) (by rfl) (by nofun))>>(@Ah _ _ _ (@As _ _ _ _ (Bb (fsc:=Ac B7) (N:=["_law_cell_here","_law_hands","_law_number","_law_order_here","_law_most","_law_spread"]) (Nc:=["_law_cell_here","_law_hands","_law_number","_law_order_here","_law_most","_law_spread","_law_hand"]) rfl rfl (by nofun) rfl (AG rfl T.z_range ((pv 1)*>Ae)) (fun _ _ _ _=>AF) (fun _ _ _ _=>(DK<&>((@Bm _ _ _ _ _ _ _ _ _ MJ (by rfl) T.z_int PyProof.Rows.boot_int ((@BA _ _ _ _ _ _ _ _ G8 (@Al _ _ _ _ _ _ _ (AD K) (pv 3) (pv 6) (fun _ _=>rfl)) (pv 4) (Ax _))*>Ae) (by decide) (by decide) (by rfl) (by rfl))<|>(AX<&>((@Al _ _ _ _ _ _ _ (AD K) (pv 3) (pv 6) (fun _ _=>rfl))<|>Ag)))))))))) AK)>>((@Ao _ _ (5) _ _ _ _ C8.nd rfl (Or.inr rfl) (AX<&>(Ag<|>(Be<&>((Bs<&>((pv 2)<|>Ag))<|>Ag)))) (by rfl) (by nofun))>>(@Ah _ _ _ (@As _ _ _ _ (Bb (fsc:=Ac B7) (N:=["_law_cell_here","_law_hands","_law_number","_law_order_here","_law_most","_law_spread"]) (Nc:=["_law_cell_here","_law_hands","_law_number","_law_order_here","_law_most","_law_spread","_law_hand"]) rfl rfl (by nofun) rfl (AG rfl T.z_range ((pv 1)*>Ae)) (fun _ _ _ _=>AF) (fun _ _ _ _=>(Be<&>((@Aj _ _ _ _ _ _ _ _ _ _ _ _ _ _ _ _ (Db T) (hr.mono (by decide)) rfl T.m_law_mixed T.F_law_mixed.kp T.b_law_mixed .nil Ar ((pv 0)*>((AX<&>(Ag<|>(pv 6)))*>Ae)) (by decide) (by rfl) (by rfl))<|>(pv 5)))))))))),?_⟩
 obtain ⟨n,rfl⟩:∃n:Nat,h=(n:Int):=⟨h.toNat,by omega⟩
 have szc:Sz 200 c:=(QG c0 c1).mono (by decide)
 and_intros
 refine ⟨c,1,rfl,szc,szd 64,fun z z0 z1=>?_⟩
 have d64:=NA z0 (show (1:Int)<=64 by decide) z1
 and_intros
 refine NM (fun _=>?_) (fun _=>?_)
 ·and_intros
  refine ⟨z.fdiv 64,(n:Int),rfl,d64.1,Int.lt_trans d64.2 (by decide),h1,h12,fun o ns H1 s1 e1 pm=>?_⟩
  rw [Int.toNat_natCast] at pm
  have nl:ns.length=n:=by rw [pm.length_eq,BH]
  have nm:∀x∈ns,0<=x/\x < n:=fun x m=>by
   have:=pm.mem_iff.mp m
   unfold ups at this
   obtain ⟨i,hi,rfl⟩:=mem_map.mp this
   have:=mem_range.mp hi
   omega
  and_intros
  refine ⟨(by show (_:Int)≠0;omega),?_⟩
  have m2:=By (z.fdiv 2) (show (0:Int) < 2 by decide)
  refine ⟨(by show 2<=sizeLine;decide),fun b2 hb2=>?_⟩
  dsimp only
  have s2:=s1.trans (Ad hb2 (.lst [V.int n,V.int ((z.fdiv 8).fmod (n+1))]))
  have e2:(upd H1 b2 (.lst [V.int n,V.int ((z.fdiv 8).fmod (n+1))])) b2=some (.lst [V.int n,V.int ((z.fdiv 8).fmod (n+1))]):=Ab
  have eo:=Ad hb2 (.lst [V.int n,V.int ((z.fdiv 8).fmod (n+1))]) _ _ e1
  generalize upd H1 b2 (.lst [V.int n,V.int ((z.fdiv 8).fmod (n+1))])=H2 at s2 e2 eo ⊢
  and_intros
  obtain ⟨v,hv⟩:∃v:Int,atI [V.int (n:Int),V.int ((z.fdiv 8).fmod (n+1))] ((z.fdiv 2).fmod 2)=some (.int v):=by
   rcases (by omega:(z.fdiv 2).fmod 2=0\/(z.fdiv 2).fmod 2=1) with e | e
   ·rw [e];exact ⟨_,rfl⟩
   ·rw [e];exact ⟨_,rfl⟩
  refine ⟨b2,_,_,_,rfl,rfl,SqL.of e2,hv,?_⟩
  and_intros
  refine ⟨by omega,by omega,?_⟩
  rw [Int.toNat_natCast]
  refine AQ (Av (by omega)) (fun D i ys J=>∃us:List Int,ys=us.map V.int/\us.length=i/\(∀u∈us,0<=u/\u<=12)/\J=upd H2 D (.lst ys)) (fun D hD=>⟨[],rfl,rfl,(fun _ m=>nomatch m),rfl⟩) (fun D i ys J ⟨us,g1,g2,_,g3⟩=>⟨by rw [g3];exact Ab,by rw [g1,length_map,g2];exact Nat.le_refl _⟩) ?_ ?_
  ·rintro D i ys J K1 K2 hD hi ⟨us,rfl,g2,g3,rfl⟩ k1 k2
   have e0:(0:Int)+(i:Int)=(i:Int):=Int.zero_add _
   have eo':=Ad hD (.lst (us.map V.int)) _ _ eo
   have ni:=nm _ (getElem_mem (show i < ns.length by omega))
   have gi:atI (ns.map V.int) (0+(i:Int))=some (.int ns[i]):=by rw [e0];exact atN (List.getElem?_eq_getElem (by omega))
   refine yes (ifT rfl ?_)
   refine ⟨_,rfl,_,rfl,o,_,_,_,rfl,rfl,SqL.of eo',gi,_,rfl,_,_,rfl,rfl,.inr ⟨_,rfl,?_⟩⟩
   have b01:∀b:Bool,(0:Int)<=(if b=true then 1 else 0)/\(if b=true then (1:Int) else 0)<=1:=fun b=>by cases b <;> decide
   have hb:=b01 (decide (ns[i] < v))
   generalize (if decide (ns[i] < v)=true then (1:Int) else 0)=y at hb ⊢
   have szy:Sz 64 y:=Ef (by omega) (by omega)
   have szn:Sz 64 (ns[i]+1):=Ef (by omega) (by omega)
   refine ⟨_,rfl,_,rfl,o,_,_,_,rfl,rfl,SqL.of eo',gi,_,_,rfl,rfl,_,_,rfl,rfl,⟨_,_,szy,szn,by decide +kernel⟩,?_⟩
   refine k1 _ _ Ab ⟨us++[y*(ns[i]+1)],by rw [map_append];rfl,by rw [length_append,g2];rfl,fun u m=>?_,by rw [AT]⟩
   rcases mem_append.mp m with m | m
   ·exact g3 u m
   ·rw [mem_singleton.mp m]
    rcases (by omega:y=0\/y=1) with e | e
    ·rw [e,Int.zero_mul];omega
    ·rw [e,Int.one_mul];omega
  ·rintro D ys J hD ⟨us,rfl,g2,g3,rfl⟩
   exact q D us _ (none_of s2 hD) (s2.trans (Ad hD _)) Ab ⟨by omega,g3⟩
 ·and_intros
  refine ⟨by omega,by omega,?_⟩
  rw [Int.toNat_natCast]
  have m4:=By (z.fdiv 8) (show (0:Int) < 4 by decide)
  dsimp only
  refine AQ (Av (by omega)) (fun D i ys J=>∃us:List Int,ys=us.map V.int/\us.length=i/\(∀u∈us,0<=u/\u<=12)/\J=upd H D (.lst ys)) (fun D hD=>⟨[],rfl,rfl,(fun _ m=>nomatch m),rfl⟩) (fun D i ys J ⟨us,g1,g2,_,g3⟩=>⟨by rw [g3];exact Ab,by rw [g1,length_map,g2];exact Nat.le_refl _⟩) ?_ ?_
  ·rintro D i ys J K1 K2 hD hi ⟨us,rfl,g2,g3,rfl⟩ k1 k2
   refine yes (ifT rfl ?_)
   and_intros
   refine ⟨c,20+(0+(i:Int)),rfl,szc,Ef (by omega) (by omega),fun y y0 y1=>?_⟩
   have my:=By y (show (0:Int) < 2+(z.fdiv 8).fmod 4 by omega)
   and_intros
   refine ⟨(by show (_:Int)≠0;omega),?_⟩
   refine k1 _ _ Ab ⟨us++[y.fmod (2+(z.fdiv 8).fmod 4)],by rw [map_append];rfl,by rw [length_append,g2];rfl,fun u m=>?_,by rw [AT]⟩
   rcases mem_append.mp m with m | m
   ·exact g3 u m
   ·rw [mem_singleton.mp m];omega
  ·rintro D ys J hD ⟨us,rfl,g2,g3,rfl⟩
   exact q D us _ hD (Ad hD _) Ab ⟨by omega,g3⟩
theorem Fb (T:Tx K mg base ad):AN P w K mg base CX0 2 ad.f_law_sheet ad.d_law_sheet ["_law_votes_here"] Nk:=by
 refine T.F_law_sheet.ok Cy (fun vs H Q E h=>?_) (fun cdv A outer s H vs Q E hr h=>?_)
 ·obtain ⟨l,vo,h,rfl,_⟩:=h
  rfl
 obtain ⟨l,vo,h,rfl,hl,g0,l24,nv,h12,q⟩:=h
 refine ⟨_,((@Ao _ _ (1) _ _ _ _ Cy.nd rfl (Or.inr rfl) N5 (by rfl) (by nofun))>>((B9 PassesOwn.never rfl (A5 (pv 0)) (FH rfl (Bp (AA (i:=2) Cy.nd rfl (Or.inl rfl)) (Bp (AA (i:=3) Cy.nd rfl (Or.inl rfl)) Ew))) ((@Ao _ _ (4) _ _ _ _ Cy.nd rfl (Or.inl rfl) (@Aj _ _ _ _ _ _ _ _ _ _ _ _ _ _ _ _ (Km T) (hr.mono (by decide)) rfl T.m_law_slip T.F_law_slip.kp T.b_law_slip .nil Ar ((pv 2)*>Ae) (by decide) (by rfl) (by rfl)) (by rfl) (by nofun))>>(@Ah _ _ _ (LG (u1 hr.units) (pv 1) (pv 4) (AX<&>((JX (u1 hr.units) (pv 1) (pv 4) Ag ⟨rfl,rfl,rfl,rfl⟩)<|>(pv 3))) rfl))))>>(@Ah _ _ _ (@As _ _ _ _ (Bb (fsc:=Ac BQ) (N:=["_law_votes_here","_law_many","_law_ranks_here","_law_number","_law_slip_here"]) (Nc:=["_law_votes_here","_law_many","_law_ranks_here","_law_number",".s4","_law_slip_here"]) rfl rfl (by nofun) rfl (A5 (@At _ _ _ _ _ _ _ _ _ (Hv rfl hr.units) (by rfl) T.z_sorted PyProof.Rows.boot_sorted ((pv 1)*>Ae) (by decide) (by decide) (by rfl) (by rfl))) (fun _ _ _ _=>AF) (fun _ _ _ _=>(@CY _ _ _ _ _ ((pv 5)*>((PC (u1 hr.units) (pv 1) (pv 5) (fun _ _=>rfl))*>Ae))))))))),?_⟩
 intro d hd
 have s0:=Ad hd (.dT [])
 have e0:(upd H d (.dT [])) d=some (.dT []):=Ab
 generalize upd H d (.dT [])=H0 at s0 e0 ⊢
 refine ⟨_,rfl,l,rfl,⟨_,SqL.of (s0 _ _ hl)⟩,BD (xs:=vvo vo) (fun i σ' H'=>∃(v2 v3 v4:Option V) (kvs:List (List Key × V)),σ'=[some (V.ref l),some (.ref d),v2,v3,v4]/\Aq H H'/\H' d=some (.dT kvs)/\Iw h kvs/\kvs.length<=i/\KH (20000000000*((i:Nat):Int)) kvs/\(kvs.map (·.1)).Nodup/\∀f,Ce f (dsK kvs)=Jh (fun rs=>f (Cc rs)) (vo.take (i))) ⟨none,none,none,[],rfl,s0,e0,(fun _ m=>nomatch m),Nat.le_refl _,(fun _ m=>nomatch m),nodup_nil,fun _=>rfl⟩ (fun i σ' H' _ ⟨_,_,_,_,_,e,_⟩=>SqL.of (e _ _ hl)) ?_ ?_⟩
 ·rintro i x σ' H' hx ⟨v2,v3,v4,kvs,rfl,s1,e1,g,hk,lw,nd,sm⟩
  obtain ⟨f,hf,rfl,fm,et⟩:=LD hx
  obtain ⟨g1,g2,g3⟩:=g0 f fm
  have hi:i < vo.length:=(List.getElem?_eq_some_iff.mp hf).1
  obtain ⟨nf0,nf1,nfr⟩:=nv f fm
  refine ⟨f.1,_,rfl,SqT.of (s1 _ _ g1),rfl,_,_,rfl,_,_,rfl,rfl,?_⟩
  and_intros
  refine ⟨f.2.1,f.2.2.1,rfl,SqL.of (s1 _ _ g2),by omega,fun t H2 ht s2 e2=>?_⟩
  have fi:FZ h (Cc f.2.2.1):=⟨_,g3,nfr,rfl⟩
  generalize ets:Cc f.2.2.1=ts at e2 fi
  have d2:=s2 _ _ e1
  have kt:H2 t=some (.tup ((ts.map Sum.inl:List Key).map kV)):=by rw [NG];exact e2
  obtain ⟨n,en⟩:∃n,n=f.2.2.2:=⟨_,rfl⟩
  rw [<- en] at nf0 nf1 ⊢
  have put:∀(z:Int) (H3:Hp),0<=z->z<=20000000000*((i:Int)+1)->(∀f,Ce f (dsK (Ck kvs (ts.map Sum.inl) (.int z)))=Ce f (dsK kvs)+if f ts then n else 0)->Aq H2 H3->H3 d=some (.dT kvs)->H3 t=some (.tup ((ts.map Sum.inl:List Key).map kV))->∃a H4,V.ref d=V.ref a/\Jn H3 a (.ref t) (.int z) H4/\∃(v2 v3 v4:Option V) (qs:List (List Key × V)),[some (V.ref l),some (.ref d),some (.ref f.2.1),some (.int n),some (.ref t)]=[some (V.ref l),some (.ref d),v2,v3,v4]/\Aq H H4/\H4 d=some (.dT qs)/\Iw h qs/\qs.length<=i+1/\KH (20000000000*((i+1:Nat):Int)) qs/\(qs.map (·.1)).Nodup/\∀f,Ce f (dsK qs)=Jh (fun rs=>f (Cc rs)) (vo.take (i+1)):=fun z H3 z0 z1 zs s3 d3 t3 =>
   ⟨d,_,rfl,Jn.t d3 t3 (AW (by omega)),_,_,_,_,rfl,Aw ((s1.trans s2).trans s3) hd,Ab,Mf g fi,Nat.le_trans (Oy ..) (by omega),lw.put (by omega) z0 (by omega),QM nd,fun f'=>by
    rw [zs f',sm f',et,Io,ets,en]⟩
  refine ⟨_,rfl,d,rfl,.inr ⟨_,.inl d2⟩,_,rfl,_,DE.t d2 kt,?_⟩
  cases ev:Cn kvs (ts.map Sum.inl:List Key) with
  | none =>
    and_intros
    exact put _ H2 (by omega) (by omega) (fun f=>by rw [Int.zero_add];exact PK f ev) (fun _ _ e=>e) d2 kt
  | some w =>
    obtain ⟨mm,rfl⟩:=HP g ev
    have lv:=lw.val ev
    and_intros
    exact put _ H2 (by omega) (by omega) (fun f=>OL f nd ev) (fun _ _ e=>e) d2 kt
 ·rintro σ' H' ⟨v2,v3,v4,kvs,rfl,s1,e1,g,hk,lw,nd,sm⟩
  rw [Gx] at hk lw sm
  rw [take_of_length_le (Nat.le_refl _)] at sm
  obtain ⟨ks,k1,k2,k3⟩:=Le g
  refine ⟨_,rfl,d,kvs,ks,rfl,.inl e1,k1,by omega,fun l2 rs r1 r2 r3 hl2=>?_⟩
  have sl:=Ad hl2 (.lst (rs.map fun q=>V.ref q.1))
  have el:(upd H' l2 (.lst (rs.map fun q=>V.ref q.1))) l2=some (.lst (rs.map fun q=>V.ref q.1)):=Ab
  generalize upd H' l2 (.lst (rs.map fun q=>V.ref q.1))=H1 at sl el ⊢
  have rl:rs.length<=60:=by
   have:=r2.length_eq
   rw [length_map] at this
   omega
  refine ⟨l2,rfl,⟨_,SqL.of el⟩,?_⟩
  refine AB (xs:=rs.map fun q=>V.ref q.1) (by rw [length_map];exact Av (by omega)) (fun D i ys H2=>∃ms:Ls,ys=vls ms/\ms.length=i/\H2 D=some (.lst ys)/\Aq H1 H2/\CO h H2 ms/\Ry ms/\dsL ms=(rs.take i).map fun r=>(r.2,nvK kvs r.2)) (fun D hD=>⟨[],rfl,rfl,Ab,Ad hD _,(fun _ m=>nomatch m),(fun _ m=>nomatch m),rfl⟩) (fun D i ys H2 ⟨ms,f1,f2,f3,_⟩=>⟨f3,by rw [f1,LJ];omega⟩) (fun D i ys H2 hD ⟨ms,_,_,_,f4,_⟩=>SqL.of (f4 _ _ el)) ?_ ?_
  ·rintro D i x ys H2 K1 K2 hD hx ⟨ms,rfl,f2,f3,f4,f5,f6,f7⟩ kk1 kk2
   rw [List.getElem?_map] at hx
   obtain ⟨r,er,rfl⟩:=Option.map_eq_some_iff.mp hx
   have rm:=mem_of_getElem? er
   have sH:=sl.trans f4
   have ek:=sH _ _ (r1 r rm)
   obtain ⟨fr,n,ev⟩:=k3 r.2 (r2.mem_iff.mp (mem_map.mpr ⟨r,rm,rfl⟩))
   refine yes (ifT rfl ?_)
   have dg:=DE.t (k:=(r.2.map Sum.inl:List Key)) (sH _ _ e1) (by rw [NG];exact ek)
   rw [ev] at dg
   refine ⟨_,rfl,_,rfl,_,rfl,d,.int n,rfl,dg,(by show 2<=sizeLine;decide),fun t ht=>?_⟩
   have s6:=Ad ht (.tup [V.ref r.1,V.int n])
   have lv:=lw.val ev
   refine kk1 _ _ (s6 _ _ f3) ⟨ms++[(t,r.1,r.2,n)],by unfold vls;rw [map_append];rfl,by rw [length_append,f2];rfl,Ab,Aw (f4.trans s6) hD,fun q m=>?_,fun q m=>?_,?_⟩
   ·have keep:∀b u,(upd H2 t (.tup [V.ref r.1,V.int n])) b=some (.tup u)->(upd (upd H2 t (.tup [V.ref r.1,V.int n])) D (.lst (vls ms++[V.ref t]))) b=some (.tup u):=fun b u e=>by
     rw [Ai (DZ e (s6 _ _ f3) (fun z=>nomatch z))]
     exact e
    rcases mem_append.mp m with m | m
    ·obtain ⟨a1,a2,a3⟩:=f5 q m
     exact ⟨keep _ _ (s6 _ _ a1),keep _ _ (s6 _ _ a2),a3⟩
    ·rw [mem_singleton.mp m]
     exact ⟨keep _ _ Ab,keep _ _ (s6 _ _ ek),fr⟩
   ·rcases mem_append.mp m with m | m
    ·exact f6 q m
    ·rw [mem_singleton.mp m]
     exact ⟨lv.1,by show n<=_;omega⟩
   ·rw [show rs.take (i+1)=rs.take i++[r] from by rw [take_add_one,er];rfl,map_append,<- f7]
    unfold dsL
    rw [map_append]
    show _++[(r.2,n)]=_++[(r.2,nvK kvs r.2)]
    rw [show nvK kvs r.2=n from by unfold nvK;rw [ev]]
  rintro D ys H2 hD ⟨ms,rfl,f2,f3,f4,f5,f6,f7⟩
  rw [length_map,take_of_length_le (Nat.le_refl _)] at f7
  rw [length_map] at f2
  refine q D ms H2 ((s1.trans sl).trans f4) f3 f5 (by omega) f6 fun f=>?_
  rw [f7,<- sm,<- Ll nd k1 r2 f,map_map]
  rfl
theorem Fk (T:Tx K mg base ad):AN P w K mg base CX0 2 ad.f_law_overs ad.d_law_overs ["_law_votes_here","_law_hands"] PQ:=by
 refine T.F_law_overs.ok Cb (fun vs H Q E h=>?_) (fun cdv A outer s H vs Q E hr h=>?_)
 ·obtain ⟨l,vo,h,rfl,_⟩:=h
  rfl
 obtain ⟨l,vo,h,rfl,hl,g0,h1,h12,q⟩:=h
 refine ⟨_,((Dm (j:=2) (fsc:=Ac BU) (N:=["_law_votes_here","_law_hands","_law_found","_law_ranks_here","_law_number","_law_x","_law_y"]) (Nc:=["_law_votes_here","_law_hands","_law_found","_law_ranks_here","_law_number",".s5","_law_y","_law_x"]) rfl rfl (by nofun) rfl Cb.nd rfl rfl (AG rfl T.z_range ((pv 1)*>Ae)) (fun _ _ _ _=>AF) (fun _ _ _ _=>(Q4<&>((@Bf _ _ _ _ (Ag*>Ae))<|>(pv 1)))) rfl)>>((B9 PassesOwn.never rfl (A5 (pv 0)) (FH rfl (Bp (AA (i:=3) Cb.nd rfl (Or.inl rfl)) (Bp (AA (i:=4) Cb.nd rfl (Or.inl rfl)) Ew))) (@Ah _ _ _ (B9 PassesOwn.never rfl (AG rfl T.z_range ((pv 1)*>Ae)) (AA (i:=5) Cb.nd rfl (Or.inl rfl)) (@Ah _ _ _ (B9 PassesOwn.never rfl (AG rfl T.z_range ((pv 1)*>Ae)) (AA (i:=6) Cb.nd rfl (Or.inl rfl)) (@Ah _ _ _ (@Da _ _ _ _ _ _ _ _ (@Ay _ _ _ _ _ _ _ _ G8 (@Aj _ _ _ _ _ _ _ _ _ _ _ _ _ _ _ _ (Fd T) (hr.mono (by decide)) rfl T.m_law_place T.F_law_place.kp T.b_law_place .nil Ar ((pv 3)*>((pv 5)*>Ae)) (by decide) (by rfl) (by rfl)) (@Aj _ _ _ _ _ _ _ _ _ _ _ _ _ _ _ _ (Fd T) (hr.mono (by decide)) rfl T.m_law_place T.F_law_place.kp T.b_law_place .nil Ar ((pv 3)*>((pv 6)*>Ae)) (by decide) (by rfl) (by rfl)) (Ax _)) (@Ah _ _ _ (Fy (AX<&>((@Al _ _ _ _ _ _ _ A3 (@Al _ _ _ _ _ _ _ A3 (pv 2) (pv 5) (fun _ _=>rfl)) (pv 6) (fun _ _=>rfl))<|>(pv 4))) (GF (@Al _ _ _ _ _ _ _ A3 (pv 2) (pv 5) (fun _ _=>rfl)) (pv 6) En))) AK)))))))>>(@Ah _ _ _ (@As _ _ _ _ (pv 2))))),?_⟩
 and_intros
 refine ⟨by omega,by omega,?_⟩
 rw [Int.toNat_natCast]
 refine AQ (Av (by omega)) (fun D i ys J=>∃as:List Addr,ys=as.map V.ref/\as.length=i/\as.Nodup/\J D=some (.lst ys)/\Aq H J/\D ∉ as/\∀a∈as,H a=none/\J a=some (.lst (((List.range h).map fun _=>(0:Int)).map V.int))) (fun D hD=>⟨[],rfl,rfl,nodup_nil,Ab,Ad hD _,(fun m=>nomatch m),fun _ m=>nomatch m⟩) (fun D i ys J ⟨as,f1,f2,_,f3,_⟩=>⟨f3,by rw [f1,length_map,f2];exact Nat.le_refl _⟩) ?_ ?_
 ·rintro D i ys J K1 K2 hD hi ⟨as,rfl,f2,f3,f4,f5,f6,f7⟩ k1 k2
  refine yes (ifT rfl ?_)
  refine ⟨(by show 1<=sizeLine;decide),fun o ho=>?_⟩
  have so:=Ad ho (.lst [V.int 0])
  have eo:(upd J o (.lst [V.int 0])) o=some (.lst [V.int 0]):=Ab
  generalize upd J o (.lst [V.int 0])=J0 at so eo ⊢
  refine ⟨_,rfl,o,_,_,rfl,rfl,eo,by omega,by omega,(by show 1*_<=sizeLine;rw [Nat.one_mul];exact Nat.le_of_lt (AW (by omega))),fun D2 hD2=>?_⟩
  rw [Int.toNat_natCast,Rr]
  have f4:=so _ _ f4
  have f5:=f5.trans so
  have f7:∀a∈as,H a=none/\J0 a=some (.lst (((List.range h).map fun _=>(0:Int)).map V.int)):=fun a m=>⟨(f7 a m).1,so _ _ (f7 a m).2⟩
  have sD:=Ad hD2 (.lst (((List.range h).map fun _=>(0:Int)).map V.int))
  have eD:(upd J0 D2 (.lst (((List.range h).map fun _=>(0:Int)).map V.int))) D2=some (.lst (((List.range h).map fun _=>(0:Int)).map V.int)):=Ab
  have dd:D2≠D:=fun z=>by rw [z,f4] at hD2;cases hD2
  have na:D2 ∉ as:=fun m=>by rw [(f7 D2 m).2] at hD2;cases hD2
  generalize upd J0 D2 (.lst (((List.range h).map fun _=>(0:Int)).map V.int))=J5 at sD eD ⊢
  refine k1 _ _ (sD _ _ f4) ⟨as++[D2],by rw [map_append];rfl,by rw [length_append,f2];rfl,nodup_append.mpr ⟨f3,by simp,fun a ma b mb e=>na (by rw [<- mem_singleton.mp mb,<- e];exact ma)⟩,Ab,Aw (f5.trans sD) hD,fun m=>?_,fun a m=>?_⟩
  ·rcases mem_append.mp m with m | m
   ·exact f6 m
   ·exact dd (mem_singleton.mp m).symm
  ·rcases mem_append.mp m with m | m
   ·exact ⟨(f7 a m).1,by rw [Ai (fun z=>f6 (by rw [<- z];exact m))];exact sD _ _ (f7 a m).2⟩
   ·rw [mem_singleton.mp m]
    exact ⟨none_of f5 hD2,by rw [Ai dd];exact eD⟩
 rintro D ys H1 hD ⟨as,rfl,f2,f3,f4,f5,f6,f7⟩
 have tb0:AL H1 as h (fun _ _=>0):=⟨f2,f3,fun x a ha=>(f7 a (mem_of_getElem? ha)).2⟩
 have nw:∀a∈as,H a=none:=fun a m=>(f7 a m).1
 clear f7 f3 f2
 refine ⟨_,rfl,l,rfl,⟨_,SqL.of (f5 _ _ hl)⟩,BD (xs:=vvo vo) (fun i σ' H'=>∃v3 v4 v5 v6:Option V,σ'=[some (.ref l),some (.int (h:Int)),some (.ref D),v3,v4,v5,v6]/\CZ as H1 H'/\AL H' as h (duF (vo.take i))) ⟨none,none,none,none,rfl,CZ.of (fun _ _ e=>e),tb0⟩ (fun i σ' H' _ ⟨_,_,_,_,_,k,_⟩=>SqL.of (k.same f5 nw _ _ hl)) ?_ ?_⟩
 ·rintro i w σ' H' hw ⟨v3,v4,v5,v6,rfl,k1,tb⟩
  obtain ⟨f,hf,rfl,fm,et⟩:=LD hw
  obtain ⟨g1,g2,g3⟩:=g0 f fm
  have kH:=k1.same f5 nw
  refine ⟨f.1,_,rfl,SqT.of (kH _ _ g1),rfl,_,_,rfl,_,_,rfl,rfl,?_⟩
  and_intros
  obtain ⟨rs,ers⟩:∃rs,rs=f.2.2.1:=⟨_,rfl⟩
  obtain ⟨n,en⟩:∃n,n=f.2.2.2:=⟨_,rfl⟩
  obtain ⟨F0,eF0⟩:∃F0:Nat->Nat->Int,F0=duF (vo.take i):=⟨_,rfl⟩
  rw [<- ers] at g2 g3
  rw [<- eF0] at tb
  rw [<- en]
  refine ⟨by omega,by omega,D8 (fun j σ' H2=>∃(v5 v6:Option V) (G:Nat->Nat->Int),σ'=[some (.ref l),some (.int (h:Int)),some (.ref D),some (.ref f.2.1),some (.int n),v5,v6]/\CZ as H1 H2/\AL H2 as h G/\∀x' y':Nat,G x' y'=F0 x' y'+if x' < j/\y' < h/\Bg rs x' < Bg rs y' then n else 0) ⟨_,_,_,rfl,k1,tb,fun x' y'=>(by rw [if_neg (fun z=>nomatch z.1)];exact (Int.add_zero _).symm)⟩ ?_ ?_⟩
  ·rintro x σ' H2 hx ⟨v5,v6,G,rfl,k2,tb2,eG⟩
   have ex:(0:Int)+(x:Int)=(x:Int):=Int.zero_add _
   have hx':x < h:=by omega
   and_intros
   refine ⟨by omega,by omega,D8 (fun j σ' H3=>∃(v6:Option V) (G':Nat->Nat->Int),σ'=[some (.ref l),some (.int (h:Int)),some (.ref D),some (.ref f.2.1),some (.int n),some (.int (0+(x:Int))),v6]/\CZ as H1 H3/\AL H3 as h G'/\∀x' y':Nat,G' x' y'=G x' y'+if x'=x/\y' < j/\Bg rs x' < Bg rs y' then n else 0) ⟨_,_,rfl,k2,tb2,fun x' y'=>(by rw [if_neg (fun z=>nomatch z.2.1)];exact (Int.add_zero _).symm)⟩ ?_ ?_⟩
   ·rintro y σ' H3 hy ⟨v6,G',rfl,k3,tb3,eG'⟩
    have ey:(0:Int)+(y:Int)=(y:Int):=Int.zero_add _
    have hy':y < h:=by omega
    have eR:=k3.same f5 nw _ _ g2
    obtain ⟨a,r1,r2,r3,r4⟩:=tb3.row hx'
    have eD:=k3 _ _ f6 f4
    and_intros
    refine ⟨f.2.1,rs,x,(by rw [ex];rfl),eR,by omega,?_⟩
    and_intros
    refine ⟨f.2.1,rs,y,(by rw [ey];rfl),eR,by omega,?_⟩
    and_intros
    by_cases c:Bg rs x < Bg rs y
    ·refine ifT (decide_eq_true c) ?_
     refine ⟨_,rfl,_,rfl,D,_,_,_,rfl,rfl,SqL.of eD,(by rw [ex];exact r3),?_⟩
     refine ⟨_,rfl,a,_,_,_,rfl,rfl,SqL.of r4,(by rw [ey];exact BC (G' x) hy'),?_⟩
     and_intros
     refine ⟨D,_,_,_,rfl,rfl,SqL.of eD,(by rw [ex];exact r3),?_⟩
     refine ⟨_,rfl,a,_,_,y,rfl,rfl,r4,(by rw [ey];exact EY (by rw [length_map,length_map,length_range];exact hy')),?_⟩
     refine ⟨_,Hg G' x y n,rfl,k3.put r2,tb3.put r1 n,fun x' y'=>?_⟩
     unfold Hg
     rw [eG']
     refine LM n _ ?_ ?_
     ·refine ⟨fun ⟨a,b,e⟩=>?_,fun z=>z.elim (fun e=>⟨e.1,by omega,e.2.2⟩) fun e=>⟨e.1,by omega,by rw [e.1,e.2];exact c⟩⟩
      rcases Nat.lt_or_eq_of_le (Nat.le_of_lt_succ b) with z | z
      ·exact .inl ⟨a,z,e⟩
      ·exact .inr ⟨a,z⟩
     ·exact fun z=>by have:=z.1.2.1;have:=z.2.2;omega
    ·refine ifF (decide_eq_false c) ?_
     refine ⟨_,G',rfl,k3,tb3,fun x' y'=>?_⟩
     rw [eG']
     by_cases d:x'=x/\y' < y/\Bg rs x' < Bg rs y'
     ·rw [if_pos d,if_pos ⟨d.1,by omega,d.2.2⟩]
     ·rw [if_neg d,if_neg (fun z=>d ⟨z.1,by
       rcases Nat.lt_or_eq_of_le (Nat.le_of_lt_succ z.2.1) with u | u
       ·exact u
       ·exact absurd (by have:=z.2.2;rw [z.1,u] at this;exact this) c,z.2.2⟩)]
   ·rintro σ' H3 ⟨v6,G',rfl,k3,tb3,eG'⟩
    rw [Int.toNat_natCast] at eG'
    refine ⟨_,_,_,rfl,k3,tb3,fun x' y'=>?_⟩
    rw [eG',eG]
    refine LM n _ ?_ ?_
    ·refine ⟨fun ⟨a,b,e⟩=>?_,fun z=>z.elim (fun e=>⟨by omega,e.2.1,e.2.2⟩) fun e=>⟨by omega,e.2.1,e.2.2⟩⟩
     rcases Nat.lt_or_eq_of_le (Nat.le_of_lt_succ a) with z | z
     ·exact .inl ⟨z,b,e⟩
     ·exact .inr ⟨z,b,e⟩
    ·exact fun z=>by have:=z.1.1;have:=z.2.1;omega
  ·rintro σ' H2 ⟨v5,v6,G,rfl,k2,tb2,eG⟩
   rw [Int.toNat_natCast] at eG
   refine ⟨_,_,_,_,rfl,k2,tb2.congr fun x y hx hy=>?_⟩
   unfold duF
   rw [eG,et,Io,<- ers,<- en,eF0]
   unfold duF
   by_cases c:Bg rs x < Bg rs y
   ·rw [if_pos ⟨hx,hy,c⟩,if_pos (decide_eq_true c)]
   ·rw [if_neg (fun z=>c z.2.2),if_neg (by rw [decide_eq_false c];decide)]
 ·rintro σ' H' ⟨v3,v4,v5,v6,rfl,k1,tb⟩
  rw [Gx,take_of_length_le (Nat.le_refl _)] at tb
  exact ⟨_,rfl,q D as H' hD (k1.same f5 nw) f6 nw (k1 _ _ f6 f4) tb⟩
theorem Gm (T:Tx K mg base ad):AN P w K mg base CX0 2 ad.f_law_way_back ad.d_law_way_back ["_law_leads_here","_law_x","_law_y","_law_worth","_law_hands"] Oo:=by
 refine T.F_law_way_back.ok CV (fun vs H Q E h=>?_) (fun cdv A outer s H vs Q E hr h=>?_)
 ·obtain ⟨a,hl,as,h,x,y,v,L,F,hs,rfl,_⟩:=h
  rfl
 obtain ⟨a,hl,as,h,x,y,v,L,F,hs,rfl,ha,tb,hx,hy,xy,h12,hhl,ph,st,ev,q⟩:=h
 refine ⟨_,((@Ao _ _ (5) _ _ _ _ CV.nd rfl (Or.inl rfl) (@Aj _ _ _ _ _ _ _ _ _ _ _ _ _ _ _ _ (Fm T) (hr.mono (by decide)) rfl T.m_law_reach T.F_law_reach.kp T.b_law_reach .nil Ar ((pv 0)*>((pv 2)*>((pv 3)*>((pv 4)*>Ae)))) (by decide) (by rfl) (by rfl)) (by rfl) (by nofun))>>((@Ao _ _ (6) _ _ _ _ CV.nd rfl (Or.inl rfl) (@Bf _ _ _ _ ((pv 1)*>Ae)) (by rfl) (by nofun))>>((Eh PassesOwn.never (PW.pt (@GR _ _ _ _ _ _ _ (@Ay _ _ _ _ _ _ _ _ GU (@Al _ _ _ _ _ _ _ A3 (pv 6) (@LL _ _ _ _ _ _ K5 Ag) (fun _ _=>rfl)) (pv 2) (Ax _)) (@EN _ _ _ _ (@Ay _ _ _ _ _ _ _ _ Fr (@At _ _ _ _ _ _ _ _ _ A0 (by rfl) T.z_len PySem.boot_len ((pv 6)*>Ae) (by decide) (by decide) (by rfl) (by rfl)) (@At _ _ _ _ _ _ _ _ _ A0 (by rfl) T.z_len PySem.boot_len ((pv 4)*>Ae) (by decide) (by decide) (by rfl) (by rfl)) (Ax _))))) (@Ah _ _ _ (@Ci _ _ _ _ (Dw PySem.F.plainAttrs_list PySem.F.slot_list_append PySem.F.type_list_append BG (pv 6) ((JX (u1 hr.units) (pv 5) (@Al _ _ _ _ _ _ _ A3 (pv 6) (@LL _ _ _ _ _ _ K5 Ag) (fun _ _=>rfl)) (pv 2) ⟨rfl,rfl,rfl,rfl⟩)*>Ae)) (by rfl))))>>(@Ah _ _ _ (@As _ _ _ _ (pv 6)))))),?_⟩
 subst ev
 have hsl:(hs.map V.int).length=h:=by rw [length_map,ph.length_eq,BH]
 and_intros
 refine ⟨a,hl,as,h,y,F x y,L,hs,rfl,ha,tb,hy,h12,hhl,ph,fun d ps H1 s1 e1 on cl=>?_⟩
 have mx:x∈ps.map Prod.fst:=by
  by_cases c:x∈ps.map Prod.fst
  ·exact c
  ·have:=Ni st cl hy on.mem_y hx c
   omega
 and_intros
 refine ⟨(by show 1<=sizeLine;decide),fun w hw=>?_⟩
 have hwH:=none_of s1 hw
 have s2:=s1.trans (Ad hw (.lst [V.int (x:Int)]))
 have e2:(upd H1 w (.lst [V.int (x:Int)])) w=some (.lst ((AM [x]).map V.int)):=Ab
 have d2:=Ad hw (.lst [V.int (x:Int)]) _ _ e1
 generalize upd H1 w (.lst [V.int (x:Int)])=H2 at s2 e2 d2 ⊢
 have dw:∀{J:Hp} {xs:List V},J d=some (.dK (onK ps))->J w=some (.lst xs)->d≠w:=fun a1 a2 z=>by rw [z,a2] at a1;cases a1
 have pl:=on.len hy
 refine ⟨fun m σ' J=>∃(ws:List Nat) (u:Nat),σ'=[some (.ref a),some (.int (x:Int)),some (.int (y:Int)),some (.int (F x y)),some (.ref hl),some (.ref d),some (.ref w)]/\Aq H J/\J d=some (.dK (onK ps))/\J w=some (.lst ((AM ws).map V.int))/\Walk x (F x y) L (ps.map Prod.fst) ws u/\(ps.map Prod.fst).idxOf u=m,⟨_,[x],x,rfl,s2,d2,e2,Walk.start mx,rfl⟩,?_⟩
 clear e2 d2 s2
 rintro m σ' J ⟨ws,u,rfl,s3,d3,e3,wk,rfl⟩
 have wl:ws.length<=h:=by have:=wk.len;rw [length_map] at this;omega
 have ln:=Er ws
 and_intros
 refine ⟨w,_,_,_,rfl,rfl,SqL.of e3,FA wk.last,?_⟩
 and_intros
 by_cases c:u=y
 ·refine ifF (KW (by rw [c])) ?_
  and_intros
  subst c
  exact q w ws J hwH s3 e3 (wk.way st hy (on.lt hy) xy)
 ·refine ifT (Ow (by omega)) ?_
  and_intros
  refine ⟨hl,_,rfl,.inl (SqL.of (s3 _ _ hhl)),?_⟩
  and_intros
  refine ifT (decide_eq_true (by rw [hsl,length_map,ln];omega)) ?_
  obtain ⟨n,n1,n2,n3,n4⟩:=on.next u (wk.mem u (mem_of_getLast? wk.last)) c
  refine ⟨fun σ' J=>∃(ws:List Nat) (u:Nat),σ'=[some (.ref a),some (.int (x:Int)),some (.int (y:Int)),some (.int (F x y)),some (.ref hl),some (.ref d),some (.ref w)]/\Aq H J/\J d=some (.dK (onK ps))/\J w=some (.lst ((AM ws).map V.int))/\Walk x (F x y) L (ps.map Prod.fst) ws u/\(ps.map Prod.fst).idxOf u=(ps.map Prod.fst).idxOf n,fun σ' J e=>⟨_,n4,e⟩,?_⟩
  and_intros
  refine ⟨.inl ⟨rfl,_,SqL.of e3⟩,?_⟩
  and_intros
  refine ⟨.inl ⟨_,.inl d3⟩,?_⟩
  and_intros
  refine ⟨w,_,_,_,rfl,rfl,SqL.of e3,FA wk.last,?_⟩
  and_intros
  refine ⟨_,DE.k (k:=Sum.inl (u:Int)) d3,?_⟩
  rw [Ji,n1]
  refine ⟨w,_,_,rfl,rfl,e3,(by rw [length_map,ln];exact AW (by omega)),?_⟩
  refine ⟨ws++[n],n,rfl,Aw s3 hwH,by rw [Ai (dw d3 e3)];exact d3,by rw [Ab,<- LQ];rfl,wk.step n2 n4 n3,rfl⟩
theorem Do (T:Tx K mg base ad):AN P w K mg base CX0 2 ad.f_Pairs_picks_by ad.d_Pairs_picks_by ["self","strengths"] (MM ad.c_Pairs):=by
 refine T.F_Pairs_picks_by.ok BJ (fun vs H Q E h=>?_) (fun cdv A outer s H vs Q E hr h=>?_)
 ·obtain ⟨a,r,rs,h,s,ns,L,F,rfl,_⟩:=h
  rfl
 obtain ⟨a,r,rs,h,s,ns,L,F,rfl,md,hr0,tb,st,q⟩:=h
 refine ⟨_,((@Ao _ _ (2) _ _ _ _ BJ.nd rfl (Or.inl rfl) (@Bf _ _ _ _ Ae) (by rfl) (by nofun))>>((@Ao _ _ (3) _ _ _ _ BJ.nd rfl (Or.inr rfl) (@Bm _ _ _ _ _ _ _ _ _ Bk (by rfl) T.z_list PyProof.Rows.boot_list ((DO (pv 0) rfl)*>Ae) (by decide) (by decide) (by rfl) (by rfl)) (by rfl) (by nofun))>>((Eh PassesOwn.never (PW.pt (@GR _ _ _ _ _ _ _ (@Ay _ _ _ _ _ _ _ _ (EC (K:=K) hr.units) (pv 3) (@Bf _ _ _ _ Ae) (Ax _)) (@EN _ _ _ _ (@Ay _ _ _ _ _ _ _ _ G8 (@At _ _ _ _ _ _ _ _ _ A0 (by rfl) T.z_len PySem.boot_len ((pv 2)*>Ae) (by decide) (by decide) (by rfl) (by rfl)) (DO (pv 0) rfl) (Ax _))))) ((@Ao _ _ (4) _ _ _ _ BJ.nd rfl (Or.inl rfl) (@Al _ _ _ _ _ _ _ A3 (Bb (fsc:=Ac AU) (N:=["self","strengths","picks","left","first"]) (Nc:=["self","strengths","picks","left","first","hand"]) rfl rfl (by nofun) rfl (A5 (pv 3)) (fun _ _ _ _=>(CM (@Cj _ _ _ _ (@Cl _ _ _ (@Aj _ _ _ _ _ _ _ _ _ _ _ _ _ _ _ _ (Jk T) (hr.mono (by decide)) rfl T.m_is_beaten T.F_is_beaten.kp T.b_is_beaten .nil Ar ((pv 1)*>((pv 5)*>((pv 3)*>Ae))) (by decide) (by rfl) (by rfl)) (by intro _;rfl))))) (fun _ _ _ _=>(pv 5))) Ag (fun _ _=>rfl)) (by rfl) (by nofun))>>((@Ci _ _ _ _ (Dw PySem.F.plainAttrs_list PySem.F.slot_list_append PySem.F.type_list_append BG (pv 2) ((pv 4)*>Ae)) (by rfl))>>(@Ah _ _ _ (@Ci _ _ _ _ (Dw PySem.F.plainAttrs_list PySem.F.slot_list_remove PySem.F.type_list_remove IB (pv 3) ((pv 4)*>Ae)) (by rfl))))))>>(@Ah _ _ _ (@As _ _ _ _ (pv 2)))))),?_⟩
 obtain ⟨dx,la,k1,k2⟩:=id md.is
 have h12:=md.h12
 have s60:=md.s60
 have nl:ns.length=h:=by rw [md.pm.length_eq,BH]
 refine ⟨(by show 0<=sizeLine;decide),fun p hp=>?_⟩
 have s1:=Ad hp (.lst [])
 have e1:(upd H p (.lst [])) p=some (.lst (([]:List Int).map V.int)):=Ab
 generalize upd H p (.lst [])=H1 at s1 e1 ⊢
 refine ⟨_,rfl,a,_,dx,_,_,rfl,s1 _ _ k1,T.cl_Pairs,T.na_Pairs_lots,rfl,?_⟩
 refine ⟨la,_,rfl,.inl (SqL.of (s1 _ _ k2)),fun l hl=>?_⟩
 have lp:l≠p:=fun z=>by rw [z,e1] at hl;cases hl
 have hlH:=none_of s1 hl
 have s2:=s1.trans (Ad hl (.lst (ns.map V.int)))
 have p2:=Ad hl (.lst (ns.map V.int)) _ _ e1
 have l2:(upd H1 l (.lst (ns.map V.int))) l=some (.lst (ns.map V.int)):=Ab
 generalize upd H1 l (.lst (ns.map V.int))=H2 at s2 p2 l2 ⊢
 refine ⟨fun m σ' H'=>∃(v4:Option V) (left got:List Int),σ'=[some (.ref a),some (.ref r),some (.ref p),some (.ref l),v4]/\Aq H H'/\H' p=some (.lst (got.map V.int))/\H' l=some (.lst (left.map V.int))/\(∀z∈left,∃i:Nat,i < h/\z=(i:Int))/\got.length<=s/\got++Au F (s - got.length) left=Au F s ns/\left.length=m/\m<=12,⟨_,none,ns,[],rfl,s2,p2,l2,(fun z mz=>DF (md.pm.mem_iff.mp mz)),Nat.zero_le _,rfl,rfl,by omega⟩,?_⟩
 rintro m σ' H' ⟨v4,left,got,rfl,s3,p3,l3,sub,gs,pk,lm,m12⟩
 refine ⟨_,rfl,(by show 0<=sizeLine;decide),fun z3 hz3=>?_⟩
 have sz:=Ad hz3 (.lst [])
 have ez:(upd H' z3 (.lst [])) z3=some (.lst (([]:List Int).map V.int)):=Ab
 generalize upd H' z3 (.lst [])=H4 at sz ez ⊢
 have p4:=sz _ _ p3
 have l4:=sz _ _ l3
 have s4:=s3.trans sz
 refine ⟨.list (left.map .int),.list (([]:List Int).map .int),.lst (SqL.of l4) (.ints _),.lst (SqL.of ez) (.ints []),(AR _).2,(AR _).2,?_⟩
 rw [show PyData.eqv (.list (left.map .int)) (.list (([]:List Int).map .int))=decide (left=[]) from BK _ _]
 refine ⟨_,rfl,?_⟩
 have fin:Au F (s - got.length) left=[]->Q (.ref p) H4:=fun e=>by
  rw [e,append_nil] at pk
  exact q p H4 hp s4 (by rw [<- pk];exact p4)
 by_cases cl:left=[]
 ·rw [decide_eq_true cl]
  refine ifF rfl ?_
  and_intros
  exact fin (by rw [cl];exact DY F _)
 ·rw [decide_eq_false cl]
  refine ifT rfl ?_
  and_intros
  refine ⟨a,_,dx,_,_,rfl,s4 _ _ k1,T.cl_Pairs,T.na_Pairs_seats,rfl,?_⟩
  and_intros
  by_cases cs:got.length < s
  ·refine ifT (decide_eq_true (by rw [length_map];omega)) ?_
   have pl:0 < left.length:=length_pos_iff.mpr cl
   refine ⟨fun σ' H'=>∃(v4:Option V) (left got:List Int),σ'=[some (.ref a),some (.ref r),some (.ref p),some (.ref l),v4]/\Aq H H'/\H' p=some (.lst (got.map V.int))/\H' l=some (.lst (left.map V.int))/\(∀z∈left,∃i:Nat,i < h/\z=(i:Int))/\got.length<=s/\got++Au F (s - got.length) left=Au F s ns/\left.length=m - 1/\m - 1<=12,fun σ' H' e=>⟨m - 1,by omega,e⟩,?_⟩
   and_intros
   refine ⟨⟨_,SqL.of l4⟩,?_⟩
   refine AB (xs:=left.map V.int) (by rw [length_map];exact Av (by omega)) (fun D i ys J=>ys=((left.take i).filter fun z=>!DH F z left).map V.int/\J D=some (.lst ys)/\Aq H4 J) (fun D hD=>⟨rfl,Ab,Ad hD _⟩) (fun D i ys J ⟨f1,f2,_⟩=>⟨f2,by rw [f1,length_map];exact Nat.le_trans (length_filter_le _ _) (length_take_le _ _)⟩) (fun D i ys J hD ⟨_,_,f3⟩=>SqL.of (f3 _ _ l4)) ?_ ?_
   ·rintro D i w ys J K1 K2 hD hw ⟨f1,f2,f3⟩ kk1 kk2
    obtain ⟨z,hz,rfl⟩:=int_at hw
    obtain ⟨j,hj,rfl⟩:=sub z (mem_of_getElem? hz)
    have et:left.take (i+1)=left.take i++[(j:Int)]:=by rw [take_add_one,hz];rfl
    have s5:=s4.trans f3
    refine ⟨_,rfl,_,rfl,_,rfl,r,l,rs,h,j,F,left,rfl,s5 _ _ hr0,tb.same s5,hj,f3 _ _ l4,sub,by omega,fun H6 s6=>?_⟩
    refine ⟨_,rfl,?_⟩
    cases eb:DH F (j:Int) left with
    | true =>
      refine ifF rfl ?_
      refine kk2 _ ⟨?_,s6 _ _ f2,f3.trans s6⟩
      rw [et,filter_append,f1]
      simp [eb]
    | false =>
      refine ifT rfl ?_
      refine ⟨_,rfl,?_⟩
      refine kk1 _ _ (s6 _ _ f2) ⟨?_,Ab,Aw (f3.trans s6) hD⟩
      rw [et,filter_append,map_append,f1]
      simp [eb]
   rintro D ys H5 hD ⟨f1,f2,f3⟩
   rw [length_map,take_of_length_le (Nat.le_refl _)] at f1
   subst f1
   have ue:unb F left≠[]:=QS st cl sub
   obtain ⟨u,ur,eu⟩:∃u ur,unb F left=u :: ur:=by
    cases e:unb F left with
    | nil=>exact absurd e ue
    | cons u ur=>exact ⟨u,ur,rfl⟩
   have um:u∈left:=by
    have:u∈unb F left:=by rw [eu];exact mem_cons_self ..
    exact (mem_filter.mp this).1
   have f2':H5 D=some (.lst ((u :: ur).map V.int)):=by rw [<- eu];exact f2
   have sg:=DP F (s:=s - got.length - 1) cl
   rw [show s - got.length - 1+1=s - got.length by omega,eu] at sg
   have p5:=f3 _ _ p4
   have l5:=f3 _ _ l4
   have s5:=s4.trans f3
   and_intros
   refine ⟨D,_,_,_,rfl,rfl,SqL.of f2',(show atI _ ((0:Nat):Int)=_ from atN rfl),?_⟩
   and_intros
   refine ⟨.inl ⟨rfl,_,SqL.of p5⟩,?_⟩
   and_intros
   refine ⟨p,_,_,rfl,rfl,p5,(by rw [length_map];exact AW (by omega)),?_⟩
   have l6:(upd H5 p (.lst (got.map V.int++[V.int u]))) l=some (.lst (left.map V.int)):=by rw [Ai lp];exact l5
   have p6:(upd H5 p (.lst (got.map V.int++[V.int u]))) p=some (.lst ((got++[u]).map V.int)):=by rw [Ab,map_append];rfl
   have s6:=Aw (o:=.lst (got.map V.int++[V.int u])) s5 hp
   generalize upd H5 p (.lst (got.map V.int++[V.int u]))=H6 at l6 p6 s6 ⊢
   and_intros
   refine ⟨.inl ⟨rfl,_,SqL.of l6⟩,?_⟩
   and_intros
   refine ⟨l,left,u,rfl,rfl,l6,um,?_⟩
   rw [<- FK]
   refine ⟨_,left.erase u,got++[u],rfl,Aw s6 hlH,by rw [Ai (Ne.symm lp)];exact p6,Ab,fun z mz=>sub z (mem_of_mem_erase mz),by rw [length_append];show got.length+1<=s;omega,?_,by rw [length_erase_of_mem um];omega,by omega⟩
   rw [length_append,show s - (got.length+[u].length)=s - got.length - 1 from (by show s - (got.length+1)=_;omega),append_assoc]
   show got++(u :: Au F (s - got.length - 1) (left.erase u))=_
   rw [<- pk,sg]
   rfl
  ·refine ifF (decide_eq_false (by rw [length_map];omega)) ?_
   and_intros
   exact fin (by rw [show s - got.length=0 by omega];exact DJ F _)
theorem Jw (T:Tx K mg base ad):AN P w K mg base CX0 3 ad.f_is_shown ad.d_is_shown ["leads","row"] Mq:=by
 refine T.F_is_shown.ok FV (fun vs H Q E h=>?_) (fun cdv A outer s H vs Q E hr h=>?_)
 ·obtain ⟨a,as,h,L,F,w,rfl,_⟩:=h
  rfl
 obtain ⟨a,as,h,L,F,w,rfl,ha,tb,rw',h12,q⟩:=h
 refine ⟨_,((@Ao _ _ (2) _ _ _ _ FV.nd rfl (Or.inl rfl) (@At _ _ _ _ _ _ _ _ _ A0 (by rfl) T.z_len PySem.boot_len ((pv 0)*>Ae) (by decide) (by decide) (by rfl) (by rfl)) (by rfl) (by nofun))>>((@Da _ _ _ _ _ _ _ _ (PW.pt (@ET _ _ _ _ _ _ _ (@Cj _ _ _ _ (@Cl _ _ _ (@Aj _ _ _ _ _ _ _ _ _ _ _ _ _ _ _ _ (Mx T) (hr.mono (by decide)) rfl T.m_is_way T.F_is_way.kp T.b_is_way .nil Ar ((@Al _ _ _ _ _ _ _ AE (pv 1) Ag (fun _ _=>rfl))*>((@Al _ _ _ _ _ _ _ AE (pv 1) Ag (fun _ _=>rfl))*>((@Al _ _ _ _ _ _ _ AE (pv 1) Ag (fun _ _=>rfl))*>((pv 2)*>Ae)))) (by decide) (by rfl) (by rfl)) (by intro _;rfl))) (@EA _ _ _ _ (@Cj _ _ _ _ (@Cl _ _ _ (@Aj _ _ _ _ _ _ _ _ _ _ _ _ _ _ _ _ (MF T) (hr.mono (by decide)) rfl T.m_is_cut T.F_is_cut.kp T.b_is_cut .nil Ar ((@Al _ _ _ _ _ _ _ AE (pv 1) Ag (fun _ _=>rfl))*>((@Al _ _ _ _ _ _ _ AE (pv 1) Ag (fun _ _=>rfl))*>((@Al _ _ _ _ _ _ _ AE (pv 1) Ag (fun _ _=>rfl))*>((pv 2)*>Ae)))) (by decide) (by rfl) (by rfl)) (by intro _;rfl)))))) (@Ah _ _ _ (@As _ _ _ _ Cz)) AK)>>(@Ah _ _ _ (@As _ _ _ _ (@Du _ _ _ _ _ _ _ (@BA _ _ _ _ _ _ _ _ GS (@Aj _ _ _ _ _ _ _ _ _ _ _ _ _ _ _ _ (Hy T) (hr.mono (by decide)) rfl T.m_least_link T.F_least_link.kp T.b_least_link .nil Ar ((pv 0)*>((@Al _ _ _ _ _ _ _ AE (pv 1) Ag (fun _ _=>rfl))*>Ae)) (by decide) (by rfl) (by rfl)) (@Al _ _ _ _ _ _ _ AE (pv 1) Ag (fun _ _=>rfl)) (Ax _)) (@DG _ _ _ _ _ (@BA _ _ _ _ _ _ _ _ Fr (@Aj _ _ _ _ _ _ _ _ _ _ _ _ _ _ _ _ (FD T) (hr.mono (by decide)) rfl T.m_greatest_link T.F_greatest_link.kp T.b_greatest_link .nil Ar ((pv 0)*>((@Al _ _ _ _ _ _ _ AE (pv 1) Ag (fun _ _=>rfl))*>Ae)) (by decide) (by rfl) (by rfl)) (@Al _ _ _ _ _ _ _ AE (pv 1) Ag (fun _ _=>rfl)) (Ax _)))))))),?_⟩
 have al:(as.map V.ref).length=h:=by rw [length_map,tb.1]
 obtain ⟨g,ec,co⟩:=rw'.cutE
 have t:=rw'.tup
 rw [ec] at t
 and_intros
 rw [al]
 refine ⟨w.w,h,w.x,w.y,L,w.s,w.ws,rfl,rw'.way,rw'.isw,h12,fun H1 s1=>?_⟩
 have t1:=s1 _ _ t
 and_intros
 refine ⟨h,w.x,w.y,L,w.s,g,rfl,co,h12,?_⟩
 and_intros
 refine ⟨a,w.w,as,h,w.x,w.y,L,w.s,w.ws,rfl,s1 _ _ ha,tb.same s1,s1 _ _ rw'.way,rw'.isw,h12,fun H2 s2=>?_⟩
 have t2:=s2 _ _ t1
 have s12:=s1.trans s2
 and_intros
 refine ifT (Qa rfl) ?_
 and_intros
 refine ⟨a,as,h,w.x,w.y,L,w.s,g,rfl,s12 _ _ ha,tb.same s12,co,h12,fun m H3 s3 ms=>?_⟩
 have t3:=s3 _ _ t2
 and_intros
 dsimp only
 rw [decide_eq_true ms]
 exact q _ (s12.trans s3)
theorem HJ (T:Tx K mg base ad):AN P w K mg base CX0 3 ad.f_shown_from ad.d_shown_from ["reached","x"] JI:=by
 refine T.F_shown_from.ok E4 (fun vs H Q E h=>?_) (fun cdv A outer s H vs Q E hr h=>?_)
 ·obtain ⟨t,h,x,L,be,rfl,_⟩:=h
  rfl
 obtain ⟨t,h,x,L,be,rfl,td,hx,h12,q⟩:=h
 refine ⟨_,((Dm (j:=2) (fsc:=Ac Bu) (N:=["reached","x","others"]) (Nc:=["reached","x","others","y"]) rfl rfl (by nofun) rfl E4.nd rfl rfl (AG rfl T.z_range ((@At _ _ _ _ _ _ _ _ _ A0 (by rfl) T.z_len PySem.boot_len ((@Al _ _ _ _ _ _ _ AE (pv 0) Ag (fun _ _=>rfl))*>Ae) (by decide) (by decide) (by rfl) (by rfl))*>Ae)) (fun _ _ _ _=>(CM (@Ay _ _ _ _ _ _ _ _ GU (pv 3) (pv 1) (Ax _)))) (fun _ _ _ _=>(pv 3)) rfl)>>(@Ah _ _ _ (@As _ _ _ _ (Bb (fsc:=Ac Bu) (N:=["reached","x","others"]) (Nc:=["reached","x","others","y"]) rfl rfl (by nofun) rfl (A5 (pv 2)) (fun _ _ _ _=>AF) (fun _ _ _ _=>(@CY _ _ _ _ _ ((pv 1)*>((pv 3)*>((@Al _ _ _ _ _ _ _ (AD K) (@Al _ _ _ _ _ _ _ (Dc K) (pv 0) Ag (fun _ _=>rfl)) (pv 3) (fun _ _=>rfl))*>((@Aj _ _ _ _ _ _ _ _ _ _ _ _ _ _ _ _ (Ml T) (hr.mono (by decide)) rfl T.m_way_by T.F_way_by.kp T.b_way_by .nil Ar ((pv 0)*>((pv 1)*>((pv 3)*>Ae))) (by decide) (by rfl) (by rfl))*>((@Aj _ _ _ _ _ _ _ _ _ _ _ _ _ _ _ _ (MA T) (hr.mono (by decide)) rfl T.m_cut_by T.F_cut_by.kp T.b_cut_by .nil Ar ((pv 0)*>((pv 1)*>((pv 3)*>Ae))) (by decide) (by rfl) (by rfl))*>Ae))))))))))),?_⟩
 obtain ⟨b,f,bf,et,eb,ef,re⟩:=id td.is
 have bl:=re.lenb
 and_intros
 refine ⟨by omega,by rw [length_map];omega,?_⟩
 rw [length_map,bl,Int.toNat_natCast]
 refine AQ (Av (by omega)) (fun D i ys J=>ys=(CA i x).map V.int/\J=upd H D (.lst ys)) (fun D hD=>⟨rfl,rfl⟩) (fun D i ys J ⟨g1,g2⟩=>⟨by rw [g2];exact Ab,by rw [g1,length_map];unfold CA;rw [length_map];exact Nat.le_trans (length_filter_le _ _) (by rw [length_range];exact Nat.le_refl _)⟩) ?_ ?_
 ·rintro D i ys J K1 K2 hD hi ⟨g1,rfl⟩ k1 k2
  have e0:(0:Int)+(i:Int)=(i:Int):=Int.zero_add _
  rw [e0]
  and_intros
  by_cases c:i=x
  ·refine ifF (KW (by rw [c])) ?_
   exact k2 _ ⟨by rw [g1,E1,if_pos c,append_nil],rfl⟩
  ·refine ifT (Ow fun e=>c (Int.ofNat.inj e)) ?_
   refine ⟨_,rfl,?_⟩
   exact k1 _ _ Ab ⟨by rw [g1,E1,if_neg c,map_append];rfl,by rw [AT]⟩
 rintro l ys H1 hl ⟨rfl,rfl⟩
 have s1:=Ad hl (.lst ((CA h x).map V.int))
 have e1:(upd H l (.lst ((CA h x).map V.int))) l=some (.lst ((CA h x).map V.int)):=Ab
 generalize upd H l (.lst ((CA h x).map V.int))=H1 at s1 e1 ⊢
 rw [Of] at e1
 have nl:(Fe h x).length<=h:=Nat.le_trans (length_filter_le _ _) (by rw [length_range];exact Nat.le_refl _)
 and_intros
 refine ⟨⟨_,SqL.of e1⟩,?_⟩
 refine AB (xs:=(AM (Fe h x)).map V.int) (by rw [length_map];unfold AM;rw [length_map];exact Av (by omega)) (fun D i ys J=>∃rows:List Rw,ys=vrw rows/\rows.length=i/\J D=some (.lst ys)/\Aq H1 J/\(∀q∈rows,EK h L (fun _ y=>be.getD y 0) J q/\q.x=x/\H1 q.t=none/\H1 q.w=none/\q.t≠D/\q.w≠D)/\rows.map (fun q=>(q.x,q.y))=((Fe h x).take i).map fun y=>(x,y)) (fun D hD=>⟨[],rfl,rfl,Ab,Ad hD _,(fun _ m=>nomatch m),rfl⟩) (fun D i ys J ⟨rows,g1,g2,g3,_⟩=>⟨g3,by rw [g1];unfold vrw;rw [length_map,g2];exact Nat.le_refl _⟩) (fun D i ys J hD ⟨_,_,_,_,g4,_⟩=>SqL.of (g4 _ _ e1)) ?_ ?_
 ·rintro D i w ys J K1 K2 hD hw ⟨rows,rfl,g2,g3,g4,g5,g6⟩ k1 k2
  obtain ⟨z,hz,rfl⟩:=int_at hw
  unfold AM at hz
  rw [List.getElem?_map] at hz
  obtain ⟨y,hy0,rfl⟩:=Option.map_eq_some_iff.mp hz
  obtain ⟨hy,yx⟩:y < h/\y≠x:=by
   have:=mem_filter.mp (mem_of_getElem? hy0)
   exact ⟨mem_range.mp this.1,of_decide_eq_true this.2⟩
  have sJ:=s1.trans g4
  have et':=sJ _ _ et
  refine yes (ifT rfl ?_)
  refine ⟨_,rfl,_,rfl,_,rfl,t,_,_,_,rfl,rfl,SqT.of et',rfl,?_⟩
  refine ⟨_,rfl,b,_,_,_,rfl,rfl,SqL.of (sJ _ _ eb),atG (by omega),?_⟩
  refine ⟨_,rfl,_,rfl,_,rfl,t,h,x,y,L,be,rfl,td.same sJ,hy,yx,h12,fun wr ws H2 hwr s2 e2 iw=>?_⟩
  refine ⟨_,rfl,_,rfl,_,rfl,t,h,x,y,L,be,rfl,(td.same sJ).same s2,hx,hy,h12,fun H3 s3=>?_⟩
  refine ⟨(by show 5<=sizeLine;decide),fun t5 ht5=>?_⟩
  have s4:=Ad ht5 (.tup [V.int (x:Int),V.int (y:Int),V.int (be.getD y 0),V.ref wr,V.int (A9 h (K3 x y be))])
  have e5:(upd H3 t5 (.tup [V.int (x:Int),V.int (y:Int),V.int (be.getD y 0),V.ref wr,V.int (A9 h (K3 x y be))])) t5=some (.tup [V.int (x:Int),V.int (y:Int),V.int (be.getD y 0),V.ref wr,V.int (A9 h (K3 x y be))]):=Ab
  have s24:=(s2.trans s3).trans s4
  have w5:=(s3.trans s4) _ _ e2
  have D5:=s24 _ _ g3
  have wD:wr≠D:=fun z=>by rw [z,g3] at hwr;cases hwr
  have tD:t5≠D:=fun z=>by rw [z,(s2.trans s3) _ _ g3] at ht5;cases ht5
  have nt:=none_of (g4.trans (s2.trans s3)) ht5
  generalize upd H3 t5 (.tup [V.int (x:Int),V.int (y:Int),V.int (be.getD y 0),V.ref wr,V.int (A9 h (K3 x y be))])=H5 at s24 e5 w5 D5 ⊢
  refine k1 _ _ D5 ⟨rows++[⟨t5,x,y,be.getD y 0,wr,ws,A9 h (K3 x y be)⟩],by unfold vrw;rw [map_append];rfl,by rw [length_append,g2];rfl,Ab,Aw (g4.trans s24) hD,fun q0 m=>?_,by rw [map_append,g6,take_add_one,hy0,map_append];rfl⟩
  rcases mem_append.mp m with m | m
  ·obtain ⟨r0,r1,r2,r3,r4,r5⟩:=g5 q0 m
   exact ⟨⟨by rw [Ai r4];exact s24 _ _ r0.tup,by rw [Ai r5];exact s24 _ _ r0.way,r0.hx,r0.hy,r0.ne,r0.str,r0.isw,r0.cutE⟩,r1,r2,r3,r4,r5⟩
  ·rw [mem_singleton.mp m]
   exact ⟨⟨by rw [Ai tD];exact e5,by rw [Ai wD];exact w5,hx,hy,yx,rfl,iw,rfl⟩,rfl,nt,none_of g4 hwr,tD,wD⟩
 rintro D ys H2 hD ⟨rows,rfl,g2,g3,g4,g5,g6⟩
 rw [length_map,HM,take_of_length_le (Nat.le_refl _)] at g6
 exact q D rows H2 (none_of s1 hD) (s1.trans g4) g3 (fun q0 m=>⟨(g5 q0 m).1,(g5 q0 m).2.1,none_of s1 (g5 q0 m).2.2.1,none_of s1 (g5 q0 m).2.2.2.1⟩) g6
theorem IT (T:Tx K mg base ad):AN P w K mg base CX0 3 ad.f_law_votes ad.d_law_votes ["_law_script","_law_start","_law_most","_law_hands"] (MV K):=by
 refine T.F_law_votes.ok C0 (fun vs H Q E h=>?_) (fun cdv A outer s H vs Q E hr h=>?_)
 ·obtain ⟨p,ns,a,m,h,rfl,_⟩:=h
  rfl
 obtain ⟨p,ns,a,m,h,rfl,hS,h63,rfl,rfl,h1,h12,q⟩:=h
 refine ⟨_,((@Ao _ _ (4) _ _ _ _ C0.nd rfl (Or.inl rfl) (@Bf _ _ _ _ Ae) (by rfl) (by nofun))>>((B9 PassesOwn.never rfl (MI rfl T.z_range ((pv 1)*>((@At _ _ _ _ _ _ _ _ _ (Md rfl) (by rfl) T.z_max PyProof.Rows.boot_max ((AX<&>((pv 1)<|>Ag))*>((@At _ _ _ _ _ _ _ _ _ (Id rfl) (by rfl) T.z_min PyProof.Rows.boot_min ((@At _ _ _ _ _ _ _ _ _ A0 (by rfl) T.z_len PySem.boot_len ((pv 0)*>Ae) (by decide) (by decide) (by rfl) (by rfl))*>((AX<&>((pv 1)<|>(pv 2)))*>Ae)) (by decide) (by decide) (by rfl) (by rfl))*>Ae)) (by decide) (by decide) (by rfl) (by rfl))*>Ae))) (AA (i:=5) C0.nd rfl (Or.inl rfl)) ((@Ao _ _ (6) _ _ _ _ C0.nd rfl (Or.inl rfl) (@Aj _ _ _ _ _ _ _ _ _ _ _ _ _ _ _ _ (Db T) (hr.mono (by decide)) rfl T.m_law_mixed T.F_law_mixed.kp T.b_law_mixed .nil Ar ((@Aj _ _ _ _ _ _ _ _ _ _ _ _ _ _ _ _ (Eo T) (hr.mono (by decide)) rfl T.m_law_cell T.F_law_cell.kp T.b_law_cell .nil Ar ((pv 0)*>((pv 5)*>Ae)) (by decide) (by rfl) (by rfl))*>((pv 5)*>Ae)) (by decide) (by rfl) (by rfl)) (by rfl) (by nofun))>>((@Ao _ _ (7) _ _ _ _ C0.nd rfl (Or.inl rfl) (@Al _ _ _ _ _ _ _ A3 (@Bf _ _ _ _ ((AX<&>(Ag<|>(Be<&>((Bs<&>((pv 6)<|>Ag))<|>Ag))))*>((AX<&>(Ag<|>(Be<&>((Bs<&>((pv 6)<|>Ag))<|>Ag))))*>((AX<&>(Ag<|>(Be<&>((Bs<&>((pv 6)<|>Ag))<|>(Hr<&>(Ag<|>Ag))))))*>Ae)))) (Be<&>((pv 6)<|>Ag)) (fun _ _=>rfl)) (by rfl) (by nofun))>>(@Ah _ _ _ (@Ci _ _ _ _ (Dw PySem.F.plainAttrs_list PySem.F.slot_list_append PySem.F.type_list_append BG (pv 4) ((@CY _ _ _ _ _ ((@Aj _ _ _ _ _ _ _ _ _ _ _ _ _ _ _ _ (IO T) (hr.mono (by decide)) rfl T.m_law_ranks T.F_law_ranks.kp T.b_law_ranks .nil Ar ((Bs<&>((pv 6)<|>Ag))*>((pv 3)*>Ae)) (by decide) (by rfl) (by rfl))*>((pv 7)*>Ae)))*>Ae)) (by rfl))))))>>(@Ah _ _ _ (@As _ _ _ _ (pv 4))))),?_⟩
 obtain ⟨n,rfl⟩:∃n:Nat,h=(n:Int):=⟨h.toNat,by omega⟩
 refine ⟨(by show 0<=sizeLine;decide),fun l hl=>?_⟩
 have s0:=Ad hl (.lst [])
 have e0:(upd H l (.lst [])) l=some (.lst (vvo [])):=Ab
 generalize upd H l (.lst [])=H0 at s0 e0 ⊢
 and_intros
 refine ⟨p,_,rfl,.inl (s0.seq hS),?_⟩
 and_intros
 refine ⟨_,_,rfl,?_⟩
 and_intros
 refine ⟨_,_,rfl,?_⟩
 have hl':(ns.map V.int).length=ns.length:=length_map _
 rw [hl']
 have hM:5<=(if (if 2+12 < (ns.length:Int) then 2+12 else (ns.length:Int)) > 2+3 then (if 2+12 < (ns.length:Int) then 2+12 else (ns.length:Int)) else 2+3)/\(if (if 2+12 < (ns.length:Int) then 2+12 else (ns.length:Int)) > 2+3 then (if 2+12 < (ns.length:Int) then 2+12 else (ns.length:Int)) else 2+3)<=14:=by
  split <;> split at*<;> omega
 generalize (if (if 2+12 < (ns.length:Int) then 2+12 else (ns.length:Int)) > 2+3 then (if 2+12 < (ns.length:Int) then 2+12 else (ns.length:Int)) else 2+3)=M at hM ⊢
 refine ⟨2,M,rfl,⟨by decide,by decide,by omega,by omega⟩,D8 (fun i σ' H'=>∃(v5 v6 v7:Option V) (vo:Vo),σ'=[some (.ref p),some (.int 2),some (.int 12),some (.int (n:Int)),some (.ref l),v5,v6,v7]/\Aq H H'/\H' l=some (.lst (vvo vo))/\vo.length=i/\Ek n H' vo/\NK vo/\∀q∈vo,q.2.1≠l) ⟨none,none,none,[],rfl,s0,e0,rfl,(fun _ m=>nomatch m),(fun _ m=>nomatch m),(fun _ m=>nomatch m)⟩ ?_ ?_⟩
 ·rintro i σ' H' hi ⟨v5,v6,v7,vo,rfl,s1,e1,ln,g,nu,nl⟩
  and_intros
  refine ⟨p,ns,2+(i:Int),rfl,s1.seq hS,h63,by omega,by omega,fun c c0 c1=>?_⟩
  and_intros
  refine ⟨c,2+(i:Int),rfl,P0 c0 c1,Ef (by omega) (by omega),fun z z0 z1=>?_⟩
  and_intros
  have szz:=QG z0 z1
  have m3:=By z (show (0:Int) < 3 by decide)
  have m4:=By (z.fdiv 8) (show (0:Int) < 4 by decide)
  have m9:=By (z.fdiv 8) (show (0:Int) < 10 ^ (9:Int).toNat by decide)
  have e9:(10:Int) ^ (9:Int).toNat=1000000000:=by decide
  refine ⟨(by show 3<=sizeLine;decide),fun b3 hb3=>?_⟩
  dsimp only
  have s2:=Ad hb3 (.lst [V.int (1+(z.fdiv 8).fmod 4),V.int (1+(z.fdiv 8).fmod 4),V.int (1+(z.fdiv 8).fmod (10 ^ (9:Int).toNat))])
  have e2:(upd H' b3 (.lst [V.int (1+(z.fdiv 8).fmod 4),V.int (1+(z.fdiv 8).fmod 4),V.int (1+(z.fdiv 8).fmod (10 ^ (9:Int).toNat))])) b3=some (.lst [V.int (1+(z.fdiv 8).fmod 4),V.int (1+(z.fdiv 8).fmod 4),V.int (1+(z.fdiv 8).fmod (10 ^ (9:Int).toNat))]):=Ab
  generalize upd H' b3 (.lst [V.int (1+(z.fdiv 8).fmod 4),V.int (1+(z.fdiv 8).fmod 4),V.int (1+(z.fdiv 8).fmod (10 ^ (9:Int).toNat))])=H2 at s2 e2 ⊢
  obtain ⟨v,hv,w1,w2⟩:∃v:Int,atI [V.int (1+(z.fdiv 8).fmod 4),V.int (1+(z.fdiv 8).fmod 4),V.int (1+(z.fdiv 8).fmod (10 ^ (9:Int).toNat))] (z.fmod 3)=some (.int v)/\1<=v/\v<=1000000000:=by
   rcases (by omega:z.fmod 3=0\/z.fmod 3=1\/z.fmod 3=2) with e | e | e
   ·rw [e];exact ⟨_,rfl,by omega,by omega⟩
   ·rw [e];exact ⟨_,rfl,by omega,by omega⟩
   ·rw [e];exact ⟨_,rfl,by omega,by omega⟩
  and_intros
  refine ⟨b3,_,_,_,rfl,rfl,SqL.of e2,hv,?_⟩
  have f1:=s2 _ _ e1
  and_intros
  refine ⟨.inl ⟨rfl,_,SqL.of f1⟩,?_⟩
  have d64:=NA z0 (show (1:Int)<=64 by decide) z1
  and_intros
  refine ⟨z.fdiv 64,(n:Int),rfl,d64.1,d64.2,h1,h12,fun lr rs H3 hlr s3 e3 ir=>?_⟩
  and_intros
  refine ⟨(by show 2<=sizeLine;decide),fun t ht=>?_⟩
  have s4:=Ad ht (.tup [V.ref lr,V.int v])
  have e4:(upd H3 t (.tup [V.ref lr,V.int v])) t=some (.tup [V.ref lr,V.int v]):=Ab
  have f2:=s4 _ _ (s3 _ _ f1)
  have e3':=s4 _ _ e3
  have g':=((g.same s2).same s3).same s4
  have sAll:=((s1.trans s2).trans s3).trans s4
  generalize upd H3 t (.tup [V.ref lr,V.int v])=H4 at sAll e4 f2 e3' g' ⊢
  refine ⟨l,_,_,rfl,rfl,f2,(by rw [Gx];exact AW (by omega)),?_⟩
  have keep:∀b o,H4 b=some o->b≠l->(upd H4 l (.lst (vvo vo++[V.ref t]))) b=some o:=fun b o e ne=>by rw [Ai ne];exact e
  have ne:lr≠l:=fun z=>by rw [z,f1] at hlr;cases hlr
  have tl:∀b u,H4 b=some (.tup u)->b≠l:=fun b u e z=>by rw [z,f2] at e;cases e
  refine ⟨_,_,_,vo++[(t,lr,rs,v)],rfl,Aw sAll hl,by rw [Ab];unfold vvo;rw [map_append];rfl,by rw [length_append,ln];rfl,fun q m=>?_,fun q m=>?_,fun q m=>?_⟩
  ·rcases mem_append.mp m with m | m
   ·obtain ⟨a1,a2,a3⟩:=g' q m
    exact ⟨keep _ _ a1 (tl _ _ a1),keep _ _ a2 (nl q m),a3⟩
   ·rw [mem_singleton.mp m]
    exact ⟨keep _ _ e4 (tl _ _ e4),keep _ _ e3' ne,by have:=ir.1;show rs.length=n;omega⟩
  ·rcases mem_append.mp m with m | m
   ·exact nu q m
   ·rw [mem_singleton.mp m]
    exact ⟨w1,w2,ir.2⟩
  ·rcases mem_append.mp m with m | m
   ·exact nl q m
   ·rw [mem_singleton.mp m]
    exact ne
 ·rintro σ' H' ⟨v5,v6,v7,vo,rfl,s1,e1,ln,g,nu,nl⟩
  exact ⟨_,rfl,q l vo H' s1 e1 (by omega) (by omega) (by rw [Int.toNat_natCast];exact g) nu⟩
theorem II (T:Tx K mg base ad):AN P w K mg base CX0 3 ad.f_law_other ad.d_law_other ["_law_paper","_law_leads_here","_law_cell_here"] MW:=by
 refine T.F_law_other.ok AC (fun vs H Q E h=>?_) (fun cdv A outer s H vs Q E hr h=>?_)
 ·obtain ⟨p,a,as,c,h,s',ns,ls,F,rows,rfl,_⟩:=h
  rfl
 obtain ⟨p,a,as,c,h,s',ns,ls,F,rows,rfl,pr,st,ha,tb,szc,h1,h12,q⟩:=h
 refine ⟨_,((@Ao _ _ (3) _ _ _ _ AC.nd rfl (Or.inl rfl) (C7 rfl (by rfl) T.z_list (by rfl) T.z_range (@At _ _ _ _ _ _ _ _ _ A0 (by rfl) T.z_len PySem.boot_len ((pv 1)*>Ae) (by decide) (by decide) (by rfl) (by rfl))) (by rfl) (by nofun))>>((@Ec _ _ _ _ _ _ _ _ (@Ay _ _ _ _ _ _ _ _ GS (Be<&>((pv 2)<|>Ag)) Ag (Ax _)) (@Ah _ _ _ (@Ao _ _ (3) _ _ _ _ AC.nd rfl (Or.inl rfl) (Lg rfl (by rfl) T.z_list (by rfl) T.z_reversed (pv 3)) (by rfl) (by nofun))) AK)>>((@Ao _ _ (4) _ _ _ _ AC.nd rfl (Or.inl rfl) (@Bf _ _ _ _ Ae) (by rfl) (by nofun))>>((B9 PassesOwn.never rfl (A5 (@Al _ _ _ _ _ _ _ AE (pv 0) Ag (fun _ _=>rfl))) (AA (i:=5) AC.nd rfl (Or.inl rfl)) ((Fy (pv 5) (FH rfl (Bp (AA (i:=6) AC.nd rfl (Or.inl rfl)) (Bp (AA (i:=7) AC.nd rfl (Or.inl rfl)) (Bp (AA (i:=8) AC.nd rfl (Or.inl rfl)) (Bp (AA (i:=9) AC.nd rfl (Or.inl rfl)) (Bp (AA (i:=10) AC.nd rfl (Or.inl rfl)) Ew)))))))>>((@Ao _ _ (11) _ _ _ _ AC.nd rfl (Or.inl rfl) (@Aj _ _ _ _ _ _ _ _ _ _ _ _ _ _ _ _ (Db T) (hr.mono (by decide)) rfl T.m_law_mixed T.F_law_mixed.kp T.b_law_mixed .nil Ar ((pv 2)*>((AX<&>((AX<&>(Ag<|>(DK<&>(Ag<|>(pv 6)))))<|>(pv 7)))*>Ae)) (by decide) (by rfl) (by rfl)) (by rfl) (by nofun))>>((@Ec _ _ _ _ _ _ _ _ (@Ay _ _ _ _ _ _ _ _ GN (Be<&>((pv 11)<|>Ag)) Ag (Ax _)) (@Ah _ _ _ (@Ao _ _ (9) _ _ _ _ AC.nd rfl (Or.inl rfl) (@Aj _ _ _ _ _ _ _ _ _ _ _ _ _ _ _ _ (Gm T) (hr.mono (by decide)) rfl T.m_law_way_back T.F_law_way_back.kp T.b_law_way_back .nil Ar ((pv 1)*>((pv 6)*>((pv 7)*>((pv 8)*>((pv 3)*>Ae))))) (by decide) (by rfl) (by rfl)) (by rfl) (by nofun))) AK)>>((@Ec _ _ _ _ _ _ _ _ (@Ay _ _ _ _ _ _ _ _ GN (Be<&>((Bs<&>((pv 11)<|>Ag))<|>Ag)) Ag (Ax _)) ((@Ao _ _ (12) _ _ _ _ AC.nd rfl (Or.inr rfl) (@Aj _ _ _ _ _ _ _ _ _ _ _ _ _ _ _ _ (Fm T) (hr.mono (by decide)) rfl T.m_law_reach T.F_law_reach.kp T.b_law_reach .nil Ar ((pv 1)*>((pv 7)*>((AX<&>((pv 8)<|>Ag))*>((pv 3)*>Ae)))) (by decide) (by rfl) (by rfl)) (by rfl) (by nofun))>>(@Ah _ _ _ (@Ao _ _ (10) _ _ _ _ AC.nd rfl (Or.inl rfl) (@At _ _ _ _ _ _ _ _ _ (JO rfl) (by rfl) T.z_sum PyProof.Rows.boot_sum ((Bb (fsc:=Ac B6) (N:=["_law_paper","_law_leads_here","_law_cell_here","_law_hands","_law_steps","_law_one","_law_x","_law_y","_law_worth","_law_some","_law_cut","_law_number","_law_beyond"]) (Nc:=["_law_paper","_law_leads_here","_law_cell_here","_law_hands","_law_steps","_law_one","_law_x","_law_y","_law_worth","_law_some","_law_cut","_law_number","_law_beyond","_law_hand"]) rfl rfl (by nofun) rfl (A5 (pv 3)) (fun _ _ _ _=>(CM (@Ay _ _ _ _ _ _ _ _ (Ik (u1 hr.units)) (pv 13) (pv 12) (by with_unfolding_all rfl)))) (fun _ _ _ _=>(Jm<&>(Ag<|>(pv 13)))))*>Ae) (by decide) (by decide) (by rfl) (by rfl)) (by rfl) (by nofun)))) AK)>>(@Ah _ _ _ (@Ci _ _ _ _ (Dw PySem.F.plainAttrs_list PySem.F.slot_list_append PySem.F.type_list_append BG (pv 4) ((@CY _ _ _ _ _ ((pv 6)*>((pv 7)*>((pv 8)*>((pv 9)*>((pv 10)*>Ae))))))*>Ae)) (by rfl))))))))>>(@Ah _ _ _ (@As _ _ _ _ (@CY _ _ _ _ _ ((Bb (fsc:=Ac B6) (N:=["_law_paper","_law_leads_here","_law_cell_here","_law_hands","_law_steps","_law_one","_law_x","_law_y","_law_worth","_law_some","_law_cut","_law_number","_law_beyond"]) (Nc:=["_law_paper","_law_leads_here","_law_cell_here","_law_hands","_law_steps","_law_one","_law_x","_law_y","_law_worth","_law_some","_law_cut","_law_number","_law_beyond","_law_row"]) rfl rfl (by nofun) rfl (A5 (@Al _ _ _ _ _ _ _ AE (pv 0) Ag (fun _ _=>rfl))) (fun _ _ _ _=>AF) (fun _ _ _ _=>(@Bm _ _ _ _ _ _ _ _ _ (Dt K) (by rfl) T.z_list PyProof.Rows.boot_list ((pv 13)*>Ae) (by decide) (by decide) (by rfl) (by rfl))))*>((pv 4)*>((@Bm _ _ _ _ _ _ _ _ _ Bk (by rfl) T.z_list PyProof.Rows.boot_list ((@Al _ _ _ _ _ _ _ AE (pv 0) Ag (fun _ _=>rfl))*>Ae) (by decide) (by decide) (by rfl) (by rfl))*>Ae)))))))))),?_⟩
 obtain ⟨m,sh,pk,ms,p1,p2,p3,p4,p5,p6,p7⟩:=pr
 have rl:=G9 h12 p6
 have al:(as.map V.ref).length=h:=by rw [length_map,tb.1]
 and_intros
 refine ⟨by omega,fun l0 hl0=>?_⟩
 rw [al,Qc]
 have s1:=Ad hl0 ((.lst ((ups h).map V.int)))
 have e1:(upd H l0 ((.lst ((ups h).map V.int)))) l0=some ((.lst ((ups h).map V.int))):=Ab
 generalize upd H l0 ((.lst ((ups h).map V.int)))=H1 at s1 e1 ⊢
 and_intros
 refine ⟨fun σ' J=>∃(hl:Addr) (hs:List Int),σ'=[some (.ref p),some (.ref a),some (.int c),some (.ref hl),none,none,none,none,none,none,none,none,none]/\Aq H J/\J hl=some (.lst (hs.map V.int))/\hs.Perm (ups h),?_,?_⟩
 ·and_intros
  refine NM (fun _=>?_) (fun _=>?_)
  ·and_intros
   refine ⟨l0,_,rfl,SqL.of e1,fun l2 hl2=>?_⟩
   rw [<- map_reverse]
   exact ⟨l2,(ups h).reverse,rfl,s1.trans (Ad hl2 _),Ab,reverse_perm _⟩
  ·exact ⟨l0,ups h,rfl,s1,e1,List.Perm.refl _⟩
 clear s1 e1 hl0
 rintro σ' H1 ⟨hl,hs,rfl,s1,ehl,ph⟩
 and_intros
 refine ⟨(by show 0<=sizeLine;decide),fun sl hsl=>?_⟩
 have hslH:=none_of s1 hsl
 have s2:=s1.trans (Ad hsl (.lst []))
 have e2:(upd H1 sl (.lst [])) sl=some (.lst (vrw [])):=Ab
 have ehl2:=Ad hsl (.lst []) _ _ ehl
 have hls:hl≠sl:=fun z=>by rw [<- z,ehl] at hsl;cases hsl
 generalize upd H1 sl (.lst [])=H2 at s2 e2 ehl2 ⊢
 have p12:=s2 _ _ p1
 and_intros
 refine ⟨⟨_,SqL.of (s2 _ _ p4)⟩,BD (xs:=vrw rows) (fun i σ' J=>∃(v5 v6 v7 v8 v9 v10 v11 v12:Option V) (cs:List Rw),σ'=[some (.ref p),some (.ref a),some (.int c),some (.ref hl),some (.ref sl),v5,v6,v7,v8,v9,v10,v11,v12]/\Aq H J/\J hl=some (.lst (hs.map V.int))/\J sl=some (.lst (vrw cs))/\(∀q∈cs,RwG h (Bv ls) F J q/\q.w≠sl)/\cs.map (fun q=>(q.x,q.y))=(rows.take i).map fun q=>(q.x,q.y)) ⟨none,none,none,none,none,none,none,none,[],rfl,s2,ehl2,e2,(fun q m=>nomatch m),rfl⟩ (fun i σ' J _ ⟨_,_,_,_,_,_,_,_,_,_,z,_⟩=>SqL.of (z _ _ p4)) ?_ ?_⟩
 ·rintro i w σ' J hw ⟨v5,v6,v7,v8,v9,v10,v11,v12,cs,rfl,s3,ehl3,e3,g3,m3⟩
  obtain ⟨r,hr0,rfl,mr,et⟩:=EX hw
  have ro:=(p5 r mr).same s3
  have rt:=ro.tup
  have rwH:=(p5 r mr).way
  have wsl:r.w≠sl:=fun z=>by rw [z,hslH] at rwH;cases rwH
  have hx:=ro.hx
  have hy:=ro.hy
  have cl:cs.length<=144:=by
   have a1:=congrArg List.length m3
   rw [length_map,length_map,length_take] at a1
   omega
  obtain ⟨g0,ec,co⟩:=ro.cutE
  refine ⟨_,rfl,r.t,_,rfl,SqT.of rt,rfl,?_⟩
  refine ⟨_,_,rfl,_,_,rfl,_,_,rfl,_,_,rfl,_,_,rfl,rfl,?_⟩
  and_intros
  refine ⟨Sr (show Sz 64 (12:Int) from Ef (by omega) (by omega)) (show Sz 64 (r.x:Int) from Ef (by omega) (by omega)),?_⟩
  and_intros
  refine ⟨c,_,rfl,szc,(show Sz 64 _ from Ef (by omega) (by omega)),fun z z0 z1=>?_⟩
  have szz:=QG z0 z1
  and_intros
  refine ⟨fun σ' G=>∃(w:Addr) (ws:List Nat),σ'=[some (.ref p),some (.ref a),some (.int c),some (.ref hl),some (.ref sl),some (.ref r.t),some (.int (r.x:Int)),some (.int (r.y:Int)),some (.int r.s),some (.ref w),some (.int r.cut),some (.int z),v12]/\Aq J G/\G w=some (.lst ((AM ws).map V.int))/\E6 h r.x r.y (Bv ls) r.s ws/\w≠sl,?_,?_⟩
  ·and_intros
   refine NM (fun _=>?_) (fun _=>?_)
   ·and_intros
    refine ⟨a,hl,as,h,r.x,r.y,r.s,Bv ls,F,hs,rfl,s3 _ _ ha,tb.same s3,hx,hy,Ne.symm ro.ne,h12,ehl3,ph,st,ro.str,fun w ws G hw s4 e4 iw=>?_⟩
    exact ⟨w,ws,rfl,s4,e4,iw,fun z=>by rw [z,e3] at hw;cases hw⟩
   ·exact ⟨r.w,r.ws,rfl,Aq.refl _,ro.way,ro.isw,wsl⟩
  rintro σ' G1 ⟨w,ws,rfl,s4,e4,iw,nw⟩
  and_intros
  refine ⟨fun σ' G=>∃(g:Nat->Bool) (v12:Option V),σ'=[some (.ref p),some (.ref a),some (.int c),some (.ref hl),some (.ref sl),some (.ref r.t),some (.int (r.x:Int)),some (.int (r.y:Int)),some (.int r.s),some (.ref w),some (.int (A9 h g)),some (.int z),v12]/\Aq G1 G/\Lz h r.x r.y (Bv ls) r.s g,?_,?_⟩
  ·and_intros
   refine NM (fun _=>?_) (fun _=>?_)
   ·and_intros
    refine ⟨a,hl,as,h,r.y,r.s+1,Bv ls,hs,rfl,(s3.trans s4) _ _ ha,tb.same (s3.trans s4),hy,h12,s4 _ _ ehl3,ph,fun d ps G4 s6 e6 on cl=>?_⟩
    have ehl4:=s6 _ _ (s4 _ _ ehl3)
    have hsln:hs.length=h:=by rw [ph.length_eq,BH]
    and_intros
    refine ⟨⟨_,SqL.of ehl4⟩,?_⟩
    refine AB (xs:=hs.map V.int) (by rw [length_map];exact Av (by omega)) (fun D m ys J=>ys=(((hs.take m).filter fun z=>!decide (z.toNat∈ps.map Prod.fst)).map fun z=>(2:Int) ^ z.toNat).map V.int/\J=upd G4 D (.lst ys)) (fun D hD=>⟨rfl,rfl⟩) (fun D m ys J ⟨f1,f2⟩=>⟨by rw [f2];exact Ab,by rw [f1,length_map,length_map];exact Nat.le_trans (length_filter_le _ _) (length_take_le _ _)⟩) (fun D m ys J hD ⟨_,f2⟩=>by rw [f2];exact SqL.of (Ad hD _ _ _ ehl4)) ?_ ?_
    ·rintro D m u ys J K1 K2 hD hu ⟨f1,rfl⟩ k1 k2
     obtain ⟨z2,hz2,rfl⟩:=int_at hu
     obtain ⟨o,ho,rfl⟩:=DF (ph.mem_iff.mp (mem_of_getElem? hz2))
     have eo:hs.take (m+1)=hs.take m++[(o:Int)]:=by rw [take_add_one,hz2];rfl
     have sD:=Ad hD (.lst ys)
     and_intros
     refine ⟨d,_,rfl,DE.k (k:=Sum.inl (o:Int)) (sD _ _ e6),?_⟩
     rw [Lo]
     refine ⟨_,rfl,?_⟩
     by_cases c1:o∈ps.map Prod.fst
     ·refine ifF (by rw [decide_eq_true c1];rfl) ?_
      refine k2 _ ⟨?_,rfl⟩
      rw [eo,filter_append,f1,filter_cons,if_neg (by rw [Int.toNat_natCast,decide_eq_true c1];decide),filter_nil,append_nil]
     ·refine ifT (by rw [decide_eq_false c1];rfl) ?_
      and_intros
      refine ⟨Ig (by omega),?_⟩
      refine k1 _ _ Ab ⟨?_,by rw [AT]⟩
      rw [eo,filter_append,f1,filter_cons,if_pos (by rw [Int.toNat_natCast,decide_eq_false c1];rfl),filter_nil,map_append,map_append]
      show _++[V.int (1*2 ^ (o:Int).toNat)]=_++[V.int (2 ^ (o:Int).toNat)]
      rw [Int.one_mul]
    rintro D ys G5 hD ⟨f1,rfl⟩
    rw [length_map,take_of_length_le (Nat.le_refl _)] at f1
    subst f1
    refine ⟨D,_,rfl,SqL.of Ab,?_⟩
    have sb:=J9 h ((hs.filter fun z=>!decide (z.toNat∈ps.map Prod.fst)).map Int.toNat) (by
     refine pairwise_map.mpr ?_
     have nd:(hs.filter fun z=>!decide (z.toNat∈ps.map Prod.fst)).Nodup:=List.Pairwise.filter _ (ph.nodup_iff.mpr (Qt h))
     refine List.Pairwise.imp_of_mem (fun {a b} ma mb ne e=>ne ?_) nd
     obtain ⟨i1,_,rfl⟩:=DF (ph.mem_iff.mp (mem_filter.mp ma).1)
     obtain ⟨i2,_,rfl⟩:=DF (ph.mem_iff.mp (mem_filter.mp mb).1)
     rw [Int.toNat_natCast,Int.toNat_natCast] at e
     rw [e]) (fun k m=>by
     obtain ⟨z,mz,rfl⟩:=mem_map.mp m
     obtain ⟨i1,h1,rfl⟩:=DF (ph.mem_iff.mp (mem_filter.mp mz).1)
     rw [Int.toNat_natCast]
     exact h1)
    rw [map_map,show ((fun k=>(2:Int) ^ k) ∘ Int.toNat)=fun z:Int=>(2:Int) ^ z.toNat from rfl] at sb
    rw [sb,AS h (g:=fun j=>!decide (j∈ps.map Prod.fst)) fun j hj=>by
     rw [Bool.eq_iff_iff,decide_eq_true_eq,Bool.not_eq_true',decide_eq_false_iff_not]
     constructor
     ·intro m
      obtain ⟨z,mz,rfl⟩:=mem_map.mp m
      have:=(mem_filter.mp mz).2
      rw [Bool.not_eq_true',decide_eq_false_iff_not] at this
      exact this
     ·intro nm
      exact mem_map.mpr ⟨(j:Int),mem_filter.mpr ⟨ph.mem_iff.mpr (ID.mpr ⟨j,hj,rfl⟩),by rw [Int.toNat_natCast,decide_eq_false nm];rfl⟩,Int.toNat_natCast j⟩]
    refine ⟨fun j=>!decide (j∈ps.map Prod.fst),_,rfl,s6.trans (Ad hD _),hx,hy,?_,?_,fun u w' hu hw' gu gw=>?_⟩
    ·rw [decide_eq_false fun mx=>by have:=on.strong st hy r.x mx (Ne.symm ro.ne);have:=ro.str;omega]
     rfl
    ·rw [decide_eq_true on.mem_y]
     rfl
    ·have nu:u ∉ ps.map Prod.fst:=by simpa using gu
     have mw:w'∈ps.map Prod.fst:=by simpa using gw
     have:=cl u hu nu w' mw
     omega
   ·exact ⟨g0,v12,by rw [ec],Aq.refl _,co⟩
  rintro σ' G2 ⟨g,v12,rfl,s5,co'⟩
  have s45:=s4.trans s5
  have e35:=s45 _ _ e3
  and_intros
  refine ⟨.inl ⟨rfl,_,SqL.of e35⟩,?_⟩
  and_intros
  refine ⟨(by show 5<=sizeLine;decide),fun t ht=>?_⟩
  have s6:=Ad ht ((.tup [V.int (r.x:Int),V.int (r.y:Int),V.int r.s,V.ref w,V.int (A9 h g)]))
  have e6:(upd G2 t ((.tup [V.int (r.x:Int),V.int (r.y:Int),V.int r.s,V.ref w,V.int (A9 h g)]))) t=some ((.tup [V.int (r.x:Int),V.int (r.y:Int),V.int r.s,V.ref w,V.int (A9 h g)])):=Ab
  generalize upd G2 t ((.tup [V.int (r.x:Int),V.int (r.y:Int),V.int r.s,V.ref w,V.int (A9 h g)]))=G3 at s6 e6 ⊢
  have e36:=s6 _ _ e35
  have s46:=s45.trans s6
  refine ⟨sl,_,_,rfl,rfl,e36,(by rw [C5];exact AW (by omega)),?_⟩
  refine ⟨_,_,_,_,_,_,_,_,cs++[⟨t,r.x,r.y,r.s,w,ws,A9 h g⟩],rfl,Aw (s3.trans s46) hslH,by rw [Ai hls];exact s46 _ _ ehl3,by rw [Ab,EE];rfl,fun q m=>?_,by rw [map_append,m3,et,map_append];rfl⟩
  rcases mem_append.mp m with m | m
  ·exact ⟨((g3 q m).1.same s46).upd e36 (g3 q m).2,(g3 q m).2⟩
  ·rw [mem_singleton.mp m]
   exact ⟨RwG.upd (q:=⟨t,r.x,r.y,r.s,w,ws,A9 h g⟩) ⟨e6,(s5.trans s6) _ _ e4,ro.ne,ro.str,iw,g,rfl,co'⟩ e36 nw,nw⟩
 ·rintro σ' G0 ⟨v5,v6,v7,v8,v9,v10,v11,v12,cs,rfl,s3,ehl3,e3,gw3,m3⟩
  rw [C5,take_of_length_le (Nat.le_refl _),p6] at m3
  have p13:=s3 _ _ p1
  have p2':=s3 _ _ p2
  have p3':=p3.same s3
  and_intros
  refine ⟨⟨_,SqL.of p2'⟩,?_⟩
  refine AB (xs:=ms.map V.ref) (by rw [length_map,p3'.1];exact Av (by omega)) (fun D i ys J=>∃bs:List Addr,ys=bs.map V.ref/\bs.length=i/\bs.Nodup/\J D=some (.lst ys)/\Aq G0 J/\D ∉ bs/\(∀a∈bs,G0 a=none)/\∀k b,bs[k]?=some b->J b=some (.lst (((List.range h).map fun y=>ovF ls k y).map V.int))) (fun D hD=>⟨[],rfl,rfl,nodup_nil,Ab,Ad hD _,(fun m=>nomatch m),(fun _ m=>nomatch m),(fun _ _ e=>by cases e)⟩) (fun D i ys J ⟨bs,f1,f2,_,f3,_⟩=>⟨f3,by rw [f1,length_map,f2];exact Nat.le_refl _⟩) (fun D i ys J hD ⟨_,_,_,_,_,f5,_⟩=>SqL.of (f5 _ _ p2')) ?_ ?_
  ·rintro D i x ys J K1 K2 hD hx ⟨bs,rfl,f2,f3,f4,f5,f6,f7,f8⟩ k1 k2
   rw [List.getElem?_map] at hx
   obtain ⟨a,ha,rfl⟩:=Option.map_eq_some_iff.mp hx
   refine yes (ifT rfl ?_)
   refine ⟨_,rfl,a,_,rfl,.inl (SqL.of (f5 _ _ (p3'.2.2 i a ha))),fun D2 hD2=>?_⟩
   have sD:=Ad hD2 (.lst (((List.range h).map fun y=>ovF ls i y).map V.int))
   have eD:(upd J D2 (.lst (((List.range h).map fun y=>ovF ls i y).map V.int))) D2=some (.lst (((List.range h).map fun y=>ovF ls i y).map V.int)):=Ab
   have dd:D2≠D:=fun z=>by rw [z,f4] at hD2;cases hD2
   have na:D2 ∉ bs:=fun m=>by
    obtain ⟨k,hk⟩:=List.getElem?_of_mem m
    rw [f8 k D2 hk] at hD2
    cases hD2
   have nD:D ∉ bs:=f6
   have nD2:=none_of f5 hD2
   generalize upd J D2 (.lst (((List.range h).map fun y=>ovF ls i y).map V.int))=J5 at sD eD ⊢
   refine k1 _ _ (sD _ _ f4) ⟨bs++[D2],by rw [map_append];rfl,by rw [length_append,f2];rfl,nodup_append.mpr ⟨f3,by simp,fun a ma b mb e=>na (by rw [<- mem_singleton.mp mb,<- e];exact ma)⟩,Ab,Aw (f5.trans sD) hD,fun m=>?_,fun a m=>?_,fun k b e=>?_⟩
   ·rcases mem_append.mp m with m | m
    ·exact f6 m
    ·exact dd (mem_singleton.mp m).symm
   ·rcases mem_append.mp m with m | m
    ·exact f7 a m
    ·rw [mem_singleton.mp m];exact nD2
   ·by_cases c:k < bs.length
    ·rw [List.getElem?_append_left c] at e
     rw [Ai (fun z=>f6 (by rw [<- z];exact mem_of_getElem? e))]
     exact sD _ _ (f8 k b e)
    ·rw [List.getElem?_append_right (by omega)] at e
     have ek:k=i:=by
      have:=(List.getElem?_eq_some_iff.mp e).1
      rw [length_singleton] at this
      omega
     rw [ek,f2,Nat.sub_self] at e
     cases Option.some.inj e
     rw [Ai dd,ek]
     exact eD
  rintro g ys J3 hg ⟨gs,rfl,g2,g3,eg,sg,g6,g7,g8⟩
  have tg:AL J3 gs h (ovF ls):=⟨by rw [g2,length_map,p3'.1],g3,g8⟩
  have s4:=s3.trans sg
  have p14:=s4 _ _ p1
  and_intros
  refine ⟨pk,_,rfl,.inl (SqL.of (s4 _ _ p7)),fun k2 hk2=>?_⟩
  have s5:=Ad hk2 ((.lst ((Au F s' ns).map V.int)))
  have e5:(upd J3 k2 ((.lst ((Au F s' ns).map V.int)))) k2=some ((.lst ((Au F s' ns).map V.int))):=Ab
  generalize upd J3 k2 ((.lst ((Au F s' ns).map V.int)))=J4 at s5 e5 ⊢
  and_intros
  refine ⟨(by show 3<=sizeLine;decide),fun t ht=>?_⟩
  have s6:=Ad ht ((.tup [V.ref g,V.ref sl,V.ref k2]))
  have e6:(upd J4 t ((.tup [V.ref g,V.ref sl,V.ref k2]))) t=some ((.tup [V.ref g,V.ref sl,V.ref k2])):=Ab
  generalize upd J4 t ((.tup [V.ref g,V.ref sl,V.ref k2]))=J5 at s6 e6 ⊢
  have s46:=s5.trans s6
  have s36:=sg.trans s46
  exact q t cs _ (s3.trans s36) ⟨g,sl,k2,gs,e6,s46 _ _ eg,tg.same s46,s36 _ _ e3,(fun q m=>(gw3 q m).1.same s36),m3,s6 _ _ e5⟩
theorem JY (T:Tx K mg base ad):AN P w K mg base CX0 3 ad.f_Way_init ad.d_Way_init ["self","hands","seats","lots"] (Lk K):=by
 refine T.F_Way_init.ok Kl (fun vs H Q E h=>?_) (fun cdv A outer s H vs Q E hr h=>?_)
 ·obtain ⟨a,C,dx,h,s,lv,ns,rfl,_⟩:=h
  rfl
 obtain ⟨a,C,dx,h,s,lv,ns,rfl,ha,cl,n1,n2,n3,h1,h12,s1,s60,lo,q⟩:=h
 refine ⟨_,((@Da _ _ _ _ _ _ _ _ (PW.pt (@ET _ _ _ _ _ _ _ (@Cj _ _ _ _ (@Cl _ _ _ (@Aj _ _ _ _ _ _ _ _ _ _ _ _ _ _ _ _ (IN T) (hr.mono (by decide)) rfl T.m_are_hands T.F_are_hands.kp T.b_are_hands .nil Ar ((pv 1)*>Ae) (by decide) (by rfl) (by rfl)) (by intro _;rfl))) (@EA _ _ _ _ (@Cj _ _ _ _ (@Cl _ _ _ (@Aj _ _ _ _ _ _ _ _ _ _ _ _ _ _ _ _ (IP T) (hr.mono (by decide)) rfl T.m_are_seats T.F_are_seats.kp T.b_are_seats .nil Ar ((pv 2)*>Ae) (by decide) (by rfl) (by rfl)) (by intro _;rfl)))))) (@Ah _ _ _ Ks) AK)>>((@Da _ _ _ _ _ _ _ _ (PW.pt (@GR _ _ _ _ _ _ _ (@Ay _ _ _ _ _ _ _ _ OU (pv 3) N9 (Ax _)) (@EN _ _ _ _ (@Cj _ _ _ _ (@Cl _ _ _ (@Aj _ _ _ _ _ _ _ _ _ _ _ _ _ _ _ _ (JF T) (hr.mono (by decide)) rfl T.m_are_lots T.F_are_lots.kp T.b_are_lots .nil Ar ((pv 3)*>((pv 1)*>Ae)) (by decide) (by rfl) (by rfl)) (by intro _;rfl)))))) (@Ah _ _ _ Ks) AK)>>((IS (pv 0) (pv 1) rfl)>>((IS (pv 0) (pv 2) rfl)>>(@Ah _ _ _ (IS (pv 0) (JN (@Ay _ _ _ _ _ _ _ _ Qo (pv 3) N9 (Ax _)) (C7 rfl (by rfl) T.z_list (by rfl) T.z_range (pv 1)) (@Bm _ _ _ _ _ _ _ _ _ Bk (by rfl) T.z_list PyProof.Rows.boot_list ((pv 3)*>Ae) (by decide) (by decide) (by rfl) (by rfl))) rfl)))))),?_⟩
 refine ⟨_,rfl,(h:Int),rfl,by omega,by omega,?_⟩
 and_intros
 refine ⟨by omega,by omega,?_⟩
 and_intros
 rcases lo with ⟨rfl,rfl⟩ | ⟨l,rfl,hl,pm⟩
 ·and_intros
  obtain ⟨H1,eH⟩:∃H1,H1=H:=⟨_,rfl⟩
  rw [<- eH]
  have e1:Aq H H1:=by rw [eH];exact fun _ _ e=>e
  have g1:=(Ld H a).trans e1
  refine ⟨a,C,dx,[],rfl,e1 _ _ ha,cl,n1,(by simp only [length_cons,length_nil];decide),?_⟩
  rw [Rf]
  have g2:=DL (o:=.ins C dx [("hands",.int (h:Int))]) g1
  have a2:(upd H1 a (.ins C dx [("hands",.int (h:Int))])) a=_:=Ab
  generalize upd H1 a (.ins C dx [("hands",.int (h:Int))])=H2 at g2 a2 ⊢
  and_intros
  refine ⟨a,C,dx,_,rfl,a2,cl,n2,(by simp only [length_cons,length_nil];decide),?_⟩
  rw [Rp]
  have g3:=DL (o:=.ins C dx [("hands",.int (h:Int)),("seats",.int (s:Int))]) g2
  have a3:(upd H2 a (.ins C dx [("hands",.int (h:Int)),("seats",.int (s:Int))])) a=_:=Ab
  generalize upd H2 a (.ins C dx [("hands",.int (h:Int)),("seats",.int (s:Int))])=H3 at g3 a3 ⊢
  and_intros
  refine ⟨by omega,fun b hb=>?_⟩
  rw [<- Qi]
  have ba:b≠a:=fun z=>by rw [z,a3] at hb;cases hb
  have hbH:H b=none:=by
   cases e:H b with
   | none=>rfl
   | some o =>
     have:=g3 _ _ (Jf e ba)
     rw [hb] at this
     cases this
  have g4:=g3.trans (Ad hb (.lst ((ups h).map V.int)))
  have a4:=Ad hb (.lst ((ups h).map V.int)) _ _ a3
  have b4:(upd H3 b (.lst ((ups h).map V.int))) b=some (.lst ((ups h).map V.int)):=Ab
  generalize upd H3 b (.lst ((ups h).map V.int))=H4 at g4 a4 b4 ⊢
  and_intros
  refine ⟨a,C,dx,_,rfl,a4,cl,n3,(by simp only [length_cons,length_nil];decide),?_⟩
  rw [RO]
  exact q b _ ba hbH (DL g4) Ab (by rw [Ai ba];exact b4)
 ·and_intros
  refine ⟨l,ns,h,rfl,hl,pm,by omega,fun H1 e1=>?_⟩
  and_intros
  have g1:=(Ld H a).trans e1
  refine ⟨a,C,dx,[],rfl,e1 _ _ ha,cl,n1,(by simp only [length_cons,length_nil];decide),?_⟩
  rw [Rf]
  have g2:=DL (o:=.ins C dx [("hands",.int (h:Int))]) g1
  have a2:(upd H1 a (.ins C dx [("hands",.int (h:Int))])) a=_:=Ab
  generalize upd H1 a (.ins C dx [("hands",.int (h:Int))])=H2 at g2 a2 ⊢
  and_intros
  refine ⟨a,C,dx,_,rfl,a2,cl,n2,(by simp only [length_cons,length_nil];decide),?_⟩
  rw [Rp]
  have g3:=DL (o:=.ins C dx [("hands",.int (h:Int)),("seats",.int (s:Int))]) g2
  have a3:(upd H2 a (.ins C dx [("hands",.int (h:Int)),("seats",.int (s:Int))])) a=_:=Ab
  generalize upd H2 a (.ins C dx [("hands",.int (h:Int)),("seats",.int (s:Int))])=H3 at g3 a3 ⊢
  have la:l≠a:=fun z=>by rw [z,ha] at hl;cases hl
  have l3:=g3 _ _ (Jf hl la)
  and_intros
  intro b hb
  have ba:b≠a:=fun z=>by rw [z,a3] at hb;cases hb
  have hbH:H b=none:=by
   cases e:H b with
   | none=>rfl
   | some o =>
     have:=g3 _ _ (Jf e ba)
     rw [hb] at this
     cases this
  have g4:=g3.trans (Ad hb (.lst (ns.map V.int)))
  have a4:=Ad hb (.lst (ns.map V.int)) _ _ a3
  have b4:(upd H3 b (.lst (ns.map V.int))) b=some (.lst (ns.map V.int)):=Ab
  generalize upd H3 b (.lst (ns.map V.int))=H4 at g4 a4 b4 ⊢
  and_intros
  refine ⟨a,C,dx,_,rfl,a4,cl,n3,(by simp only [length_cons,length_nil];decide),?_⟩
  rw [RO]
  exact q b _ ba hbH (DL g4) Ab (by rw [Ai ba];exact b4)
theorem AH (T:Tx K mg base ad):AN P w K mg base CX0 4 ad.f_PairsChecker_right ad.d_PairsChecker_right ["self","sheet","paper"] (Mr ad.c_PairsChecker ad.c_Pairs):=by
 refine T.F_PairsChecker_right.ok Bq (fun vs H Q E h=>?_) (fun cdv A outer s H vs Q E hr h=>?_)
 ·obtain ⟨k,a,l,p,h,s',ns,ls,ls',F,rfl,_⟩:=h
  rfl
 obtain ⟨k,a,l,p,h,s',ns,ls,ls',F,rfl,ic,hl,gl,l60,pg,q⟩:=h
 refine ⟨_,((@Ao _ _ (3) _ _ _ _ Bq.nd rfl (Or.inl rfl) (DO (DO (pv 0) rfl) rfl) (by rfl) (by nofun))>>((@Ao _ _ (4) _ _ _ _ Bq.nd rfl (Or.inl rfl) (@Aj _ _ _ _ _ _ _ _ _ _ _ _ _ _ _ _ (JS T) (hr.mono (by decide)) rfl T.m_overs T.F_overs.kp T.b_overs .nil Ar ((pv 1)*>((pv 3)*>Ae)) (by decide) (by rfl) (by rfl)) (by rfl) (by nofun))>>((@Da _ _ _ _ _ _ _ _ (PW.pt (@ET _ _ _ _ _ _ _ (@Ay _ _ _ _ _ _ _ _ (EC (K:=K) hr.units) (@Al _ _ _ _ _ _ _ AE (pv 2) Ag (fun _ _=>rfl)) (pv 4) (Ax _)) (@EA _ _ _ _ (@Ay _ _ _ _ _ _ _ _ (EC (K:=K) hr.units) (Bb (fsc:=Ac A7) (N:=["self","sheet","paper","hands","many","leads"]) (Nc:=["self","sheet","paper","hands","many","leads","row"]) rfl rfl (by nofun) rfl (A5 (@Al _ _ _ _ _ _ _ AE (pv 2) Ag (fun _ _=>rfl))) (fun _ _ _ _=>AF) (fun _ _ _ _=>(@CY _ _ _ _ _ ((@Al _ _ _ _ _ _ _ (Dc K) (pv 6) Ag (fun _ _=>rfl))*>((@Al _ _ _ _ _ _ _ (Dc K) (pv 6) Ag (fun _ _=>rfl))*>Ae))))) (@Aj _ _ _ _ _ _ _ _ _ _ _ _ _ _ _ _ (EO T) (hr.mono (by decide)) rfl T.m_pairs_in_order T.F_pairs_in_order.kp T.b_pairs_in_order .nil Ar ((pv 3)*>Ae) (by decide) (by rfl) (by rfl)) (Ax _))))) (@Ah _ _ _ (@As _ _ _ _ Cz)) AK)>>((@Ao _ _ (5) _ _ _ _ Bq.nd rfl (Or.inr rfl) (@Aj _ _ _ _ _ _ _ _ _ _ _ _ _ _ _ _ (FQ T) (hr.mono (by decide)) rfl T.m_leads_of T.F_leads_of.kp T.b_leads_of .nil Ar ((pv 4)*>Ae) (by decide) (by rfl) (by rfl)) (by rfl) (by nofun))>>((@Da _ _ _ _ _ _ _ _ (@Cj _ _ _ _ (@Cl _ _ _ (@At _ _ _ _ _ _ _ _ _ (GI rfl) (by rfl) T.z_all PyProof.Rows.boot_all ((Bb (fsc:=Ac A7) (N:=["self","sheet","paper","hands","many","leads"]) (Nc:=["self","sheet","paper","hands","many","leads","row"]) rfl rfl (by nofun) rfl (A5 (@Al _ _ _ _ _ _ _ AE (pv 2) Ag (fun _ _=>rfl))) (fun _ _ _ _=>AF) (fun _ _ _ _=>(@Aj _ _ _ _ _ _ _ _ _ _ _ _ _ _ _ _ (Jw T) (hr.mono (by decide)) rfl T.m_is_shown T.F_is_shown.kp T.b_is_shown .nil Ar ((pv 5)*>((pv 6)*>Ae)) (by decide) (by rfl) (by rfl))))*>Ae) (by decide) (by decide) (by rfl) (by rfl)) (by intro _;rfl))) (@Ah _ _ _ (@As _ _ _ _ Cz)) AK)>>(@Ah _ _ _ (@As _ _ _ _ (@BA _ _ _ _ _ _ _ _ (FO (K:=K) hr.units) (@Al _ _ _ _ _ _ _ AE (pv 2) Ag (fun _ _=>rfl)) (Bl (DO (pv 0) rfl) T.cl_Pairs T.me_Pairs_picks_by (Do T) (hr.mono (by decide)) T.b_Pairs_picks_by .nil Ar ((@Aj _ _ _ _ _ _ _ _ _ _ _ _ _ _ _ _ (Gi T) (hr.mono (by decide)) rfl T.m_strengths_in T.F_strengths_in.kp T.b_strengths_in .nil Ar ((@Al _ _ _ _ _ _ _ AE (pv 2) Ag (fun _ _=>rfl))*>((pv 3)*>Ae)) (by decide) (by rfl) (by rfl))*>Ae)) (Ax _))))))))),?_⟩
 obtain ⟨⟨dk,hk⟩,md⟩:=ic
 obtain ⟨dx,la,k1,k2⟩:=id md.is
 have h1:=md.h1
 have h12:=md.h12
 obtain ⟨m,sh,pk,ms,rows,p1,p2,p3,p4,p5,p6,p7⟩:=pg.is
 have st:=pg.strong
 have rl:rows.length<=144:=by
  have a1:=congrArg List.length p6
  rw [length_map] at a1
  have a2:=CT (h:=h) (n:=h) (Nat.le_refl _)
  have a3:h*h<=12*12:=Nat.mul_le_mul h12 h12
  omega
 and_intros
 refine ⟨k,_,dk,_,_,rfl,hk,T.cl_PairsChecker,T.na_PairsChecker_way,rfl,?_⟩
 refine ⟨a,_,dx,_,_,rfl,k1,T.cl_Pairs,T.na_Pairs_hands,rfl,?_⟩
 and_intros
 refine ⟨l,ls,h,rfl,hl,gl,l60,h1,h12,fun b as H1 hb s1 nb wb eb tb=>?_⟩
 have tb:AL H1 as h (ovF ls):=tb
 have p11:=s1 _ _ p1
 have p21:=s1 _ _ p2
 and_intros
 refine ⟨.list ((BW h (ovF ls')).map rD),.list ((BW h (ovF ls)).map rD),.lst (SqL.of p21) (p3.same s1).reps,.lst (SqL.of eb) tb.reps,Fv _,Fv _,?_⟩
 rw [show PyData.eqv (.list ((BW h (ovF ls')).map rD)) (.list ((BW h (ovF ls)).map rD))=DX h ls' ls from Js _ _]
 cases sm:DX h ls' ls with
 | false =>
   rw [sm] at q
   and_intros
   exact q _ s1
 | true =>
   rw [sm] at q
   have same:∀{x y:Nat},x < h->y < h->ovF ls' x y=ovF ls x y:=fun {x y} hx hy=>Ql (of_decide_eq_true sm) hx hy
   have p41:=s1 _ _ p4
   and_intros
   refine ⟨⟨_,SqL.of p41⟩,?_⟩
   refine AB (xs:=vrw rows) (by rw [C5];exact Av (by omega)) (fun D i ys J=>∃qs:Prs,ys=HD qs/\qs.length=i/\J D=some (.lst ys)/\Aq H1 J/\(∀q∈qs,J q.1=some (.tup [.int (q.2.1:Int),.int (q.2.2:Int)]))/\qs.map (fun q=>q.2)=(rows.take i).map fun q=>(q.x,q.y)) (fun D hD=>⟨[],rfl,rfl,Ab,Ad hD _,(fun q m=>nomatch m),rfl⟩) (fun D i ys J ⟨qs,f1,f2,f3,_⟩=>⟨f3,by rw [f1,Fg,f2];exact Nat.le_refl _⟩) (fun D i ys J hD ⟨_,_,_,_,f4,_⟩=>SqL.of (f4 _ _ p41)) ?_ ?_
   ·rintro D i w ys J K1 K2 hD hw ⟨qs,rfl,f2,f3,f4,f5,f6⟩ kk1 kk2
    obtain ⟨r,hr0,rfl,mr,et⟩:=EX hw
    have rt:=(s1.trans f4) _ _ (p5 r mr).tup
    refine yes (ifT rfl ?_)
    and_intros
    refine ⟨(by show 2<=sizeLine;decide),fun t ht=>?_⟩
    have sT:=Ad ht (.tup [V.int (r.x:Int),V.int (r.y:Int)])
    have eT:(upd J t (.tup [V.int (r.x:Int),V.int (r.y:Int)])) t=some (.tup [V.int (r.x:Int),V.int (r.y:Int)]):=Ab
    generalize upd J t (.tup [V.int (r.x:Int),V.int (r.y:Int)])=J2 at sT eT ⊢
    have f3':=sT _ _ f3
    refine kk1 _ _ f3' ⟨qs++[(t,r.x,r.y)],by rw [Em];rfl,by rw [length_append,f2];rfl,Ab,Aw (f4.trans sT) hD,fun q m=>?_,by rw [map_append,f6,et,map_append];rfl⟩
    rcases mem_append.mp m with m | m
    ·rw [Ai (DZ (sT _ _ (f5 q m)) f3' (fun z=>nomatch z))]
     exact sT _ _ (f5 q m)
    ·rw [mem_singleton.mp m,Ai (DZ eT f3' (fun z=>nomatch z))]
     exact eT
   rintro D ys H2 hD ⟨qs,rfl,f2,f3,f4,f5,f6⟩
   rw [C5,take_of_length_le (Nat.le_refl _),p6] at f6
   and_intros
   refine ⟨h12,fun l2 ps H3 hl2 s3 e3 g3 e3'=>?_⟩
   refine ⟨.list ((pairsOf h h).map prD),.list ((pairsOf h h).map prD),.lst (SqL.of (s3 _ _ f3)) (by rw [<- f6];exact GY fun q m=>s3 _ _ (f5 q m)),.lst (SqL.of e3) (by rw [<- e3'];exact GY g3),Im _,Im _,?_⟩
   rw [show PyData.eqv (.list ((pairsOf h h).map prD)) (.list ((pairsOf h h).map prD))=true from LP _]
   have s13:=f4.trans s3
   and_intros
   refine ⟨b,as,h,ovF ls,rfl,s13 _ _ eb,tb.same s13,h12,fun c cs H4 hc nc wc s4 ec tc=>?_⟩
   have tc:AL H4 cs h (Bv ls'):=tc.congr fun x y hx hy=>by unfold Bv;rw [same hx hy,same hy hx]
   have s14:=(s1.trans s13).trans s4
   have p14:=s14 _ _ p1
   have p44:=s14 _ _ p4
   and_intros
   refine ⟨⟨_,SqL.of p44⟩,?_⟩
   refine AB (xs:=vrw rows) (by rw [C5];exact Av (by omega)) (fun D j ys J=>ys=(List.replicate j true).map V.bl/\J D=some (.lst ys)/\Aq H4 J) (fun D hD=>⟨rfl,Ab,Ad hD _⟩) (fun D j ys J ⟨f1,f2,_⟩=>⟨f2,by rw [f1,length_map,length_replicate];exact Nat.le_refl _⟩) (fun D j ys J hD ⟨_,_,f3⟩=>SqL.of (f3 _ _ p44)) ?_ ?_
   ·rintro D i w ys J K1 K2 hD hw ⟨g1,g2,g3⟩ kk1 kk2
    obtain ⟨r,hr0,rfl,mr,et⟩:=EX hw
    refine yes (ifT rfl ?_)
    refine ⟨_,rfl,_,rfl,c,cs,h,Bv ls',F,r,rfl,g3 _ _ ec,tc.same g3,(p5 r mr).same (s14.trans g3),h12,fun J2 sJ=>?_⟩
    refine kk1 _ _ (sJ _ _ g2) ⟨?_,Ab,Aw (g3.trans sJ) hD⟩
    rw [g1,replicate_succ',map_append]
    rfl
   rintro D5 ys H5 hD5 ⟨rfl,g2,g3⟩
   refine ⟨D5,_,rfl,SqL.of g2,?_⟩
   rw [show ∀n,(List.replicate n true).all id=true from fun n=>all_eq_true.mpr fun b m=>(mem_replicate.mp m).2]
   have s15:=s14.trans g3
   have p15:=s15 _ _ p1
   have p75:=s15 _ _ p7
   have hk5:=s15 _ _ hk
   have md5:=md.same s15
   obtain ⟨dx5,la5,k15,k25⟩:=id md5.is
   and_intros
   refine ⟨k,_,dk,_,_,rfl,hk5,T.cl_PairsChecker,T.na_PairsChecker_way,rfl,?_⟩
   refine ⟨a,dx5,_,rfl,k15,rfl,?_⟩
   and_intros
   refine ⟨sh,h,Bv ls',F,rows,rfl,s15 _ _ p4,(fun q m=>(p5 q m).same s15),p6,st,(fun x hx=>by unfold Bv;omega),h1,h12,fun rb rs H6 hrb s6 erb trb=>?_⟩
   refine ⟨a,rb,rs,h,s',ns,Bv ls',F,rfl,md5.same s6,erb,trb,st,fun pp H7 hpp s7 epp=>?_⟩
   refine ⟨.list ((Au F s' ns).map .int),.list ((Au F s' ns).map .int),.lst (SqL.of ((s6.trans s7) _ _ p75)) (.ints _),.lst (SqL.of epp) (.ints _),(AR _).2,(AR _).2,?_⟩
   rw [show PyData.eqv (.list ((Au F s' ns).map .int)) (.list ((Au F s' ns).map .int))=true from by show PyData.eqvAll _ _=true;rw [BK];exact decide_eq_true rfl]
   exact q _ ((s15.trans s6).trans s7)
theorem Ca (T:Tx K mg base ad):AN P w K mg base CX0 4 ad.f_Pairs_counted ad.d_Pairs_counted ["self","sheet"] (KC ad.c_Pairs ad.lP):=by
 refine T.F_Pairs_counted.ok AY (fun vs H Q E h=>?_) (fun cdv A outer s H vs Q E hr h=>?_)
 ·obtain ⟨a,l,h,s,ns,ls,rfl,_⟩:=h
  rfl
 obtain ⟨a,l,h,s,ns,ls,rfl,md,hl,gl,l60,lt,q⟩:=h
 refine ⟨_,((@Ao _ _ (2) _ _ _ _ AY.nd rfl (Or.inl rfl) (@Aj _ _ _ _ _ _ _ _ _ _ _ _ _ _ _ _ (JS T) (hr.mono (by decide)) rfl T.m_overs T.F_overs.kp T.b_overs .nil Ar ((pv 1)*>((DO (pv 0) rfl)*>Ae)) (by decide) (by rfl) (by rfl)) (by rfl) (by nofun))>>((@Ao _ _ (3) _ _ _ _ AY.nd rfl (Or.inl rfl) (@Aj _ _ _ _ _ _ _ _ _ _ _ _ _ _ _ _ (FQ T) (hr.mono (by decide)) rfl T.m_leads_of T.F_leads_of.kp T.b_leads_of .nil Ar ((pv 2)*>Ae) (by decide) (by rfl) (by rfl)) (by rfl) (by nofun))>>((@Ao _ _ (4) _ _ _ _ AY.nd rfl (Or.inl rfl) (@Bf _ _ _ _ Ae) (by rfl) (by nofun))>>((@Ao _ _ (5) _ _ _ _ AY.nd rfl (Or.inl rfl) (@Bf _ _ _ _ Ae) (by rfl) (by nofun))>>((B9 PassesOwn.never rfl (AG rfl T.z_range ((DO (pv 0) rfl)*>Ae)) (AA (i:=6) AY.nd rfl (Or.inl rfl)) ((@Ao _ _ (7) _ _ _ _ AY.nd rfl (Or.inl rfl) (@Aj _ _ _ _ _ _ _ _ _ _ _ _ _ _ _ _ (Go T) (hr.mono (by decide)) rfl T.m_reached_from T.F_reached_from.kp T.b_reached_from .nil Ar ((pv 3)*>((pv 6)*>Ae)) (by decide) (by rfl) (by rfl)) (by rfl) (by nofun))>>((@Ci _ _ _ _ (Dw PySem.F.plainAttrs_list PySem.F.slot_list_extend PySem.F.type_list_extend Ij (pv 4) ((@Aj _ _ _ _ _ _ _ _ _ _ _ _ _ _ _ _ (HJ T) (hr.mono (by decide)) rfl T.m_shown_from T.F_shown_from.kp T.b_shown_from .nil Ar ((pv 7)*>((pv 6)*>Ae)) (by decide) (by rfl) (by rfl))*>Ae)) (by rfl))>>(@Ah _ _ _ (@Ci _ _ _ _ (Dw PySem.F.plainAttrs_list PySem.F.slot_list_append PySem.F.type_list_append BG (pv 5) ((@Al _ _ _ _ _ _ _ AE (pv 7) Ag (fun _ _=>rfl))*>Ae)) (by rfl))))))>>(@Ah _ _ _ (@As _ _ _ _ (@CY _ _ _ _ _ ((pv 2)*>((pv 4)*>((Bl (pv 0) T.cl_Pairs T.me_Pairs_picks_by (Do T) (hr.mono (by decide)) T.b_Pairs_picks_by .nil Ar ((pv 5)*>Ae))*>Ae))))))))))),?_⟩
 obtain ⟨dx,la,k1,k2⟩:=id md.is
 have h1:=md.h1
 have h12:=md.h12
 and_intros
 refine ⟨a,_,dx,_,_,rfl,k1,T.cl_Pairs,T.na_Pairs_hands,rfl,?_⟩
 and_intros
 refine ⟨l,ls,h,rfl,hl,gl,l60,h1,h12,fun b as H1 hb s1 nb wb eb tb=>?_⟩
 and_intros
 refine ⟨b,as,h,_,rfl,eb,tb,h12,fun c cs H2 hc nc wc s2 ec tc=>?_⟩
 have eb:=s2 _ _ eb
 have tb:AL H2 as h (ovF ls):=tb.same s2
 have tc:AL H2 cs h (Bv ls):=tc
 have s2:=s1.trans s2
 have lt2:=lt.same s2
 refine ⟨(by show 0<=sizeLine;decide),fun sh hsh=>?_⟩
 have s3:=Ad hsh (.lst [])
 have e3:(upd H2 sh (.lst [])) sh=some (.lst (vrw [])):=Ab
 generalize upd H2 sh (.lst [])=H3 at e3 s3 ⊢
 refine ⟨(by show 0<=sizeLine;decide),fun sg hsg=>?_⟩
 have s4:=Ad hsg (.lst [])
 have e4:(upd H3 sg (.lst [])) sg=some (.lst (([]:Us).map fun r=>V.ref r.1)):=Ab
 have ss:sg≠sh:=fun z=>by rw [z,e3] at hsg;cases hsg
 have e34:=s4 _ _ e3
 have hsg2:=none_of s3 hsg
 have s4:=s3.trans s4
 generalize upd H3 sg (.lst [])=H4 at e4 e34 s4 ⊢
 refine ⟨_,rfl,a,_,dx,_,_,rfl,(s2.trans s4) _ _ k1,T.cl_Pairs,T.na_Pairs_hands,rfl,?_⟩
 refine ⟨(h:Int),rfl,by omega,by omega,D8 (fun i σ' H'=>∃(v6 v7:Option V) (rows:List Rw) (us:Us),σ'=[some (V.ref a),some (.ref l),some (.ref b),some (.ref c),some (.ref sh),some (.ref sg),v6,v7]/\Sm H2 H'/\(CP ad.lP h H2->Aq H2 H')/\LT ad.lP H'/\(0 < i->CP ad.lP h H')/\H' sh=some (.lst (vrw rows))/\H' sg=some (.lst (us.map fun r=>V.ref r.1))/\us.length=i/\(us.map (·.1)).Nodup/\rows.map (fun q=>(q.x,q.y))=pairsOf h i/\(∀q∈rows,EK h (Bv ls) (fU us) H' q/\q.x < i/\q.w≠sh/\q.w≠sg)/\(∀k r,us[k]?=some r->r.1≠sh/\r.1≠sg/\H' r.1=some (.lst (r.2.map V.int))/\∃bf,D0 h k (Bv ls) r.2 bf)) ⟨none,none,[],[],rfl,Sm.of s4,(fun _=>s4),lt2.same s4,(fun z=>absurd z (Nat.lt_irrefl 0)),e34,e4,rfl,nodup_nil,rfl,(fun _ m=>nomatch m),fun k r e=>by cases e⟩ ?_ ?_⟩
 ·rintro i σ' H5 hi ⟨v6,v7,rows,us,rfl,sm,sq,lt5,lq5,esh,esg,ul,und,rp,rok,uok⟩
  have ei:(0:Int)+(i:Int)=(i:Int):=Int.zero_add _
  have hi':i < h:=by omega
  have rl:rows.length<=144:=by
   have a1:=congrArg List.length rp
   rw [length_map] at a1
   have a2:=CT (h:=h) (n:=i) (by omega)
   have a3:i*h<=12*12:=Nat.mul_le_mul (by omega) h12
   omega
  and_intros
  refine ⟨c,cs,h,i,Bv ls,(by rw [ei];rfl),sm.lst ec,tc.sm sm,hi',h12,lt5,fun t bb f be bf H6 sm6 sq6 lq6 ht hbb hff bfn et ebb eff re=>?_⟩
  have bsh:bb≠sh:=fun z=>by rw [z,esh] at hbb;cases hbb
  have bsg:bb≠sg:=fun z=>by rw [z,esg] at hbb;cases hbb
  have nbu:bb ∉ us.map (·.1):=fun m=>by
   obtain ⟨r,mr,e⟩:=mem_map.mp m
   obtain ⟨k,hk⟩:=List.getElem?_of_mem mr
   have:=(uok k r hk).2.2.1
   rw [e,hbb] at this
   cases this
  have esh:=sm6.lst esh
  have esg:=sm6.lst esg
  and_intros
  refine ⟨.inl ⟨rfl,_,SqL.of esh⟩,?_⟩
  and_intros
  refine ⟨t,h,i,Bv ls,be,(by rw [ei];rfl),⟨bb,f,bf,et,ebb,eff,re⟩,hi',h12,fun r2 rows2 H7 hr2 s7 e7 ok7 mp7=>?_⟩
  have esh7:=s7 _ _ esh
  have esg7:=s7 _ _ esg
  have r2l:rows2.length<=12:=by
   have a1:=congrArg List.length mp7
   rw [length_map,length_map] at a1
   have:(Fe h i).length<=h:=Nat.le_trans (length_filter_le _ _) (by rw [length_range];exact Nat.le_refl _)
   omega
  refine ⟨sh,r2,_,_,rfl,rfl,esh7,e7,(by rw [C5,C5];exact Nat.le_of_lt (AW (by omega))),?_⟩
  rw [<- EE]
  have t8:∀{z:Addr} {xs:List V},H7 z=some (.tup xs)->(upd H7 sh (.lst (vrw (rows++rows2)))) z=some (.tup xs):=fun e=>by rw [Ai (fun y=>by rw [y,esh7] at e;cases e)];exact e
  have l8:∀{z:Addr} {xs:List V},z≠sh->H7 z=some (.lst xs)->(upd H7 sh (.lst (vrw (rows++rows2)))) z=some (.lst xs):=fun n e=>by rw [Ai n];exact e
  have esh8:(upd H7 sh (.lst (vrw (rows++rows2)))) sh=some (.lst (vrw (rows++rows2))):=Ab
  have sm8:=((sm.trans sm6).trans (Sm.of s7)).put (o:=.lst (vrw (rows++rows2))) hsh
  have sq8:CP ad.lP h H2->Aq H2 (upd H7 sh (.lst (vrw (rows++rows2)))):=fun z=>Aw (((sq z).trans (sq6 (z.same (sq z)))).trans s7) hsh
  have lq8:CP ad.lP h (upd H7 sh (.lst (vrw (rows++rows2)))):=(lq6.same s7).put esh7
  generalize upd H7 sh (.lst (vrw (rows++rows2)))=H8 at t8 l8 esh8 sm8 sq8 lq8 ⊢
  have esg8:=l8 ss esg7
  have et8:=t8 (s7 _ _ et)
  and_intros
  refine ⟨.inl ⟨rfl,_,SqL.of esg8⟩,?_⟩
  and_intros
  refine ⟨sg,_,_,rfl,rfl,esg8,(by rw [length_map];exact AW (by omega)),?_⟩
  have t9:∀{z:Addr} {xs:List V},H8 z=some (.tup xs)->(upd H8 sg (.lst (us.map (fun r=>V.ref r.1)++[V.ref bb]))) z=some (.tup xs):=fun e=>by rw [Ai (fun y=>by rw [y,esg8] at e;cases e)];exact e
  have l9:∀{z:Addr} {xs:List V},z≠sg->H8 z=some (.lst xs)->(upd H8 sg (.lst (us.map (fun r=>V.ref r.1)++[V.ref bb]))) z=some (.lst xs):=fun n e=>by rw [Ai n];exact e
  refine ⟨_,_,rows++rows2,us++[(bb,be)],rfl,sm8.put hsg2,(fun z=>Aw (sq8 z) hsg2),(lq8.put esg8).1,(fun _=>lq8.put esg8),l9 (Ne.symm ss) esh8,by rw [Ab,map_append];rfl,by rw [length_append,ul];rfl,?_,by rw [map_append,rp,mp7,DM],fun q0 m=>?_,fun k r e=>?_⟩
  ·rw [map_append]
   exact nodup_append.mpr ⟨und,by simp,fun x mx y my e=>nbu (by rw [<- show y=bb from mem_singleton.mp my,<- e];exact mx)⟩
  ·rcases mem_append.mp m with m | m
   ·obtain ⟨r0,r1,r3,r4⟩:=rok q0 m
    have r0:=(r0.sm sm6).same s7
    have r0:=r0.congr (F':=fU (us++[(bb,be)])) fun y _=>(Q9 (by omega) y).symm
    exact ⟨⟨t9 (t8 r0.tup),l9 r4 (l8 r3 r0.way),r0.hx,r0.hy,r0.ne,r0.str,r0.isw,r0.cutE⟩,by omega,r3,r4⟩
   ·obtain ⟨r0,r1,r3,r4⟩:=ok7 q0 m
    have r5:q0.w≠sh:=fun z=>by rw [z,esh] at r4;cases r4
    have r6:q0.w≠sg:=fun z=>by rw [z,esg] at r4;cases r4
    have r0:=r0.congr (F':=fU (us++[(bb,be)])) fun y _=>by rw [r1,<- ul];exact (QN (us:=us) (r:=(bb,be)) y).symm
    exact ⟨⟨t9 (t8 r0.tup),l9 r6 (l8 r5 r0.way),r0.hx,r0.hy,r0.ne,r0.str,r0.isw,r0.cutE⟩,by omega,r5,r6⟩
  ·by_cases cc:k < us.length
   ·rw [List.getElem?_append_left cc] at e
    obtain ⟨u1,u2,u3,u4⟩:=uok k r e
    exact ⟨u1,u2,l9 u2 (l8 u1 (s7 _ _ (sm6.lst u3))),u4⟩
   ·rw [List.getElem?_append_right (by omega)] at e
    have ek:k=i:=by
     have:=(List.getElem?_eq_some_iff.mp e).1
     rw [length_singleton] at this
     omega
    rw [ek,ul,Nat.sub_self] at e
    cases Option.some.inj e
    exact ⟨bsh,bsg,l9 bsg (l8 bsh (s7 _ _ ebb)),bf,by rw [ek];exact re⟩
 ·rintro σ' H5 ⟨v6,v7,rows,us,rfl,sm,sq,lt5,lq5,esh,esg,ul,und,rp,rok,uok⟩
  rw [Int.toNat_natCast] at ul rp lq5
  have tu:AL H5 (us.map (·.1)) h (fU us):=⟨by rw [length_map,ul],und,fun x z hz=>by
   rw [List.getElem?_map] at hz
   obtain ⟨r,hr0,rfl⟩:=Option.map_eq_some_iff.mp hz
   obtain ⟨_,_,u3,bf,re⟩:=uok x r hr0
   rw [NL hr0 re.lenb]
   exact u3⟩
  have st:Bi h (Bv ls) (fU us):=fun x hx=>by
   obtain ⟨r,hr0⟩:∃r,us[x]?=some r:=⟨_,List.getElem?_eq_getElem (by omega)⟩
   obtain ⟨_,_,_,bf,re⟩:=uok x r hr0
   exact ⟨bf,by rw [NL hr0 re.lenb];exact re⟩
  have smH:=(Sm.of s2).trans sm
  have md5:=md.sm smH
  obtain ⟨dx5,la5,k15,k25⟩:=id md5.is
  and_intros
  refine ⟨a,dx5,_,rfl,k15,rfl,?_⟩
  and_intros
  refine ⟨a,sg,us.map (·.1),h,s,ns,Bv ls,fU us,rfl,md5,(by rw [esg,map_map];rfl),tu,st,fun pk H6 hpk s6 epk=>?_⟩
  refine ⟨(by show 3<=sizeLine;decide),fun p hp=>?_⟩
  have s7:=Ad hp (.tup [V.ref b,V.ref sh,V.ref pk])
  have s67:=s6.trans s7
  have e7:(L2.upd H6 p (.tup [V.ref b,V.ref sh,V.ref pk])) b=some (.lst (as.map V.ref)):=s67 _ _ (sm.lst eb)
  refine q p (fU us) _ (smH.trans (Sm.of s67)) (fun z=>((s2.trans (sq (z.same s2))).trans s67)) ((lq5 h1).same s67) (smH.gone p (none_of s6 hp)) ⟨⟨b,sh,pk,as,rows,Ab,s67 _ _ (sm.lst eb),(tb.sm sm).same s67,s67 _ _ esh,fun q0 m=>(rok q0 m).1.same s67,rp,s7 _ _ epk⟩,st⟩ fun m' sh' pk' ms' g1 g2=>?_
  rw [Ab] at g1
  injection g1 with g1
  injection g1 with g1
  injection g1 with g11 g1
  injection g1 with g12 g1
  injection g1 with g13 g1
  injection g11 with g11
  injection g12 with g12
  injection g13 with g13
  subst g11 g12 g13
  rw [e7] at g2
  injection g2 with g2
  injection g2 with g2
  have em:as=ms':=(map_inj_right (fun x y e=>by injection e)).mp g2
  rw [<- em]
  exact ⟨hb,none_of s2 hsh,smH.gone _ hpk,wb⟩
theorem Fp (T:Tx K mg base ad):AN P w K mg base CX0 5 ad.f_law_two_sheets ad.d_law_two_sheets ["_law_checker","_law_way","_law_votes_here","_law_sheet_here","_law_paper"] (PL ad.c_PairsChecker ad.c_Pairs ad.lP):=by
 refine T.F_law_two_sheets.ok Bx (fun vs H Q E h=>?_) (fun cdv A outer s H vs Q E hr h=>?_)
 ·obtain ⟨k,a,l,sb,p,h,s',ns,vo,ls,F,rfl,_⟩:=h
  rfl
 obtain ⟨k,a,l,sb,p,h,s',ns,vo,ls,F,rfl,ic,hl,gv,nv,v1,v12,hsb,gl,l60,pg,lq,q⟩:=h
 refine ⟨_,((@Ao _ _ (5) _ _ _ _ Bx.nd rfl (Or.inl rfl) (GK<&>((@Bf _ _ _ _ ((@CY _ _ _ _ _ ((@Al _ _ _ _ _ _ _ AE (@Al _ _ _ _ _ _ _ A3 (pv 2) Ag (fun _ _=>rfl)) Ag (fun _ _=>rfl))*>((AX<&>((@Al _ _ _ _ _ _ _ AE (@Al _ _ _ _ _ _ _ A3 (pv 2) Ag (fun _ _=>rfl)) Ag (fun _ _=>rfl))<|>Ag))*>Ae)))*>Ae))<|>(D9 Ex (pv 2) (Eu Ag) E2))) (by rfl) (by nofun))>>((@Ao _ _ (6) _ _ _ _ Bx.nd rfl (Or.inl rfl) (@Aj _ _ _ _ _ _ _ _ _ _ _ _ _ _ _ _ (Fb T) (hr.mono (by decide)) rfl T.m_law_sheet T.F_law_sheet.kp T.b_law_sheet .nil Ar ((pv 5)*>Ae) (by decide) (by rfl) (by rfl)) (by rfl) (by nofun))>>((@Ao _ _ (7) _ _ _ _ Bx.nd rfl (Or.inl rfl) (@BA _ _ _ _ _ _ _ _ (FO (K:=K) hr.units) (@Aj _ _ _ _ _ _ _ _ _ _ _ _ _ _ _ _ (Fk T) (hr.mono (by decide)) rfl T.m_law_overs T.F_law_overs.kp T.b_law_overs .nil Ar ((pv 5)*>((@At _ _ _ _ _ _ _ _ _ A0 (by rfl) T.z_len PySem.boot_len ((@Al _ _ _ _ _ _ _ AE (pv 4) Ag (fun _ _=>rfl))*>Ae) (by decide) (by decide) (by rfl) (by rfl))*>Ae)) (by decide) (by rfl) (by rfl)) (@Al _ _ _ _ _ _ _ AE (pv 4) Ag (fun _ _=>rfl)) (Ax _)) (by rfl) (by nofun))>>((@Ao _ _ (8) _ _ _ _ Bx.nd rfl (Or.inl rfl) (@Bf _ _ _ _ ((Bl (pv 0) T.cl_PairsChecker T.me_PairsChecker_right (AH T) (hr.mono (by decide)) T.b_PairsChecker_right .nil Ar ((pv 6)*>((pv 4)*>Ae)))*>((Bl (pv 0) T.cl_PairsChecker T.me_PairsChecker_right (AH T) (hr.mono (by decide)) T.b_PairsChecker_right .nil Ar ((pv 3)*>((Bl (pv 1) T.cl_Pairs T.me_Pairs_counted (Ca T) (hr.mono (by decide)) T.b_Pairs_counted .nil Ar ((pv 6)*>Ae))*>Ae)))*>Ae))) (by rfl) (by nofun))>>((@Ec _ _ _ _ _ _ _ _ (PW.pt (@ET _ _ _ _ _ _ _ (@Ay _ _ _ _ _ _ _ _ (EC (K:=K) hr.units) (pv 8) (@Bf _ _ _ _ ((pv 7)*>((pv 7)*>Ae))) (Ax _)) (@ET _ _ _ _ _ _ _ (@Cj _ _ _ _ (@Cl _ _ _ (@At _ _ _ _ _ _ _ _ _ Eg (by rfl) T.z_isinstance PyProof.Rows.boot_isinstance ((@Al _ _ _ _ _ _ _ A3 (pv 8) Ag (fun _ _=>rfl))*>((Ft (v:=.ty "bool") rfl T.z_bool PyProof.Rows.boot_bool rfl)*>Ae)) (by decide) (by decide) (by rfl) (by rfl)) (by intro _;rfl))) (@EA _ _ _ _ (@Cj _ _ _ _ (@Cl _ _ _ (@At _ _ _ _ _ _ _ _ _ Eg (by rfl) T.z_isinstance PyProof.Rows.boot_isinstance ((@Al _ _ _ _ _ _ _ A3 (pv 8) Ag (fun _ _=>rfl))*>((Ft (v:=.ty "bool") rfl T.z_bool PyProof.Rows.boot_bool rfl)*>Ae)) (by decide) (by decide) (by rfl) (by rfl)) (by intro _;rfl))))))) (@Ah _ _ _ (@As _ _ _ _ Cz)) AK)>>(@Ah _ _ _ (@As _ _ _ _ (@Du _ _ _ _ _ _ _ (@BA _ _ _ _ _ _ _ _ KU (Bl (pv 0) T.cl_PairsChecker T.me_PairsChecker_right (AH T) (hr.mono (by decide)) T.b_PairsChecker_right .nil Ar ((pv 6)*>((Bl (pv 1) T.cl_Pairs T.me_Pairs_counted (Ca T) (hr.mono (by decide)) T.b_Pairs_counted .nil Ar ((pv 6)*>Ae))*>Ae))) Cz (Ax _)) (@DG _ _ _ _ _ (@BA _ _ _ _ _ _ _ _ KU (Bl (pv 0) T.cl_PairsChecker T.me_PairsChecker_right (AH T) (hr.mono (by decide)) T.b_PairsChecker_right .nil Ar ((pv 3)*>((pv 4)*>Ae))) Cz (Ax _))))))))))),?_⟩
 obtain ⟨⟨dk,hk⟩,md⟩:=id ic
 have h1:=md.h1
 have h12:=md.h12
 cases vo with
 | nil=>exact absurd v1 (by decide)
 | cons q0 vr =>
   obtain ⟨g1,g2,g3⟩:=gv q0 (mem_cons_self ..)
   obtain ⟨n0,n1,n2⟩:=nv q0 (mem_cons_self ..)
   have at0:atI (vvo (q0 :: vr)) 0=some (.ref q0.1):=(show atI _ ((0:Nat):Int)=_ from DN rfl)
   obtain ⟨m,sh,pk,ms,rows,p1,p2,p3,p4,p5,p6,p7⟩:=pg.is
   have ml:(ms.map V.ref).length=h:=by rw [length_map,p3.1]
   and_intros
   refine ⟨l,_,_,_,rfl,rfl,SqL.of hl,at0,?_⟩
   and_intros
   refine ⟨l,_,_,_,rfl,rfl,SqL.of hl,at0,?_⟩
   and_intros
   refine ⟨(by show 2<=sizeLine;decide),fun t ht=>?_⟩
   have s1:=Ad ht ((.tup [V.ref q0.2.1,V.int (q0.2.2.2+1)]))
   have e1:(upd H t ((.tup [V.ref q0.2.1,V.int (q0.2.2.2+1)]))) t=some ((.tup [V.ref q0.2.1,V.int (q0.2.2.2+1)])):=Ab
   generalize upd H t ((.tup [V.ref q0.2.1,V.int (q0.2.2.2+1)]))=H1 at s1 e1 ⊢
   refine ⟨(by show 1<=sizeLine;decide),fun b hb=>?_⟩
   have s2:=Ad hb ((.lst [V.ref t]))
   have e2:(upd H1 b ((.lst [V.ref t]))) b=some ((.lst [V.ref t])):=Ab
   generalize upd H1 b ((.lst [V.ref t]))=H2 at s2 e2 ⊢
   and_intros
   refine ⟨l,_,rfl,SqL.of (s2 _ _ (s1 _ _ hl)),fun d hd=>?_⟩
   rw [show Gs (vvo (q0 :: vr)) (some 1) none=vvo vr from (ES (j:=1)).trans rfl]
   have s3:=Ad hd ((.lst (vvo vr)))
   have e3:(upd H2 d ((.lst (vvo vr)))) d=some ((.lst (vvo vr))):=Ab
   generalize upd H2 d ((.lst (vvo vr)))=H3 at s3 e3 ⊢
   refine ⟨b,d,_,_,rfl,rfl,s3 _ _ e2,e3,Av (by rw [Gx];show 1+_<=1000;rw [length_cons] at v12;omega),fun mo hmo=>?_⟩
   rw [show [V.ref t]++vvo vr=vvo ((t,q0.2.1,q0.2.2.1,q0.2.2.2+1) :: vr) from rfl]
   have s4:=Ad hmo ((.lst (vvo ((t,q0.2.1,q0.2.2.1,q0.2.2.2+1) :: vr))))
   have e4:(upd H3 mo ((.lst (vvo ((t,q0.2.1,q0.2.2.1,q0.2.2.2+1) :: vr))))) mo=some ((.lst (vvo ((t,q0.2.1,q0.2.2.1,q0.2.2.2+1) :: vr)))):=Ab
   generalize upd H3 mo ((.lst (vvo ((t,q0.2.1,q0.2.2.1,q0.2.2.2+1) :: vr))))=H4 at s4 e4 ⊢
   have s04:=((s1.trans s2).trans s3).trans s4
   have gv':Ek h H4 ((t,q0.2.1,q0.2.2.1,q0.2.2.2+1) :: vr):=fun q mq=>by
    rcases mem_cons.mp mq with rfl | mq
    ·exact ⟨((s2.trans s3).trans s4) _ _ e1,s04 _ _ g2,g3⟩
    ·exact gv.same s04 q (mem_cons_of_mem _ mq)
   have nk:Pr ((t,q0.2.1,q0.2.2.1,q0.2.2.2+1) :: vr):=fun q mq=>by
    rcases mem_cons.mp mq with rfl | mq
    ·exact ⟨by show 1<=q0.2.2.2+1;omega,by show q0.2.2.2+1<=20000000000;omega,n2⟩
    ·exact nv.up q (mem_cons_of_mem _ mq)
   have vl:((t,q0.2.1,q0.2.2.1,q0.2.2.2+1) :: vr).length<=12:=v12
   generalize (t,q0.2.1,q0.2.2.1,q0.2.2.2+1) :: vr=vo' at e4 gv' nk vl ⊢
   clear e1 e2 e3 g1 g2 g3 n0 n1 n2 at0 s1 s2 s3 s4 hb hd hmo
   and_intros
   refine ⟨mo,vo',h,rfl,e4,gv',by omega,nk,h12,fun sb' ls' H5 s5 es' gl' l60' nl' ts'=>?_⟩
   have eov':∀x y,x < h->y < h->duF vo' x y=ovF ls' x y:=fun x y hx hy=>by unfold ovF;rw [ts'];exact (GX gv' nk hx hy).symm
   have s05:=s04.trans s5
   have p15:=s05 _ _ p1
   have p25:=s05 _ _ p2
   and_intros
   rw [ml]
   refine ⟨mo,vo',h,rfl,s5 _ _ e4,gv'.same s5,h1,h12,fun ob os H6 hob s6 nob wob eob tob=>?_⟩
   have s06:=s05.trans s6
   have p16:=s06 _ _ p1
   and_intros
   refine ⟨.list ((BW h (duF vo')).map rD),.list ((BW h (ovF ls)).map rD),.lst (SqL.of eob) tob.reps,.lst (SqL.of (s06 _ _ p2)) (p3.same s06).reps,Fv _,Fv _,?_⟩
   rw [show PyData.eqv (.list ((BW h (duF vo')).map rD)) (.list ((BW h (ovF ls)).map rD))=DX h ls' ls from (Js _ _).trans (by unfold DX;rw [Jj eov'])]
   have es6:=s6 _ _ es'
   have gl6:=gl'.same s6
   and_intros
   refine ⟨k,dk,_,rfl,s06 _ _ hk,rfl,?_⟩
   and_intros
   refine ⟨k,a,sb',p,h,s',ns,ls',ls,F,rfl,ic.same s06,es6,gl6,l60',pg.same s06,fun R1 r1=>?_⟩
   rw [KK h ls ls']
   have t1:=s06.trans r1
   have lq1:=lq.same t1
   have es1:=r1 _ _ es6
   have gl1:=gl6.same r1
   and_intros
   refine ⟨k,dk,_,rfl,t1 _ _ hk,rfl,?_⟩
   have md1:=md.same t1
   obtain ⟨dx1,la1,k11,k21⟩:=id md1.is
   and_intros
   refine ⟨a,dx1,_,rfl,k11,rfl,?_⟩
   and_intros
   refine ⟨a,sb',h,s',ns,ls',rfl,md1,es1,gl1,l60',lq1.1,fun pp F' R2 _ sq2 lq2 hpp pap _=>?_⟩
   have r2:=sq2 lq1
   have t2:=t1.trans r2
   refine ⟨k,a,sb,pp,h,s',ns,ls,ls',F',rfl,ic.same t2,t2 _ _ hsb,gl.same t2,l60,pap.gen,fun R3 r3=>?_⟩
   have t3:=t2.trans r3
   generalize DX h ls' ls=bb
   refine ⟨(by show 2<=sizeLine;decide),fun cr hcr=>?_⟩
   have r4:=Ad hcr ((.lst [V.bl bb,V.bl bb]))
   have ecr:(upd R3 cr ((.lst [V.bl bb,V.bl bb]))) cr=some ((.lst [V.bl bb,V.bl bb])):=Ab
   generalize upd R3 cr ((.lst [V.bl bb,V.bl bb]))=R4 at r4 ecr ⊢
   and_intros
   refine ⟨fun σ' J=>σ'=[some (.ref k),some (.ref a),some (.ref l),some (.ref sb),some (.ref p),some (.ref mo),some (.ref sb'),some (.bl bb),some (.ref cr)]/\Aq R4 J,?_,?_⟩
   ·and_intros
    refine ⟨(by show 2<=sizeLine;decide),fun c2 hc2=>?_⟩
    have r5:=Ad hc2 ((.lst [V.bl bb,V.bl bb]))
    have ec2:(upd R4 c2 ((.lst [V.bl bb,V.bl bb]))) c2=some ((.lst [V.bl bb,V.bl bb])):=Ab
    generalize upd R4 c2 ((.lst [V.bl bb,V.bl bb]))=R5 at r5 ec2 ⊢
    have ecr5:=r5 _ _ ecr
    refine ⟨.list ([bb,bb].map .bool),.list ([bb,bb].map .bool),.lst (SqL.of ecr5) (Reps.bls [bb,bb]),.lst (SqL.of ec2) (Reps.bls [bb,bb]),(IV bb).2,(IV bb).2,?_⟩
    rw [(IV bb).1]
    and_intros
    refine ⟨_,_,_,_,rfl,DU.bl _,E7,?_⟩
    and_intros
    refine ⟨_,_,_,_,rfl,DU.bl _,E7,?_⟩
    and_intros
    exact r5
   rintro σ' R5 ⟨rfl,r5⟩
   have t5:=(t3.trans r4).trans r5
   have r25:=(r3.trans r4).trans r5
   have lq5:=lq2.same r25
   have es5:=(r2.trans r25) _ _ es1
   have gl5:=gl1.same (r2.trans r25)
   have md5:=md.same t5
   obtain ⟨dx5,la5,k15,k25⟩:=id md5.is
   and_intros
   refine ⟨k,dk,_,rfl,t5 _ _ hk,rfl,?_⟩
   and_intros
   refine ⟨a,dx5,_,rfl,k15,rfl,?_⟩
   and_intros
   refine ⟨a,sb',h,s',ns,ls',rfl,md5,es5,gl5,l60',lq5.1,fun pp6 F6 R6 _ sq6 lq6 hpp6 pap6 _=>?_⟩
   have r6:=sq6 lq5
   have t6:=t5.trans r6
   refine ⟨k,a,sb',pp6,h,s',ns,ls',ls',F6,rfl,ic.same t6,r6 _ _ es5,gl5.same r6,l60',pap6.gen,fun R7 r7=>?_⟩
   rw [ED]
   have t7:=t6.trans r7
   and_intros
   refine ⟨k,dk,_,rfl,t7 _ _ hk,rfl,?_⟩
   and_intros
   refine ⟨k,a,sb,p,h,s',ns,ls,ls,F,rfl,ic.same t7,t7 _ _ hsb,gl.same t7,l60,pg.same t7,fun R8 r8=>?_⟩
   rw [ED]
   and_intros
   rw [decide_eq_true rfl]
   exact q _ (t7.trans r8)
theorem Hl (T:Tx K mg base ad):AN P w K mg base CX0 5 ad.f_Way_outcome ad.d_Way_outcome ["self","sheet"] (QA ad.c_Pairs ad.lP):=by
 refine T.F_Way_outcome.ok GQ (fun vs H Q E h=>?_) (fun cdv A outer s H vs Q E hr h=>?_)
 ·obtain ⟨a,l,h,s,ns,ls,rfl,_⟩:=h
  rfl
 obtain ⟨a,l,h,s,ns,ls,rfl,md,hl,gl,l60,lt,q⟩:=h
 refine ⟨_,(@Ah _ _ _ (@As _ _ _ _ (Bl (pv 0) T.cl_Pairs T.me_Pairs_told_by (Dv T) (hr.mono (by decide)) T.b_Pairs_told_by .nil Ar ((Bl (pv 0) T.cl_Pairs T.me_Pairs_counted (Ca T) (hr.mono (by decide)) T.b_Pairs_counted .nil Ar ((pv 1)*>Ae))*>Ae)))),?_⟩
 obtain ⟨dx,la,k1,k2⟩:=id md.is
 refine ⟨_,rfl,a,dx,_,rfl,k1,rfl,?_⟩
 refine ⟨_,rfl,a,dx,_,rfl,k1,rfl,_,rfl,a,l,h,s,ns,ls,rfl,md,hl,gl,l60,lt,fun p F H1 sm sq lq hp pap _=>?_⟩
 exact ⟨a,p,h,s,ns,ls,F,rfl,md.sm sm,(let ⟨m,sh,pk,_,_,a1,_,_,_,_,_,a7⟩:=pap.is;⟨m,sh,pk,a1,a7⟩),fun r H2 hr s2 e2=>q r F H2 (sm.trans (Sm.of s2)) (fun z=>(sq z).trans s2) (lq.same s2) e2 pap.strong⟩
theorem BI (T:Tx K mg base ad):AN P w K mg base CX0 5 ad.f_Checker_passes ad.d_Checker_passes ["self","sheet","paper","outcome"] (Ln ad.c_PairsChecker ad.c_Pairs):=by
 refine T.F_Checker_passes.ok Fj (fun vs H Q E h=>?_) (fun cdv A outer s H vs Q E hr h=>?_)
 ·obtain ⟨k,a,l,p,o,h,s',ns,os,ls,ls',F,rfl,_⟩:=h
  rfl
 obtain ⟨k,a,l,p,o,h,s',ns,os,ls,ls',F,rfl,ic,hl,gl,l60,pg,sm,ho,q⟩:=h
 refine ⟨_,((@Da _ _ _ _ _ _ _ _ (@Cj _ _ _ _ (@Cl _ _ _ (Bl (pv 0) T.cl_PairsChecker T.me_PairsChecker_right (AH T) (hr.mono (by decide)) T.b_PairsChecker_right .nil Ar ((pv 1)*>((pv 2)*>Ae))) (by intro _;rfl))) (@Ah _ _ _ (@As _ _ _ _ Cz)) AK)>>(@Ah _ _ _ (@As _ _ _ _ (@BA _ _ _ _ _ _ _ _ (FO (K:=K) hr.units) (Bl (DO (pv 0) rfl) T.cl_Pairs T.me_Pairs_told_by (Dv T) (hr.mono (by decide)) T.b_Pairs_told_by .nil Ar ((pv 2)*>Ae)) (pv 3) (Ax _))))),?_⟩
 obtain ⟨⟨dk,hk⟩,md⟩:=id ic
 and_intros
 refine ⟨k,dk,_,rfl,hk,rfl,?_⟩
 and_intros
 refine ⟨k,a,l,p,h,s',ns,ls,ls',F,rfl,ic,hl,gl,l60,pg,fun H1 s1=>?_⟩
 rw [sm]
 and_intros
 refine ⟨k,_,dk,_,_,rfl,s1 _ _ hk,T.cl_PairsChecker,T.na_PairsChecker_way,rfl,?_⟩
 have md1:=md.same s1
 obtain ⟨dx,la,k1,k2⟩:=id md1.is
 obtain ⟨m,sh,pk,ms,rows,p1,p2,p3,p4,p5,p6,p7⟩:=pg.is
 refine ⟨a,dx,_,rfl,k1,rfl,?_⟩
 and_intros
 refine ⟨a,p,h,s',ns,ls',F,rfl,md1,⟨m,sh,pk,s1 _ _ p1,s1 _ _ p7⟩,fun r H2 hr' s2 er=>?_⟩
 refine ⟨_,rfl,?_⟩
 refine ⟨.list ((E5 h (Au F s' ns)).map .int),.list (os.map .int),.lst (SqL.of er) (.ints _),.lst (SqL.of ((s1.trans s2) _ _ ho)) (.ints _),(AR _).2,(AR _).2,?_⟩
 rw [show PyData.eqv (.list ((E5 h (Au F s' ns)).map .int)) (.list (os.map .int))=decide (E5 h (Au F s' ns)=os) from BK _ _]
 exact q _ (s1.trans s2)
theorem HF (T:Tx K mg base ad):AN P w K mg base CX0 6 ad.f_law_let_by ad.d_law_let_by ["_law_checker","_law_sheet_here","_law_paper","_law_outcome","_law_cell_here"] (PU ad.c_PairsChecker ad.c_Pairs):=by
 refine T.F_law_let_by.ok CL (fun vs H Q E h=>?_) (fun cdv A outer s H vs Q E hr h=>?_)
 ·obtain ⟨k,a,l,p,o,c,h,s',ns,ls,F,rfl,_⟩:=h
  rfl
 obtain ⟨k,a,l,p,o,c,h,s',ns,ls,F,rfl,ic,hl,gl,l60,pg,ho,szc,q⟩:=h
 refine ⟨_,((@Ao _ _ (5) _ _ _ _ CL.nd rfl (Or.inl rfl) (Be<&>((pv 4)<|>(@At _ _ _ _ _ _ _ _ _ A0 (by rfl) T.z_len PySem.boot_len ((pv 3)*>Ae) (by decide) (by decide) (by rfl) (by rfl)))) (by rfl) (by nofun))>>((@Ao _ _ (6) _ _ _ _ CL.nd rfl (Or.inl rfl) (GK<&>((GK<&>((D9 Ex (pv 3) E2 (Eu (pv 5)))<|>(@Bf _ _ _ _ ((AX<&>((@Al _ _ _ _ _ _ _ A3 (pv 3) (pv 5) (fun _ _=>rfl))<|>Ag))*>Ae))))<|>(D9 Ex (pv 3) (Eu (AX<&>((pv 5)<|>Ag))) E2))) (by rfl) (by nofun))>>((@Ao _ _ (7) _ _ _ _ CL.nd rfl (Or.inl rfl) (GK<&>((GK<&>((D9 Ex (pv 3) E2 (Eu (pv 5)))<|>(@Bf _ _ _ _ ((IG<&>((@Al _ _ _ _ _ _ _ A3 (pv 3) (pv 5) (fun _ _=>rfl))<|>Ag))*>Ae))))<|>(D9 Ex (pv 3) (Eu (AX<&>((pv 5)<|>Ag))) E2))) (by rfl) (by nofun))>>((@Ec _ _ _ _ _ _ _ _ (PW.pt (@ET _ _ _ _ _ _ _ (@Ay _ _ _ _ _ _ _ _ Gz (Bl (pv 0) T.cl_PairsChecker T.me_PairsChecker_right (AH T) (hr.mono (by decide)) T.b_PairsChecker_right .nil Ar ((pv 1)*>((pv 2)*>Ae))) Cz (Ax _)) (@EA _ _ _ _ (@Ay _ _ _ _ _ _ _ _ Gz (Bl (pv 0) T.cl_PairsChecker T.me_PairsChecker_passes (BI T) (hr.mono (by decide)) T.b_Checker_passes .nil Ar ((pv 1)*>((pv 2)*>((@Bm _ _ _ _ _ _ _ _ _ Bk (by rfl) T.z_list PyProof.Rows.boot_list ((pv 3)*>Ae) (by decide) (by decide) (by rfl) (by rfl))*>Ae)))) Cz (Ax _))))) (@Ah _ _ _ (@As _ _ _ _ Cz)) AK)>>((@Ec _ _ _ _ _ _ _ _ (PW.pt (@ET _ _ _ _ _ _ _ (@Ay _ _ _ _ _ _ _ _ Gz (Bl (pv 0) T.cl_PairsChecker T.me_PairsChecker_passes (BI T) (hr.mono (by decide)) T.b_Checker_passes .nil Ar ((pv 1)*>((pv 2)*>((pv 6)*>Ae)))) Cz (Ax _)) (@EA _ _ _ _ (@Ay _ _ _ _ _ _ _ _ Gz (Bl (pv 0) T.cl_PairsChecker T.me_PairsChecker_passes (BI T) (hr.mono (by decide)) T.b_Checker_passes .nil Ar ((pv 1)*>((pv 2)*>((pv 7)*>Ae)))) Cz (Ax _))))) (@Ah _ _ _ (@As _ _ _ _ Cz)) AK)>>(@Ah _ _ _ (@As _ _ _ _ (@BA _ _ _ _ _ _ _ _ KU (Bl (pv 0) T.cl_PairsChecker T.me_PairsChecker_passes (BI T) (hr.mono (by decide)) T.b_Checker_passes .nil Ar ((pv 1)*>((pv 2)*>((@Bm _ _ _ _ _ _ _ _ _ Bk (by rfl) T.z_list PyProof.Rows.boot_list ((pv 3)*>Ae) (by decide) (by decide) (by rfl) (by rfl))*>Ae)))) Cz (Ax _))))))))),?_⟩
 have h1:=ic.2.h1
 have h12:=ic.2.h12
 have tl:=O4 h (Au F s' ns)
 generalize ht:E5 h (Au F s' ns)=ts at tl ho
 have tl':(ts.map V.int).length=h:=by rw [length_map];exact tl
 and_intros
 rw [tl']
 refine ⟨by show (h:Int)≠0;omega,?_⟩
 dsimp only
 have mj:=By c (show (0:Int) < (h:Int) by omega)
 obtain ⟨j,ej⟩:∃j:Nat,c.fmod (h:Int)=(j:Int):=⟨(c.fmod (h:Int)).toNat,by omega⟩
 rw [ej]
 have hj:j < h:=by omega
 obtain ⟨x,hx⟩:∃x:Int,ts[j]?=some x:=⟨_,List.getElem?_eq_getElem (by omega)⟩
 have lt:(ts.take j).length<=12:=by have:=length_take_le j ts;omega
 have ld:(ts.drop (j+1)).length<=12:=by rw [length_drop];omega
 and_intros
 refine ⟨o,_,rfl,SqL.of ho,fun a1 ha1=>?_⟩
 rw [Og,<- map_take]
 have u11:=Ad ha1 ((.lst ((ts.take j).map V.int)))
 have v11:(upd H a1 ((.lst ((ts.take j).map V.int)))) a1=some ((.lst ((ts.take j).map V.int))):=Ab
 generalize upd H a1 ((.lst ((ts.take j).map V.int)))=A1 at u11 v11 ⊢
 and_intros
 refine ⟨o,_,_,_,rfl,rfl,SqL.of (u11 _ _ ho),atN hx,?_⟩
 and_intros
 refine ⟨(by show 1<=sizeLine;decide),fun b1 hb1=>?_⟩
 have u21:=Ad hb1 ((.lst [V.int (x+1)]))
 have v21:(upd A1 b1 ((.lst [V.int (x+1)]))) b1=some ((.lst [V.int (x+1)])):=Ab
 generalize upd A1 b1 ((.lst [V.int (x+1)]))=B1 at u21 v21 ⊢
 refine ⟨a1,b1,_,_,rfl,rfl,u21 _ _ v11,v21,Av (by rw [length_map];show _+1<=1000;omega),fun d1 hd1=>?_⟩
 have u31:=Ad hd1 ((.lst ((ts.take j).map V.int++[V.int (x+1)])))
 have v31:(upd B1 d1 ((.lst ((ts.take j).map V.int++[V.int (x+1)])))) d1=some ((.lst ((ts.take j).map V.int++[V.int (x+1)]))):=Ab
 generalize upd B1 d1 ((.lst ((ts.take j).map V.int++[V.int (x+1)])))=C1 at u31 v31 ⊢
 have u1:=(u11.trans u21).trans u31
 and_intros
 refine ⟨o,_,rfl,SqL.of (u1 _ _ ho),fun e1 he1=>?_⟩
 rw [show Gs (ts.map V.int) (some ((j:Int)+1)) none=(ts.drop (j+1)).map V.int from (ES (j:=j+1)).trans (map_drop ..).symm]
 have u41:=Ad he1 ((.lst ((ts.drop (j+1)).map V.int)))
 have v41:(upd C1 e1 ((.lst ((ts.drop (j+1)).map V.int)))) e1=some ((.lst ((ts.drop (j+1)).map V.int))):=Ab
 generalize upd C1 e1 ((.lst ((ts.drop (j+1)).map V.int)))=D1 at u41 v41 ⊢
 refine ⟨d1,e1,_,_,rfl,rfl,u41 _ _ v31,v41,Av (by rw [length_append,length_map,length_map];show _+1+_<=1000;omega),fun m1 hm1=>?_⟩
 rw [show (ts.take j).map V.int++[V.int (x+1)]++(ts.drop (j+1)).map V.int=(ts.take j++[(x+1)]++ts.drop (j+1)).map V.int from by rw [map_append,map_append];rfl]
 have u51:=Ad hm1 ((.lst ((ts.take j++[(x+1)]++ts.drop (j+1)).map V.int)))
 have w1:(upd D1 m1 ((.lst ((ts.take j++[(x+1)]++ts.drop (j+1)).map V.int)))) m1=some ((.lst ((ts.take j++[(x+1)]++ts.drop (j+1)).map V.int))):=Ab
 generalize upd D1 m1 ((.lst ((ts.take j++[(x+1)]++ts.drop (j+1)).map V.int)))=M1 at u51 w1 ⊢
 have z1:=(u1.trans u41).trans u51
 clear v11 v21 v31 v41 u11 u21 u31 u41 u51 u1 ha1 hb1 hd1 he1 hm1
 and_intros
 refine ⟨o,_,rfl,SqL.of (z1 _ _ ho),fun a2 ha2=>?_⟩
 rw [Og,<- map_take]
 have u12:=Ad ha2 ((.lst ((ts.take j).map V.int)))
 have v12:(upd M1 a2 ((.lst ((ts.take j).map V.int)))) a2=some ((.lst ((ts.take j).map V.int))):=Ab
 generalize upd M1 a2 ((.lst ((ts.take j).map V.int)))=A2 at u12 v12 ⊢
 and_intros
 refine ⟨o,_,_,_,rfl,rfl,SqL.of (u12 _ _ (z1 _ _ ho)),atN hx,?_⟩
 and_intros
 refine ⟨(by show 1<=sizeLine;decide),fun b2 hb2=>?_⟩
 have u22:=Ad hb2 ((.lst [V.int (x - 1)]))
 have v22:(upd A2 b2 ((.lst [V.int (x - 1)]))) b2=some ((.lst [V.int (x - 1)])):=Ab
 generalize upd A2 b2 ((.lst [V.int (x - 1)]))=B2 at u22 v22 ⊢
 refine ⟨a2,b2,_,_,rfl,rfl,u22 _ _ v12,v22,Av (by rw [length_map];show _+1<=1000;omega),fun d2 hd2=>?_⟩
 have u32:=Ad hd2 ((.lst ((ts.take j).map V.int++[V.int (x - 1)])))
 have v32:(upd B2 d2 ((.lst ((ts.take j).map V.int++[V.int (x - 1)])))) d2=some ((.lst ((ts.take j).map V.int++[V.int (x - 1)]))):=Ab
 generalize upd B2 d2 ((.lst ((ts.take j).map V.int++[V.int (x - 1)])))=C2 at u32 v32 ⊢
 have u2:=(u12.trans u22).trans u32
 and_intros
 refine ⟨o,_,rfl,SqL.of (u2 _ _ (z1 _ _ ho)),fun e2 he2=>?_⟩
 rw [show Gs (ts.map V.int) (some ((j:Int)+1)) none=(ts.drop (j+1)).map V.int from (ES (j:=j+1)).trans (map_drop ..).symm]
 have u42:=Ad he2 ((.lst ((ts.drop (j+1)).map V.int)))
 have v42:(upd C2 e2 ((.lst ((ts.drop (j+1)).map V.int)))) e2=some ((.lst ((ts.drop (j+1)).map V.int))):=Ab
 generalize upd C2 e2 ((.lst ((ts.drop (j+1)).map V.int)))=D2 at u42 v42 ⊢
 refine ⟨d2,e2,_,_,rfl,rfl,u42 _ _ v32,v42,Av (by rw [length_append,length_map,length_map];show _+1+_<=1000;omega),fun m2 hm2=>?_⟩
 rw [show (ts.take j).map V.int++[V.int (x - 1)]++(ts.drop (j+1)).map V.int=(ts.take j++[(x - 1)]++ts.drop (j+1)).map V.int from by rw [map_append,map_append];rfl]
 have u52:=Ad hm2 ((.lst ((ts.take j++[(x - 1)]++ts.drop (j+1)).map V.int)))
 have w2:(upd D2 m2 ((.lst ((ts.take j++[(x - 1)]++ts.drop (j+1)).map V.int)))) m2=some ((.lst ((ts.take j++[(x - 1)]++ts.drop (j+1)).map V.int))):=Ab
 generalize upd D2 m2 ((.lst ((ts.take j++[(x - 1)]++ts.drop (j+1)).map V.int)))=M2 at u52 w2 ⊢
 have z2:=(u2.trans u42).trans u52
 clear v12 v22 v32 v42 u12 u22 u32 u42 u52 u2 ha2 hb2 hd2 he2 hm2
 have z0:=z1.trans z2
 have w1':=z2 _ _ w1
 obtain ⟨⟨dk,hk⟩,_⟩:=id ic
 and_intros
 refine ⟨fun σ' J=>σ'=[some (.ref k),some (.ref l),some (.ref p),some (.ref o),some (.int c),some (.int (j:Int)),some (.ref m1),some (.ref m2)]/\Aq M2 J,?_,?_⟩
 ·skip
  and_intros
  refine ⟨k,dk,_,rfl,z0 _ _ hk,rfl,?_⟩
  and_intros
  refine ⟨k,a,l,p,h,s',ns,ls,ls,F,rfl,ic.same z0,z0 _ _ hl,gl.same z0,l60,pg.same z0,fun H3 s3=>?_⟩
  rw [ED]
  have t3:=z0.trans s3
  and_intros
  refine ⟨k,dk,_,rfl,t3 _ _ hk,rfl,?_⟩
  and_intros
  refine ⟨o,_,rfl,.inl (SqL.of (t3 _ _ ho)),fun o4 ho4=>?_⟩
  have n4:=Ad ho4 ((.lst (ts.map V.int)))
  have f4:(upd H3 o4 ((.lst (ts.map V.int)))) o4=some ((.lst (ts.map V.int))):=Ab
  generalize upd H3 o4 ((.lst (ts.map V.int)))=N4 at n4 f4 ⊢
  have S4':=(t3).trans n4
  refine ⟨k,a,l,p,o4,h,s',ns,ts,ls,ls,F,rfl,ic.same S4',S4' _ _ hl,gl.same S4',l60,pg.same S4',ED h ls,f4,fun P4 sp4=>?_⟩
  rw [ht,decide_eq_true rfl]
  have T4:=S4'.trans sp4
  and_intros
  exact (s3.trans n4).trans sp4
 rintro σ' P4 ⟨rfl,sq4⟩
 have T4:=z0.trans sq4
 and_intros
 refine ⟨fun σ' J=>σ'=[some (.ref k),some (.ref l),some (.ref p),some (.ref o),some (.int c),some (.int (j:Int)),some (.ref m1),some (.ref m2)]/\Aq P4 J,?_,?_⟩
 ·skip
  and_intros
  refine ⟨k,dk,_,rfl,T4 _ _ hk,rfl,?_⟩
  and_intros
  have S5':Aq H P4:=T4
  have f5:=(sq4 _ _ w1')
  refine ⟨k,a,l,p,m1,h,s',ns,(ts.take j++[(x+1)]++ts.drop (j+1)),ls,ls,F,rfl,ic.same S5',S5' _ _ hl,gl.same S5',l60,pg.same S5',ED h ls,f5,fun P5 sp5=>?_⟩
  rw [ht,decide_eq_false (NW hx (by omega))]
  have T5:=S5'.trans sp5
  and_intros
  refine ⟨k,dk,_,rfl,T5 _ _ hk,rfl,?_⟩
  and_intros
  have S6':Aq H P5:=T5
  have f6:=(sp5 _ _ (sq4 _ _ w2))
  refine ⟨k,a,l,p,m2,h,s',ns,(ts.take j++[(x - 1)]++ts.drop (j+1)),ls,ls,F,rfl,ic.same S6',S6' _ _ hl,gl.same S6',l60,pg.same S6',ED h ls,f6,fun P6 sp6=>?_⟩
  rw [ht,decide_eq_false (NW hx (by omega))]
  have T6:=S6'.trans sp6
  and_intros
  exact sp5.trans sp6
 rintro σ' P6 ⟨rfl,sq6⟩
 have T6:=T4.trans sq6
 and_intros
 refine ⟨k,dk,_,rfl,T6 _ _ hk,rfl,?_⟩
 and_intros
 refine ⟨o,_,rfl,.inl (SqL.of (T6 _ _ ho)),fun o7 ho7=>?_⟩
 have n7:=Ad ho7 ((.lst (ts.map V.int)))
 have f7:(upd P6 o7 ((.lst (ts.map V.int)))) o7=some ((.lst (ts.map V.int))):=Ab
 generalize upd P6 o7 ((.lst (ts.map V.int)))=N7 at n7 f7 ⊢
 have S7':=(T6).trans n7
 refine ⟨k,a,l,p,o7,h,s',ns,ts,ls,ls,F,rfl,ic.same S7',S7' _ _ hl,gl.same S7',l60,pg.same S7',ED h ls,f7,fun P7 sp7=>?_⟩
 rw [ht,decide_eq_true rfl]
 have T7:=S7'.trans sp7
 and_intros
 rw [decide_eq_true rfl]
 exact q _ T7
theorem Q6 (T:Tx K mg base ad):AN P w K mg base CX0 7 ad.f_law ad.d_law ["_law_script"] (Lv K ad.lP):=by
 refine T.F_law.ok CH (fun vs H Q E h=>?_) (fun cdv A outer s H vs Q E hr h=>?_)
 ·obtain ⟨p,ns,rfl,_⟩:=h
  rfl
 obtain ⟨p,ns,rfl,hS,h63,hP,q⟩:=h
 refine ⟨_,((@Ao _ _ (1) _ _ _ _ CH.nd rfl (Or.inl rfl) (@Aj _ _ _ _ _ _ _ _ _ _ _ _ _ _ _ _ (Eo T) (hr.mono (by decide)) rfl T.m_law_cell T.F_law_cell.kp T.b_law_cell .nil Ar ((pv 0)*>(Ag*>Ae)) (by decide) (by rfl) (by rfl)) (by rfl) (by nofun))>>((@Ao _ _ (2) _ _ _ _ CH.nd rfl (Or.inl rfl) (AX<&>(Ag<|>(Be<&>((pv 1)<|>Ag)))) (by rfl) (by nofun))>>((@Ao _ _ (3) _ _ _ _ CH.nd rfl (Or.inl rfl) (Lw T.mk_Pairs (JY T) (hr.mono (by decide)) rfl T.m_Pairs T.b_Way_init .nil Ar ((pv 2)*>((AX<&>(Ag<|>(Be<&>((Bs<&>((pv 1)<|>Ag))<|>Ag))))*>((@Aj _ _ _ _ _ _ _ _ _ _ _ _ _ _ _ _ (EQ T) (hr.mono (by decide)) rfl T.m_law_order T.F_law_order.kp T.b_law_order .nil Ar ((@Aj _ _ _ _ _ _ _ _ _ _ _ _ _ _ _ _ (Eo T) (hr.mono (by decide)) rfl T.m_law_cell T.F_law_cell.kp T.b_law_cell .nil Ar ((pv 0)*>(Ag*>Ae)) (by decide) (by rfl) (by rfl))*>((pv 2)*>Ae)) (by decide) (by rfl) (by rfl))*>Ae)))) (by rfl) (by nofun))>>((@Ao _ _ (4) _ _ _ _ CH.nd rfl (Or.inl rfl) (@Aj _ _ _ _ _ _ _ _ _ _ _ _ _ _ _ _ (IT T) (hr.mono (by decide)) rfl T.m_law_votes T.F_law_votes.kp T.b_law_votes .nil Ar ((pv 0)*>(Ag*>(Ag*>((pv 2)*>Ae)))) (by decide) (by rfl) (by rfl)) (by rfl) (by nofun))>>((@Ao _ _ (5) _ _ _ _ CH.nd rfl (Or.inl rfl) (@Aj _ _ _ _ _ _ _ _ _ _ _ _ _ _ _ _ (Fb T) (hr.mono (by decide)) rfl T.m_law_sheet T.F_law_sheet.kp T.b_law_sheet .nil Ar ((pv 4)*>Ae) (by decide) (by rfl) (by rfl)) (by rfl) (by nofun))>>((@Ao _ _ (6) _ _ _ _ CH.nd rfl (Or.inl rfl) (@Bm _ _ _ _ _ _ _ _ _ Bk (by rfl) T.z_list PyProof.Rows.boot_list ((pv 5)*>Ae) (by decide) (by decide) (by rfl) (by rfl)) (by rfl) (by nofun))>>((@Ao _ _ (7) _ _ _ _ CH.nd rfl (Or.inl rfl) (Bl (pv 3) T.cl_Pairs T.me_Pairs_counted (Ca T) (hr.mono (by decide)) T.b_Pairs_counted .nil Ar ((pv 5)*>Ae)) (by rfl) (by nofun))>>((@Ao _ _ (8) _ _ _ _ CH.nd rfl (Or.inl rfl) (@Aj _ _ _ _ _ _ _ _ _ _ _ _ _ _ _ _ (II T) (hr.mono (by decide)) rfl T.m_law_other T.F_law_other.kp T.b_law_other .nil Ar ((pv 7)*>((@Aj _ _ _ _ _ _ _ _ _ _ _ _ _ _ _ _ (Jt T) (hr.mono (by decide)) rfl T.m_law_leads T.F_law_leads.kp T.b_law_leads .nil Ar ((@Aj _ _ _ _ _ _ _ _ _ _ _ _ _ _ _ _ (Fk T) (hr.mono (by decide)) rfl T.m_law_overs T.F_law_overs.kp T.b_law_overs .nil Ar ((pv 4)*>((pv 2)*>Ae)) (by decide) (by rfl) (by rfl))*>Ae) (by decide) (by rfl) (by rfl))*>((Bs<&>((pv 1)<|>Ag))*>Ae))) (by decide) (by rfl) (by rfl)) (by rfl) (by nofun))>>((@Ao _ _ (9) _ _ _ _ CH.nd rfl (Or.inl rfl) (@Bf _ _ _ _ ((@Aj _ _ _ _ _ _ _ _ _ _ _ _ _ _ _ _ (Dp T) (hr.mono (by decide)) rfl T.m_law_copy T.F_law_copy.kp T.b_law_copy .nil Ar ((pv 7)*>Ae) (by decide) (by rfl) (by rfl))*>((@Aj _ _ _ _ _ _ _ _ _ _ _ _ _ _ _ _ (Dp T) (hr.mono (by decide)) rfl T.m_law_copy T.F_law_copy.kp T.b_law_copy .nil Ar ((pv 8)*>Ae) (by decide) (by rfl) (by rfl))*>Ae))) (by rfl) (by nofun))>>((@Ao _ _ (10) _ _ _ _ CH.nd rfl (Or.inl rfl) (Bl (pv 3) T.cl_Pairs T.me_Pairs_outcome (Hl T) (hr.mono (by decide)) T.b_Way_outcome .nil Ar ((pv 5)*>Ae)) (by rfl) (by nofun))>>((@Ao _ _ (11) _ _ _ _ CH.nd rfl (Or.inl rfl) (Lw T.mk_PairsChecker (Gq T) (hr.mono (by decide)) rfl T.m_PairsChecker T.b_Checker_init .nil Ar ((pv 3)*>Ae)) (by rfl) (by nofun))>>((@Ec _ _ _ _ _ _ _ _ (@Cj _ _ _ _ (@Cl _ _ _ (@At _ _ _ _ _ _ _ _ _ (Nv (K:=K)) (by rfl) T.z_isinstance PyProof.Rows.boot_isinstance ((pv 11)*>((IU (v:=.ref ad.c_Checker) rfl T.m_Checker rfl)*>Ae)) (by decide) (by decide) (by rfl) (by rfl)) (by intro _;rfl))) (@Ah _ _ _ (@As _ _ _ _ Cz)) AK)>>((B9 PassesOwn.never rfl (A5 (@Bf _ _ _ _ ((pv 7)*>((pv 8)*>((pv 7)*>Ae))))) (AA (i:=12) CH.nd rfl (Or.inl rfl)) (@Ah _ _ _ (@Da _ _ _ _ _ _ _ _ (@Cj _ _ _ _ (@Cl _ _ _ (@Aj _ _ _ _ _ _ _ _ _ _ _ _ _ _ _ _ (HF T) (hr.mono (by decide)) rfl T.m_law_let_by T.F_law_let_by.kp T.b_law_let_by .nil Ar ((pv 11)*>((pv 6)*>((pv 12)*>((pv 10)*>((Bs<&>((pv 1)<|>Ag))*>Ae))))) (by decide) (by rfl) (by rfl)) (by intro _;rfl))) (@Ah _ _ _ (@As _ _ _ _ Cz)) AK)))>>((@Ec _ _ _ _ _ _ _ _ (@Cj _ _ _ _ (@Cl _ _ _ (@Aj _ _ _ _ _ _ _ _ _ _ _ _ _ _ _ _ (Fp T) (hr.mono (by decide)) rfl T.m_law_two_sheets T.F_law_two_sheets.kp T.b_law_two_sheets .nil Ar ((pv 11)*>((pv 3)*>((pv 4)*>((pv 5)*>((pv 7)*>Ae))))) (by decide) (by rfl) (by rfl)) (by intro _;rfl))) (@Ah _ _ _ (@As _ _ _ _ Cz)) AK)>>(@Ah _ _ _ (@As _ _ _ _ (@Du _ _ _ _ _ _ _ (@BA _ _ _ _ _ _ _ _ (FO (K:=K) hr.units) (pv 6) (pv 5) (Ax _)) (@DG _ _ _ _ _ (@BA _ _ _ _ _ _ _ _ (FO (K:=K) hr.units) (@Bf _ _ _ _ ((@Aj _ _ _ _ _ _ _ _ _ _ _ _ _ _ _ _ (Dp T) (hr.mono (by decide)) rfl T.m_law_copy T.F_law_copy.kp T.b_law_copy .nil Ar ((pv 7)*>Ae) (by decide) (by rfl) (by rfl))*>((@Aj _ _ _ _ _ _ _ _ _ _ _ _ _ _ _ _ (Dp T) (hr.mono (by decide)) rfl T.m_law_copy T.F_law_copy.kp T.b_law_copy .nil Ar ((pv 8)*>Ae) (by decide) (by rfl) (by rfl))*>Ae))) (pv 9) (Ax _)))))))))))))))))))),?_⟩
 refine ⟨_,rfl,p,ns,0,rfl,hS,h63,by decide,by decide,fun c c0 c1=>?_⟩
 have szc:=P0 c0 c1
 have m5:=By c (show (0:Int) < 5 by decide)
 have m6:=By (c.fdiv 5) (show (0:Int) < 6 by decide)
 obtain ⟨h,eh⟩:∃h:Nat,(h:Int)=1+c.fmod 5:=⟨(1+c.fmod 5).toNat,by omega⟩
 obtain ⟨sn,es0⟩:∃s:Nat,(s:Int)=1+(c.fdiv 5).fmod 6:=⟨(1+(c.fdiv 5).fmod 6).toNat,by omega⟩
 have h1:1<=h:=by omega
 have h12:h<=12:=by omega
 and_intros
 dsimp only
 rw [<- eh]
 and_intros
 rw [<- es0]
 refine ⟨p,ns,1,rfl,hS,h63,by decide,by decide,fun c2 c20 c21=>?_⟩
 refine ⟨_,rfl,c2,(h:Int),rfl,c20,c21,by omega,by omega,fun lo os H0 s0 e0 po=>?_⟩
 rw [Int.toNat_natCast] at po
 intro a dx0 ha hdx ne
 have k1:Aq H0 (upd (upd H0 dx0 (.own a)) a (.ins ad.c_Pairs dx0 [])):=(Ad hdx _).trans (Ad (by rw [Ai (Ne.symm ne)];exact ha) _)
 refine ⟨a,ad.c_Pairs,dx0,h,sn,.ref lo,os,rfl,Ab,T.cl_Pairs,T.na_Pairs_hands,T.na_Pairs_seats,T.na_Pairs_lots,h1,h12,by omega,by omega,.inr ⟨lo,rfl,k1 _ _ e0,po⟩,fun la0 H1 _ _ s9 a1 l1=>?_⟩
 rw [Lr] at s9
 have s01:=(Ny (Ad hdx (.own a)) ha).trans s9
 refine ⟨rfl,?_⟩
 have md:DT ad.c_Pairs H1 a h sn os:=⟨⟨dx0,la0,a1,l1⟩,po,h1,h12,by omega,by omega⟩
 clear k1 s9 ha hdx ne a1 l1
 have s1:=s0.trans s01
 have lt:LT ad.lP H1:=.inl (s1 _ _ hP)
 and_intros
 refine ⟨p,ns,2,12,(h:Int),rfl,s1.seq hS,h63,rfl,rfl,by omega,by omega,fun l vo H2 s2 e2 l12 l1 gv nv=>?_⟩
 rw [Int.toNat_natCast] at gv
 and_intros
 refine ⟨l,vo,h,rfl,e2,gv,by omega,nv.up,h12,fun sb ls H3 s3 es gl l60 nl ts=>?_⟩
 have eov:∀x y,x < h->y < h->duF vo x y=ovF ls x y:=fun x y hx hy=>by unfold ovF;rw [ts];exact (GX gv nv.up hx hy).symm
 and_intros
 intro hd hhd
 have s4:=Ad hhd ((.lst (vls ls)))
 have ehd:(upd H3 hd ((.lst (vls ls)))) hd=some ((.lst (vls ls))):=Ab
 generalize upd H3 hd ((.lst (vls ls)))=H4 at s4 ehd ⊢
 have s24:=s3.trans s4
 replace md:=md.same (s2.trans s24)
 replace lt:=lt.same (s2.trans s24)
 replace e2:=s24 _ _ e2
 replace gv:=gv.same s24
 replace es:=s4 _ _ es
 replace gl:=gl.same s4
 obtain ⟨dx,la,k1,k2⟩:=id md.is
 and_intros
 refine ⟨a,dx,_,rfl,k1,rfl,?_⟩
 and_intros
 refine ⟨a,sb,h,sn,os,ls,rfl,md,es,gl,l60,lt,fun pp F H5 sm5 _ lq hpp pap _=>?_⟩
 replace md:=md.sm sm5
 replace e2:=sm5.lst e2
 replace gv:Ek h H5 vo:=fun q m=>⟨sm5.tup (gv q m).1,sm5.lst (gv q m).2.1,(gv q m).2.2⟩
 replace es:=sm5.lst es
 replace ehd:=sm5.lst ehd
 replace gl:CO h H5 ls:=fun q m=>⟨sm5.tup (gl q m).1,sm5.tup (gl q m).2.1,(gl q m).2.2⟩
 have st:=pap.strong
 obtain ⟨rows,pr⟩:=pap.gen.rows
 clear pap hpp sm5 lt k1 k2 s24 s4 s3 s2 s1 s01 s0 e0 hhd
 and_intros
 refine ⟨l,vo,h,rfl,e2,gv,h1,h12,fun ob bs H6 hob s6 nob wob eob tob=>?_⟩
 and_intros
 refine ⟨ob,bs,h,duF vo,rfl,eob,tob,h12,fun lb lbs H7 hlb nlb wlb s7 elb tlb=>?_⟩
 have tlb:AL H7 lbs h (Bv ls):=tlb.congr fun x y hx hy=>by unfold Bv;rw [eov x y hx hy,eov y x hy hx]
 have s67:=s6.trans s7
 have d30:=Op c0 (show (1:Int)<=30 by decide) c1
 have d60:=Op c0 (show (1:Int)<=60 by decide) c1
 and_intros
 refine ⟨pp,lb,lbs,_,h,sn,os,ls,F,rows,rfl,pr.same s67,st,elb,tlb,P0 d30.1 d30.2,h1,h12,fun po' rows' H8 s8 pr'=>?_⟩
 have s68:=s67.trans s8
 and_intros
 refine ⟨pp,h,sn,os,ls,F,rows,rfl,pr.same s68,h12,fun c1' H9 s9 rp1=>?_⟩
 refine ⟨_,rfl,?_⟩
 refine ⟨po',h,sn,os,ls,F,rows',rfl,pr'.same s9,h12,fun c2' H10 s10 rp2=>?_⟩
 refine ⟨(by show 2<=sizeLine;decide),fun he hhe=>?_⟩
 have s11:=Ad hhe ((.lst [V.ref c1',V.ref c2']))
 have ehe:(upd H10 he ((.lst [V.ref c1',V.ref c2']))) he=some ((.lst [V.ref c1',V.ref c2'])):=Ab
 generalize upd H10 he ((.lst [V.ref c1',V.ref c2']))=H11 at s11 ehe ⊢
 have rh:Rep K H11 (.ref he) (.list [HA h sn os ls F rows,HA h sn os ls F rows']):=.lst (SqL.of ehe) (.cons ((rp1.same s10).same s11) (.cons (rp2.same s11) .nil))
 have s911:=(s9.trans s10).trans s11
 have s511:=s68.trans s911
 replace pr:=pr.same s511
 replace pr':=pr'.same s911
 replace md:=md.same s511
 replace e2:=s511 _ _ e2
 replace gv:=gv.same s511
 replace es:=s511 _ _ es
 replace ehd:=s511 _ _ ehd
 replace gl:=gl.same s511
 replace lq:=lq.same s511
 clear s511 s911 s68 s67 s6 s7 s8 s9 s10 s11 rp1 rp2 ehe hhe elb tlb eob tob nob wob hob nlb wlb hlb
 obtain ⟨dx,la,k1,k2⟩:=id md.is
 and_intros
 refine ⟨a,dx,_,rfl,k1,rfl,?_⟩
 and_intros
 refine ⟨a,sb,h,sn,os,ls,rfl,md,es,gl,l60,lq.1,fun r F2 H12 _ sq12 lq12 er st2=>?_⟩
 have s12:=sq12 lq
 rw [show Au F2 sn os=Au F sn os from FY (fun x y hx hy=>st2.uniq st hx hy) sn os (fun z m=>DF (po.mem_iff.mp m))] at er
 and_intros
 intro k dk hk hdk nek
 refine ⟨k,ad.c_PairsChecker,dk,.ref a,rfl,Ab,T.cl_PairsChecker,T.na_PairsChecker_way,fun H13 s13 ek=>?_⟩
 rw [Lr] at s13
 have s13:=(Ny (Ad hdk (.own k)) hk).trans s13
 refine ⟨rfl,?_⟩
 have s23:=s12.trans s13
 have ic:IsC ad.c_PairsChecker ad.c_Pairs H13 k a h sn os:=⟨⟨dk,ek⟩,md.same s23⟩
 replace er:=s13 _ _ er
 replace lq:=lq12.same s13
 replace pr:=pr.same s23
 replace pr':=pr'.same s23
 replace e2:=s23 _ _ e2
 replace gv:=gv.same s23
 replace es:=s23 _ _ es
 replace ehd:=s23 _ _ ehd
 replace gl:=gl.same s23
 replace rh:=rh.same s23
 clear s23 s13 s12 sq12 lq12 hk hdk nek k1 k2 md st2 ek
 and_intros
 refine ⟨fun σ' J=>σ'=[some (.ref p),some (.int c),some (.int (h:Int)),some (.ref a),some (.ref l),some (.ref sb),some (.ref hd),some (.ref pp),some (.ref po'),some (.ref he),some (.ref r),some (.ref k),none]/\H13=J,?_,?_⟩
 ·and_intros
  refine ⟨k,ad.c_PairsChecker,_,_,ad.c_Checker,rfl,(id ic.1).choose_spec,T.cl_PairsChecker,T.ia_PairsChecker_Checker,?_⟩
  and_intros
  rfl
 rintro σ' J ⟨rfl,rfl⟩
 and_intros
 refine ⟨(by show 3<=sizeLine;decide),fun th hth=>?_⟩
 have s14:=Ad hth ((.lst [V.ref pp,V.ref po',V.ref pp]))
 have eth:(upd H13 th ((.lst [V.ref pp,V.ref po',V.ref pp]))) th=some ((.lst [V.ref pp,V.ref po',V.ref pp])):=Ab
 generalize upd H13 th ((.lst [V.ref pp,V.ref po',V.ref pp]))=H14 at s14 eth ⊢
 and_intros
 refine ⟨⟨_,SqL.of eth⟩,BD (xs:=[V.ref pp,V.ref po',V.ref pp]) (fun i σ' J=>∃v12:Option V,σ'=[some (.ref p),some (.int c),some (.int (h:Int)),some (.ref a),some (.ref l),some (.ref sb),some (.ref hd),some (.ref pp),some (.ref po'),some (.ref he),some (.ref r),some (.ref k),v12]/\Aq H14 J) ⟨none,rfl,Aq.refl _⟩ (fun i σ' J _ ⟨_,_,z⟩=>SqL.of (z _ _ eth)) ?_ ?_⟩
 ·rintro i w σ' J hw ⟨v12,rfl,sJ⟩
  have sJ':=s14.trans sJ
  obtain ⟨pw,rws,rfl,pg⟩:∃(pw:Addr) (rws:List Rw),w=.ref pw/\Ht H13 pw h sn os ls F rws:=by
   have:=mem_of_getElem? hw
   simp only [mem_cons,List.not_mem_nil,or_false] at this
   rcases this with rfl | rfl | rfl
   ·exact ⟨pp,rows,rfl,pr⟩
   ·exact ⟨po',rows',rfl,pr'⟩
   ·exact ⟨pp,rows,rfl,pr⟩
  and_intros
  refine ⟨k,a,hd,pw,r,_,h,sn,os,ls,F,rfl,ic.same sJ',sJ' _ _ ehd,gl.same sJ',l60,(pg.same sJ').gen st,sJ' _ _ er,P0 d60.1 d60.2,fun J2 s2=>?_⟩
  and_intros
  exact sJ.trans s2
 rintro σ' H15 ⟨v12,rfl,s15⟩
 have s45:=s14.trans s15
 and_intros
 refine ⟨fun σ' J=>σ'=[some (.ref p),some (.int c),some (.int (h:Int)),some (.ref a),some (.ref l),some (.ref sb),some (.ref hd),some (.ref pp),some (.ref po'),some (.ref he),some (.ref r),some (.ref k),v12]/\Aq H13 J,?_,?_⟩
 ·and_intros
  refine ⟨k,a,l,sb,pp,h,sn,os,vo,ls,F,rfl,ic.same s45,s45 _ _ e2,gv.same s45,nv,l1,l12,s45 _ _ es,gl.same s45,l60,(pr.same s45).gen st,lq.same s45,fun H16 s16=>?_⟩
  and_intros
  exact s45.trans s16
 rintro σ' H16 ⟨rfl,s46⟩
 and_intros
 refine ⟨.list (ls.map ld),.list (ls.map ld),.lst (SqL.of (s46 _ _ ehd)) (IZ (gl.same s46)),.lst (SqL.of (s46 _ _ es)) (IZ (gl.same s46)),Kp _,Kp _,?_⟩
 rw [show PyData.eqv (.list (ls.map ld)) (.list (ls.map ld))=true from NV _]
 and_intros
 refine ⟨pp,h,sn,os,ls,F,rows,rfl,pr.same s46,h12,fun c3 H17 s17 rp3=>?_⟩
 refine ⟨_,rfl,?_⟩
 refine ⟨po',h,sn,os,ls,F,rows',rfl,(pr'.same s46).same s17,h12,fun c4 H18 s18 rp4=>?_⟩
 refine ⟨(by show 2<=sizeLine;decide),fun he2 hhe2=>?_⟩
 have s19:=Ad hhe2 ((.lst [V.ref c3,V.ref c4]))
 have ehe2:(upd H18 he2 ((.lst [V.ref c3,V.ref c4]))) he2=some ((.lst [V.ref c3,V.ref c4])):=Ab
 generalize upd H18 he2 ((.lst [V.ref c3,V.ref c4]))=H19 at s19 ehe2 ⊢
 have ly:Lay 5 (.list [HA h sn os ls F rows,HA h sn os ls F rows']):=Ea fun x m=>by
  simp only [mem_cons,List.not_mem_nil,or_false] at m
  rcases m with rfl | rfl <;> exact MG ..
 refine ⟨_,rfl,?_⟩
 refine ⟨.list [HA h sn os ls F rows,HA h sn os ls F rows'],.list [HA h sn os ls F rows,HA h sn os ls F rows'],.lst (SqL.of ehe2) (.cons ((rp3.same s18).same s19) (.cons (rp4.same s19) .nil)),rh.same (s46.trans ((s17.trans s18).trans s19)),ly.shaped (by decide),ly.shaped (by decide),?_⟩
 rw [ly.eqv]
 exact q _
end
theorem BZ {α:Type} {P:List α->Prop} (h:∀x0,P [x0]):∀us:List α,us.length=1->P us
 | [_],_=>h _
theorem Bc {α:Type} {P:List α->Prop} (h:∀x0 x1,P [x0,x1]):∀us:List α,us.length=2->P us
 | [_,_],_=>h _ _
theorem Fq {α:Type} {P:List α->Prop} (h:∀x0 x1 x2,P [x0,x1,x2]):∀us:List α,us.length=3->P us
 | [_,_,_],_=>h _ _ _
theorem EU {α:Type} {P:List α->Prop} (h:∀x0 x1 x2 x3,P [x0,x1,x2,x3]):∀us:List α,us.length=4->P us
 | [_,_,_,_],_=>h _ _ _ _
theorem IF {α:Type} {P:List α->Prop} (h:∀x0 x1 x2 x3 x4,P [x0,x1,x2,x3,x4]):∀us:List α,us.length=5->P us
 | [_,_,_,_,_],_=>h _ _ _ _ _
open PySem.W in
theorem all_mk {l:OpenLaw} {w:World} {K:Frag} {h:Heap} {mg:Str->Option Value} {fa f1 f2 f3 f4 f5 f6 f7 f8 f9 f10 f11 f12 f13 f14 f15 f16 f17 f18 f19 f20 f21 f22 f23 f24 f25 f26 f27 f28 f29 f30 f31 f32 f33 f34 f35 f36 f37 f38 f39 f40 f41 f42 f43 f44 f45 f46 f47 f48 c_Pairs c_PairsChecker c_Checker lf lc lP:Addr} (X:K.In h) (G:h.Ns mainGlobals mg) (hfa:mg "law"=some (.ref fa)) (hlf:mg "reached_from"=some (.ref lf)) (hlT:∃o fd,h.get? lf=some o/\o.data=.func fd/\fd.code=.ref lc)
 {dT41:Addr} {dcl41:Value} {ddi41:Option Addr} {dn41:Nat} {dsl41:Array (Option Value)} {t_MOST_HANDS t_MOST_SEATS:Tok}
 (a1:nsIn K mainGlobals "all_of"=some (some (.ref f1)))
 (l1:K.lookup f1=some ⟨oc1,od1,.func (fnOf "all_of" "all_of" (Am Dx) (Ak Dx) (Ac Dx) .none kV1 dc1 pm1 an1 cd1 ct1),sl1⟩) (c1:codeIn K cd1 "all_of"=true) (k1:keepIn K (.ref f1)=true)
 (a2:nsIn K mainGlobals "holds"=some (some (.ref f2)))
 (l2:K.lookup f2=some ⟨oc2,od2,.func (fnOf "holds" "holds" (Am Ev) (Ak Ev) (Ac Ev) .none kV2 dc2 pm2 an2 cd2 ct2),sl2⟩) (c2:codeIn K cd2 "holds"=true) (k2:keepIn K (.ref f2)=true)
 (a3:nsIn K mainGlobals "with_one"=some (some (.ref f3)))
 (l3:K.lookup f3=some ⟨oc3,od3,.func (fnOf "with_one" "with_one" (Am CG) (Ak CG) (Ac CG) .none kV3 dc3 pm3 an3 cd3 ct3),sl3⟩) (c3:codeIn K cd3 "with_one"=true) (k3:keepIn K (.ref f3)=true)
 (a4:nsIn K mainGlobals "members"=some (some (.ref f4)))
 (l4:K.lookup f4=some ⟨oc4,od4,.func (fnOf "members" "members" (Am CD) (Ak CD) (Ac CD) .none kV4 dc4 pm4 an4 cd4 ct4),sl4⟩) (c4:codeIn K cd4 "members"=true) (k4:keepIn K (.ref f4)=true)
 (a5:nsIn K mainGlobals "hands_of"=some (some (.ref f5)))
 (l5:K.lookup f5=some ⟨oc5,od5,.func (fnOf "hands_of" "hands_of" (Am CB) (Ak CB) (Ac CB) .none kV5 dc5 pm5 an5 cd5 ct5),sl5⟩) (c5:codeIn K cd5 "hands_of"=true) (k5:keepIn K (.ref f5)=true)
 (a6:nsIn K mainGlobals "way_by"=some (some (.ref f6)))
 (l6:K.lookup f6=some ⟨oc6,od6,.func (fnOf "way_by" "way_by" (Am D3) (Ak D3) (Ac D3) .none kV6 dc6 pm6 an6 cd6 ct6),sl6⟩) (c6:codeIn K cd6 "way_by"=true) (k6:keepIn K (.ref f6)=true)
 (a7:nsIn K mainGlobals "is_way"=some (some (.ref f7)))
 (l7:K.lookup f7=some ⟨oc7,od7,.func (fnOf "is_way" "is_way" (Am Dg) (Ak Dg) (Ac Dg) .none kV7 dc7 pm7 an7 cd7 ct7),sl7⟩) (c7:codeIn K cd7 "is_way"=true) (k7:keepIn K (.ref f7)=true)
 (a8:nsIn K mainGlobals "least_link"=some (some (.ref f8)))
 (l8:K.lookup f8=some ⟨oc8,od8,.func (fnOf "least_link" "least_link" (Am BB) (Ak BB) (Ac BB) .none kV8 dc8 pm8 an8 cd8 ct8),sl8⟩) (c8:codeIn K cd8 "least_link"=true) (k8:keepIn K (.ref f8)=true)
 (a9:nsIn K mainGlobals "is_whole"=some (some (.ref f9)))
 (l9:K.lookup f9=some ⟨oc9,od9,.func (fnOf "is_whole" "is_whole" (Am CF) (Ak CF) (Ac CF) .none kV9 dc9 pm9 an9 cd9 ct9),sl9⟩) (c9:codeIn K cd9 "is_whole"=true) (k9:keepIn K (.ref f9)=true)
 (a10:nsIn K mainGlobals "pairs_in_order"=some (some (.ref f10)))
 (l10:K.lookup f10=some ⟨oc10,od10,.func (fnOf "pairs_in_order" "pairs_in_order" (Am AV) (Ak AV) (Ac AV) .none kV10 dc10 pm10 an10 cd10 ct10),sl10⟩) (c10:codeIn K cd10 "pairs_in_order"=true) (k10:keepIn K (.ref f10)=true)
 (a11:nsIn K mainGlobals "strengths_in"=some (some (.ref f11)))
 (l11:K.lookup f11=some ⟨oc11,od11,.func (fnOf "strengths_in" "strengths_in" (Am Bd) (Ak Bd) (Ac Bd) .none kV11 dc11 pm11 an11 cd11 ct11),sl11⟩) (c11:codeIn K cd11 "strengths_in"=true) (k11:keepIn K (.ref f11)=true)
 (a12:nsIn K mainGlobals "is_beaten"=some (some (.ref f12)))
 (l12:K.lookup f12=some ⟨oc12,od12,.func (fnOf "is_beaten" "is_beaten" (Am BN) (Ak BN) (Ac BN) .none kV12 dc12 pm12 an12 cd12 ct12),sl12⟩) (c12:codeIn K cd12 "is_beaten"=true) (k12:keepIn K (.ref f12)=true)
 (a13:nsIn K mainGlobals "_law_cell"=some (some (.ref f13)))
 (l13:K.lookup f13=some ⟨oc13,od13,.func (fnOf "_law_cell" "_law_cell" (Am CJ) (Ak CJ) (Ac CJ) .none kV13 dc13 pm13 an13 cd13 ct13),sl13⟩) (c13:codeIn K cd13 "_law_cell"=true) (k13:keepIn K (.ref f13)=true)
 (a14:nsIn K mainGlobals "_law_mixed"=some (some (.ref f14)))
 (l14:K.lookup f14=some ⟨oc14,od14,.func (fnOf "_law_mixed" "_law_mixed" (Am Cq) (Ak Cq) (Ac Cq) .none kV14 dc14 pm14 an14 cd14 ct14),sl14⟩) (c14:codeIn K cd14 "_law_mixed"=true) (k14:keepIn K (.ref f14)=true)
 (a15:nsIn K mainGlobals "_law_order"=some (some (.ref f15)))
 (l15:K.lookup f15=some ⟨oc15,od15,.func (fnOf "_law_order" "_law_order" (Am Cr) (Ak Cr) (Ac Cr) .none kV15 dc15 pm15 an15 cd15 ct15),sl15⟩) (c15:codeIn K cd15 "_law_order"=true) (k15:keepIn K (.ref f15)=true)
 (a16:nsIn K mainGlobals "_law_slip"=some (some (.ref f16)))
 (l16:K.lookup f16=some ⟨oc16,od16,.func (fnOf "_law_slip" "_law_slip" (Am BR) (Ak BR) (Ac BR) .none kV16 dc16 pm16 an16 cd16 ct16),sl16⟩) (c16:codeIn K cd16 "_law_slip"=true) (k16:keepIn K (.ref f16)=true)
 (a17:nsIn K mainGlobals "_law_leads"=some (some (.ref f17)))
 (l17:K.lookup f17=some ⟨oc17,od17,.func (fnOf "_law_leads" "_law_leads" (Am B5) (Ak B5) (Ac B5) .none kV17 dc17 pm17 an17 cd17 ct17),sl17⟩) (c17:codeIn K cd17 "_law_leads"=true) (k17:keepIn K (.ref f17)=true)
 (a18:nsIn K mainGlobals "_law_place"=some (some (.ref f18)))
 (l18:K.lookup f18=some ⟨oc18,od18,.func (fnOf "_law_place" "_law_place" (Am Cs) (Ak Cs) (Ac Cs) .none kV18 dc18 pm18 an18 cd18 ct18),sl18⟩) (c18:codeIn K cd18 "_law_place"=true) (k18:keepIn K (.ref f18)=true)
 (a19:nsIn K mainGlobals "_law_reach"=some (some (.ref f19)))
 (l19:K.lookup f19=some ⟨oc19,od19,.func (fnOf "_law_reach" "_law_reach" (Am BS) (Ak BS) (Ac BS) .none kV19 dc19 pm19 an19 cd19 ct19),sl19⟩) (c19:codeIn K cd19 "_law_reach"=true) (k19:keepIn K (.ref f19)=true)
 (a20:nsIn K mainGlobals "_law_copy"=some (some (.ref f20)))
 (l20:K.lookup f20=some ⟨oc20,od20,.func (fnOf "_law_copy" "_law_copy" (Am BM) (Ak BM) (Ac BM) .none kV20 dc20 pm20 an20 cd20 ct20),sl20⟩) (c20:codeIn K cd20 "_law_copy"=true) (k20:keepIn K (.ref f20)=true)
 (l21:K.lookup f21=some ⟨oc21,od21,.func (fnOf "__init__" "Checker.__init__" (Am B4) (Ak B4) (Ac B4) .none kV21 dc21 pm21 an21 cd21 ct21),sl21⟩) (c21:codeIn K cd21 "Checker.__init__"=true) (k21:keepIn K (.ref f21)=true)
 (l22:K.lookup f22=some ⟨oc22,od22,.func (fnOf "told_by" "Pairs.told_by" (Am Bj) (Ak Bj) (Ac Bj) .none kV22 dc22 pm22 an22 cd22 ct22),sl22⟩) (c22:codeIn K cd22 "Pairs.told_by"=true) (k22:keepIn K (.ref f22)=true)
 (a23:nsIn K mainGlobals "overs"=some (some (.ref f23)))
 (l23:K.lookup f23=some ⟨oc23,od23,.func (fnOf "overs" "overs" (Am Dq) (Ak Dq) (Ac Dq) .none kV23 dc23 pm23 an23 cd23 ct23),sl23⟩) (c23:codeIn K cd23 "overs"=true) (k23:keepIn K (.ref f23)=true)
 (a24:nsIn K mainGlobals "leads_of"=some (some (.ref f24)))
 (l24:K.lookup f24=some ⟨oc24,od24,.func (fnOf "leads_of" "leads_of" (Am BL) (Ak BL) (Ac BL) .none kV24 dc24 pm24 an24 cd24 ct24),sl24⟩) (c24:codeIn K cd24 "leads_of"=true) (k24:keepIn K (.ref f24)=true)
 (a25:nsIn K mainGlobals "reached_from"=some (some (.ref f25)))
 (l25:K.lookup f25=some ⟨oc25,od25,.func (fnOf "reached_from" "reached_from" (Am AO) (Ak AO) (Ac AO) .none kV25 dc25 pm25 an25 cd25 ct25),sl25⟩) (c25:codeIn K cd25 "reached_from"=true) (k25:keepIn K (.ref f25)=true)
 (a26:nsIn K mainGlobals "cut_by"=some (some (.ref f26)))
 (l26:K.lookup f26=some ⟨oc26,od26,.func (fnOf "cut_by" "cut_by" (Am DB) (Ak DB) (Ac DB) .none kV26 dc26 pm26 an26 cd26 ct26),sl26⟩) (c26:codeIn K cd26 "cut_by"=true) (k26:keepIn K (.ref f26)=true)
 (a27:nsIn K mainGlobals "is_cut"=some (some (.ref f27)))
 (l27:K.lookup f27=some ⟨oc27,od27,.func (fnOf "is_cut" "is_cut" (Am Dz) (Ak Dz) (Ac Dz) .none kV27 dc27 pm27 an27 cd27 ct27),sl27⟩) (c27:codeIn K cd27 "is_cut"=true) (k27:keepIn K (.ref f27)=true)
 (a28:nsIn K mainGlobals "greatest_link"=some (some (.ref f28)))
 (l28:K.lookup f28=some ⟨oc28,od28,.func (fnOf "greatest_link" "greatest_link" (Am AJ) (Ak AJ) (Ac AJ) .none kV28 dc28 pm28 an28 cd28 ct28),sl28⟩) (c28:codeIn K cd28 "greatest_link"=true) (k28:keepIn K (.ref f28)=true)
 (a29:nsIn K mainGlobals "are_hands"=some (some (.ref f29)))
 (l29:K.lookup f29=some ⟨oc29,od29,.func (fnOf "are_hands" "are_hands" (Am Cp) (Ak Cp) (Ac Cp) .none kV29 dc29 pm29 an29 cd29 ct29),sl29⟩) (c29:codeIn K cd29 "are_hands"=true) (k29:keepIn K (.ref f29)=true)
 (a30:nsIn K mainGlobals "are_seats"=some (some (.ref f30)))
 (l30:K.lookup f30=some ⟨oc30,od30,.func (fnOf "are_seats" "are_seats" (Am Ct) (Ak Ct) (Ac Ct) .none kV30 dc30 pm30 an30 cd30 ct30),sl30⟩) (c30:codeIn K cd30 "are_seats"=true) (k30:keepIn K (.ref f30)=true)
 (a31:nsIn K mainGlobals "are_lots"=some (some (.ref f31)))
 (l31:K.lookup f31=some ⟨oc31,od31,.func (fnOf "are_lots" "are_lots" (Am Co) (Ak Co) (Ac Co) .none kV31 dc31 pm31 an31 cd31 ct31),sl31⟩) (c31:codeIn K cd31 "are_lots"=true) (k31:keepIn K (.ref f31)=true)
 (a32:nsIn K mainGlobals "_law_ranks"=some (some (.ref f32)))
 (l32:K.lookup f32=some ⟨oc32,od32,.func (fnOf "_law_ranks" "_law_ranks" (Am B7) (Ak B7) (Ac B7) .none kV32 dc32 pm32 an32 cd32 ct32),sl32⟩) (c32:codeIn K cd32 "_law_ranks"=true) (k32:keepIn K (.ref f32)=true)
 (a33:nsIn K mainGlobals "_law_sheet"=some (some (.ref f33)))
 (l33:K.lookup f33=some ⟨oc33,od33,.func (fnOf "_law_sheet" "_law_sheet" (Am BQ) (Ak BQ) (Ac BQ) .none kV33 dc33 pm33 an33 cd33 ct33),sl33⟩) (c33:codeIn K cd33 "_law_sheet"=true) (k33:keepIn K (.ref f33)=true)
 (a34:nsIn K mainGlobals "_law_overs"=some (some (.ref f34)))
 (l34:K.lookup f34=some ⟨oc34,od34,.func (fnOf "_law_overs" "_law_overs" (Am BU) (Ak BU) (Ac BU) .none kV34 dc34 pm34 an34 cd34 ct34),sl34⟩) (c34:codeIn K cd34 "_law_overs"=true) (k34:keepIn K (.ref f34)=true)
 (a35:nsIn K mainGlobals "_law_way_back"=some (some (.ref f35)))
 (l35:K.lookup f35=some ⟨oc35,od35,.func (fnOf "_law_way_back" "_law_way_back" (Am B0) (Ak B0) (Ac B0) .none kV35 dc35 pm35 an35 cd35 ct35),sl35⟩) (c35:codeIn K cd35 "_law_way_back"=true) (k35:keepIn K (.ref f35)=true)
 (l36:K.lookup f36=some ⟨oc36,od36,.func (fnOf "picks_by" "Pairs.picks_by" (Am AU) (Ak AU) (Ac AU) .none kV36 dc36 pm36 an36 cd36 ct36),sl36⟩) (c36:codeIn K cd36 "Pairs.picks_by"=true) (k36:keepIn K (.ref f36)=true)
 (a37:nsIn K mainGlobals "is_shown"=some (some (.ref f37)))
 (l37:K.lookup f37=some ⟨oc37,od37,.func (fnOf "is_shown" "is_shown" (Am CI) (Ak CI) (Ac CI) .none kV37 dc37 pm37 an37 cd37 ct37),sl37⟩) (c37:codeIn K cd37 "is_shown"=true) (k37:keepIn K (.ref f37)=true)
 (a38:nsIn K mainGlobals "shown_from"=some (some (.ref f38)))
 (l38:K.lookup f38=some ⟨oc38,od38,.func (fnOf "shown_from" "shown_from" (Am Bu) (Ak Bu) (Ac Bu) .none kV38 dc38 pm38 an38 cd38 ct38),sl38⟩) (c38:codeIn K cd38 "shown_from"=true) (k38:keepIn K (.ref f38)=true)
 (a39:nsIn K mainGlobals "_law_votes"=some (some (.ref f39)))
 (l39:K.lookup f39=some ⟨oc39,od39,.func (fnOf "_law_votes" "_law_votes" (Am Cv) (Ak Cv) (Ac Cv) .none kV39 dc39 pm39 an39 cd39 ct39),sl39⟩) (c39:codeIn K cd39 "_law_votes"=true) (k39:keepIn K (.ref f39)=true)
 (a40:nsIn K mainGlobals "_law_other"=some (some (.ref f40)))
 (l40:K.lookup f40=some ⟨oc40,od40,.func (fnOf "_law_other" "_law_other" (Am B6) (Ak B6) (Ac B6) .none kV40 dc40 pm40 an40 cd40 ct40),sl40⟩) (c40:codeIn K cd40 "_law_other"=true) (k40:keepIn K (.ref f40)=true)
 (l41:K.lookup f41=some ⟨oc41,od41,.func (fnOf "__init__" "Way.__init__" (Am B8) (Ak B8) (Ac B8) (.ref dT41) kV41 dc41 pm41 an41 cd41 ct41),sl41⟩) (c41:codeIn K cd41 "Way.__init__"=true) (k41:keepIn K (.ref f41)=true)
 (dl41:K.lookup dT41=some ⟨dcl41,ddi41,.seq #[.none] dn41,dsl41⟩)
 (l42:K.lookup f42=some ⟨oc42,od42,.func (fnOf "right" "PairsChecker.right" (Am A7) (Ak A7) (Ac A7) .none kV42 dc42 pm42 an42 cd42 ct42),sl42⟩) (c42:codeIn K cd42 "PairsChecker.right"=true) (k42:keepIn K (.ref f42)=true)
 (l43:K.lookup f43=some ⟨oc43,od43,.func (fnOf "counted" "Pairs.counted" (Am Br) (Ak Br) (Ac Br) .none kV43 dc43 pm43 an43 cd43 ct43),sl43⟩) (c43:codeIn K cd43 "Pairs.counted"=true) (k43:keepIn K (.ref f43)=true)
 (a44:nsIn K mainGlobals "_law_two_sheets"=some (some (.ref f44)))
 (l44:K.lookup f44=some ⟨oc44,od44,.func (fnOf "_law_two_sheets" "_law_two_sheets" (Am Bo) (Ak Bo) (Ac Bo) .none kV44 dc44 pm44 an44 cd44 ct44),sl44⟩) (c44:codeIn K cd44 "_law_two_sheets"=true) (k44:keepIn K (.ref f44)=true)
 (l45:K.lookup f45=some ⟨oc45,od45,.func (fnOf "outcome" "Way.outcome" (Am BF) (Ak BF) (Ac BF) .none kV45 dc45 pm45 an45 cd45 ct45),sl45⟩) (c45:codeIn K cd45 "Way.outcome"=true) (k45:keepIn K (.ref f45)=true)
 (l46:K.lookup f46=some ⟨oc46,od46,.func (fnOf "passes" "Checker.passes" (Am Bn) (Ak Bn) (Ac Bn) .none kV46 dc46 pm46 an46 cd46 ct46),sl46⟩) (c46:codeIn K cd46 "Checker.passes"=true) (k46:keepIn K (.ref f46)=true)
 (a47:nsIn K mainGlobals "_law_let_by"=some (some (.ref f47)))
 (l47:K.lookup f47=some ⟨oc47,od47,.func (fnOf "_law_let_by" "_law_let_by" (Am Cd) (Ak Cd) (Ac Cd) .none kV47 dc47 pm47 an47 cd47 ct47),sl47⟩) (c47:codeIn K cd47 "_law_let_by"=true) (k47:keepIn K (.ref f47)=true)
 (a48:nsIn K mainGlobals "law"=some (some (.ref f48)))
 (l48:K.lookup f48=some ⟨oc48,od48,.func (fnOf "law" "law" (Am Fi) (Ak Fi) (Ac Fi) .none kV48 dc48 pm48 an48 cd48 ct48),sl48⟩) (c48:codeIn K cd48 "law"=true) (k48:keepIn K (.ref f48)=true)
 (z0:nsIn K mainGlobals "all"=some none)
 (z1:nsIn K mainGlobals "any"=some none)
 (z2:nsIn K mainGlobals "bool"=some none)
 (z3:nsIn K mainGlobals "enumerate"=some none)
 (z4:nsIn K mainGlobals "int"=some none)
 (z5:nsIn K mainGlobals "isinstance"=some none)
 (z6:nsIn K mainGlobals "len"=some none)
 (z7:nsIn K mainGlobals "list"=some none)
 (z8:nsIn K mainGlobals "max"=some none)
 (z9:nsIn K mainGlobals "min"=some none)
 (z10:nsIn K mainGlobals "range"=some none)
 (z11:nsIn K mainGlobals "reversed"=some none)
 (z12:nsIn K mainGlobals "set"=some none)
 (z13:nsIn K mainGlobals "sorted"=some none)
 (z14:nsIn K mainGlobals "sum"=some none)
 (z15:nsIn K mainGlobals "tuple"=some none)
 (z16:nsIn K mainGlobals "zip"=some none)
 (kc_MOST_HANDS:nsIn K mainGlobals "MOST_HANDS"=some (some (.int 12 t_MOST_HANDS)))
 (kc_MOST_SEATS:nsIn K mainGlobals "MOST_SEATS"=some (some (.int 60 t_MOST_SEATS)))
 (mc_Pairs:nsIn K mainGlobals "Pairs"=some (some (.ref c_Pairs))) (pg_Pairs:plainGet K c_Pairs Str.empty=true) (hd_Pairs:hasDictIn K c_Pairs=true) (po_Pairs:plainOver K c_Pairs=true) (sa_Pairs:findIn K (.ref c_Pairs) "__setattr__"=some (some (.builtin "object.__setattr__")))
 (mm_Pairs:makesIn K c_Pairs=true) (mi_Pairs:findIn K (.ref c_Pairs) "__init__"=some (some (.ref f41))) (mf_Pairs:isFn K (.ref f41)=true) (mk_Pairs:keepIn K (.ref c_Pairs)=true)
 (ma_Pairs_picks_by:findIn K (.ref c_Pairs) "picks_by"=some (some (.ref f36))) (mn_Pairs_picks_by:isFn K (.ref f36)=true)
 (ma_Pairs_counted:findIn K (.ref c_Pairs) "counted"=some (some (.ref f43))) (mn_Pairs_counted:isFn K (.ref f43)=true)
 (ma_Pairs_told_by:findIn K (.ref c_Pairs) "told_by"=some (some (.ref f22))) (mn_Pairs_told_by:isFn K (.ref f22)=true)
 (ma_Pairs_outcome:findIn K (.ref c_Pairs) "outcome"=some (some (.ref f45))) (mn_Pairs_outcome:isFn K (.ref f45)=true)
 (na_Pairs_hands:findIn K (.ref c_Pairs) "hands"=some none)
 (na_Pairs_seats:findIn K (.ref c_Pairs) "seats"=some none)
 (na_Pairs_lots:findIn K (.ref c_Pairs) "lots"=some none)
 (mc_PairsChecker:nsIn K mainGlobals "PairsChecker"=some (some (.ref c_PairsChecker))) (pg_PairsChecker:plainGet K c_PairsChecker Str.empty=true) (hd_PairsChecker:hasDictIn K c_PairsChecker=true) (po_PairsChecker:plainOver K c_PairsChecker=true) (sa_PairsChecker:findIn K (.ref c_PairsChecker) "__setattr__"=some (some (.builtin "object.__setattr__")))
 (mm_PairsChecker:makesIn K c_PairsChecker=true) (mi_PairsChecker:findIn K (.ref c_PairsChecker) "__init__"=some (some (.ref f21))) (mf_PairsChecker:isFn K (.ref f21)=true) (mk_PairsChecker:keepIn K (.ref c_PairsChecker)=true)
 (ma_PairsChecker_right:findIn K (.ref c_PairsChecker) "right"=some (some (.ref f42))) (mn_PairsChecker_right:isFn K (.ref f42)=true)
 (ma_PairsChecker_passes:findIn K (.ref c_PairsChecker) "passes"=some (some (.ref f46))) (mn_PairsChecker_passes:isFn K (.ref f46)=true)
 (na_PairsChecker_way:findIn K (.ref c_PairsChecker) "way"=some none)
 (ja_PairsChecker_Checker:findIn K (.ref c_PairsChecker) "__class__"=some (some (.builtin "object.__class__"))) (jb_PairsChecker_Checker:specialIn K (.builtin "object.__class__") "__get__"=some (some (.builtin "getset_descriptor.__get__"))) (jc_PairsChecker_Checker:takesIn K (.builtin "object.__class__")=some true) (jd_PairsChecker_Checker:mroIn K c_PairsChecker (.type "object")=some true) (je_PairsChecker_Checker:kitOne K (.ref c_PairsChecker) (.ref c_Checker)=some true)
 (mc_Checker:nsIn K mainGlobals "Checker"=some (some (.ref c_Checker))) (pg_Checker:plainGet K c_Checker Str.empty=true) (hd_Checker:hasDictIn K c_Checker=true) (po_Checker:plainOver K c_Checker=true) (sa_Checker:findIn K (.ref c_Checker) "__setattr__"=some (some (.builtin "object.__setattr__"))) :
 ∃fd:FuncData,(∀(s:Shared) (v:Value),BindsTo s fd ⟨[v],[]⟩ [("_law_script",v)])/\∀base:Heap,K.In base->base.Ns mainGlobals mg->GH base mg lc lP->AN l.prog w K mg base CX0 7 fa fd ["_law_script"] (Lv K lP):=by
 have e:=hfa.symm.trans (mg_of X G a48)
 cases e
 have F1:=Az (st:=Dx) l1 c1 k1
 have b1:=F1.binds (ps:=["hands"]) fun _ _ _ _ _ _=>BZ fun _=>rfl
 have F2:=Az (st:=Ev) l2 c2 k2
 have b2:=F2.binds (ps:=["mask","hand"]) fun _ _ _ _ _ _=>Bc fun _ _=>rfl
 have F3:=Az (st:=CG) l3 c3 k3
 have b3:=F3.binds (ps:=["mask","hand"]) fun _ _ _ _ _ _=>Bc fun _ _=>rfl
 have F4:=Az (st:=CD) l4 c4 k4
 have b4:=F4.binds (ps:=["mask"]) fun _ _ _ _ _ _=>BZ fun _=>rfl
 have F5:=Az (st:=CB) l5 c5 k5
 have b5:=F5.binds (ps:=["leads"]) fun _ _ _ _ _ _=>BZ fun _=>rfl
 have F6:=Az (st:=D3) l6 c6 k6
 have b6:=F6.binds (ps:=["reached","x","y"]) fun _ _ _ _ _ _=>Fq fun _ _ _=>rfl
 have F7:=Az (st:=Dg) l7 c7 k7
 have b7:=F7.binds (ps:=["way","x","y","hands"]) fun _ _ _ _ _ _=>EU fun _ _ _ _=>rfl
 have F8:=Az (st:=BB) l8 c8 k8
 have b8:=F8.binds (ps:=["leads","way"]) fun _ _ _ _ _ _=>Bc fun _ _=>rfl
 have F9:=Az (st:=CF) l9 c9 k9
 have b9:=F9.binds (ps:=["thing"]) fun _ _ _ _ _ _=>BZ fun _=>rfl
 have F10:=Az (st:=AV) l10 c10 k10
 have b10:=F10.binds (ps:=["hands"]) fun _ _ _ _ _ _=>BZ fun _=>rfl
 have F11:=Az (st:=Bd) l11 c11 k11
 have b11:=F11.binds (ps:=["shown","hands"]) fun _ _ _ _ _ _=>Bc fun _ _=>rfl
 have F12:=Az (st:=BN) l12 c12 k12
 have b12:=F12.binds (ps:=["strengths","hand","others"]) fun _ _ _ _ _ _=>Fq fun _ _ _=>rfl
 have F13:=Az (st:=CJ) l13 c13 k13
 have b13:=F13.binds (ps:=["_law_script","_law_k"]) fun _ _ _ _ _ _=>Bc fun _ _=>rfl
 have F14:=Az (st:=Cq) l14 c14 k14
 have b14:=F14.binds (ps:=["_law_cell_here","_law_by"]) fun _ _ _ _ _ _=>Bc fun _ _=>rfl
 have F15:=Az (st:=Cr) l15 c15 k15
 have b15:=F15.binds (ps:=["_law_cell_here","_law_hands"]) fun _ _ _ _ _ _=>Bc fun _ _=>rfl
 have F16:=Az (st:=BR) l16 c16 k16
 have b16:=F16.binds (ps:=["_law_ranks_here"]) fun _ _ _ _ _ _=>BZ fun _=>rfl
 have F17:=Az (st:=B5) l17 c17 k17
 have b17:=F17.binds (ps:=["_law_many"]) fun _ _ _ _ _ _=>BZ fun _=>rfl
 have F18:=Az (st:=Cs) l18 c18 k18
 have b18:=F18.binds (ps:=["_law_ranks_here","_law_hand"]) fun _ _ _ _ _ _=>Bc fun _ _=>rfl
 have F19:=Az (st:=BS) l19 c19 k19
 have b19:=F19.binds (ps:=["_law_leads_here","_law_y","_law_worth","_law_hands"]) fun _ _ _ _ _ _=>EU fun _ _ _ _=>rfl
 have F20:=Az (st:=BM) l20 c20 k20
 have b20:=F20.binds (ps:=["_law_paper"]) fun _ _ _ _ _ _=>BZ fun _=>rfl
 have F21:=Az (st:=B4) l21 c21 k21
 have b21:=F21.binds (ps:=["self","way"]) fun _ _ _ _ _ _=>Bc fun _ _=>rfl
 have F22:=Az (st:=Bj) l22 c22 k22
 have b22:=F22.binds (ps:=["self","paper"]) fun _ _ _ _ _ _=>Bc fun _ _=>rfl
 have F23:=Az (st:=Dq) l23 c23 k23
 have b23:=F23.binds (ps:=["sheet","hands"]) fun _ _ _ _ _ _=>Bc fun _ _=>rfl
 have F24:=Az (st:=BL) l24 c24 k24
 have b24:=F24.binds (ps:=["many"]) fun _ _ _ _ _ _=>BZ fun _=>rfl
 have F25:=Az (st:=AO) l25 c25 k25
 have b25:=F25.binds (ps:=["leads","x"]) fun _ _ _ _ _ _=>Bc fun _ _=>rfl
 have F26:=Az (st:=DB) l26 c26 k26
 have b26:=F26.binds (ps:=["reached","x","y"]) fun _ _ _ _ _ _=>Fq fun _ _ _=>rfl
 have F27:=Az (st:=Dz) l27 c27 k27
 have b27:=F27.binds (ps:=["cut","x","y","hands"]) fun _ _ _ _ _ _=>EU fun _ _ _ _=>rfl
 have F28:=Az (st:=AJ) l28 c28 k28
 have b28:=F28.binds (ps:=["leads","cut"]) fun _ _ _ _ _ _=>Bc fun _ _=>rfl
 have F29:=Az (st:=Cp) l29 c29 k29
 have b29:=F29.binds (ps:=["thing"]) fun _ _ _ _ _ _=>BZ fun _=>rfl
 have F30:=Az (st:=Ct) l30 c30 k30
 have b30:=F30.binds (ps:=["thing"]) fun _ _ _ _ _ _=>BZ fun _=>rfl
 have F31:=Az (st:=Co) l31 c31 k31
 have b31:=F31.binds (ps:=["thing","hands"]) fun _ _ _ _ _ _=>Bc fun _ _=>rfl
 have F32:=Az (st:=B7) l32 c32 k32
 have b32:=F32.binds (ps:=["_law_cell_here","_law_hands"]) fun _ _ _ _ _ _=>Bc fun _ _=>rfl
 have F33:=Az (st:=BQ) l33 c33 k33
 have b33:=F33.binds (ps:=["_law_votes_here"]) fun _ _ _ _ _ _=>BZ fun _=>rfl
 have F34:=Az (st:=BU) l34 c34 k34
 have b34:=F34.binds (ps:=["_law_votes_here","_law_hands"]) fun _ _ _ _ _ _=>Bc fun _ _=>rfl
 have F35:=Az (st:=B0) l35 c35 k35
 have b35:=F35.binds (ps:=["_law_leads_here","_law_x","_law_y","_law_worth","_law_hands"]) fun _ _ _ _ _ _=>IF fun _ _ _ _ _=>rfl
 have F36:=Az (st:=AU) l36 c36 k36
 have b36:=F36.binds (ps:=["self","strengths"]) fun _ _ _ _ _ _=>Bc fun _ _=>rfl
 have F37:=Az (st:=CI) l37 c37 k37
 have b37:=F37.binds (ps:=["leads","row"]) fun _ _ _ _ _ _=>Bc fun _ _=>rfl
 have F38:=Az (st:=Bu) l38 c38 k38
 have b38:=F38.binds (ps:=["reached","x"]) fun _ _ _ _ _ _=>Bc fun _ _=>rfl
 have F39:=Az (st:=Cv) l39 c39 k39
 have b39:=F39.binds (ps:=["_law_script","_law_start","_law_most","_law_hands"]) fun _ _ _ _ _ _=>EU fun _ _ _ _=>rfl
 have F40:=Az (st:=B6) l40 c40 k40
 have b40:=F40.binds (ps:=["_law_paper","_law_leads_here","_law_cell_here"]) fun _ _ _ _ _ _=>Fq fun _ _ _=>rfl
 have F41:=Pw (st:=B8) l41 c41 k41
 have b41_0:A4 K _ ["self","hands","seats","lots"] []:=fun s us X hl=>match us,(show us.length=4 from Nat.add_right_cancel (m:=0) ((length_append ..).symm.trans hl)) with | [_,_,_,_],_=>binds_K (fd:=fnOf "__init__" "Way.__init__" (Am B8) (Ak B8) (Ac B8) (.ref dT41) kV41 dc41 pm41 an41 cd41 ct41) X rfl dl41 rfl rfl rfl
 have F42:=Az (st:=A7) l42 c42 k42
 have b42:=F42.binds (ps:=["self","sheet","paper"]) fun _ _ _ _ _ _=>Fq fun _ _ _=>rfl
 have F43:=Az (st:=Br) l43 c43 k43
 have b43:=F43.binds (ps:=["self","sheet"]) fun _ _ _ _ _ _=>Bc fun _ _=>rfl
 have F44:=Az (st:=Bo) l44 c44 k44
 have b44:=F44.binds (ps:=["_law_checker","_law_way","_law_votes_here","_law_sheet_here","_law_paper"]) fun _ _ _ _ _ _=>IF fun _ _ _ _ _=>rfl
 have F45:=Az (st:=BF) l45 c45 k45
 have b45:=F45.binds (ps:=["self","sheet"]) fun _ _ _ _ _ _=>Bc fun _ _=>rfl
 have F46:=Az (st:=Bn) l46 c46 k46
 have b46:=F46.binds (ps:=["self","sheet","paper","outcome"]) fun _ _ _ _ _ _=>EU fun _ _ _ _=>rfl
 have F47:=Az (st:=Cd) l47 c47 k47
 have b47:=F47.binds (ps:=["_law_checker","_law_sheet_here","_law_paper","_law_outcome","_law_cell_here"]) fun _ _ _ _ _ _=>IF fun _ _ _ _ _=>rfl
 have F48:=Az (st:=Fi) l48 c48 k48
 have b48:=F48.binds (ps:=["_law_script"]) fun _ _ _ _ _ _=>BZ fun _=>rfl
 have e:=hlf.symm.trans (mg_of X G a25)
 cases e
 obtain ⟨_,_,e1,e2,e3⟩:=hlT
 rw [X _ _ l25] at e1
 cases e1
 cases e2
 have T:∀base:Heap,GH base mg lc lP->Tx K mg base (⟨f1,_,f2,_,f3,_,f4,_,f5,_,f6,_,f7,_,f8,_,f9,_,f10,_,f11,_,f12,_,f13,_,f14,_,f15,_,f16,_,f17,_,f18,_,f19,_,f20,_,f21,_,f22,_,f23,_,f24,_,f25,_,f26,_,f27,_,f28,_,f29,_,f30,_,f31,_,f32,_,f33,_,f34,_,f35,_,f36,_,f37,_,f38,_,f39,_,f40,_,f41,_,f42,_,f43,_,f44,_,f45,_,f46,_,f47,_,fa,_,c_Pairs,c_PairsChecker,c_Checker,t_MOST_HANDS,t_MOST_SEATS,lc,lP⟩:Ads):=fun base LB=>⟨F1,b1,mg_of X G a1,F2,b2,mg_of X G a2,F3,b3,mg_of X G a3,F4,b4,mg_of X G a4,F5,b5,mg_of X G a5,F6,b6,mg_of X G a6,F7,b7,mg_of X G a7,F8,b8,mg_of X G a8,F9,b9,mg_of X G a9,F10,b10,mg_of X G a10,F11,b11,mg_of X G a11,F12,b12,mg_of X G a12,F13,b13,mg_of X G a13,F14,b14,mg_of X G a14,F15,b15,mg_of X G a15,F16,b16,mg_of X G a16,F17,b17,mg_of X G a17,F18,b18,mg_of X G a18,F19,b19,mg_of X G a19,F20,b20,mg_of X G a20,F21,b21,F22,b22,F23,b23,mg_of X G a23,F24,b24,mg_of X G a24,F25,b25,mg_of X G a25,F26,b26,mg_of X G a26,F27,b27,mg_of X G a27,F28,b28,mg_of X G a28,F29,b29,mg_of X G a29,F30,b30,mg_of X G a30,F31,b31,mg_of X G a31,F32,b32,mg_of X G a32,F33,b33,mg_of X G a33,F34,b34,mg_of X G a34,F35,b35,mg_of X G a35,F36,b36,F37,b37,mg_of X G a37,F38,b38,mg_of X G a38,F39,b39,mg_of X G a39,F40,b40,mg_of X G a40,F41,b41_0,F42,b42,F43,b43,F44,b44,mg_of X G a44,F45,b45,F46,b46,F47,b47,mg_of X G a47,F48,b48,mg_of X G a48,mg_none_of X G z0,mg_none_of X G z1,mg_none_of X G z2,mg_none_of X G z3,mg_none_of X G z4,mg_none_of X G z5,mg_none_of X G z6,mg_none_of X G z7,mg_none_of X G z8,mg_none_of X G z9,mg_none_of X G z10,mg_none_of X G z11,mg_none_of X G z12,mg_none_of X G z13,mg_none_of X G z14,mg_none_of X G z15,mg_none_of X G z16,mg_of X G kc_MOST_HANDS,mg_of X G kc_MOST_SEATS,mg_of X G mc_Pairs,⟨pg_Pairs,hd_Pairs,po_Pairs,sa_Pairs⟩,⟨mm_Pairs,mi_Pairs,mf_Pairs,mk_Pairs⟩,⟨ma_Pairs_picks_by,mn_Pairs_picks_by,k36⟩,⟨ma_Pairs_counted,mn_Pairs_counted,k43⟩,⟨ma_Pairs_told_by,mn_Pairs_told_by,k22⟩,⟨ma_Pairs_outcome,mn_Pairs_outcome,k45⟩,na_Pairs_hands,na_Pairs_seats,na_Pairs_lots,mg_of X G mc_PairsChecker,⟨pg_PairsChecker,hd_PairsChecker,po_PairsChecker,sa_PairsChecker⟩,⟨mm_PairsChecker,mi_PairsChecker,mf_PairsChecker,mk_PairsChecker⟩,⟨ma_PairsChecker_right,mn_PairsChecker_right,k42⟩,⟨ma_PairsChecker_passes,mn_PairsChecker_passes,k46⟩,na_PairsChecker_way,⟨ja_PairsChecker_Checker,jb_PairsChecker_Checker,jc_PairsChecker_Checker,jd_PairsChecker_Checker,je_PairsChecker_Checker⟩,mg_of X G mc_Checker,⟨pg_Checker,hd_Checker,po_Checker,sa_Checker⟩,LB,e3⟩
 exact ⟨fnOf "law" "law" (Am Fi) (Ak Fi) (Ac Fi) .none kV48 dc48 pm48 an48 cd48 ct48,fun s v=>.of_eq rfl,fun base _ _ LB=>Q6 (T base LB)⟩
theorem walk {l:PySem.W.OpenLaw} {q:Program} {loose:List Str} {XP:(Str->Option Value)->Heap->Prop} {YP:World->Heap->Prop} {d dn:DefRec} {K:Params->PySem.W.Frag} (hn:l.most=some 63) (hdf:d.params.defaults=[])
 (hY:∀(w:World) (h:Heap),YP w h->(K w.params).In h) (hnt:∀p,LN (K p)=true) (hdn:(PyProof.Rows.recsOf q).find? (fun e=>e.name == ("reached_from":Str))=some dn)
 (F:∀(w:World) (mg:Str->Option Value) (fa f c Pt:Addr) (h:Heap),(K w.params).In h->h.Ns mainGlobals mg->mg d.name=some (.ref fa)->mg "reached_from"=some (.ref f)->(∃o fd,h.get? f=some o/\o.data=.func fd/\fd.code=.ref c) ->
  ∃fd:FuncData,(∀(s:Shared) (u:Value),BindsTo s fd ⟨[u],[]⟩ [("_law_script",u)])/\∀base:Heap,(K w.params).In base->base.Ns mainGlobals mg->GH base mg c Pt->AN l.prog w (K w.params) mg base CX0 7 fa fd ["_law_script"] (Lv (K w.params) Pt)) :
 PySem.W.WalkO q loose XP YP l.row.toRowW d [] (fun f vs=>PySem.call f vs) :=
 L2.walk_of1 (n:=63) (k:=7) (x:="_law_script") (dn:=dn) (CX:=fun _=>CX0) (sp:=fun w Pt=>Lv (K w.params) Pt) hn (by decide) hdf ⟨rfl,by decide,by decide⟩ hY hnt (mem_of_find?_eq_some hdn) (fun w mg fa f c Pt h k1 k2 k3 k4 k5=>F w mg fa f c Pt h k1 k2 k3 (by rw [<- show dn.name="reached_from" from beq_iff_eq.mp (List.find?_some (p:=fun e:DefRec=>e.name == ("reached_from":Str)) hdn)];exact k4) k5) (fun _ _ _ a ns hl hP hS=>⟨a,ns,rfl,hS,hl,hP,fun _=>rfl⟩) fun _ _ _ _ _ z=>z
end Law
open PySem PySem.W PyProof.Rows
set_option maxRecDepth 100000 in
set_option maxHeartbeats 0 in
theorem PySem.Challenge.cw_pollproof_k57_other_papers_let_by_holds : PySem.Challenge.rw_pollproof_k57_other_papers_let_by.Holds := by
 refine Head.top ?_
 k_fill
 refine Law.walk (l:=PySem.Challenge.rw_pollproof_k57_other_papers_let_by) (dn:=((recsOf Head.q0).find? fun e=>e.name == ("reached_from":Str)).get (by decide +kernel)) rfl rfl (fun w h Y=>PySem.W.km_in_of Y) ?nt (Option.some_get _).symm ?F
 case nt=>exact fun p=>by kernel_rfl
 case F =>
  intro w mg fa lf lc lP h KX G hmg hlf hlT
  refine' Law.all_mk KX G hmg hlf hlT ?a1 ?l1 ?c1 ?k1 ?a2 ?l2 ?c2 ?k2 ?a3 ?l3 ?c3 ?k3 ?a4 ?l4 ?c4 ?k4 ?a5 ?l5 ?c5 ?k5 ?a6 ?l6 ?c6 ?k6 ?a7 ?l7 ?c7 ?k7 ?a8 ?l8 ?c8 ?k8 ?a9 ?l9 ?c9 ?k9 ?a10 ?l10 ?c10 ?k10 ?a11 ?l11 ?c11 ?k11 ?a12 ?l12 ?c12 ?k12 ?a13 ?l13 ?c13 ?k13 ?a14 ?l14 ?c14 ?k14 ?a15 ?l15 ?c15 ?k15 ?a16 ?l16 ?c16 ?k16 ?a17 ?l17 ?c17 ?k17 ?a18 ?l18 ?c18 ?k18 ?a19 ?l19 ?c19 ?k19 ?a20 ?l20 ?c20 ?k20 ?l21 ?c21 ?k21 ?l22 ?c22 ?k22 ?a23 ?l23 ?c23 ?k23 ?a24 ?l24 ?c24 ?k24 ?a25 ?l25 ?c25 ?k25 ?a26 ?l26 ?c26 ?k26 ?a27 ?l27 ?c27 ?k27 ?a28 ?l28 ?c28 ?k28 ?a29 ?l29 ?c29 ?k29 ?a30 ?l30 ?c30 ?k30 ?a31 ?l31 ?c31 ?k31 ?a32 ?l32 ?c32 ?k32 ?a33 ?l33 ?c33 ?k33 ?a34 ?l34 ?c34 ?k34 ?a35 ?l35 ?c35 ?k35 ?l36 ?c36 ?k36 ?a37 ?l37 ?c37 ?k37 ?a38 ?l38 ?c38 ?k38 ?a39 ?l39 ?c39 ?k39 ?a40 ?l40 ?c40 ?k40 ?l41 ?c41 ?k41 ?dl41 ?l42 ?c42 ?k42 ?l43 ?c43 ?k43 ?a44 ?l44 ?c44 ?k44 ?l45 ?c45 ?k45 ?l46 ?c46 ?k46 ?a47 ?l47 ?c47 ?k47 ?a48 ?l48 ?c48 ?k48 ?z0 ?z1 ?z2 ?z3 ?z4 ?z5 ?z6 ?z7 ?z8 ?z9 ?z10 ?z11 ?z12 ?z13 ?z14 ?z15 ?z16 ?kc_MOST_HANDS ?kc_MOST_SEATS ?mc_Pairs ?pg_Pairs ?hd_Pairs ?po_Pairs ?sa_Pairs ?mm_Pairs ?mi_Pairs ?mf_Pairs ?mk_Pairs ?ma_Pairs_picks_by ?mn_Pairs_picks_by ?ma_Pairs_counted ?mn_Pairs_counted ?ma_Pairs_told_by ?mn_Pairs_told_by ?ma_Pairs_outcome ?mn_Pairs_outcome ?na_Pairs_hands ?na_Pairs_seats ?na_Pairs_lots ?mc_PairsChecker ?pg_PairsChecker ?hd_PairsChecker ?po_PairsChecker ?sa_PairsChecker ?mm_PairsChecker ?mi_PairsChecker ?mf_PairsChecker ?mk_PairsChecker ?ma_PairsChecker_right ?mn_PairsChecker_right ?ma_PairsChecker_passes ?mn_PairsChecker_passes ?na_PairsChecker_way ?ja_PairsChecker_Checker ?jb_PairsChecker_Checker ?jc_PairsChecker_Checker ?jd_PairsChecker_Checker ?je_PairsChecker_Checker ?mc_Checker ?pg_Checker ?hd_Checker ?po_Checker ?sa_Checker
  (case a1=>k_is)
  (case l1=>k_is)
  (case c1=>k_is)
  (case k1=>k_is)
  (case a2=>k_is)
  (case l2=>k_is)
  (case c2=>k_is)
  (case k2=>k_is)
  (case a3=>k_is)
  (case l3=>k_is)
  (case c3=>k_is)
  (case k3=>k_is)
  (case a4=>k_is)
  (case l4=>k_is)
  (case c4=>k_is)
  (case k4=>k_is)
  (case a5=>k_is)
  (case l5=>k_is)
  (case c5=>k_is)
  (case k5=>k_is)
  (case a6=>k_is)
  (case l6=>k_is)
  (case c6=>k_is)
  (case k6=>k_is)
  (case a7=>k_is)
  (case l7=>k_is)
  (case c7=>k_is)
  (case k7=>k_is)
  (case a8=>k_is)
  (case l8=>k_is)
  (case c8=>k_is)
  (case k8=>k_is)
  (case a9=>k_is)
  (case l9=>k_is)
  (case c9=>k_is)
  (case k9=>k_is)
  (case a10=>k_is)
  (case l10=>k_is)
  (case c10=>k_is)
  (case k10=>k_is)
  (case a11=>k_is)
  (case l11=>k_is)
  (case c11=>k_is)
  (case k11=>k_is)
  (case a12=>k_is)
  (case l12=>k_is)
  (case c12=>k_is)
  (case k12=>k_is)
  (case a13=>k_is)
  (case l13=>k_is)
  (case c13=>k_is)
  (case k13=>k_is)
  (case a14=>k_is)
  (case l14=>k_is)
  (case c14=>k_is)
  (case k14=>k_is)
  (case a15=>k_is)
  (case l15=>k_is)
  (case c15=>k_is)
  (case k15=>k_is)
  (case a16=>k_is)
  (case l16=>k_is)
  (case c16=>k_is)
  (case k16=>k_is)
  (case a17=>k_is)
  (case l17=>k_is)
  (case c17=>k_is)
  (case k17=>k_is)
  (case a18=>k_is)
  (case l18=>k_is)
  (case c18=>k_is)
  (case k18=>k_is)
  (case a19=>k_is)
  (case l19=>k_is)
  (case c19=>k_is)
  (case k19=>k_is)
  (case a20=>k_is)
  (case l20=>k_is)
  (case c20=>k_is)
  (case k20=>k_is)
  (case a23=>k_is)
  (case l23=>k_is)
  (case c23=>k_is)
  (case k23=>k_is)
  (case a24=>k_is)
  (case l24=>k_is)
  (case c24=>k_is)
  (case k24=>k_is)
  (case a25=>k_is)
  (case l25=>k_is)
  (case c25=>k_is)
  (case k25=>k_is)
  (case a26=>k_is)
  (case l26=>k_is)
  (case c26=>k_is)
  (case k26=>k_is)
  (case a27=>k_is)
  (case l27=>k_is)
  (case c27=>k_is)
  (case k27=>k_is)
  (case a28=>k_is)
  (case l28=>k_is)
  (case c28=>k_is)
  (case k28=>k_is)
  (case a29=>k_is)
  (case l29=>k_is)
  (case c29=>k_is)
  (case k29=>k_is)
  (case a30=>k_is)
  (case l30=>k_is)
  (case c30=>k_is)
  (case k30=>k_is)
  (case a31=>k_is)
  (case l31=>k_is)
  (case c31=>k_is)
  (case k31=>k_is)
  (case a32=>k_is)
  (case l32=>k_is)
  (case c32=>k_is)
  (case k32=>k_is)
  (case a33=>k_is)
  (case l33=>k_is)
  (case c33=>k_is)
  (case k33=>k_is)
  (case a34=>k_is)
  (case l34=>k_is)
  (case c34=>k_is)
  (case k34=>k_is)
  (case a35=>k_is)
  (case l35=>k_is)
  (case c35=>k_is)
  (case k35=>k_is)
  (case a37=>k_is)
  (case l37=>k_is)
  (case c37=>k_is)
  (case k37=>k_is)
  (case a38=>k_is)
  (case l38=>k_is)
  (case c38=>k_is)
  (case k38=>k_is)
  (case a39=>k_is)
  (case l39=>k_is)
  (case c39=>k_is)
  (case k39=>k_is)
  (case a40=>k_is)
  (case l40=>k_is)
  (case c40=>k_is)
  (case k40=>k_is)
  (case a44=>k_is)
  (case l44=>k_is)
  (case c44=>k_is)
  (case k44=>k_is)
  (case a47=>k_is)
  (case l47=>k_is)
  (case c47=>k_is)
  (case k47=>k_is)
  (case a48=>k_is)
  (case l48=>k_is)
  (case c48=>k_is)
  (case k48=>k_is)
  (case z0=>k_is)
  (case z1=>k_is)
  (case z2=>k_is)
  (case z3=>k_is)
  (case z4=>k_is)
  (case z5=>k_is)
  (case z6=>k_is)
  (case z7=>k_is)
  (case z8=>k_is)
  (case z9=>k_is)
  (case z10=>k_is)
  (case z11=>k_is)
  (case z12=>k_is)
  (case z13=>k_is)
  (case z14=>k_is)
  (case z15=>k_is)
  (case z16=>k_is)
  (case kc_MOST_HANDS=>k_is)
  (case kc_MOST_SEATS=>k_is)
  (case mc_Pairs=>k_is)
  (case pg_Pairs=>k_is)
  (case hd_Pairs=>k_is)
  (case po_Pairs=>k_is)
  (case sa_Pairs=>k_is)
  (case mm_Pairs=>k_is)
  (case mi_Pairs=>k_is)
  (case mf_Pairs=>k_is)
  (case mk_Pairs=>k_is)
  (case ma_Pairs_picks_by=>k_is)
  (case mn_Pairs_picks_by=>k_is)
  (case ma_Pairs_counted=>k_is)
  (case mn_Pairs_counted=>k_is)
  (case ma_Pairs_told_by=>k_is)
  (case mn_Pairs_told_by=>k_is)
  (case ma_Pairs_outcome=>k_is)
  (case mn_Pairs_outcome=>k_is)
  (case na_Pairs_hands=>k_is)
  (case na_Pairs_seats=>k_is)
  (case na_Pairs_lots=>k_is)
  (case mc_PairsChecker=>k_is)
  (case pg_PairsChecker=>k_is)
  (case hd_PairsChecker=>k_is)
  (case po_PairsChecker=>k_is)
  (case sa_PairsChecker=>k_is)
  (case mm_PairsChecker=>k_is)
  (case mi_PairsChecker=>k_is)
  (case mf_PairsChecker=>k_is)
  (case mk_PairsChecker=>k_is)
  (case ma_PairsChecker_right=>k_is)
  (case mn_PairsChecker_right=>k_is)
  (case ma_PairsChecker_passes=>k_is)
  (case mn_PairsChecker_passes=>k_is)
  (case na_PairsChecker_way=>k_is)
  (case ja_PairsChecker_Checker=>k_is)
  (case jb_PairsChecker_Checker=>k_is)
  (case jc_PairsChecker_Checker=>k_is)
  (case jd_PairsChecker_Checker=>k_is)
  (case je_PairsChecker_Checker=>kernel_rfl)
  (case mc_Checker=>k_is)
  (case pg_Checker=>k_is)
  (case hd_Checker=>k_is)
  (case po_Checker=>k_is)
  (case sa_Checker=>k_is)
  (case l21=>k_is)
  (case c21=>k_is)
  (case k21=>k_is)
  (case l22=>k_is)
  (case c22=>k_is)
  (case k22=>k_is)
  (case l36=>k_is)
  (case c36=>k_is)
  (case k36=>k_is)
  (case l41=>k_is)
  (case c41=>k_is)
  (case k41=>k_is)
  (case dl41=>k_is)
  (case l42=>k_is)
  (case c42=>k_is)
  (case k42=>k_is)
  (case l43=>k_is)
  (case c43=>k_is)
  (case k43=>k_is)
  (case l45=>k_is)
  (case c45=>k_is)
  (case k45=>k_is)
  (case l46=>k_is)
  (case c46=>k_is)
  (case k46=>k_is)
#print axioms PySem.Challenge.cw_pollproof_k57_other_papers_let_by_holds
