import PyProof.Rows.All
import Wide.All
import OpenK.AllK
import Wide.FinOn
import Lean
import PyProof.EqAt
import PyProof.EqKinds
import PyProof.TupleCall
import PySem.Challenge.RW_pollproof_k59_names_and_seats
set_option Elab.async false
set_option linter.all false
set_option maxRecDepth 100000
namespace Head
open PySem PySem.W PyProof.Rows
def OE (p:Program) (w:World) (n0:Nat) (ann:Option Value):Nat->SharedT->Thread->Option SharedT
 | 0,_,_=>none
 | n+1,s,t=>match through t with
   | true=>some s
   | false=>match stepOk n0 ann t with
     | false=>none
     | true=>match stepT (denote treeTable) p w s t with
       | some (s',t')=>OE p w n0 ann n s' t'
       | none=>none
theorem Kq {p:Program} {w:World} {n0:Nat} {ann:Option Value}:∀{n:Nat} {s s':SharedT} {t:Thread},OE p w n0 ann n s t=some s'->topRun treeTable p w n0 ann n s.abs t=some s'.abs
 | 0,_,_,_,h=>by cases h
 | n+1,s,s',t,h=>by
   unfold OE at h
   unfold topRun
   cases he:through t with
   | true=>rw [he] at h;cases h;rfl
   | false =>
     rw [he] at h
     cases hk:stepOk n0 ann t with
     | false=>rw [hk] at h;cases h
     | true =>
       rw [hk] at h
       cases hs:stepT (denote treeTable) p w s t with
       | none=>rw [hs] at h;cases h
       | some r=>obtain ⟨s2,t2⟩:=r;rw [hs] at h;rw [stepT_spec hs];exact Kq h
def KN:List Obj->Nat->BT->Option BT
 | [],_,t=>some t
 | o :: os,n,t=>match ((t.ins n o).get n).isSome with
   | true=>KN os (n+1) (t.ins n o)
   | false=>none
theorem Kk {life:Life}:∀{os:List Obj} {n:Nat} {t t':BT} {xs:List Obj},(absHeap t n life)=⟨xs.toArray,life⟩->KN os n t=some t'->absHeap t' (n+os.length) life=⟨(xs++os).toArray,life⟩
 | [],n,t,t',xs,a,h=>by
   cases h
   rw [List.append_nil]
   exact a
 | o :: os,n,t,t',xs,a,h=>by
   unfold KN at h
   cases g:((t.ins n o).get n).isSome with
   | false=>rw [g] at h;cases h
   | true =>
     rw [g] at h
     have b:absHeap (t.ins n o) (n+1) life=⟨(xs++[o]).toArray,life⟩:=by
      rw [absHeap_ins g,a]
      show (⟨xs.toArray.push o,life⟩:Heap)=_
      rw [List.push_toArray]
     have c:=Kk b h
     rw [List.append_assoc] at c
     rw [List.length_cons,show n+(os.length+1)=n+1+os.length by omega]
     exact c
theorem Nm {H:Heap} {T:BT} (h:KN H.objs.toList 0 .nil=some T):absHeap T H.objs.size H.life=H:=by
 have c:=Kk (life:=H.life) (n:=0) (t:=.nil) (xs:=[]) rfl h
 rw [Nat.zero_add,Array.length_toList] at c
 rw [c]
 obtain ⟨a,l⟩:=H
 show (⟨([]++a.toList).toArray,l⟩:Heap)=⟨a,l⟩
 rw [List.nil_append,Array.toArray_toList]
theorem left {p q:Program} {loose:List PySem.Str} {Xt:Shared->Bool} {α:Type} {Yf:Shared->α} {Ya:World->α} {N:Nat} {g0:Bool}
 (e:opening p=plainProg p.main.scope.names) (hN:Nat.ble 600 N=true) (f:∀s,fenceModules? p s=some s)
 (h:∀(w:World) (os:OsState),((KN (boot_heap w.params).objs.toList 0 .nil).bind fun T=>(OE p w (boot_heap w.params).objs.size ((boot_heap w.params).nsMap mainGlobals "__annotations__") N ⟨T,(boot_heap w.params).objs.size,(boot_heap w.params).life,Array.mk [],boot_drawn,boot_toks,os⟩ (topStub p)).map fun s =>
  (((boot_heap w.params).isNs mainGlobals,staticsOk (importedModules p.main.body) (boot_heap w.params) s.abs.heap && namesBound p s.abs.heap && gensDone s.abs && laidKept (boot_heap w.params) s.abs.heap),openSeen q loose (importedModules p.main.body) Xt g0 s.abs,Yf s.abs)) =
  some ((true,true),openGood q loose,Ya w)):LeftO p q loose Xt Yf Ya N g0:=fun w=>by
 obtain ⟨⟨hp,gs,d,k,os⟩,e1,e2⟩:=Option.map_eq_some_iff.mp (boot_open e hN f w)
 obtain ⟨rfl,rfl,rfl,rfl⟩:hp=boot_heap w.params/\gs=Array.mk []/\d=boot_drawn/\k=boot_toks:=by simpa using e2
 have z:=h w os
 cases gT:KN (boot_heap w.params).objs.toList 0 .nil with
 | none=>rw [gT] at z;cases z
 | some T =>
   rw [gT] at z
   obtain ⟨s,r,y⟩:=Option.map_eq_some_iff.mp z
   have r':=Kq r
   injection y with y1 y2
   injection y1 with y3 y4
   injection y2 with y5 y6
   have a:(⟨T,(boot_heap w.params).objs.size,(boot_heap w.params).life,Array.mk [],boot_drawn,boot_toks,os⟩:SharedT).abs=⟨boot_heap w.params,Array.mk [],boot_drawn,boot_toks,os⟩:=by
    unfold SharedT.abs
    rw [Nm gT]
   rw [a] at r'
   unfold openEnds
   rw [e1]
   show (topFrom treeTable p w N _).map _=_
   have t:topFrom treeTable p w N ⟨boot_heap w.params,Array.mk [],boot_drawn,boot_toks,os⟩=some s.abs:=by
    unfold topFrom
    dsimp only
    rw [y3,r']
    show (match staticsOk (importedModules p.main.body) (boot_heap w.params) s.abs.heap && namesBound p s.abs.heap && gensDone s.abs && laidKept (boot_heap w.params) s.abs.heap with | true=>_ | false=>_)=_
    rw [y4]
   rw [t]
   exact congrArg some (Prod.ext y5 y6)
end Head
namespace Head
open PySem PySem.W PyProof.Rows
abbrev q0:Program:=view PySem.Challenge.pw_pollproof_k59_names_and_seats [9,51]
abbrev r0:OpenRow:=OpenLaw.row PySem.Challenge.rw_pollproof_k59_names_and_seats
local macro_rules | `(tactic| o_head $H)=>do
 let (hl,hw,hc):=(Lean.mkIdent `hl,Lean.mkIdent `hw,Lean.mkIdent `hc)
 `(tactic| (
   refine holds_open (r:=r0) (q:=q0) (loose:=[PySem.Str.ofString "_wall",PySem.Str.ofString "all_of",PySem.Str.ofString "with_one",PySem.Str.ofString "members",PySem.Str.ofString "overs",PySem.Str.ofString "hands_of",PySem.Str.ofString "leads_of",PySem.Str.ofString "way_by",PySem.Str.ofString "cut_by",PySem.Str.ofString "PollError",PySem.Str.ofString "NoNumber",PySem.Str.ofString "NoBallot",PySem.Str.ofString "NoSheet",PySem.Str.ofString "NoChange",PySem.Str.ofString "Torn",PySem.Str.ofString "NoBundle",PySem.Str.ofString "WrongNumber",PySem.Str.ofString "NoWay",PySem.Str.ofString "TooHard",PySem.Str.ofString "Ended",PySem.Str.ofString "NoRow",PySem.Str.ofString "is_whole",PySem.Str.ofString "MOST_HANDS",PySem.Str.ofString "MOST_SEATS",PySem.Str.ofString "are_hands",PySem.Str.ofString "are_seats",PySem.Str.ofString "are_lots",PySem.Str.ofString "Way",PySem.Str.ofString "shown_from",PySem.Str.ofString "is_beaten",PySem.Str.ofString "Pairs",PySem.Str.ofString "_law_whole",PySem.Str.ofString "_law_cell",PySem.Str.ofString "_law_mixed",PySem.Str.ofString "_law_order",PySem.Str.ofString "_law_ranks",PySem.Str.ofString "_law_slip",PySem.Str.ofString "_law_votes",PySem.Str.ofString "_law_sheet",PySem.Str.ofString "_law_renamed",PySem.Str.ofString "_law_ways",PySem.Str.ofString "_law_refused",PySem.Str.ofString "_law_like_a_way"]) (N:=100000)
    (Xt:=fun s=>xlAt q0 [] s && recOk (RowW.records (OpenRow.toRowW r0)) s)
    (XP:=XL q0 []) (Yf:=Hook.obs $H) (Ya:=Hook.val $H) (YP:=Hook.says $H)
    ?$hl (Hook.of $H) (Hook.keeps $H) (fun s e=>xl_of s (Bool.and_eq_true_iff.mp e).1) XL.keeps
    (by rfl) (by rfl) (by rfl) (fun s e=>recFacts_of (Bool.and_eq_true_iff.mp e).2) (by rfl) (by assumption)
    (by decide +kernel) ⟨rfl,rfl,rfl,rfl,rfl,by decide +kernel⟩ ?$hw ?$hc;
   (next=>(exact left (by kernel_rfl) (by decide) (fun s=>by kernel_rfl) (fun w os=>by kernel_rfl)))))
set_option maxRecDepth 100000 in
set_option maxHeartbeats 0 in
open_top top for PySem.Challenge.rw_pollproof_k59_names_and_seats
end Head
namespace L2
open PySem PySem.Spec PyProof.Rows
abbrev Key:=Sum Int Str
def GD:Key->Value->Bool
 | .inl k,v=>Value.isInt k v
 | .inr x,v=>Value.isStrOf x v
def QU (w:World):Key->Int
 | .inl k=>hashInt k
 | .inr x=>hashStr w x
theorem Bh:∀{k:Key} {v:Value},GD k v=true->(∃i t,k=Sum.inl i/\v=Value.int i t)\/(∃x t,k=Sum.inr x/\v=Value.str x t)
 | .inl i,v,h=>by
   obtain ⟨t,e⟩:=Value.isInt_shape (k:=i) (v:=v) h
   exact .inl ⟨i,t,rfl,e⟩
 | .inr x,v,h=>by
   obtain ⟨t,e⟩:=Value.isStrOf_shape (x:=x) (v:=v) h
   exact .inr ⟨x,t,rfl,e⟩
theorem LA (i:Int) (t:Tok):GD (.inl i) (.int i t)=true:=by simp [GD,Value.isInt]
theorem KZ (x:Str) (t:Tok):GD (.inr x) (.str x t)=true:=by simp [GD,Value.isStrOf]
theorem P5 (a b:Int):decide ((Sum.inl a:Key)=Sum.inl b)=(a == b):=by
 by_cases e:a=b
 ·subst e;simp
 ·have h:¬ (Sum.inl a:Key)=Sum.inl b:=fun q=>e (Sum.inl.inj q)
  rw [decide_eq_false h]
  exact (beq_eq_false_iff_ne.mpr e).symm
theorem Qb (a b:Str):decide ((Sum.inr a:Key)=Sum.inr b)=decide (a=b):=by
 by_cases e:a=b
 ·subst e;simp
 ·have h:¬ (Sum.inr a:Key)=Sum.inr b:=fun q=>e (Sum.inr.inj q)
  rw [decide_eq_false h,decide_eq_false e]
theorem Pk (a:Int) (b:Str):decide ((Sum.inl a:Key)=Sum.inr b)=false:=decide_eq_false (fun q=>nomatch q)
theorem PN (a:Str) (b:Int):decide ((Sum.inr a:Key)=Sum.inl b)=false:=decide_eq_false (fun q=>nomatch q)
def Bx (prog:Program) (w:World):PySem.KeyKind prog w Key where
 is:=GD
 hash:=QU w
 inj:=fun v a b ha hb=>by
  rcases Bh ha with ⟨i,t,rfl,rfl⟩ | ⟨x,t,rfl,rfl⟩
  ·rcases Bh hb with ⟨j,u,rfl,e⟩ | ⟨y,u,rfl,e⟩
   ·injection e with e1 _;rw [e1]
   ·exact nomatch e
  ·rcases Bh hb with ⟨j,u,rfl,e⟩ | ⟨y,u,rfl,e⟩
   ·exact nomatch e
   ·injection e with e1 _;rw [e1]
 byValue:=fun k v h=>by
  rcases Bh h with ⟨i,t,rfl,rfl⟩ | ⟨x,t,rfl,rfl⟩ <;> rfl
 pyHash:=fun hv h=>by
  rcases Bh hv with ⟨i,t,rfl,rfl⟩ | ⟨x,t,rfl,rfl⟩
  ·exact wpAny_pyHash_int h
  ·exact wpAny_pyHash_str h
 eqBool:=fun hu hv h=>by
  rcases Bh hu with ⟨i,t,rfl,rfl⟩ | ⟨x,t,rfl,rfl⟩
  ·rcases Bh hv with ⟨j,u,rfl,rfl⟩ | ⟨y,u,rfl,rfl⟩
   ·rw [P5] at h;exact wpAny_eqBool_int h
   ·rw [Pk] at h;exact SeqAt.EqAt.int_str i t y u _ _ _ _ h
  ·rcases Bh hv with ⟨j,u,rfl,rfl⟩ | ⟨y,u,rfl,rfl⟩
   ·rw [PN] at h;exact SeqAt.EqAt.str_int x t j u _ _ _ _ h
   ·rw [Qb] at h;exact wpAny_eqBool_str h
 «strs»:=fun k x t v h=>by
  rcases Bh h with ⟨i,u,rfl,e⟩ | ⟨y,u,rfl,e⟩
  ·exact nomatch e
  ·injection e with e1 _
   subst e1
   cases v <;> rfl
theorem HL (prog:Program) (w:World) (i:Int) (t:Tok):(Bx prog w).is (.inl i) (.int i t)=true:=LA i t
theorem Jg (prog:Program) (w:World) (x:Str) (t:Tok):(Bx prog w).is (.inr x) (.str x t)=true:=KZ x t
end L2
namespace L2
open PySem PySem.Spec PyProof.Rows
inductive V where
 | non | bl (b:Bool) | int (i:Int) | str (x:Str) | byt (b:Array UInt8) | flt (b:UInt64) | ref (a:Addr) | ty (n:String)
 deriving DecidableEq
def Av:V->Value->Prop
 | .non,u=>u=Value.none
 | .bl b,u=>u=Value.bool b
 | .int i,u=>∃t,u=Value.int i t
 | .str x,u=>∃t,u=Value.str x t
 | .byt b,u=>∃t,u=Value.bytes b t
 | .flt b,u=>∃t,u=Value.float b t
 | .ref a,u=>u=Value.ref a
 | .ty n,u=>u=Value.type n
abbrev Aw:List V->List Value->Prop:=Paired Av
theorem Aw.length {xs:List V} {us:List Value} (r:Aw xs us):xs.length=us.length:=Paired.length r
theorem Aw.get:∀{xs:List V} {us:List Value} {i:Nat} {x:V},Aw xs us->xs[i]?=some x->∃u,us[i]?=some u/\Av x u
 | _,_,_,_,.nil,e=>by simp at e
 | _,_,0,_,.cons r _,e=>by simp at e;subst e;exact ⟨_,rfl,r⟩
 | _,_,i+1,x,.cons _ t,e=>by
   obtain ⟨u,h1,h2⟩:=Aw.get (i:=i) (x:=x) t (by simpa using e)
   exact ⟨u,by simpa using h1,h2⟩
theorem Aw.set {x:V} {u:Value} (r:Av x u):∀{xs:List V} {us:List Value} (i:Nat),Aw xs us->Aw (xs.set i x) (us.set i u)
 | _,_,_,.nil=>.nil
 | _,_,0,.cons _ t=>.cons r t
 | _,_,i+1,.cons q t=>.cons q (Aw.set r i t)
theorem Aw.append:∀{xs ys:List V} {us ws:List Value},Aw xs us->Aw ys ws->Aw (xs++ys) (us++ws)
 | _,_,_,_,.nil,s=>s
 | _,_,_,_,.cons r t,s=>.cons r (Aw.append t s)
theorem Aw.take:∀{xs:List V} {us:List Value} (n:Nat),Aw xs us->Aw (xs.take n) (us.take n)
 | _,_,0,_=>.nil
 | _,_,_+1,.nil=>.nil
 | _,_,n+1,.cons r t=>.cons r (Aw.take n t)
theorem Aw.drop:∀{xs:List V} {us:List Value} (n:Nat),Aw xs us->Aw (xs.drop n) (us.drop n)
 | _,_,0,r=>r
 | _,_,_+1,.nil=>.nil
 | _,_,n+1,.cons _ t=>Aw.drop n t
def Dr:Option V->Option Value->Prop
 | some v,some u=>Av v u
 | none,none=>True
 | _,_=>False
def KV {κ:Type}:List (κ × V)->List (κ × Value)->Prop:=Paired fun (p:κ × V) (q:κ × Value)=>p.1=q.1/\Av p.2 q.2
def kV:Key->V
 | .inl i=>.int i
 | .inr x=>.str x
inductive HO where
 | lst (xs:List V)
 | tup (xs:List V)
 | dK (kvs:List (Key × V)) | dT (kvs:List (List Key × V))
 | set (S:Int->Bool) (n:Nat)
 | ins (C dx:Addr) (fs:List (Str × V))
 | own (x:Addr)
 | xd (fs:List (Str × V))
 | met (f x:Addr)
 | rng (lo hi:Int)
 | frz (o:Obj) (u:HO)
 | tbl (ps:Array Value)
 | ext (φ:Heap->Prop)
abbrev Hp:=Addr->Option HO
def upd (H:Hp) (a:Addr) (o:HO):Hp:=fun b=>if b=a then some o else H b
theorem Ab {H:Hp} {a:Addr} {o:HO}:upd H a o a=some o:=by unfold upd;rw [if_pos rfl]
theorem Ai {H:Hp} {a b:Addr} {o:HO} (h:b≠a):upd H a o b=H b:=by unfold upd;rw [if_neg h]
theorem Bf {H:Hp} {a:Addr} {o u:HO}:upd (upd H a o) a u=upd H a u:=by
 funext b;unfold upd;split <;> rfl
theorem Mt {H:Hp} {a b:Addr} {o u:HO} (h:H a=some o) (h':H b=some u) (d:o≠u):a≠b:=by
 intro e;subst e;rw [h] at h';exact d (Option.some.inj h')
theorem AF {H:Hp} {a b:Addr} {o:HO} (h:H a=some o) (h':H b=none):a≠b:=by
 intro e;subst e;rw [h] at h';cases h'
section
variable (P:Program) (w:World)
def AI (H:Hp) (h:Heap) (a:Addr):HO->Prop
 | .lst xs=>xs.length<=sizeLine/\∃(its:List Value) (n:Nat),Aw xs its/\h.get? a=some { cls:=.type "list",data:=.seq its.toArray n }
 | .tup xs=>xs.length<=sizeLine/\∃its:List Value,Aw xs its/\IsTup h a its.toArray
 | .dK kvs=>kvs.length<=sizeLine/\(a == sysModules)=false/\∃vs,KV kvs vs/\h.DictOf (Bx P w) a vs
 | .dT kvs=>kvs.length<=sizeLine/\(a == sysModules)=false/\∃xs:List (List Key × Addr × Value),
  Paired (fun (p:List Key × V) (q:List Key × Addr × Value)=>p.1=q.1/\H q.2.1=some (.tup (p.1.map kV))/\Av p.2 q.2.2) kvs xs /\
  ∃o es ep,h.get? a=some o/\o.ExactDict/\o.data=.dict es ep/\es.toList=xs.map (entryOfKey (tupleKind (Bx P w)))/\(xs.map (·.1)).Nodup
 | .set S n=>h.SetOf (intKind P w) a S n
 | .ins C dx fs=>H dx=some (.own a)/\fs.length<=1000/\dx≠a/\h.get? a=some (PySem.W.instObj C dx) /\
  ∃mA,h.Ns1 dx mA/\(∀f,Dr (fs.lookup f) (mA f))/\PySem.Within mA (fs.map (·.1))
 | .own _=>∃o,h.get? a=some o
 | .xd fs=>∃mA,h.Ns1 a mA/\∀f,Dr (fs.lookup f) (mA f)
 | .rng lo hi=>∃t u v,h.get? a=some { cls:=.type "range",data:=.fields #[.int lo t,.int hi u,.int 1 v] }
 | .frz o u=>h.get? a=some o/\AI H h a u
 | .tbl ps=>h.get? a=some { cls:=.none,data:=.fields ps }
 | .met f x=>h.get? a=some (PySem.W.methodObj (.ref f) (.ref x))
 | .ext φ=>φ h/\(∃o,h.get? a=some o)/\∀h1 h2:Heap,φ h1->(∀o,h1.get? a=some o->h2.get? a=some o)->φ h2
def HOk (H:Hp) (h:Heap):Prop:=∀a o,H a=some o->AI P w H h a o
end
section
variable {P:Program} {w:World} {H H':Hp} {h h':Heap} {a:Addr} {o:HO}
theorem AI.lt (x:AI P w H h a o):a < h.objs.size:=by
 cases o with
 | lst xs=>obtain ⟨_,_,_,_,e⟩:=x;exact Heap.lt_size e
 | tup xs=>obtain ⟨_,_,_,p⟩:=x;exact p.lt
 | dK kvs=>obtain ⟨_,_,_,_,o,_,_,e,_⟩:=x;exact Heap.lt_size e
 | dT kvs=>obtain ⟨_,_,_,_,o,_,_,e,_⟩:=x;exact Heap.lt_size e
 | set S n=>obtain ⟨o,_,_,_,e,_⟩:=x;exact Heap.lt_size e
 | ins C dx fs=>obtain ⟨_,_,_,e,_⟩:=x;exact Heap.lt_size e
 | own y=>obtain ⟨_,e⟩:=x;exact Heap.lt_size e
 | xd fs=>obtain ⟨_,⟨_,_,_,e,_⟩,_⟩:=x;exact Heap.lt_size e
 | rng lo hi=>obtain ⟨_,_,_,e⟩:=x;exact Heap.lt_size e
 | frz ob u=>obtain ⟨e,_⟩:=x;exact Heap.lt_size e
 | tbl ps=>exact Heap.lt_size (show h.get? a=some _ from x)
 | met f y=>exact Heap.lt_size (show h.get? a=some _ from x)
 | ext φ=>obtain ⟨_,⟨_,e⟩,_⟩:=x;exact Heap.lt_size e
theorem Paired.mapP {α β:Type} {F G:α->β->Prop}:∀{l₁:List α} {l₂:List β},Paired F l₁ l₂->(∀a b,F a b->G a b)->Paired G l₁ l₂
 | _,_,.nil,_=>.nil
 | _,_,.cons r t,f=>.cons (f _ _ r) (Paired.mapP t f)
theorem AI.stay (x:AI P w H h a o) (k:∀b u,(b=a\/H b=some (.own a))->h.get? b=some u->h'.get? b=some u)
 (ho:∀b,H b=some (.own a)->H' b=some (.own a)) (ht:∀b xs,H b=some (.tup xs)->H' b=some (.tup xs)):AI P w H' h' a o:=by
 induction o with
 | lst xs=>obtain ⟨z,its,n,r,e⟩:=x;exact ⟨z,its,n,r,k _ _ (.inl rfl) e⟩
 | tup xs=>obtain ⟨z,its,r,ob,e,c⟩:=x;exact ⟨z,its,r,ob,k _ _ (.inl rfl) e,c⟩
 | dK kvs=>obtain ⟨z,y,vs,r,ob,es,ep,e,c⟩:=x;exact ⟨z,y,vs,r,ob,es,ep,k _ _ (.inl rfl) e,c⟩
 | dT kvs =>
   obtain ⟨z,y,xs,r,ob,es,ep,e,c⟩:=x
   exact ⟨z,y,xs,Paired.mapP r fun p q z=>⟨z.1,ht _ _ z.2.1,z.2.2⟩,ob,es,ep,k _ _ (.inl rfl) e,c⟩
 | set S n=>obtain ⟨ob,es,ep,t,e,c⟩:=x;exact ⟨ob,es,ep,t,k _ _ (.inl rfl) e,c⟩
 | ins C dx fs =>
   obtain ⟨d,z,ne,e,mA,⟨od,es,ep,e2,c⟩,r⟩:=x
   exact ⟨ho _ d,z,ne,k _ _ (.inl rfl) e,mA,⟨od,es,ep,k _ _ (.inr d) e2,c⟩,r⟩
 | own y=>obtain ⟨ob,e⟩:=x;exact ⟨ob,k _ _ (.inl rfl) e⟩
 | xd fs=>obtain ⟨mA,⟨od,es,ep,e,c⟩,r⟩:=x;exact ⟨mA,⟨od,es,ep,k _ _ (.inl rfl) e,c⟩,r⟩
 | rng lo hi=>obtain ⟨t,u,v,e⟩:=x;exact ⟨t,u,v,k _ _ (.inl rfl) e⟩
 | frz ob u ih=>obtain ⟨e,q⟩:=x;exact ⟨k _ _ (.inl rfl) e,ih q⟩
 | tbl ps =>
   have e:h.get? a=some { cls:=.none,data:=.fields ps }:=x
   show h'.get? a=some { cls:=.none,data:=.fields ps }
   exact k a _ (.inl rfl) e
 | met f y =>
   have e:h.get? a=some (PySem.W.methodObj (.ref f) (.ref y)):=x
   show h'.get? a=some (PySem.W.methodObj (.ref f) (.ref y))
   exact k a _ (.inl rfl) e
 | ext φ=>obtain ⟨p,⟨o,e⟩,st⟩:=x;exact ⟨st _ _ p fun o q=>k _ _ (.inl rfl) q,⟨o,k _ _ (.inl rfl) e⟩,st⟩
theorem HOk.lt (x:HOk P w H h) (e:H a=some o):a < h.objs.size:=(x a o e).lt
theorem HOk.fresh (x:HOk P w H h) (e:h.objs.size<=a):H a=none:=by
 cases q:H a with
 | none=>rfl
 | some u=>exact absurd (Nat.lt_of_lt_of_le (x.lt q) e) (Nat.lt_irrefl _)
theorem HOk.kept (x:HOk P w H h) (k:∀b u,h.get? b=some u->h'.get? b=some u):HOk P w H h':=fun a o e =>
 (x a o e).stay (fun b u _ q=>k b u q) (fun _ q=>q) fun _ _ q=>q
theorem HOk.laid (x:HOk P w H h) (k:∀b u,h.get? b=some u->h'.get? b=some u) (hp:h.objs.size<=a) (new:AI P w (upd H a o) h' a o):HOk P w (upd H a o) h':=fun b u e=>by
 have hn:=x.fresh hp
 by_cases hb:b=a
 ·subst hb;rw [Ab] at e;cases e;exact new
 ·rw [Ai hb] at e
  exact (x b u e).stay (fun c v _ q=>k c v q) (fun c q=>by rw [Ai (AF q hn)];exact q) fun c xs q=>by rw [Ai (AF q hn)];exact q
end
def Rd (H:Hp) (a:Addr) (u:HO):Prop:=H a=some u\/∃o,H a=some (.frz o u)
theorem Rd.ok {P:Program} {w:World} {H:Hp} {h:Heap} {a:Addr} {u:HO} (r:Rd H a u) (x:HOk P w H h):AI P w H h a u:=by
 rcases r with r | ⟨o,r⟩
 ·exact x a u r
 ·obtain ⟨_,q⟩:=x a _ r
  exact q
def Mut:Option HO->Prop
 | some (.lst _)=>True
 | some (.dK _)=>True
 | some (.dT _)=>True
 | some (.set _ _)=>True
 | some (.ins _ _ _)=>True
 | some (.ext _)=>True
 | _=>False
section
variable {P:Program} {w:World} {H:Hp} {h h':Heap} {x e:Addr} {o':HO}
theorem HOk.write (ok:HOk P w H h) (mu:Mut (H x)) (he:e=x\/H e=some (.own x)) (k:∀b u,b≠e->h.get? b=some u->h'.get? b=some u) (heo:∃u,h'.get? e=some u)
 (new:AI P w (upd H x o') h' x o'):HOk P w (upd H x o') h':=fun b u q=>by
 have nown:∀c y,H c=some (.own y)->c≠x:=fun c y r z=>by subst z;rw [r] at mu;exact mu
 have ntup:∀c xs,H c=some (.tup xs)->c≠x:=fun c xs r z=>by subst z;rw [r] at mu;exact mu
 by_cases hb:b=x
 ·subst hb;rw [Ab] at q;cases q;exact new
 ·rw [Ai hb] at q
  by_cases hbe:b=e
  ·have q':H b=some (.own x):=by
    rcases he with z | z
    ·exact absurd (hbe.trans z) hb
    ·rw [hbe];exact z
   rw [q] at q';cases q'
   obtain ⟨v,hv⟩:=heo
   exact ⟨v,by rw [hbe];exact hv⟩
  ·refine (ok b u q).stay (fun c v hc r=>k c v ?_ r) (fun c r=>by rw [Ai (nown c b r)];exact r) fun c xs r=>by rw [Ai (ntup c xs r)];exact r
   rcases hc with rfl | hc
   ·exact hbe
   ·rintro rfl
    rcases he with z | z
    ·exact nown c b hc z
    ·rw [hc] at z;cases z;exact hb rfl
end
structure Un (fs ex:List Addr) (H H':Hp) (h h':Heap):Prop where
 keep:∀b o,h.get? b=some o->H b=none->b ∉ fs->b ∉ ex->h'.get? b=some o
 slot:∀b o,h.get? b=some o->H b=none->b∈fs->b ∉ ex->∃sl,h'.get? b=some { o with slots:=sl }
 free:∀b o,h.get? b=some o->H b=none->b ∉ ex->H' b=none
 there:∀b o,h.get? b=some o->b ∉ ex->∃o',h'.get? b=some o'
 tups:∀b xs,H b=some (.tup xs)->H' b=some (.tup xs)
 frzs:∀b o u,H b=some (.frz o u)->H' b=some (.frz o u)
 tbls:∀b ps,H b=some (.tbl ps)->∃more,H' b=some (.tbl (ps++more))
section
variable {fs fs' ex ex':List Addr} {H H1 H2:Hp} {h h1 h2 h':Heap} {a x e:Addr} {o:HO}
theorem Un.any (u:Un fs ex H H1 h h1) {b:Addr} {ob:Obj} (q:h.get? b=some ob) (n:H b=none) (hx:b ∉ ex):∃sl,h1.get? b=some { ob with slots:=sl }:=by
 by_cases hb:b∈fs
 ·exact u.slot b ob q n hb hx
 ·exact ⟨ob.slots,u.keep b ob q n hb hx⟩
theorem Un.kept (k:∀b u,h.get? b=some u->h'.get? b=some u):Un fs ex H H h h' :=
 ⟨fun b ob q _ _ _=>k b ob q,fun b ob q _ _ _=>⟨ob.slots,k b ob q⟩,fun _ _ _ n _=>n,fun b ob q _=>⟨ob,k b ob q⟩,fun _ _ q=>q,fun _ _ _ q=>q,fun _ ps q=>⟨#[],by rw [q];simp⟩⟩
theorem Un.refl:Un fs ex H H h h:=Un.kept fun _ _ q=>q
theorem Un.laid (k:∀b u,h.get? b=some u->h'.get? b=some u) (hp:h.objs.size<=a) (hn:H a=none):Un fs ex H (upd H a o) h h' where
 keep:=fun b u q _ _ _=>k b u q
 slot:=fun b u q _ _ _=>⟨u.slots,k b u q⟩
 free:=fun b u q n _=>by rw [Ai (Nat.ne_of_lt (Nat.lt_of_lt_of_le (Heap.lt_size q) hp))];exact n
 there:=fun b u q _=>⟨u,k b u q⟩
 tups:=fun b xs q=>by rw [Ai (AF q hn)];exact q
 frzs:=fun b u xs q=>by rw [Ai (AF q hn)];exact q
 tbls:=fun b ps q=>⟨#[],by rw [Ai (AF q hn),q];simp⟩
theorem Un.write (mu:Mut (H x)) (he:e=x\/H e=some (.own x)) (k:∀b u,b≠e->h.get? b=some u->h'.get? b=some u) (heo:∃u,h'.get? e=some u):Un fs ex H (upd H x o) h h':=by
 have hx:∀b,H b=none->b≠x:=fun b n z=>by subst z;rw [n] at mu;exact mu
 have hb:∀b,H b=none->b≠e:=fun b n z=>by
  subst z
  rcases he with r | r
  ·exact hx b n r
  ·rw [n] at r;cases r
 have hm:∀b u,H b=some u->¬ Mut (some u)->b≠x:=fun b u q nm z=>by subst z;rw [q] at mu;exact nm mu
 refine ⟨fun b u q n _ _=>k b u (hb b n) q,fun b u q n _ _=>⟨u.slots,k b u (hb b n) q⟩,fun b u q n _=>by rw [Ai (hx b n)];exact n,fun b u q _=>?_,
  fun b xs q=>by rw [Ai (hm b _ q fun z=>z)];exact q,fun b u xs q=>by rw [Ai (hm b _ q fun z=>z)];exact q,fun b ps q=>⟨#[],by rw [Ai (hm b _ q fun z=>z),q];simp⟩⟩
 by_cases hbe:b=e
 ·subst hbe;exact heo
 ·exact ⟨u,k b u hbe q⟩
end
def trk (h:Heap) (H:Hp):List Addr:=(List.range h.objs.size).filter fun a=>(H a).isSome
def Gc (h:Heap) (H:Hp):Heap:=PySem.W.hideAll h (trk h H)
theorem LY (h:Heap) (H:Hp):(Gc h H).objs.size=h.objs.size:=PySem.W.hideAll_size _ _
theorem Mg {h:Heap} {H:Hp} {b:Addr} {o:Obj} (e:h.get? b=some o) (n:H b=none):(Gc h H).get? b=some o :=
 PySem.W.hideAll_get _ e fun hm=>by
  have q:(H b).isSome=true:=(List.mem_filter.mp hm).2
  rw [n] at q;simp at q
theorem Ku {h:Heap} {H:Hp} {b:Addr} {o:Obj} (e:(Gc h H).get? b=some o):h.get? b=some o/\H b=none:=by
 have e':h.get? b=some o:=PySem.W.of_hideAll (trk h H) e
 refine ⟨e',?_⟩
 cases q:H b with
 | none=>rfl
 | some x =>
   have hm:b∈trk h H:=List.mem_filter.mpr ⟨List.mem_range.mpr (Heap.lt_size e'),by simp [q]⟩
   have z:(Gc h H).get? b=none:=PySem.W.hideAll_none (trk h H) hm
   rw [z] at e;cases e
end L2
namespace L2
open PySem PySem.Spec PyProof.Rows
structure Mod (K:PySem.W.Frag) (mg:Str->Option Value) (base:Heap):Prop where
 kin:K.In base
 glob:base.Ns mainGlobals mg
 blt:∃mb,base.Ns builtinsNs mb/\∀x:Str,x≠"__name__"->mb x=bootBuiltins x
 nolimit:base.NoLimit
structure Cx where
 prog:Program
 w:World
 K:PySem.W.Frag
 mg:Str->Option Value
 base:Heap
 A:Around
 N:List Str
 s₀:Shared
 H₀:Hp
 env:Env
 outer:List Env
 stack:List Env
 ex:List Addr
 fn:Str->Bool
 calm:Bool
 pn:List (Addr × Obj)
 xe:Value->Shared->Prop
def frs (l:List Env):List Addr:=l.filterMap (·.frame)
abbrev Cx.fs (X:Cx):List Addr:=frs X.outer
def Vis (sc:Scope) (x:Str):Prop:=sc.names.lookup x=some .local\/sc.names.lookup x=some .cell\/sc.names.lookup x=some .free
def Loc (sc:Scope) (x:Str):Prop:=sc.names.lookup x=some .local\/sc.names.lookup x=some .cell
def QC (env:Env) (h:Heap) (m:Str->Option Value) (x:Str) (u:Value):Prop :=
 (env.kindOf x=some .local/\m x=some u)\/((env.kindOf x=some .cell\/env.kindOf x=some .free)/\∃c,env.cells.lookup x=some c/\h.IsCell c (some u))
structure Cx.Ok (X:Cx):Prop where
 mod:Mod X.K X.mg X.base
 kind:X.env.scope.kind=.function
 glob:X.env.globals=mainGlobals
 blt:X.env.builtins=builtinsNs
 above:X.s₀.heap.objs.size<=X.env.locals
 inj:∀x y c,X.env.cells.lookup x=some c->X.env.cells.lookup y=some c->x=y
 has:∀x,(X.env.kindOf x=some .cell\/X.env.kindOf x=some .free)->∃c,X.env.cells.lookup x=some c
 cab:∀x c,X.fn x=true->X.env.cells.lookup x=some c->X.s₀.heap.objs.size<=c
 hd:X.calm=true->X.A.handled=none
 frames:X.A.frames=some X.stack
 stk:X.stack=X.outer\/(X.stack=X.env :: X.outer/\X.env.frame=some X.env.locals)
 exf:∀b∈X.ex,b≠X.env.locals/\∀x c,X.env.cells.lookup x=some c->c≠b
 bs:∀b o,X.base.get? b=some o->X.s₀.heap.get? b=some o/\X.H₀ b=none
 bsz:X.base.objs.size<=X.s₀.heap.objs.size
 noex:∀b o,X.base.get? b=some o->b ∉ X.ex
 exfs:∀b∈X.ex,b ∉ X.fs
 funs:X.s₀.heap.FunFrames X.base X.outer
 frf:∀b∈X.fs,X.H₀ b=none
structure Inv (X:Cx) (pins:List (Addr × Obj)) (σ:List (Option V)) (H:Hp) (s:Shared):Prop where
 ok:X.Ok
 os:s.os=X.s₀.os
 bare:AllBare s.gens
 base:Un X.fs X.ex X.H₀ H X.s₀.heap s.heap
 loc:∃m,s.heap.Ns X.env.locals m/\∀(i:Nat) (x:Str) (v:V),X.N[i]?=some x->σ[i]?=some (some v)->Vis X.env.scope x->∃u,Av v u/\QC X.env s.heap m x u
 cell:∀x c,X.env.cells.lookup x=some c->∃v,s.heap.IsCell c v
 free:H X.env.locals=none
 freeC:∀x c,X.env.cells.lookup x=some c->H c=none
 pin:∀p∈X.pn++pins,s.heap.get? p.1=some p.2/\H p.1=none/\p.1≠X.env.locals/\p.1 ∉ X.fs/\∀v,p.2.data≠.cell v
 hok:HOk X.prog X.w H s.heap
 len:σ.length=X.N.length
section
variable {X:Cx} {pins:List (Addr × Obj)} {σ:List (Option V)} {H H':Hp} {s:Shared} {h':Heap}
theorem Cx.Ok.nofr (ok:X.Ok) {b:Addr} {o:Obj} (e:X.base.get? b=some o):b ∉ X.fs:=fun hb=>by
 have:=(ok.funs.mem hb).1
 rw [e] at this;cases this
theorem Inv.bs (I:Inv X pins σ H s):∀b o,X.base.get? b=some o->s.heap.get? b=some o/\H b=none:=fun b o e =>
 ⟨I.base.keep b o (I.ok.bs b o e).1 (I.ok.bs b o e).2 (I.ok.nofr e) (I.ok.noex b o e),I.base.free b o (I.ok.bs b o e).1 (I.ok.bs b o e).2 (I.ok.noex b o e)⟩
theorem Inv.bk (I:Inv X pins σ H s):∀b o,X.base.get? b=some o->s.heap.get? b=some o:=fun b o e=>(I.bs b o e).1
theorem Inv.mod (I:Inv X pins σ H s):Mod X.K X.mg X.base:=I.ok.mod
theorem Inv.kIn (I:Inv X pins σ H s):X.K.In s.heap:=I.ok.mod.kin.keeps I.bk
theorem Inv.nolimit (I:Inv X pins σ H s):s.heap.NoLimit:=I.ok.mod.nolimit.keeps I.bk
theorem Inv.lt (I:Inv X pins σ H s):X.env.locals < s.heap.objs.size:=let ⟨_,hn,_⟩:=I.loc;hn.lt
theorem Inv.sz (I:Inv X pins σ H s):X.s₀.heap.objs.size<=s.heap.objs.size:=Nat.le_trans I.ok.above (Nat.le_of_lt I.lt)
theorem Inv.nofs (I:Inv X pins σ H s) {a:Addr} (h:s.heap.objs.size<=a):a ∉ X.fs:=fun hb=>by
 obtain ⟨_,o,ho,_⟩:=I.ok.funs.mem hb
 exact absurd (Nat.lt_of_lt_of_le (Heap.lt_size ho) (Nat.le_trans I.sz h)) (Nat.lt_irrefl _)
theorem Inv.cne (I:Inv X pins σ H s):∀x c,X.env.cells.lookup x=some c->c≠X.env.locals:=fun x c e z=>by
 obtain ⟨v,o,ho,hd⟩:=I.cell x c e
 obtain ⟨m,⟨o',es,ep,ho',hd',_⟩,_⟩:=I.loc
 rw [z,ho'] at ho;cases ho;rw [hd'] at hd;cases hd
theorem Inv.funs (I:Inv X pins σ H s):s.heap.FunFrames X.base X.outer:=by
 have all:∀(l:List Env),(∀b∈frs l,b∈X.fs)->X.s₀.heap.FunFrames X.base l->s.heap.FunFrames X.base l:=by
  intro l
  induction l with
  | nil=>intro _ _;trivial
  | cons env r ih =>
    intro hs hl
    obtain ⟨hk,⟨L,o,hf,hn,ho,hd⟩,hr⟩:=hl
    have hL:L∈X.fs:=hs L (by unfold frs;rw [List.filterMap_cons,hf];exact List.mem_cons_self)
    obtain ⟨sl,e⟩:=I.base.slot L o ho (I.ok.frf L hL) hL fun z=>I.ok.exfs L z hL
    exact ⟨hk,⟨L,_,hf,hn,e,hd⟩,ih (fun b hb=>hs b (by unfold frs;rw [List.filterMap_cons,hf];exact List.mem_cons_of_mem _ hb)) hr⟩
 exact all X.outer (fun _ hb=>hb) I.ok.funs
theorem Inv.stack (I:Inv X pins σ H s):s.heap.FunFrames X.base X.stack:=by
 rcases I.ok.stk with e | ⟨e,hf⟩
 ·rw [e];exact I.funs
 ·rw [e]
  obtain ⟨m,hn,_⟩:=I.loc
  refine .cons (by rw [I.ok.kind];decide) hf hn ?_ I.funs
  exact Heap.get?_none_of_le (Nat.le_trans I.ok.bsz I.ok.above)
theorem Inv.stkSub (I:Inv X pins σ H s):∀b∈frs X.stack,b∈X.env.locals :: X.fs:=fun b hb=>by
 rcases I.ok.stk with e | ⟨e,hf⟩
 ·rw [e] at hb;exact List.mem_cons_of_mem _ hb
 ·rw [e] at hb
  unfold frs at hb
  rw [List.filterMap_cons,hf] at hb
  exact hb
theorem Inv.stkFree (I:Inv X pins σ H s):∀b∈frs X.stack,H b=none:=fun b hb=>by
 rcases List.mem_cons.mp (I.stkSub b hb) with e | hb
 ·rw [e];exact I.free
 ·obtain ⟨_,o,ho,_⟩:=I.ok.funs.mem hb
  exact I.base.free b o ho (I.ok.frf b hb) fun z=>I.ok.exfs b z hb
theorem Inv.step {g':Array GenState} {t':Nat} {d':Drawn} {ch:List Addr} (I:Inv X pins σ H s)
 (hch:∀b∈ch,(b∈X.ex\/X.s₀.heap.objs.size<=b)/\b≠X.env.locals/\(∀x c,X.env.cells.lookup x=some c->c≠b)/\∀p∈X.pn++pins,p.1≠b)
 (keep:∀b o,b≠X.env.locals->b ∉ X.fs->b ∉ ch->s.heap.get? b=some o->H b=none->h'.get? b=some o)
 (slot:∀b o,b≠X.env.locals->b∈X.fs->b ∉ ch->s.heap.get? b=some o->H b=none->∃sl,h'.get? b=some { o with slots:=sl }) (free:∀b o,b ∉ ch->s.heap.get? b=some o->H b=none->H' b=none)
 (there:∀b o,b ∉ ch->s.heap.get? b=some o->∃o',h'.get? b=some o')
 (tups:∀b xs,H b=some (.tup xs)->H' b=some (.tup xs)) (frzs:∀b o u,H b=some (.frz o u)->H' b=some (.frz o u)) (tbls:∀b ps,H b=some (.tbl ps)->∃more,H' b=some (.tbl (ps++more)))
 (ns:∀m,s.heap.Ns X.env.locals m->h'.Ns X.env.locals m) (hok:HOk X.prog X.w H' h') (hg:AllBare g') :
 Inv X pins σ H' { s with heap:=h',gens:=g',drawn:=d',toks:=t' }:=by
 have neL:∀b o,X.s₀.heap.get? b=some o->b≠X.env.locals:=fun b o e=>Nat.ne_of_lt (Nat.lt_of_lt_of_le (Heap.lt_size e) I.ok.above)
 have neC:∀b o,X.s₀.heap.get? b=some o->b ∉ X.ex->b ∉ ch:=fun b o e hx hb=>by
  rcases (hch b hb).1 with z | z
  ·exact hx z
  ·exact absurd (Nat.lt_of_lt_of_le (Heap.lt_size e) z) (Nat.lt_irrefl _)
 have cellK:∀x c,X.env.cells.lookup x=some c->∀v,s.heap.IsCell c v->h'.IsCell c v:=fun x c e v ⟨o,ho,hd⟩=>by
  have nch:c ∉ ch:=fun z=>(hch c z).2.2.1 x c e rfl
  by_cases hc:c∈X.fs
  ·obtain ⟨sl,q⟩:=slot c o (I.cne x c e) hc nch ho (I.freeC x c e)
   exact ⟨_,q,hd⟩
  ·exact ⟨o,keep c o (I.cne x c e) hc nch ho (I.freeC x c e),hd⟩
 refine ⟨I.ok,I.os,hg,⟨fun b o e n hb hx=>?_,fun b o e n hb hx=>?_,fun b o e n hx=>?_,fun b o e hx=>?_,fun b xs e=>tups b xs (I.base.tups b xs e),fun b o xs e=>frzs b o xs (I.base.frzs b o xs e),fun b ps e=>?_⟩,?_,fun x c e=>?_,?_,fun x c e=>?_,fun p hp=>?_,hok,I.len⟩
 ·exact keep b o (neL b o e) hb (neC b o e hx) (I.base.keep b o e n hb hx) (I.base.free b o e n hx)
 ·obtain ⟨sl,e1⟩:=I.base.slot b o e n hb hx
  obtain ⟨sl',e2⟩:=slot b _ (neL b o e) hb (neC b o e hx) e1 (I.base.free b o e n hx)
  exact ⟨sl',e2⟩
 ·obtain ⟨o',e1⟩:=I.base.there b o e hx
  exact free b o' (neC b o e hx) e1 (I.base.free b o e n hx)
 ·obtain ⟨o',e1⟩:=I.base.there b o e hx
  exact there b o' (neC b o e hx) e1
 ·obtain ⟨m1,e1⟩:=I.base.tbls b ps e
  obtain ⟨m2,e2⟩:=tbls b _ e1
  exact ⟨m1++m2,by rw [e2,Array.append_assoc]⟩
 ·obtain ⟨m,hn,hl⟩:=I.loc
  refine ⟨m,ns m hn,fun i x v e1 e2 e3=>?_⟩
  obtain ⟨u,r,l⟩:=hl i x v e1 e2 e3
  refine ⟨u,r,?_⟩
  rcases l with l | ⟨k,c,e,z⟩
  ·exact .inl l
  ·exact .inr ⟨k,c,e,cellK x c e _ z⟩
 ·obtain ⟨v,z⟩:=I.cell x c e
  exact ⟨v,cellK x c e v z⟩
 ·obtain ⟨m,⟨o,_,_,ho,_⟩,_⟩:=I.loc
  exact free _ o (fun z=>(hch _ z).2.1 rfl) ho I.free
 ·obtain ⟨v,o,ho,hd⟩:=I.cell x c e
  exact free c o (fun z=>(hch c z).2.2.1 x c e rfl) ho (I.freeC x c e)
 ·obtain ⟨e,n,ne,nf,d⟩:=I.pin p hp
  have nch:p.1 ∉ ch:=fun z=>(hch p.1 z).2.2.2 p hp rfl
  exact ⟨keep p.1 p.2 ne nf nch e n,free p.1 p.2 nch e n,ne,nf,d⟩
theorem Inv.un {t':Nat} (I:Inv X pins σ H s) (u:Un X.fs [] H H' s.heap h') (hok:HOk X.prog X.w H' h'):Inv X pins σ H' { s with heap:=h',toks:=t' }:=by
 obtain ⟨m,⟨o,es,ep,ho,r⟩,_⟩:=id I.loc
 obtain ⟨sl,hL⟩:=u.any ho I.free (by simp)
 exact I.step (g':=s.gens) (d':=s.drawn) (ch:=[]) (fun _ z=>nomatch z) (fun b o _ hb _ e n=>u.keep b o e n hb (by simp)) (fun b o _ hb _ e n=>u.slot b o e n hb (by simp)) (fun b o _ e n=>u.free b o e n (by simp)) (fun b o _ e=>u.there b o e (by simp)) u.tups u.frzs u.tbls (fun m' hm=>by
  obtain ⟨o',es',ep',ho',r'⟩:=hm
  rw [ho] at ho';cases ho'
  exact ⟨_,es',ep',hL,r'⟩) hok I.bare
theorem Inv.call {g':Array GenState} {t':Nat} {d':Drawn} {ch:List Addr} (I:Inv X pins σ H s) (u:Un (frs X.stack) ch H H' s.heap h') (hok:HOk X.prog X.w H' h') (hg:AllBare g')
 (hch:∀b∈ch,(b∈X.ex\/X.s₀.heap.objs.size<=b)/\b≠X.env.locals/\(∀x c,X.env.cells.lookup x=some c->c≠b)/\∀p∈X.pn++pins,p.1≠b) :
 Inv X pins σ H' { s with heap:=h',gens:=g',drawn:=d',toks:=t' }:=by
 obtain ⟨m,⟨o,es,ep,ho,r⟩,_⟩:=id I.loc
 obtain ⟨sl,hL⟩:=u.any ho I.free fun z=>(hch _ z).2.1 rfl
 exact I.step (ch:=ch) hch (fun b o hL hb hc e n=>u.keep b o e n (fun z=>(List.mem_cons.mp (I.stkSub b z)).elim hL hb) hc) (fun b o _ _ hc e n=>u.any e n hc) (fun b o hc e n=>u.free b o e n hc) (fun b o hc e=>u.there b o e hc) u.tups u.frzs u.tbls (fun m' hm=>by
  obtain ⟨o',es',ep',ho',r'⟩:=hm
  rw [ho] at ho';cases ho'
  exact ⟨_,es',ep',hL,r'⟩) hok hg
theorem Inv.turned {t':Nat} {it:Addr} (I:Inv X pins σ H s) (k:∀b o,b≠it->s.heap.get? b=some o->h'.get? b=some o) (hn:H it=none) (hL:it≠X.env.locals)
 (h1:it∈X.ex\/X.s₀.heap.objs.size<=it) (h2:∀x c,X.env.cells.lookup x=some c->c≠it) (h3:∀p∈X.pn++pins,p.1≠it):Inv X pins σ H { s with heap:=h',toks:=t' }:=by
 have nit:∀b u,H b=some u->b≠it:=fun b u e z=>by rw [z,hn] at e;cases e
 refine I.step (g':=s.gens) (d':=s.drawn) (ch:=[it]) (fun b hb=>?_) (fun b o _ _ hc e _=>k b o (fun z=>hc (by simp [z])) e) (fun b o _ _ hc e _=>⟨o.slots,k b o (fun z=>hc (by simp [z])) e⟩) (fun _ _ _ _ n=>n)
  (fun b o hc e=>⟨o,k b o (fun z=>hc (by simp [z])) e⟩) (fun _ _ e=>e) (fun _ _ _ e=>e) (fun b ps e=>⟨#[],by rw [e];simp⟩) (fun m hm=>?_) (fun b u e=>?_) I.bare
 ·have e:b=it:=by simpa using hb
  subst e
  exact ⟨h1,hL,h2,h3⟩
 ·obtain ⟨o,es,ep,ho,r⟩:=hm
  exact ⟨o,es,ep,k _ o (Ne.symm hL) ho,r⟩
 ·refine (I.hok b u e).stay (fun c v hc q=>k c v ?_ q) (fun _ q=>q) fun _ _ q=>q
  rcases hc with z | z
  ·rw [z];exact nit b u e
  ·exact nit c _ z
theorem Inv.tok (I:Inv X pins σ H s) (t:Nat):Inv X pins σ H { s with toks:=t }:=I.un (h':=s.heap) (t':=t) Un.refl I.hok
theorem Inv.kept {t':Nat} (I:Inv X pins σ H s) (k:∀b u,s.heap.get? b=some u->h'.get? b=some u):Inv X pins σ H { s with heap:=h',toks:=t' }:=I.un (Un.kept k) (I.hok.kept k)
theorem Inv.laid {a:Addr} {o:HO} {t':Nat} (I:Inv X pins σ H s) (k:∀b u,s.heap.get? b=some u->h'.get? b=some u) (hp:s.heap.objs.size<=a) (new:AI X.prog X.w (upd H a o) h' a o) :
 Inv X pins σ (upd H a o) { s with heap:=h',toks:=t' }:=I.un (Un.laid k hp (I.hok.fresh hp)) (I.hok.laid k hp new)
theorem Inv.write {x e:Addr} {o:HO} {t':Nat} (I:Inv X pins σ H s) (mu:Mut (H x)) (he:e=x\/H e=some (.own x)) (k:∀b u,b≠e->s.heap.get? b=some u->h'.get? b=some u) (heo:∃u,h'.get? e=some u)
 (new:AI X.prog X.w (upd H x o) h' x o):Inv X pins σ (upd H x o) { s with heap:=h',toks:=t' }:=I.un (Un.write mu he k heo) (I.hok.write mu he k heo new)
theorem Inv.pins_of {pins':List (Addr × Obj)} (I:Inv X pins σ H s) (h:∀p∈pins',s.heap.get? p.1=some p.2/\H p.1=none/\p.1≠X.env.locals/\p.1 ∉ X.fs/\∀v,p.2.data≠.cell v):Inv X pins' σ H s :=
 ⟨I.ok,I.os,I.bare,I.base,I.loc,I.cell,I.free,I.freeC,fun p hp=>(List.mem_append.mp hp).elim (fun z=>I.pin p (List.mem_append_left _ z)) (h p),I.hok,I.len⟩
theorem Fn {N:List Str} (hN:N.Nodup) {i j:Nat} {x:Str} (a:N[i]?=some x) (b:N[j]?=some x):i=j:=by
 obtain ⟨h1,e1⟩:=List.getElem?_eq_some_iff.mp a
 obtain ⟨h2,e2⟩:=List.getElem?_eq_some_iff.mp b
 exact (List.getElem_inj hN).mp (e1.trans e2.symm)
theorem GP {M:Model} {A:Around} {E:Value->Shared->Prop} {i:Nat} {x:Str} {v:V} {u:Value} {Q:Unit->Shared->Prop} (I:Inv X pins σ H s) (hN:X.N.Nodup) (hi:X.N[i]?=some x) (hx:Loc X.env.scope x) (r:Av v u)
 (h:∀s',Inv X pins (σ.set i (some v)) H s'->(∃a,Heap.SameBut a s.heap s'.heap/\(a=X.env.locals\/X.env.cells.lookup x=some a))->Q () s') (hf:X.fn x=true\/X.env.scope.names.lookup x=some .local:=by first | exact .inl rfl | exact .inr rfl | assumption):wpAny M A (storeName X.env x u) Q E s:=by
 obtain ⟨m,hn,hl⟩:=id I.loc
 have hcls:(X.env.scope.kind == .class || (X.env.scope.kind == .module && X.env.locals != X.env.globals))=false:=by rw [I.ok.kind];rfl
 have hiσ:i < σ.length:=by rw [I.len];exact (List.getElem?_eq_some_iff.mp hi).1
 have cne:=I.cne
 have tracked:∀{a:Addr} {h':Heap},(∃o,s.heap.get? a=some o/\H a=none)->Heap.SameBut a s.heap h'->HOk X.prog X.w H h':=fun {a h'} ha hs b ob e=>by
  obtain ⟨_,_,hfree⟩:=ha
  refine (I.hok b ob e).stay (fun c w' hc q=>(hs.2 c ?_).trans q) (fun _ q=>q) fun _ _ q=>q
  rintro rfl
  rcases hc with rfl | hc
  ·rw [hfree] at e;cases e
  ·rw [hfree] at hc;cases hc
 rcases hx with hk | hk
 ·refine wpAny_storeName_local hk hn (fun h' hn' hs=>?_) hcls
  obtain ⟨oL,_,_,hoL,_⟩:=id hn
  refine h _ ⟨I.ok,I.os,I.bare,⟨fun b o e n hb hx=>?_,fun b o e n hb hx=>?_,I.base.free,fun b o e hx=>?_,I.base.tups,I.base.frzs,I.base.tbls⟩,⟨_,hn',fun j y v' e1 e2 e3=>?_⟩,fun y c e=>?_,I.free,I.freeC,fun p hp=>?_,tracked ⟨oL,hoL,I.free⟩ hs,by simpa using I.len⟩ ⟨_,hs,.inl rfl⟩
  ·exact (hs.2 b (Nat.ne_of_lt (Nat.lt_of_lt_of_le (Heap.lt_size e) I.ok.above))).trans (I.base.keep b o e n hb hx)
  ·obtain ⟨sl,e1⟩:=I.base.slot b o e n hb hx
   exact ⟨sl,(hs.2 b (Nat.ne_of_lt (Nat.lt_of_lt_of_le (Heap.lt_size e) I.ok.above))).trans e1⟩
  ·obtain ⟨o',e1⟩:=I.base.there b o e hx
   exact ⟨o',(hs.2 b (Nat.ne_of_lt (Nat.lt_of_lt_of_le (Heap.lt_size e) I.ok.above))).trans e1⟩
  ·by_cases hj:j=i
   ·subst hj
    rw [hi] at e1;cases e1
    rw [List.getElem?_set_self hiσ] at e2
    cases e2
    exact ⟨u,r,.inl ⟨hk,by simp⟩⟩
   ·rw [List.getElem?_set_ne (Ne.symm hj)] at e2
    obtain ⟨u',r',q⟩:=hl j y v' e1 e2 e3
    refine ⟨u',r',?_⟩
    rcases q with ⟨k,e⟩ | ⟨k,c,e,z⟩
    ·refine .inl ⟨k,?_⟩
     have:y≠x:=fun e=>hj (Fn hN e1 (e ▸ hi))
     simp [this,e]
    ·exact .inr ⟨k,c,e,z.sameBut hs (cne y c e)⟩
  ·obtain ⟨w',z⟩:=I.cell y c e
   exact ⟨w',z.sameBut hs (cne y c e)⟩
  ·obtain ⟨e,n,ne,nf,d⟩:=I.pin p hp
   exact ⟨(hs.2 p.1 ne).trans e,n,ne,nf,d⟩
 ·have hfn:X.fn x=true:=by
   rcases hf with z | z
   ·exact z
   ·rw [z] at hk;cases hk
  obtain ⟨c,hc⟩:=I.ok.has x (.inl hk)
  obtain ⟨w',z⟩:=I.cell x c hc
  refine wpAny_storeName_cell I.ok.kind hk hc z (fun h' hc' hs=>?_)
  obtain ⟨oc,hoc,hocd⟩:=id z
  refine h { s with heap:=h' } ⟨I.ok,I.os,I.bare,⟨fun b o e n hb hx=>?_,fun b o e n hb hx=>?_,I.base.free,fun b o e hx=>?_,I.base.tups,I.base.frzs,I.base.tbls⟩,⟨m,hn.sameBut hs (Ne.symm (cne x c hc)),fun j y v' e1 e2 e3=>?_⟩,fun y c' e=>?_,I.free,I.freeC,fun p hp=>?_,tracked ⟨oc,hoc,I.freeC x c hc⟩ hs,by simpa using I.len⟩ ⟨c,hs,.inr hc⟩
  ·exact (hs.2 b (Nat.ne_of_lt (Nat.lt_of_lt_of_le (Heap.lt_size e) (I.ok.cab x c hfn hc)))).trans (I.base.keep b o e n hb hx)
  ·obtain ⟨sl,e1⟩:=I.base.slot b o e n hb hx
   exact ⟨sl,(hs.2 b (Nat.ne_of_lt (Nat.lt_of_lt_of_le (Heap.lt_size e) (I.ok.cab x c hfn hc)))).trans e1⟩
  ·obtain ⟨o',e1⟩:=I.base.there b o e hx
   exact ⟨o',(hs.2 b (Nat.ne_of_lt (Nat.lt_of_lt_of_le (Heap.lt_size e) (I.ok.cab x c hfn hc)))).trans e1⟩
  ·by_cases hj:j=i
   ·subst hj
    rw [hi] at e1;cases e1
    rw [List.getElem?_set_self hiσ] at e2
    cases e2
    exact ⟨u,r,.inr ⟨.inl hk,c,hc,hc'⟩⟩
   ·rw [List.getElem?_set_ne (Ne.symm hj)] at e2
    obtain ⟨u',r',q⟩:=hl j y v' e1 e2 e3
    refine ⟨u',r',?_⟩
    rcases q with q | ⟨k,c',e,z'⟩
    ·exact .inl q
    ·refine .inr ⟨k,c',e,z'.sameBut hs ?_⟩
     rintro rfl
     exact hj (Fn hN e1 (I.ok.inj _ _ _ e hc ▸ hi))
  ·by_cases hcc:c'=c
   ·subst hcc;exact ⟨_,hc'⟩
   ·obtain ⟨w2,z2⟩:=I.cell y c' e
    exact ⟨w2,z2.sameBut hs hcc⟩
  ·obtain ⟨e,n,ne,nf,d⟩:=I.pin p hp
   refine ⟨(hs.2 p.1 ?_).trans e,n,ne,nf,d⟩
   intro q
   rw [q,hoc] at e
   have q':oc=p.2:=Option.some.inj e
   exact d w' (by rw [<- q'];exact hocd)
theorem FP {M:Model} {A:Around} {E:Value->Shared->Prop} {i:Nat} {x:Str} {v:V} {u:Value} {Q:Unit->Shared->Prop} (I:Inv X pins σ H s) (hN:X.N.Nodup) (hi:X.N[i]?=some x) (hx:Loc X.env.scope x) (r:Av v u)
 (h:∀s',Inv X pins (σ.set i (some v)) H s'->Q () s') (hf:X.fn x=true\/X.env.scope.names.lookup x=some .local:=by first | exact .inl rfl | exact .inr rfl | assumption):wpAny M A (storeName X.env x u) Q E s :=
 GP I hN hi hx r (fun s' I' _=>h s' I') hf
theorem Inv.call' {s':Shared} {ch:List Addr} (I:Inv X pins σ H s) (ho:s'.os=s.os) (u:Un (frs X.stack) ch H H' s.heap s'.heap) (hok:HOk X.prog X.w H' s'.heap) (hg:AllBare s'.gens)
 (hch:∀b∈ch,(b∈X.ex\/X.s₀.heap.objs.size<=b)/\b≠X.env.locals/\(∀x c,X.env.cells.lookup x=some c->c≠b)/\∀p∈X.pn++pins,p.1≠b):Inv X pins σ H' s':=by
 obtain ⟨h',g',d',t',o'⟩:=s'
 have e:o'=s.os:=ho
 subst e
 exact I.call (g':=g') (t':=t') (d':=d') u hok hg hch
end
abbrev XK:=Value->Option Addr->Hp->Prop
abbrev St:=List (Option V)
abbrev VK:=V->Hp->Prop
abbrev TE:=St->Hp->VK->Prop
abbrev TT:=St->Hp->(Bool->Hp->Prop)->Prop
abbrev TA:=St->Hp->(List V->Hp->Prop)->Prop
structure Fg where
 nx:St->Hp->Prop
 rt:VK
 bk:St->Hp->Prop:=fun _ _=>False
 ct:St->Hp->Prop:=fun _ _=>False
abbrev TS:=Fg->St->Hp->Prop
def EP (X:Cx) (pins:List (Addr × Obj)) (σ:St) (Q:VK) (u:Value) (s':Shared):Prop:=∃v H',Inv X pins σ H' s'/\Av v u/\Q v H'
def TP (X:Cx) (pins:List (Addr × Obj)) (σ:St) (Q:Bool->Hp->Prop) (b:Bool) (s':Shared):Prop:=∃H',Inv X pins σ H' s'/\Q b H'
def AP (X:Cx) (pins:List (Addr × Obj)) (σ:St) (Q:List V->Hp->Prop) (us:List Value) (s':Shared):Prop:=∃vs H',Inv X pins σ H' s'/\Aw vs us/\Q vs H'
def SP (X:Cx) (pins:List (Addr × Obj)) (D:Fg) (f:Flow) (s':Shared):Prop :=
 match f with
 | .next=>∃σ' H',Inv X pins σ' H' s'/\D.nx σ' H'
 | .brk=>∃σ' H',Inv X pins σ' H' s'/\D.bk σ' H'
 | .cont=>∃σ' H',Inv X pins σ' H' s'/\D.ct σ' H'
 | .ret u=>∃v σ' H',Inv X pins σ' H' s'/\Av v u/\D.rt v H'
def PE (X:Cx) (e:Expr) (t:TE):Prop :=
 ∀(pins:List (Addr × Obj)) (s:Shared) (σ:St) (H:Hp) (Q:VK),Inv X pins σ H s->t σ H Q->wpAny (model X.prog X.w) X.A (eval e X.env) (EP X pins σ Q) X.xe s
def PT (X:Cx) (e:Expr) (t:TT):Prop :=
 ∀(pins:List (Addr × Obj)) (s:Shared) (σ:St) (H:Hp) (Q:Bool->Hp->Prop),Inv X pins σ H s->t σ H Q->wpAny (model X.prog X.w) X.A (isTrue e X.env (eval e X.env)) (TP X pins σ Q) X.xe s
def PW (X:Cx) (e:Expr) (t:TT):Prop :=
 ∀(whole:Sem Value) (pins:List (Addr × Obj)) (s:Shared) (σ:St) (H:Hp) (Q:Bool->Hp->Prop),Inv X pins σ H s->t σ H Q->wpAny (model X.prog X.w) X.A (isTrue e X.env whole) (TP X pins σ Q) X.xe s
theorem PW.pt {X:Cx} {e:Expr} {t:TT} (h:PW X e t):PT X e t:=h _
def PA (X:Cx) (es:List Expr) (t:TA):Prop :=
 ∀(pos:Pos) (pins:List (Addr × Obj)) (s:Shared) (σ:St) (H:Hp) (Q:List V->Hp->Prop),Inv X pins σ H s->t σ H Q->wpAny (model X.prog X.w) X.A (spliced (backTo pos (starEach es X.env))) (AP X pins σ Q) X.xe s
def PS (X:Cx) (st:Stmt) (t:TS):Prop :=
 ∀(pins:List (Addr × Obj)) (s:Shared) (σ:St) (H:Hp) (D:Fg),Inv X pins σ H s->t D σ H->wpAny (model X.prog X.w) X.A (exec st X.env) (SP X pins D) X.xe s
def PSs (X:Cx) (st:List Stmt) (t:TS):Prop :=
 ∀(pins:List (Addr × Obj)) (s:Shared) (σ:St) (H:Hp) (D:Fg),Inv X pins σ H s->t D σ H->wpAny (model X.prog X.w) X.A (execs st X.env) (SP X pins D) X.xe s
theorem thn {α:Type} {t:Sem α} {Q Q':α->Shared->Prop} {M:Model} {A:Around} {E:Value->Shared->Prop} {s:Shared} (h:wpAny M A t Q E s) (hQ:∀a s,Q a s->Q' a s):wpAny M A t Q' E s:=wpAny_mono h hQ fun _ _ x=>x
end L2
namespace L2
open PySem PySem.Spec PyProof.Rows
section
variable {X:Cx}
def Qc (i:Nat):TE:=fun σ H Q=>∃v,σ[i]?=some (some v)/\Q v H
def tC (v:V):TE:=fun _ H Q=>Q v H
theorem PC {i:Nat} {x:Str} {pos:Pos} (hN:X.N[i]?=some x) (hv:Vis X.env.scope x) (hd:(x == ("__debug__":Str))=false:=by decide) (hcd:(x == ("__classdict__":Str))=false:=by decide):PE X (.Name x pos) (Qc i):=by
 intro pins s σ H Q I h
 obtain ⟨v,e,h⟩:=h
 obtain ⟨m,hn,hl⟩:=I.loc
 obtain ⟨u,r,l⟩:=hl i x v hN e hv
 have fin:EP X pins σ Q u s:=⟨v,H,I,r,h⟩
 rcases l with ⟨hk,hm⟩ | ⟨hk,c,hc,hcell⟩
 ·exact wpAny_Name (wpAny_loadName_local I.ok.kind hk hn hm fin) hd
 ·rcases hk with hk | hk
  ·exact wpAny_Name (wpAny_loadName_cell I.ok.kind hk hc hcell fin) hd
  ·exact wpAny_Name (wpAny_loadName_free I.ok.kind hk hc hcell fin hcd) hd
theorem Ag {i j pos}:PE X (.Constant (.int i) j pos) (tC (.int i)):=fun _ _ _ H _ I h=>wpAny_Constant_int ⟨.int i,H,I.tok _,⟨_,rfl⟩,h⟩
theorem Dv {b j pos}:PE X (.Constant (.bool b) j pos) (tC (.bl b)):=fun _ _ _ H _ I h=>Constant_bool ⟨.bl b,H,I,rfl,h⟩
theorem CG {j pos}:PE X (.Constant .none j pos) (tC .non):=fun _ _ _ H _ I h=>Constant_none ⟨.non,H,I,rfl,h⟩
theorem JI {x j pos}:PE X (.Constant (.str x) j pos) (tC (.str x)):=fun _ _ _ H _ I h=>Calls.Constant_str ⟨.str x,H,I.tok _,⟨_,rfl⟩,h⟩
def Gl (X:Cx) (x:Str):Prop:=X.env.kindOf x=some .globalImplicit
theorem DT {E:Value->Shared->Prop} {pins:List (Addr × Obj)} {s:Shared} {σ:St} {H:Hp} {x:Str} {u:Value} {pos:Pos} {Q:Value->Shared->Prop} (I:Inv X pins σ H s) (hg:Gl X x) (hm:X.mg x=some u) (h:Q u s)
 (hd:(x == ("__debug__":Str))=false:=by decide):wpAny (model X.prog X.w) X.A (eval (.Name x pos) X.env) Q E s :=
 Calls.Name_function_global I.ok.kind hg (Calls.loadGlobal_global (by rw [I.ok.glob];exact I.mod.glob.keeps I.bk) hm h) hd
theorem CH {E:Value->Shared->Prop} {pins:List (Addr × Obj)} {s:Shared} {σ:St} {H:Hp} {x:Str} {u:Value} {pos:Pos} {Q:Value->Shared->Prop} (I:Inv X pins σ H s) (hg:Gl X x) (hm:X.mg x=none) (hv:bootBuiltins x=some u) (h:Q u s)
 (hn:x≠"__name__":=by decide) (hd:(x == ("__debug__":Str))=false:=by decide):wpAny (model X.prog X.w) X.A (eval (.Name x pos) X.env) Q E s:=by
 obtain ⟨mb,h1,h2⟩:=I.mod.blt
 exact Calls.Name_function_global I.ok.kind hg (Calls.loadGlobal_builtin (by rw [I.ok.glob];exact I.mod.glob.keeps I.bk) hm (by rw [I.ok.blt];exact h1.keeps I.bk) ((h2 x hn).trans hv) h) hd
theorem B3 {x:Str} {v:V} {u:Value} {pos:Pos} (hg:Gl X x) (hm:X.mg x=some u) (r:Av v u) (hd:(x == ("__debug__":Str))=false:=by decide):PE X (.Name x pos) (tC v) :=
 fun _ _ _ H _ I h=>DT I hg hm ⟨v,H,I,r,h⟩ hd
theorem CN {x:Str} {v:V} {u:Value} {pos:Pos} (hg:Gl X x) (hm:X.mg x=none) (hv:bootBuiltins x=some u) (r:Av v u) (hn:x≠"__name__":=by decide) (hd:(x == ("__debug__":Str))=false:=by decide):PE X (.Name x pos) (tC v) :=
 fun _ _ _ H _ I h=>CH I hg hm hv ⟨v,H,I,r,h⟩ hn hd
variable {a b:Expr} {ta tb:TE} {pos:Pos}
def tB (t:TE):TT:=fun σ H Q=>t σ H fun x H1=>∃c,x=.bl c/\Q c H1
theorem CT {e:Expr} {t:TE} (h:PE X e t) (he:∀whole,isTrue e X.env whole=(do let v <- whole;standAt e.pos;holding [v] (truthy v)):=by intro _;rfl):PT X e (tB t):=by
 intro pins s σ H Q I hw
 refine isTrue_plain (thn (h pins s σ H _ I hw) fun v s1 ⟨x,H1,I1,r1,q1⟩=>?_) (he _)
 obtain ⟨d,rfl,q⟩:=q1
 cases r1
 exact wpAny_truthy_bool ⟨H1,I1,q⟩
variable {tA tB':TT} {rest:List Expr}
def QT (t u:TT):TT:=fun σ H Q=>t σ H fun c H1=>if c=true then u σ H1 Q else Q false H1
def tOr (t u:TT):TT:=fun σ H Q=>t σ H fun c H1=>if c=true then Q true H1 else u σ H1 Q
def Ra (t:TT):TT:=fun σ H Q=>t σ H fun c H1=>Q (!c) H1
theorem Kt (ha:PT X a tA):PW X (.BoolOp .And [a] pos) tA:=by
 intro wh pins s σ H Q I h
 refine isTrue_and (thn (ha pins s σ H Q I h) fun c s1 e=>?_)
 cases c with
 | true=>exact isTrue_and_nil e
 | false=>exact e
theorem E8 (ha:PT X a tA):PW X (.BoolOp .Or [a] pos) tA:=by
 intro wh pins s σ H Q I h
 refine isTrue_or (thn (ha pins s σ H Q I h) fun c s1 e=>?_)
 cases c with
 | false=>exact isTrue_or_nil e
 | true=>exact e
theorem Nx (ha:PT X a tA) (hb:PW X (.BoolOp .And (b :: rest) pos) tB'):PW X (.BoolOp .And (a :: b :: rest) pos) (QT tA tB'):=by
 intro wh pins s σ H Q I h
 refine isTrue_and (thn (ha pins s σ H _ I h) fun c s1 ⟨H1,I1,q1⟩=>?_)
 cases c with
 | true=>exact hb wh pins s1 σ H1 Q I1 q1
 | false=>exact ⟨H1,I1,q1⟩
theorem Ea (ha:PT X a tA) (hb:PW X (.BoolOp .Or (b :: rest) pos) tB'):PW X (.BoolOp .Or (a :: b :: rest) pos) (tOr tA tB'):=by
 intro wh pins s σ H Q I h
 refine isTrue_or (thn (ha pins s σ H _ I h) fun c s1 ⟨H1,I1,q1⟩=>?_)
 cases c with
 | true=>exact ⟨H1,I1,q1⟩
 | false=>exact hb wh pins s1 σ H1 Q I1 q1
theorem CS (ha:PT X a tA):PT X (.UnaryOp .Not a pos) (Ra tA):=by
 intro pins s σ H Q I h
 exact isTrue_not (ha pins s σ H (fun c H1=>Q (!c) H1) I h)
def Q9 (ta tb:TE):TE:=fun σ H Q=>ta σ H fun x H1=>∃c,x=.bl c/\if c=true then tb σ H1 Q else Q (.bl false) H1
def Qk (ta:TE):TE:=fun σ H Q=>ta σ H fun x H1=>∃c,x=.bl c/\Q (.bl (!c)) H1
theorem DG {op} {t:TE} (h:PE X a t):PE X (.BoolOp op [a] pos) t:=fun pins s σ H Q I hw=>BoolOp_one (h pins s σ H Q I hw)
theorem Dm (ha:PE X a ta) (hb:PE X (.BoolOp .And (b :: rest) pos) tb):PE X (.BoolOp .And (a :: b :: rest) pos) (Q9 ta tb):=by
 intro pins s σ H Q I h
 refine BoolOp_and (thn (ha pins s σ H _ I h) fun v s1 ⟨x,H1,I1,r1,q1⟩=>?_)
 obtain ⟨c,rfl,q1⟩:=q1
 cases r1
 refine wpAny_truthy_bool ?_
 cases c with
 | true=>exact hb pins s1 σ H1 Q I1 q1
 | false=>exact ⟨.bl false,H1,I1,rfl,q1⟩
theorem Hu (ha:PE X a ta):PE X (.UnaryOp .Not a pos) (Qk ta):=by
 intro pins s σ H Q I h
 refine UnaryOp_ (thn (ha pins s σ H _ I h) fun v s1 ⟨x,H1,I1,r1,q1⟩=>?_)
 obtain ⟨c,rfl,q1⟩:=q1
 cases r1
 exact not_of (wpAny_truthy_bool ⟨.bl (!c),H1,I1,rfl,q1⟩)
def tIf (t:TT) (ta tb:TE):TE:=fun σ H Q=>t σ H fun c H1=>if c=true then ta σ H1 Q else tb σ H1 Q
theorem Ip {c:Expr} (hc:PT X c tA) (ha:PE X a ta) (hb:PE X b tb):PE X (.IfExp c a b pos) (tIf tA ta tb):=by
 intro pins s σ H Q I h
 refine wpAny_IfExp (thn (hc pins s σ H _ I h) fun d s1 ⟨H1,I1,q1⟩=>?_)
 cases d with
 | true=>exact ha pins s1 σ H1 Q I1 q1
 | false=>exact hb pins s1 σ H1 Q I1 q1
end
end L2
namespace L2
open PySem PySem.Spec PyProof.Rows
def SqL (K:PySem.W.Frag) (H:Hp) (a:Addr) (xs:List V):Prop :=
 Rd H a (.lst xs) \/
  ∃(o:Obj) (its:Array Value) (n:Nat),K.lookup a=some o/\o.cls=.type "list"/\o.dict=none/\o.data=.seq its n/\its.size<=sizeLine/\Aw xs its.toList
def SqT (K:PySem.W.Frag) (H:Hp) (a:Addr) (xs:List V):Prop :=
 Rd H a (.tup xs) \/
  ∃(o:Obj) (its:Array Value) (n:Nat),K.lookup a=some o/\o.cls=.type "tuple"/\o.data=.seq its n/\its.size<=sizeLine/\Aw xs its.toList
def QR:Value->Option V
 | .none=>some .non
 | .bool b=>some (.bl b)
 | .int i _=>some (.int i)
 | .str x _=>some (.str x)
 | .bytes b _=>some (.byt b)
 | .float b _=>some (.flt b)
 | .ref a=>some (.ref a)
 | .type n=>some (.ty n)
 | _=>none
theorem Av.abs {x:V} {u:Value} (r:Av x u):QR u=some x:=by
 cases x with
 | non=>cases r;rfl
 | bl _=>cases r;rfl
 | int _=>obtain ⟨t,rfl⟩:=r;rfl
 | str _=>obtain ⟨t,rfl⟩:=r;rfl
 | byt _=>obtain ⟨t,rfl⟩:=r;rfl
 | flt _=>obtain ⟨t,rfl⟩:=r;rfl
 | ref _=>cases r;rfl
 | ty _=>cases r;rfl
theorem Av.inj {x y:V} {u:Value} (r:Av x u) (q:Av y u):x=y:=Option.some.inj (r.abs.symm.trans q.abs)
theorem Aw.inj:∀{xs ys:List V} {us:List Value},Aw xs us->Aw ys us->xs=ys
 | _,_,_,.nil,.nil=>rfl
 | _,_,_,.cons r t,.cons r' t'=>by rw [r.inj r',Aw.inj t t']
section
variable {X:Cx} {pins:List (Addr × Obj)} {σ:St} {H:Hp} {s:Shared} {a:Addr} {xs ys:List V}
theorem SqL.of {K:PySem.W.Frag} (h:H a=some (.lst xs)):SqL K H a xs:=.inl (.inl h)
theorem SqT.of {K:PySem.W.Frag} (h:H a=some (.tup xs)):SqT K H a xs:=.inl (.inl h)
theorem Inv.list (I:Inv X pins σ H s) (h:SqL X.K H a xs):∃its:List Value,Aw xs its/\PlainL s.heap a its.toArray/\xs.length<=sizeLine:=by
 rcases h with h | ⟨o,its,n,hk,hc,hd,hs,hz,r⟩
 ·obtain ⟨z,its,n,r,e⟩:=h.ok I.hok
  exact ⟨its,r,⟨_,n,e,rfl,rfl,rfl⟩,z⟩
 ·refine ⟨its.toList,r,⟨o,n,I.kIn a o hk,hc,hd,by simpa using hs⟩,?_⟩
  have e:=r.length
  simp only [Array.length_toList] at e
  omega
theorem Inv.tuple (I:Inv X pins σ H s) (h:SqT X.K H a xs):∃its:List Value,Aw xs its/\IsTup s.heap a its.toArray/\xs.length<=sizeLine:=by
 rcases h with h | ⟨o,its,n,hk,hc,hs,hz,r⟩
 ·obtain ⟨z,its,r,p⟩:=h.ok I.hok
  exact ⟨its,r,p,z⟩
 ·refine ⟨its.toList,r,⟨o,I.kIn a o hk,hc,n,by simpa using hs⟩,?_⟩
  have e:=r.length
  simp only [Array.length_toList] at e
  omega
theorem Inv.list_inj (I:Inv X pins σ H s) (h:SqL X.K H a xs) (h':SqL X.K H a ys):xs=ys:=by
 obtain ⟨its,r,⟨o,n,e,_,_,d⟩,_⟩:=I.list h
 obtain ⟨its',r',⟨o',n',e',_,_,d'⟩,_⟩:=I.list h'
 rw [e] at e';cases e'
 rw [d] at d'
 injection d' with d1 _
 have:its=its':=by simpa using congrArg Array.toList d1
 subst this
 exact r.inj r'
theorem Inv.tuple_inj (I:Inv X pins σ H s) (h:SqT X.K H a xs) (h':SqT X.K H a ys):xs=ys:=by
 obtain ⟨its,r,⟨o,e,_,n,d⟩,_⟩:=I.tuple h
 obtain ⟨its',r',⟨o',e',_,n',d'⟩,_⟩:=I.tuple h'
 rw [e] at e';cases e'
 rw [d] at d'
 injection d' with d1 _
 have:its=its':=by simpa using congrArg Array.toList d1
 subst this
 exact r.inj r'
end
abbrev Cx.wish (X:Cx) (E:Value->Shared->Prop):Cx:={ X with xe:=E }
abbrev Cx.nox (X:Cx):Cx:=X.wish fun _ _=>False
theorem Cx.Ok.wish {X:Cx} (ok:X.Ok) (E:Value->Shared->Prop):(X.wish E).Ok :=
 ⟨ok.mod,ok.kind,ok.glob,ok.blt,ok.above,ok.inj,ok.has,ok.cab,ok.hd,ok.frames,ok.stk,ok.exf,ok.bs,ok.bsz,ok.noex,ok.exfs,ok.funs,ok.frf⟩
theorem Cx.Ok.unwish {X:Cx} {E:Value->Shared->Prop} (ok:(X.wish E).Ok):X.Ok :=
 ⟨ok.mod,ok.kind,ok.glob,ok.blt,ok.above,ok.inj,ok.has,ok.cab,ok.hd,ok.frames,ok.stk,ok.exf,ok.bs,ok.bsz,ok.noex,ok.exfs,ok.funs,ok.frf⟩
section
variable {X:Cx} {pins:List (Addr × Obj)} {σ:St} {H:Hp} {s:Shared} {E:Value->Shared->Prop}
theorem Inv.wish (I:Inv X pins σ H s) (E:Value->Shared->Prop):Inv (X.wish E) pins σ H s:=⟨I.ok.wish E,I.os,I.bare,I.base,I.loc,I.cell,I.free,I.freeC,I.pin,I.hok,I.len⟩
theorem Inv.unwish (I:Inv (X.wish E) pins σ H s):Inv X pins σ H s:=⟨I.ok.unwish,I.os,I.bare,I.base,I.loc,I.cell,I.free,I.freeC,I.pin,I.hok,I.len⟩
theorem SP.unwish {D:Fg} {f:Flow} {s':Shared} (h:SP (X.wish E) pins D f s'):SP X pins D f s':=by
 cases f with
 | next=>obtain ⟨σ',H',I,q⟩:=h;exact ⟨σ',H',I.unwish,q⟩
 | brk=>obtain ⟨σ',H',I,q⟩:=h;exact ⟨σ',H',I.unwish,q⟩
 | cont=>obtain ⟨σ',H',I,q⟩:=h;exact ⟨σ',H',I.unwish,q⟩
 | ret u=>obtain ⟨v,σ',H',I,r,q⟩:=h;exact ⟨v,σ',H',I.unwish,r,q⟩
theorem PSs.nox {st:List Stmt} {t:TS} (h:PSs X.nox st t):PSs X st t:=fun pins s σ H D I hw =>
 wpAny_mono (h pins s σ H D (I.wish _) hw) (fun _ _ q=>q.unwish) fun _ _ z=>False.elim z
end
section
variable {X:Cx} {st:Stmt} {rest:List Stmt} {t u:TS} {e:Expr} {te:TE} {pos:Pos}
def Qn:TS:=fun D σ H=>D.nx σ H
def Rk (t u:TS):TS:=fun D σ H=>t { D with nx:=u D } σ H
theorem Bb:PSs X [] Qn:=fun _ _ σ H _ I h=>wpAny_execs_nil ⟨σ,H,I,h⟩
theorem Af (h1:PS X st t) (h2:PSs X rest u):PSs X (st :: rest) (Rk t u):=by
 intro pins s σ H D I h
 refine wpAny_execs_cons (thn (h1 pins s σ H { D with nx:=u D } I h) fun f s1 q=>?_)
 cases f with
 | next =>
   obtain ⟨σ',H',I',q⟩:=q
   exact h2 pins s1 σ' H' D I' q
 | ret v=>exact q
 | brk=>exact q
 | cont=>exact q
theorem Ah (h1:PS X st t):PSs X [st] t:=by
 intro pins s σ H D I h
 refine wpAny_execs_cons (thn (h1 pins s σ H D I h) fun f s1 q=>?_)
 cases f with
 | next=>exact wpAny_execs_nil q
 | ret v=>exact q
 | brk=>exact q
 | cont=>exact q
theorem Inv.quiet {pins:List (Addr × Obj)} {σ:St} {H:Hp} {s:Shared} (I:Inv X pins σ H s):interactive X.env=false:=by simp [interactive,I.ok.kind]
def Qd (te:TE):TS:=fun D σ H=>te σ H fun _ H1=>D.nx σ H1
theorem Cc (he:PE X e te) (hs:swapsWith e none pos.line X.env=pure false:=by rfl):PS X (.Expr e pos) (Qd te):=by
 intro pins s σ H D I h
 exact wpAny_Expr_any (thn (he pins s σ H _ I h) fun v s1 ⟨x,H1,I1,r1,q1⟩=>⟨σ,H1,I1,q1⟩) I.quiet hs
def QO (te:TE):TS:=fun D σ H=>te σ H D.rt
theorem As (he:PE X e te):PS X (.Return (some e) pos) (QO te):=by
 intro pins s σ H D I h
 exact wpAny_Return_some (thn (he pins s σ H _ I h) fun v s1 ⟨x,H1,I1,r1,q1⟩=>⟨x,σ,H1,I1,r1,q1⟩)
def QY (c:TT) (t u:TS):TS:=fun D σ H=>c σ H fun b H1=>if b=true then t D σ H1 else u D σ H1
theorem CK {c:Expr} {a b:List Stmt} {tc:TT} (hc:PT X c tc) (ha:PSs X a t) (hb:PSs X b u):PS X (.If c a b pos) (QY tc t u):=by
 intro pins s σ H D I h
 refine wpAny_If (thn (hc pins s σ H _ I h) fun d s1 ⟨H1,I1,q1⟩=>?_)
 cases d with
 | true=>exact ha pins s1 σ H1 D I1 q1
 | false=>exact hb pins s1 σ H1 D I1 q1
end
abbrev TG:=V->St->Hp->(St->Hp->Prop)->Prop
abbrev TGs:=List V->St->Hp->(St->Hp->Prop)->Prop
def PG (X:Cx) (target:Expr) (t:TG):Prop :=
 ∀(pins:List (Addr × Obj)) (s:Shared) (σ:St) (H:Hp) (v:V) (u:Value) (Q:St->Hp->Prop),Inv X pins σ H s->Av v u->t v σ H Q ->
  wpAny (model X.prog X.w) X.A (assign target X.env u) (fun _ s'=>∃σ' H',Inv X pins σ' H' s'/\Q σ' H') X.xe s
def PGs (X:Cx) (ts:List Expr) (t:TGs):Prop :=
 ∀(pins:List (Addr × Obj)) (s:Shared) (σ:St) (H:Hp) (vs:List V) (us:List Value) (Q:St->Hp->Prop),Inv X pins σ H s->Aw vs us->t vs σ H Q ->
  wpAny (model X.prog X.w) X.A (assignInOrder ((assignEach ts X.env).map (·.2)) us) (fun _ s'=>∃σ' H',Inv X pins σ' H' s'/\Q σ' H') X.xe s
abbrev OY:=V->V->V->Hp->(Hp->Prop)->Prop
def Qr (X:Cx) (t:OY):Prop :=
 ∀(pins:List (Addr × Obj)) (s:Shared) (σ:St) (H:Hp) (o i v:V) (ov iv u:Value) (Q:Hp->Prop),Inv X pins σ H s->Av o ov->Av i iv->Av v u->t o i v H Q ->
  wpAny (model X.prog X.w) X.A (setItem ov iv u) (fun _ s'=>∃H',Inv X pins σ H' s'/\Q H') X.xe s
section
variable {X:Cx} {pos:Pos}
def D1 (i:Nat):TG:=fun v σ H Q=>Q (σ.set i (some v)) H
theorem AC {i:Nat} {x:Str} (hN:X.N.Nodup) (hi:X.N[i]?=some x) (hx:Loc X.env.scope x) (hf:X.fn x=true\/X.env.scope.names.lookup x=some .local:=by first | exact .inl rfl | exact .inr rfl | assumption):PG X (.Name x pos) (D1 i):=by
 intro pins s σ H v u Q I r h
 exact wpAny_assign_Name (FP I hN hi hx r (fun s' I'=>⟨_,H,I',h⟩) hf)
def PP:TGs:=fun vs σ H Q=>vs=[]/\Q σ H
def IP (t:TG) (u:TGs):TGs:=fun vs σ H Q=>∃v r,vs=v :: r/\t v σ H fun σ' H'=>u r σ' H' Q
theorem DK:PGs X [] PP:=by
 intro pins s σ H vs us Q I r h
 obtain ⟨e,h⟩:=h
 subst e
 cases r
 exact assignInOrder_nil ⟨σ,H,I,h⟩
theorem Bj {e:Expr} {es:List Expr} {t:TG} {u:TGs} (h1:PG X e t) (h2:PGs X es u)
 (hs:(assignEach (e :: es) X.env).map (·.2)=assign e X.env :: (assignEach es X.env).map (·.2):=by rfl):PGs X (e :: es) (IP t u):=by
 intro pins s σ H vs us Q I r h
 obtain ⟨v,vr,e1,h⟩:=h
 subst e1
 cases r with
 | cons r rr =>
   rw [hs]
   refine assignInOrder_cons (thn (h1 pins s σ H _ _ _ I r h) fun _ s1 ⟨σ1,H1,I1,q1⟩=>?_)
   exact h2 pins s1 σ1 H1 _ _ Q I1 rr q1
def PF (K:PySem.W.Frag) (n:Nat) (t:TGs):TG:=fun v σ H Q=>∃a xs,v=.ref a/\SqT K H a xs/\xs.length=n/\t xs σ H Q
theorem Ga {es:List Expr} {k:Nat} {t:TGs} {n:Nat} (hc:X.calm=true) (h:PGs X es t)
 (hn:(assignEach es X.env).length=n:=by rfl) (hst:(assignEach es X.env).findIdx? (·.1)=none:=by rfl):PG X (.Tuple es k pos) (PF X.K n t):=by
 intro pins s σ H v u Q I r hw
 obtain ⟨a,xs,e1,hq,hl,hw⟩:=hw
 subst e1
 cases r
 obtain ⟨its,rv,ht,hz⟩:=I.tuple hq
 refine assign_Tuple_tuple (I.ok.hd hc) ht (by simp [hn,<- hl,rv.length]) hst fun h' hx=>?_
 have I1:Inv X pins σ H { s with heap:=h' }:=I.kept (t':=s.toks) fun b o e=>hx b o (Nat.ne_of_lt (Heap.lt_size e)) e
 exact h pins _ σ H xs _ Q I1 (by simpa using rv) hw
def Rf (to ti:TE) (t:OY):TG:=fun v σ H Q=>to σ H fun o H1=>ti σ H1 fun i H2=>t o i v H2 fun H3=>Q σ H3
theorem FO {o i:Expr} {to ti:TE} {t:OY} (ho:PE X o to) (hi:PE X i ti) (hs:Qr X t)
 (ha:∀v,assign (.Subscript o i pos) X.env v=(do
  let ov <- holding [v] (eval o X.env)
  let iv <- holding [v,ov] (eval i X.env)
  standAt pos
  holding [v,ov,iv] (setItem ov iv v)
  release [v,ov,iv] []):=by intro _;rfl):PG X (.Subscript o i pos) (Rf to ti t):=by
 intro pins s σ H v u Q I r h
 rw [ha]
 refine wpAny_bind (wpAny_holding (thn (ho pins s σ H _ I h) fun ov s1 ⟨x,H1,I1,r1,q1⟩=>?_))
 refine wpAny_bind (wpAny_holding (thn (hi pins s1 σ H1 _ I1 q1) fun iv s2 ⟨y,H2,I2,r2,q2⟩=>?_))
 refine wpAny_bind (wpAny_standAt (wpAny_bind (wpAny_holding (thn (hs pins s2 σ H2 x y v ov iv u _ I2 r1 r2 r q2) fun _ s3 ⟨H3,I3,q3⟩=>?_))))
 exact wpAny_release ⟨σ,H3,I3,q3⟩
def Pc (te:TE) (g:TG):TS:=fun D σ H=>te σ H fun x H1=>g x σ H1 D.nx
theorem Ek {tg e:Expr} {te:TE} {g:TG} (he:PE X e te) (hg:PG X tg g) (hs:swapsWithSole [tg] e pos.line X.env=pure false:=by rfl) (hw:swappedStores [tg] e X.env=pure none:=by rfl)
 (h1:(assignEach [tg] X.env).map (·.2)=[assign tg X.env]:=by rfl):PS X (.Assign [tg] e pos) (Pc te g):=by
 intro pins s σ H D I h
 refine wpAny_Assign_stores (thn (he pins s σ H _ I h) fun v s1 ⟨x,H1,I1,r1,q1⟩=>?_) hs hw
 rw [h1]
 exact thn (hg pins s1 σ H1 x v _ I1 r1 q1) fun _ s2 q=>q
theorem An {i:Nat} {x:Str} {e:Expr} {te:TE} {pos':Pos} (hN:X.N.Nodup) (hi:X.N[i]?=some x) (hx:Loc X.env.scope x) (he:PE X e te) (hs:swapsWith e (some (.Name x pos')) pos.line X.env=pure false:=by rfl) (hf:X.fn x=true\/X.env.scope.names.lookup x=some .local:=by first | exact .inl rfl | exact .inr rfl | assumption) :
 PS X (.Assign [.Name x pos'] e pos) (Pc te (D1 i)):=by
 intro pins s σ H D I h
 refine wpAny_Assign_Name (thn (he pins s σ H _ I h) fun v s1 ⟨y,H1,I1,r1,q1⟩=>?_) hs
 exact FP I1 hN hi hx r1 (fun s2 I2=>⟨_,H1,I2,q1⟩) hf
end
section
variable {X:Cx} {pos:Pos}
def PL (c:TT) (tb:TS):TS:=fun D σ H=>∃W:Nat->St->Hp->Prop,(∃m,W m σ H)/\∀m σ H,W m σ H ->
 c σ H fun b H1=>if b=true then ∃N:St->Hp->Prop,(∀σ' H',N σ' H'->∃m',m' < m/\W m' σ' H')/\tb { D with nx:=N,ct:=N,bk:=D.nx } σ H1 else D.nx σ H1
theorem Ev {c:Expr} {body:List Stmt} {tc:TT} {tb:TS} (hp:PassesOwn (model X.prog X.w) X.A X.env X.xe) (hc:PT X c tc) (hb:PSs X body tb):PS X (.While c body [] pos) (PL tc tb):=by
 intro pins s σ H D I h
 obtain ⟨W,⟨m0,w0⟩,turn⟩:=h
 refine wpAny_While (codeAny_whileLoop (fun n s'=>∃σ' H',Inv X pins σ' H' s'/\W n σ' H') ?_ m0 ⟨σ,H,I,w0⟩)
 rintro n s1 ⟨σ1,H1,I1,w1⟩
 refine wpAny_passesOwn hp (thn (hc pins s1 σ1 H1 _ I1 (turn n σ1 H1 w1)) fun b s2 ⟨H2,I2,q2⟩=>?_)
 cases b with
 | true =>
   obtain ⟨N,hN,q2⟩:=q2
   rw [if_pos rfl]
   refine wpAny_passesOwn hp (thn (hb pins s2 σ1 H2 _ I2 q2) fun f s3 q3=>?_)
   cases f with
   | next =>
     obtain ⟨σ3,H3,I3,n3⟩:=q3
     obtain ⟨m',hm,w3⟩:=hN σ3 H3 n3
     exact ⟨m',hm,σ3,H3,I3,w3⟩
   | cont =>
     obtain ⟨σ3,H3,I3,n3⟩:=q3
     obtain ⟨m',hm,w3⟩:=hN σ3 H3 n3
     exact ⟨m',hm,σ3,H3,I3,w3⟩
   | brk=>exact q3
   | ret v=>exact q3
 | false =>
   rw [if_neg Bool.false_ne_true]
   exact wpAny_execs_nil ⟨σ1,H2,I2,q2⟩
end
structure It where
 go:Nat->Hp->Prop
 yld:Nat->Hp->V->Hp->Prop
 stop:Nat->Hp->Prop
def E3 (X:Cx) (pins:List (Addr × Obj)) (H:Hp) (b:Addr):Prop :=
 H b=none/\b≠X.env.locals/\b ∉ X.fs/\(b∈X.ex\/X.s₀.heap.objs.size<=b)/\(∀x c,X.env.cells.lookup x=some c->c≠b)/\∀p∈X.pn++pins,p.1≠b
theorem Inv.fpOk {X:Cx} {pins:List (Addr × Obj)} {σ:St} {H H':Hp} {s:Shared} {b:Addr} (I:Inv X pins σ H s) (hb:s.heap.objs.size<=b) (hn:H' b=none):E3 X pins H' b:=by
 refine ⟨hn,Nat.ne_of_gt (Nat.lt_of_lt_of_le I.lt hb),I.nofs hb,.inr (Nat.le_trans I.sz hb),fun x c e z=>?_,fun p hp z=>?_⟩
 ·obtain ⟨v,q⟩:=I.cell x c e
  exact absurd (Nat.lt_of_lt_of_le q.lt (by rw [z];exact hb)) (Nat.lt_irrefl _)
 ·exact absurd (Nat.lt_of_lt_of_le (Heap.lt_size (I.pin p hp).1) (by rw [z];exact hb)) (Nat.lt_irrefl _)
structure Io (P:Program) (w:World) (K:PySem.W.Frag) (tg:Expr) (J:It) (fp:List Addr) (it:Addr) (tn:Nat->Heap->Prop):Prop where
 mem:it∈fp
 obj:∀i h,tn i h->∀b∈fp,∃o,h.get? b=some o/\∀v,o.data≠.cell v
 keep:∀i h h',tn i h->(∀b∈fp,∀o,h.get? b=some o->h'.get? b=some o)->tn i h'
 item:∀(X:Cx),X.prog=P->X.w=w->X.K=K->X.calm=true->∀(i:Nat) (pins:List (Addr × Obj)) (s:Shared) (σ:St) (H:Hp) (E:Value->Shared->Prop),Inv X pins σ H s->(∀b∈fp,E3 X pins H b)->tn i s.heap->J.go i H ->
  wpAny (model P w) X.A (pyNext (.ref it)) (fun r s1=>∃u,r=some u /\
   wpAny (model P w) X.A (letOwnedTupleGo tg (.ref it) u) (fun _ s2=>∃x H',Inv X pins σ H' s2/\Av x u/\J.yld i H x H'/\tn (i+1) s2.heap/\∀b∈fp,H' b=none) E s1) E s
 done:∀(X:Cx),X.prog=P->X.w=w->X.K=K->X.calm=true->∀(i:Nat) (pins:List (Addr × Obj)) (s:Shared) (σ:St) (H:Hp) (E:Value->Shared->Prop),Inv X pins σ H s->(∀b∈fp,E3 X pins H b)->tn i s.heap->J.stop i H ->
  wpAny (model P w) X.A (pyNext (.ref it)) (fun r s1=>r=none/\Inv X pins σ H s1) E s
 self:∀(A:Around) (i:Nat) (s:Shared) (Q:Value->Shared->Prop) (E:Value->Shared->Prop),tn i s.heap->Q (.ref it) s->wpAny (model P w) A (pyIter (.ref it)) Q E s
abbrev TI:=St->Hp->(It->Hp->Prop)->Prop
def PIE (X:Cx) (pins:List (Addr × Obj)) (σ:St) (tg:Expr) (R:It->Hp->Prop) (itv:Value) (s2:Shared):Prop :=
 ∃(it:Addr) (fp:List Addr) (tn:Nat->Heap->Prop) (J:It) (H':Hp),itv=.ref it/\Inv X pins σ H' s2/\Io X.prog X.w X.K tg J fp it tn/\tn 0 s2.heap/\(∀b∈fp,E3 X pins H' b)/\R J H'
def PI (X:Cx) (tg iter:Expr) (wi:TI):Prop :=
 ∀(pins:List (Addr × Obj)) (s:Shared) (σ:St) (H:Hp) (R:It->Hp->Prop),Inv X pins σ H s->wi σ H R ->
  wpAny (model X.prog X.w) X.A (eval iter X.env) (fun v s1=>wpAny (model X.prog X.w) X.A (pyIter v) (PIE X pins σ tg R) X.xe s1) X.xe s
theorem Mu {M:Model} {A:Around} {E:Value->Shared->Prop} {s:Shared} {tg:Expr} {it:Addr} {u:Value} {o:Obj} {n:String} {vs:Array Value} {Q:Unit->Shared->Prop} (ho:s.heap.get? it=some o) (hc:o.cls=.type n) (hd:o.data=.fields vs)
 (hn:["enumerate","zip","dict_itemiterator","dict_reverseitemiterator","odict_iterator","itertools.zip_longest","itertools.pairwise"].contains n=false) (hQ:Q () s):wpAny M A (letOwnedTupleGo tg (.ref it) u) Q E s:=by
 unfold letOwnedTupleGo
 cases tg <;> first
  | exact wpAny_pure hQ
  | (cases u <;> first
   | exact wpAny_pure hQ
   | (refine wpAny_bind (wpAny_load ho ?_)
      rw [hc,hd]
      show wpAny M A (if (["enumerate","zip","dict_itemiterator","dict_reverseitemiterator","odict_iterator","itertools.zip_longest","itertools.pairwise"].contains n && vs[0]? == some (rawInt _))=true then _ else _) Q E s
      rw [if_neg (by intro h;rw [hn,Bool.false_and] at h;cases h)]
      exact wpAny_pure hQ))
def Itl (K:PySem.W.Frag) (a:Addr):It :=
 ⟨fun i H=>∃xs x,SqL K H a xs/\xs[i]?=some x,fun i H x H'=>H'=H/\∀xs,SqL K H a xs->xs[i]?=some x,fun i H=>∃xs,SqL K H a xs/\xs.length<=i⟩
def Itt (K:PySem.W.Frag) (a:Addr):It :=
 ⟨fun i H=>∃xs x,SqT K H a xs/\xs[i]?=some x,fun i H x H'=>H'=H/\∀xs,SqT K H a xs->xs[i]?=some x,fun i H=>∃xs,SqT K H a xs/\xs.length<=i⟩
def Itr (lo:Int) (n:Nat):It:=⟨fun i _=>i < n,fun i H x H'=>H'=H/\x=.int (lo+i),fun i _=>n<=i⟩
theorem L6 {P:Program} {w:World} {K:PySem.W.Frag} {tg:Expr} (a it:Addr):Io P w K tg (Itl K a) [it] it (fun i h=>h.IsListIter it a i) where
 mem:=by simp
 obj:=fun i h st b hb=>by
  have e:b=it:=by simpa using hb
  subst e
  obtain ⟨o,e,c,d⟩:=st
  exact ⟨o,e,fun v z=>by rw [d] at z;cases z⟩
 keep:=fun i h h' st k=>st.at fun o e=>k it (by simp) o e
 item:=by
  intro X hP hw hK hc i pins s σ H E I hf st hg
  subst hP hw hK
  obtain ⟨xs,x,hq,hx⟩:=hg
  obtain ⟨its,rv,p,hz⟩:=I.list hq
  obtain ⟨u,hu,ru⟩:=rv.get hx
  obtain ⟨f0,f1,f2,f3,f4,f5⟩:=hf it (by simp)
  refine wpAny_pyNext_list_item st p.isList (x:=u) (by simpa using hu) fun h' st' sb=>?_
  have I1:Inv X pins σ H { s with heap:=h' }:=I.turned (t':=s.toks) (fun b o hb e=>(sb.2 b hb).trans e) f0 f1 f3 f4 f5
  obtain ⟨o,e,c,d⟩:=id st'
  exact ⟨u,rfl,Mu (s:={ s with heap:=h' }) e c d (by decide) ⟨x,H,I1,ru,⟨rfl,fun ys hy=>by rw [I.list_inj hy hq];exact hx⟩,st',fun b hb=>(hf b hb).1⟩⟩
 done:=by
  intro X hP hw hK hc i pins s σ H E I hf st hg
  subst hP hw hK
  obtain ⟨xs,hq,hx⟩:=hg
  obtain ⟨its,rv,p,hz⟩:=I.list hq
  obtain ⟨f0,f1,f2,f3,f4,f5⟩:=hf it (by simp)
  have hl:=rv.length
  exact wpAny_pyNext_list_end (I.ok.hd hc) st p.isList (by simp;omega) fun h' eb=>⟨rfl,I.turned (t':=s.toks) (fun b o hb e=>eb b o hb e) f0 f1 f3 f4 f5⟩
 self:=fun _ _ _ _ _ st h=>wpAny_pyIter_listiter st h
theorem JC {P:Program} {w:World} {K:PySem.W.Frag} {tg:Expr} (a it:Addr):Io P w K tg (Itt K a) [it] it (fun i h=>h.IsTupleIter it a i) where
 mem:=by simp
 obj:=fun i h st b hb=>by
  have e:b=it:=by simpa using hb
  subst e
  obtain ⟨o,e,c,d⟩:=st
  exact ⟨o,e,fun v z=>by rw [d] at z;cases z⟩
 keep:=fun i h h' st k=>st.at fun o e=>k it (by simp) o e
 item:=by
  intro X hP hw hK hc i pins s σ H E I hf st hg
  subst hP hw hK
  obtain ⟨xs,x,hq,hx⟩:=hg
  obtain ⟨its,rv,p,hz⟩:=I.tuple hq
  obtain ⟨u,hu,ru⟩:=rv.get hx
  obtain ⟨f0,f1,f2,f3,f4,f5⟩:=hf it (by simp)
  refine wpAny_pyNext_tuple_item st (show s.heap.IsTuple a its.toArray from p) (x:=u) (by simpa using hu) fun h' st' sb=>?_
  have I1:Inv X pins σ H { s with heap:=h' }:=I.turned (t':=s.toks) (fun b o hb e=>(sb.2 b hb).trans e) f0 f1 f3 f4 f5
  obtain ⟨o,e,c,d⟩:=id st'
  exact ⟨u,rfl,Mu (s:={ s with heap:=h' }) e c d (by decide) ⟨x,H,I1,ru,⟨rfl,fun ys hy=>by rw [I.tuple_inj hy hq];exact hx⟩,st',fun b hb=>(hf b hb).1⟩⟩
 done:=by
  intro X hP hw hK hc i pins s σ H E I hf st hg
  subst hP hw hK
  obtain ⟨xs,hq,hx⟩:=hg
  obtain ⟨its,rv,p,hz⟩:=I.tuple hq
  obtain ⟨f0,f1,f2,f3,f4,f5⟩:=hf it (by simp)
  have hl:=rv.length
  exact wpAny_pyNext_tuple_end (I.ok.hd hc) st (show s.heap.IsTuple a its.toArray from p) (by simp;omega) fun h' eb=>⟨rfl,I.turned (t':=s.toks) (fun b o hb e=>eb b o hb e) f0 f1 f3 f4 f5⟩
 self:=fun _ _ _ _ _ st h=>wpAny_pyIter_tupleiter st h
theorem JS {P:Program} {w:World} {K:PySem.W.Frag} {tg:Expr} (it:Addr) (lo:Int) (n:Nat):Io P w K tg (Itr lo n) [it] it (fun i h=>IsRangeIter h it (lo+(i:Nat)*1) ((n:Int) - (i:Nat)) 1) where
 mem:=by simp
 obj:=fun i h st b hb=>by
  have e:b=it:=by simpa using hb
  subst e
  exact ⟨_,st,fun v z=>by
   have z':Data.fields _=Data.cell v:=z
   cases z'⟩
 keep:=fun i h h' st k=>k it (by simp) _ st
 item:=by
  intro X hP hw hK hc i pins s σ H E I hf st hg
  subst hP hw hK
  obtain ⟨f0,f1,f2,f3,f4,f5⟩:=hf it (by simp)
  have W:=Walks.range (prog:=X.prog) (w:=X.w) (I.ok.hd hc) it lo 1 n
  refine W.item i s _ _ hg st fun v h' tk hv st' kk=>?_
  obtain ⟨t,rfl⟩:=hv
  have I1:Inv X pins σ H { s with heap:=h',toks:=tk }:=I.turned (fun b o hb e=>kk b o (by simpa using hb) e) f0 f1 f3 f4 f5
  refine ⟨_,rfl,Mu (s:={ s with heap:=h',toks:=tk }) (n:="range_iterator") st' rfl rfl (by decide) ⟨.int (lo+i),H,I1,⟨t,?_⟩,⟨rfl,rfl⟩,st',fun b hb=>(hf b hb).1⟩⟩
  rw [Int.mul_one]
 done:=by
  intro X hP hw hK hc i pins s σ H E I hf st hg
  subst hP hw hK
  obtain ⟨f0,f1,f2,f3,f4,f5⟩:=hf it (by simp)
  exact wpAny_pyNext_range_end (I.ok.hd hc) st (by have:n<=i:=hg;omega) fun h' eb=>⟨rfl,I.turned (t':=s.toks) (fun b o hb e=>eb b o hb e) f0 f1 f3 f4 f5⟩
 self:=fun _ _ _ _ _ st h=>wpAny_pyIter_rangeiter st h
end L2
namespace L2
open PySem PySem.Spec PyProof.Rows
section
variable {X:Cx} {tg:Expr}
def OP (K:PySem.W.Frag) (tl:TE):TI:=fun σ H R=>tl σ H fun x H1=>∃a,x=.ref a/\(∃xs,SqL K H1 a xs)/\R (Itl K a) H1
def Re (K:PySem.W.Frag) (tl:TE):TI:=fun σ H R=>tl σ H fun x H1=>∃a,x=.ref a/\(∃xs,SqT K H1 a xs)/\R (Itt K a) H1
theorem AO {l:Expr} {tl:TE} (hl:PE X l tl):PI X tg l (OP X.K tl):=by
 intro pins s σ H R I h
 refine thn (hl pins s σ H _ I h) fun v s1 ⟨x,H1,I1,r1,q1⟩=>?_
 obtain ⟨a,e,⟨xs,hq⟩,q⟩:=q1
 subst e
 cases r1
 obtain ⟨its,rv,p,hz⟩:=I1.list hq
 refine wpAny_pyIter_list p.isList ?_
 refine ⟨s1.heap.objs.size,[s1.heap.objs.size],_,_,H1,rfl,I1.kept (t':=s1.toks) fun b o e=>Heap.get?_push_of_some _ e,L6 a _,⟨_,Heap.get?_push_size _ rfl,rfl,rfl⟩,fun b hb=>?_,q⟩
 have e:b=s1.heap.objs.size:=by simpa using hb
 subst e
 exact I1.fpOk (Nat.le_refl _) (I1.hok.fresh (Nat.le_refl _))
theorem PK {l:Expr} {tl:TE} (hl:PE X l tl):PI X tg l (Re X.K tl):=by
 intro pins s σ H R I h
 refine thn (hl pins s σ H _ I h) fun v s1 ⟨x,H1,I1,r1,q1⟩=>?_
 obtain ⟨a,e,⟨xs,hq⟩,q⟩:=q1
 subst e
 cases r1
 obtain ⟨its,rv,p,hz⟩:=I1.tuple hq
 refine wpAny_pyIter_tuple (show s1.heap.IsTuple a its.toArray from p) ?_
 refine ⟨s1.heap.objs.size,[s1.heap.objs.size],_,_,H1,rfl,I1.kept (t':=s1.toks) fun b o e=>Heap.get?_push_of_some _ e,JC a _,⟨_,Heap.get?_push_size _ rfl,rfl,rfl⟩,fun b hb=>?_,q⟩
 have e:b=s1.heap.objs.size:=by simpa using hb
 subst e
 exact I1.fpOk (Nat.le_refl _) (I1.hok.fresh (Nat.le_refl _))
theorem IS {pins:List (Addr × Obj)} {σ:St} {H:Hp} {s:Shared} {R:It->Hp->Prop} {E:Value->Shared->Prop} {lo hi:Int} {t u v:Tok} {tk:Nat} (I:Inv X pins σ H s) (h1:-(2 ^ 62)<=lo) (h2:lo < 2 ^ 62) (h3:-(2 ^ 62)<=hi) (h4:hi < 2 ^ 62)
 (q:R (Itr lo (hi - lo).toNat) H):wpAny (model X.prog X.w) X.A (pyIter (.ref s.heap.objs.size)) (PIE X pins σ tg R) E { s with heap:=s.heap.push { cls:=.type "range",data:=.fields #[.int lo t,.int hi u,.int 1 v] },toks:=tk }:=by
 refine wpAny_pyIter_range (IsRange.new ..) (small_one h1 h2 h3 h4) ?_
 have I1:Inv X pins σ H { s with heap:=s.heap.push { cls:=.type "range",data:=.fields #[.int lo t,.int hi u,.int 1 v] },toks:=tk }:=I.kept fun b o e=>Heap.get?_push_of_some _ e
 refine ⟨(s.heap.push { cls:=.type "range",data:=.fields #[.int lo t,.int hi u,.int 1 v] }).objs.size,[(s.heap.push { cls:=.type "range",data:=.fields #[.int lo t,.int hi u,.int 1 v] }).objs.size],_,_,H,rfl,
  I1.kept (t':=tk) fun b o e=>Heap.get?_push_of_some _ e,JS _ lo (hi - lo).toNat,?_,fun b hb=>?_,q⟩
 ·have e1:lo+((0:Nat):Int)*1=lo:=by simp
  have e2:(((hi - lo).toNat:Nat):Int) - ((0:Nat):Int)=Builtin.Range.rangeSize lo hi 1:=by rw [rangeSize_one];split <;> omega
  show IsRangeIter _ _ (lo+((0:Nat):Int)*1) ((((hi - lo).toNat:Nat):Int) - ((0:Nat):Int)) 1
  rw [e1,e2]
  exact Heap.get?_push_size _ rfl
 ·have e:b=(s.heap.push { cls:=.type "range",data:=.fields #[.int lo t,.int hi u,.int 1 v] }).objs.size:=by simpa using hb
  subst e
  exact I1.fpOk (Nat.le_refl _) (I1.hok.fresh (Nat.le_refl _))
def Qe (ta:TA):TI:=fun σ H R=>ta σ H fun vs H1=>∃j:Int,vs=[.int j]/\-(2 ^ 62)<=j/\j < 2 ^ 62/\R (Itr 0 j.toNat) H1
def Qh (ta:TA):TI:=fun σ H R=>ta σ H fun vs H1=>∃i j:Int,vs=[.int i,.int j]/\(-(2 ^ 62)<=i/\i < 2 ^ 62/\-(2 ^ 62)<=j/\j < 2 ^ 62)/\R (Itr i (j - i).toNat) H1
theorem Bp {a:Expr} {ta:TA} {p pos:Pos} (hg:Gl X "range") (hm:X.mg "range"=none) (ha:PA X [a] ta) (hs:starEach [a] X.env=[(false,eval a X.env)]:=by rfl):PI X tg (.Call (.Name "range" p) [a] [] pos) (Qe ta):=by
 intro pins s σ H R I h
 refine Call_ (CH I hg hm boot_range (PyProof.Rows.callWith_type1 (thn (ha pos pins s σ H _ I h) fun us s1 ⟨vs,H1,I1,r1,q1⟩=>?_) hs rfl))
 obtain ⟨j,e,q1,q2,q⟩:=q1
 subst e
 cases r1 with
 | cons r rr =>
   cases rr
   obtain ⟨t,rfl⟩:=r
   exact call_range_1 (IS I1 (by omega) (by omega) q1 q2 (by simpa using q))
theorem Lz {a b:Expr} {ta:TA} {p pos:Pos} (hg:Gl X "range") (hm:X.mg "range"=none) (ha:PA X [a,b] ta) (hs:starEach [a,b] X.env=[(false,eval a X.env),(false,eval b X.env)]:=by rfl) (hs2:starEach [b] X.env=[(false,eval b X.env)]:=by rfl) :
 PI X tg (.Call (.Name "range" p) [a,b] [] pos) (Qh ta):=by
 intro pins s σ H R I h
 refine Call_ (CH I hg hm boot_range (PyProof.Rows.callWith_type1 (thn (ha pos pins s σ H _ I h) fun us s1 ⟨vs,H1,I1,r1,q1⟩=>?_) (by rw [hs,hs2]) (by rw [hs2];rfl)))
 obtain ⟨i,j,e,⟨q1,q2,q3,q4⟩,q⟩:=q1
 subst e
 cases r1 with
 | cons r rr =>
   cases rr with
   | cons r' rr =>
     cases rr
     obtain ⟨t,rfl⟩:=r
     obtain ⟨t',rfl⟩:=r'
     exact call_range_2 (IS I1 q1 q2 q3 q4 q)
def QV (wi:TI) (g:TG) (tb:TS):TS:=fun D σ H=>wi σ H fun J H1=>∃W:Nat->Nat->St->Hp->Prop,(∃m,W 0 m σ H1)/\∀i m σ H,W i m σ H ->
 (J.stop i H/\D.nx σ H)\/(J.go i H/\∃N:St->Hp->Prop,(∀σ' H',N σ' H'->∃m',m' < m/\W (i+1) m' σ' H')/\∀x H',J.yld i H x H'->g x σ H' fun σ2 H2=>tb { D with nx:=N,ct:=N,bk:=D.nx } σ2 H2)
def Ej (fp:List Addr) (h:Heap):List (Addr × Obj):=fp.filterMap fun b=>(h.get? b).map fun o=>(b,o)
theorem BE {fp:List Addr} {h:Heap} {b:Addr} {o:Obj} (hb:b∈fp) (e:h.get? b=some o):(b,o)∈Ej fp h:=List.mem_filterMap.mpr ⟨b,hb,by rw [e];rfl⟩
theorem KR {fp:List Addr} {h:Heap} {p:Addr × Obj} (hp:p∈Ej fp h):p.1∈fp/\h.get? p.1=some p.2:=by
 obtain ⟨b,hb,e⟩:=List.mem_filterMap.mp hp
 cases q:h.get? b with
 | none=>rw [q] at e;cases e
 | some o =>
   rw [q] at e
   have e':(b,o)=p:=Option.some.inj e
   subst e'
   exact ⟨hb,q⟩
theorem Inv.pinned {pins:List (Addr × Obj)} {σ:St} {H:Hp} {s:Shared} {fp:List Addr} (I:Inv X pins σ H s) (hf:∀b∈fp,E3 X pins H b) (ho:∀b∈fp,∃o,s.heap.get? b=some o/\∀v,o.data≠.cell v):Inv X (pins++Ej fp s.heap) σ H s :=
 I.pins_of fun p hp=>(List.mem_append.mp hp).elim (fun z=>I.pin p (List.mem_append_right _ z)) fun z=>by
  obtain ⟨hb,e⟩:=KR z
  obtain ⟨f0,f1,f2,_⟩:=hf p.1 hb
  obtain ⟨o,e',d⟩:=ho p.1 hb
  rw [e] at e';cases e'
  exact ⟨e,f0,f1,f2,d⟩
theorem Inv.unpinned {pins pl:List (Addr × Obj)} {σ:St} {H:Hp} {s:Shared} (I:Inv X (pins++pl) σ H s):Inv X pins σ H s:=I.pins_of fun p hp=>I.pin p (List.mem_append_right _ (List.mem_append_left _ hp))
theorem C5 {iter:Expr} {body:List Stmt} {wi:TI} {g:TG} {tb:TS} {pos:Pos} (hp:PassesOwn (model X.prog X.w) X.A X.env X.xe) (hc:X.calm=true) (hi:PI X tg iter wi) (hg:PG X tg g) (hb:PSs X body tb)
 (hs:∀x,foldedSetIterable iter X.env x=pure x:=by intro _;rfl):PS X (.For tg iter body [] pos) (QV wi g tb):=by
 intro pins s σ H D I h
 refine wpAny_For (thn (hi pins s σ H _ I h) fun v s1 h1=>thn h1 fun itv s2 h2=>?_) hs
 obtain ⟨it,fp,tn,J,H2,e,I2,T,st2,f2,W,⟨m0,w0⟩,turn⟩:=h2
 subst e
 have stat:∀{H':Hp},(∀b∈fp,H' b=none)->∀b∈fp,E3 X pins H' b:=fun hn b hb=>⟨hn b hb,(f2 b hb).2⟩
 refine codeAny_forLoop_any (fun n s'=>∃i σ' H',Inv X pins σ' H' s'/\tn i s'.heap/\(∀b∈fp,H' b=none)/\W i n σ' H') ?_ m0 ⟨0,σ,H2,I2,st2,fun b hb=>(f2 b hb).1,w0⟩
 rintro n s3 ⟨i,σ3,H3,I3,st3,fr3,w3⟩
 rcases turn i n σ3 H3 w3 with ⟨stop,qn⟩ | ⟨go,N,hN,step⟩
 ·refine wpAny_passesOwn hp (thn (T.done X rfl rfl rfl hc i pins s3 σ3 H3 X.xe I3 (stat fr3) st3 stop) fun r s4 ⟨hr,I4⟩=>?_)
  subst hr
  exact wpAny_execs_nil ⟨σ3,H3,I4,qn⟩
 ·refine wpAny_passesOwn hp (thn (T.item X rfl rfl rfl hc i pins s3 σ3 H3 X.xe I3 (stat fr3) st3 go) fun r s4 ⟨u,hr,h4⟩=>?_)
  subst hr
  refine wpAny_passesOwn hp (thn h4 fun _ s5 ⟨x,H5,I5,r5,y5,st5,fr5⟩=>?_)
  have I5':=I5.pinned (stat fr5) (T.obj _ _ st5)
  refine wpAny_passesOwn hp (thn (hg _ s5 σ3 H5 x u _ I5' r5 (step x H5 y5)) fun _ s6 ⟨σ6,H6,I6,q6⟩=>?_)
  refine wpAny_passesOwn hp (thn (hb _ s6 σ6 H6 _ I6 q6) fun f s7 q7=>?_)
  have again:∀{σ7:St} {H7:Hp},Inv X (pins++Ej fp s5.heap) σ7 H7 s7->N σ7 H7->∃m,m < n/\∃i σ' H',Inv X pins σ' H' s7/\tn i s7.heap/\(∀b∈fp,H' b=none)/\W i m σ' H':=fun {σ7 H7} I7 n7=>by
   obtain ⟨m',hm,w7⟩:=hN σ7 H7 n7
   refine ⟨m',hm,i+1,σ7,H7,I7.unpinned,T.keep _ _ _ st5 fun b hb o e=>(I7.pin (b,o) (List.mem_append_right _ (List.mem_append_right _ (BE hb e)))).1,fun b hb=>?_,w7⟩
   obtain ⟨o,e,d⟩:=T.obj _ _ st5 b hb
   exact (I7.pin (b,o) (List.mem_append_right _ (List.mem_append_right _ (BE hb e)))).2.1
  cases f with
  | next=>obtain ⟨σ7,H7,I7,n7⟩:=q7;exact again I7 n7
  | cont=>obtain ⟨σ7,H7,I7,n7⟩:=q7;exact again I7 n7
  | brk=>obtain ⟨σ7,H7,I7,q7⟩:=q7;exact ⟨σ7,H7,I7.unpinned,q7⟩
  | ret v=>obtain ⟨x7,σ7,H7,I7,r7,q7⟩:=q7;exact ⟨x7,σ7,H7,I7.unpinned,r7,q7⟩
end
theorem Db {K:PySem.W.Frag} {a:Addr} {xs:List V} {g:TG} {tb:TS} {D:Fg} {σ:St} {H:Hp} (Pv:Nat->St->Hp->Prop) (h0:Pv 0 σ H) (hl:∀i σ H,i<=xs.length->Pv i σ H->SqL K H a xs)
 (hs:∀i x σ H,xs[i]?=some x->Pv i σ H->g x σ H fun σ2 H2=>tb { D with nx:=Pv (i+1),ct:=Pv (i+1),bk:=D.nx } σ2 H2) (hd:∀σ H,Pv xs.length σ H->D.nx σ H) :
 ∃W:Nat->Nat->St->Hp->Prop,(∃m,W 0 m σ H)/\∀i m σ H,W i m σ H ->
  ((Itl K a).stop i H/\D.nx σ H)\/((Itl K a).go i H/\∃N:St->Hp->Prop,(∀σ' H',N σ' H'->∃m',m' < m/\W (i+1) m' σ' H')/\∀x H',(Itl K a).yld i H x H'->g x σ H' fun σ2 H2=>tb { D with nx:=N,ct:=N,bk:=D.nx } σ2 H2):=by
 refine ⟨fun i m σ H=>m=xs.length - i/\i<=xs.length/\Pv i σ H,⟨xs.length,by simp,Nat.zero_le _,h0⟩,?_⟩
 rintro i m σ H ⟨rfl,hi,p⟩
 have q:=hl i σ H hi p
 by_cases hlt:i < xs.length
 ·refine .inr ⟨⟨xs,xs[i],q,by simp [hlt]⟩,Pv (i+1),fun σ' H' p'=>⟨xs.length - (i+1),by omega,rfl,hlt,p'⟩,fun x H' y=>?_⟩
  obtain ⟨e,y⟩:=y
  subst e
  exact hs i x σ _ (y xs q) p
 ·have e:i=xs.length:=by omega
  subst e
  exact .inl ⟨⟨xs,q,Nat.le_refl _⟩,hd σ H p⟩
theorem Oj {K:PySem.W.Frag} {a:Addr} {xs:List V} {g:TG} {tb:TS} {D:Fg} {σ:St} {H:Hp} (Pv:Nat->St->Hp->Prop) (h0:Pv 0 σ H) (hl:∀i σ H,i<=xs.length->Pv i σ H->SqT K H a xs)
 (hs:∀i x σ H,xs[i]?=some x->Pv i σ H->g x σ H fun σ2 H2=>tb { D with nx:=Pv (i+1),ct:=Pv (i+1),bk:=D.nx } σ2 H2) (hd:∀σ H,Pv xs.length σ H->D.nx σ H) :
 ∃W:Nat->Nat->St->Hp->Prop,(∃m,W 0 m σ H)/\∀i m σ H,W i m σ H ->
  ((Itt K a).stop i H/\D.nx σ H)\/((Itt K a).go i H/\∃N:St->Hp->Prop,(∀σ' H',N σ' H'->∃m',m' < m/\W (i+1) m' σ' H')/\∀x H',(Itt K a).yld i H x H'->g x σ H' fun σ2 H2=>tb { D with nx:=N,ct:=N,bk:=D.nx } σ2 H2):=by
 refine ⟨fun i m σ H=>m=xs.length - i/\i<=xs.length/\Pv i σ H,⟨xs.length,by simp,Nat.zero_le _,h0⟩,?_⟩
 rintro i m σ H ⟨rfl,hi,p⟩
 have q:=hl i σ H hi p
 by_cases hlt:i < xs.length
 ·refine .inr ⟨⟨xs,xs[i],q,by simp [hlt]⟩,Pv (i+1),fun σ' H' p'=>⟨xs.length - (i+1),by omega,rfl,hlt,p'⟩,fun x H' y=>?_⟩
  obtain ⟨e,y⟩:=y
  subst e
  exact hs i x σ _ (y xs q) p
 ·have e:i=xs.length:=by omega
  subst e
  exact .inl ⟨⟨xs,q,Nat.le_refl _⟩,hd σ H p⟩
theorem DS {lo:Int} {n:Nat} {g:TG} {tb:TS} {D:Fg} {σ:St} {H:Hp} (Pv:Nat->St->Hp->Prop) (h0:Pv 0 σ H)
 (hs:∀i σ H,i < n->Pv i σ H->g (.int (lo+i)) σ H fun σ2 H2=>tb { D with nx:=Pv (i+1),ct:=Pv (i+1),bk:=D.nx } σ2 H2) (hd:∀σ H,Pv n σ H->D.nx σ H) :
 ∃W:Nat->Nat->St->Hp->Prop,(∃m,W 0 m σ H)/\∀i m σ H,W i m σ H ->
  ((Itr lo n).stop i H/\D.nx σ H)\/((Itr lo n).go i H/\∃N:St->Hp->Prop,(∀σ' H',N σ' H'->∃m',m' < m/\W (i+1) m' σ' H')/\∀x H',(Itr lo n).yld i H x H'->g x σ H' fun σ2 H2=>tb { D with nx:=N,ct:=N,bk:=D.nx } σ2 H2):=by
 refine ⟨fun i m σ H=>m=n - i/\i<=n/\Pv i σ H,⟨n,by simp,Nat.zero_le _,h0⟩,?_⟩
 rintro i m σ H ⟨rfl,hi,p⟩
 by_cases hlt:i < n
 ·refine .inr ⟨hlt,Pv (i+1),fun σ' H' p'=>⟨n - (i+1),by omega,rfl,hlt,p'⟩,fun x H' y=>?_⟩
  obtain ⟨e,y⟩:=y
  subst e y
  exact hs i σ _ hlt p
 ·have e:i=n:=by omega
  subst e
  exact .inl ⟨Nat.le_refl _,hd σ H p⟩
end L2
namespace L2
open PySem PySem.Spec PyProof.Rows
abbrev R2:=V->V->Hp->VK->Prop
def OpR (X:Cx) (f:Value->Value->Sem Value) (r:R2):Prop :=
 ∀(pins:List (Addr × Obj)) (s:Shared) (σ:St) (H:Hp) (x y:V) (v u:Value) (Q:VK),Inv X pins σ H s->Av x v->Av y u->r x y H Q ->
  wpAny (model X.prog X.w) X.A (f v u) (EP X pins σ Q) X.xe s
def UnR (X:Cx) (f:Value->Sem Value) (r:V->Hp->VK->Prop):Prop :=
 ∀(pins:List (Addr × Obj)) (s:Shared) (σ:St) (H:Hp) (x:V) (v:Value) (Q:VK),Inv X pins σ H s->Av x v->r x H Q ->
  wpAny (model X.prog X.w) X.A (f v) (EP X pins σ Q) X.xe s
def Cy (X:Cx) (f:Value) (r:List V->Hp->VK->Prop):Prop :=
 ∀(pins:List (Addr × Obj)) (s:Shared) (σ:St) (H:Hp) (xs:List V) (us:List Value) (Q:VK),Inv X pins σ H s->Aw xs us->r xs H Q ->
  wpAny (model X.prog X.w) X.A (call f us) (EP X pins σ Q) X.xe s
def tOp (r:R2) (ta tb:TE):TE:=fun σ H Q=>ta σ H fun x H1=>tb σ H1 fun y H2=>r x y H2 Q
def tUn (r:V->Hp->VK->Prop) (ta:TE):TE:=fun σ H Q=>ta σ H fun x H1=>r x H1 Q
def rI (C:Int->Int->Prop) (g:Int->Int->V):R2:=fun x y H Q=>∃i j,x=.int i/\y=.int j/\C i j/\Q (g i j) H
def rI0 (g:Int->Int->V):R2:=fun x y H Q=>∃i j,x=.int i/\y=.int j/\Q (g i j) H
def rU (g:Int->V):V->Hp->VK->Prop:=fun x H Q=>∃i,x=.int i/\Q (g i) H
section
variable {X:Cx} {a b c:Expr} {ta tb tc:TE} {pos:Pos}
theorem OX (ha:PE X a ta) (hb:PE X b tb) {pins:List (Addr × Obj)} {s:Shared} {σ:St} {H:Hp} {R:V->V->Hp->Prop} (I:Inv X pins σ H s)
 (h:ta σ H fun x H1=>tb σ H1 fun y H2=>R x y H2) {Q:Value->Shared->Prop} {f:Value->Value->Sem Value}
 (hf:∀v u s2 x y H2,Inv X pins σ H2 s2->Av x v->Av y u->R x y H2->wpAny (model X.prog X.w) X.A (f v u) Q X.xe s2) :
 wpAny (model X.prog X.w) X.A (eval a X.env) (fun v s₁=>wpAny (model X.prog X.w) X.A (eval b X.env) (fun u s₂=>wpAny (model X.prog X.w) X.A (f v u) Q X.xe s₂) X.xe s₁) X.xe s:=by
 refine thn (ha pins s σ H _ I h) fun v s1 ⟨x,H1,I1,r1,q1⟩=>?_
 refine thn (hb pins s1 σ H1 _ I1 q1) fun u s2 ⟨y,H2,I2,r2,q2⟩=>?_
 exact hf v u s2 x y H2 I2 r1 r2 q2
theorem Aj {op:Operator} {r:R2} (ho:OpR X (binaryOp op) r) (ha:PE X a ta) (hb:PE X b tb):PE X (.BinOp a op b pos) (tOp r ta tb):=by
 intro pins s σ H Q I h
 exact wpAny_BinOp (OX ha hb I h fun v u s2 x y H2 I2 rx ry q=>ho pins s2 σ H2 x y v u Q I2 rx ry q)
theorem QJ {op:UnaryOp} {r:V->Hp->VK->Prop} (ho:UnR X (unaryOp op) r) (ha:PE X a ta):PE X (.UnaryOp op a pos) (tUn r ta):=by
 intro pins s σ H Q I h
 exact UnaryOp_ (thn (ha pins s σ H _ I h) fun v s1 ⟨x,H1,I1,r1,q1⟩=>ho pins s1 σ H1 x v Q I1 r1 q1)
theorem opI {f:Value->Value->Sem Value} {C:Int->Int->Prop} {g:Int->Int->Int}
 (rule:∀(i j:Int) (t u:Tok) (s:Shared) (Q:Value->Shared->Prop) (E:Value->Shared->Prop),C i j->Q (.int (g i j) s.toks) { s with toks:=s.toks+1 }->wpAny (model X.prog X.w) X.A (f (.int i t) (.int j u)) Q E s) :
 OpR X f (rI C fun i j=>.int (g i j)):=by
 intro pins s σ H x y v u Q I rx ry h
 obtain ⟨i,j,rfl,rfl,hc,q⟩:=h
 obtain ⟨t,rfl⟩:=rx
 obtain ⟨t',rfl⟩:=ry
 exact rule i j t t' s _ _ hc ⟨.int (g i j),H,I.tok _,⟨_,rfl⟩,q⟩
theorem O5 {f:Value->Value->Sem Value} {g:Int->Int->Int}
 (rule:∀(i j:Int) (t u:Tok) (s:Shared) (Q:Value->Shared->Prop) (E:Value->Shared->Prop),Q (.int (g i j) s.toks) { s with toks:=s.toks+1 }->wpAny (model X.prog X.w) X.A (f (.int i t) (.int j u)) Q E s) :
 OpR X f (rI0 fun i j=>.int (g i j)):=by
 intro pins s σ H x y v u Q I rx ry h
 obtain ⟨i,j,rfl,rfl,q⟩:=h
 obtain ⟨t,rfl⟩:=rx
 obtain ⟨t',rfl⟩:=ry
 exact rule i j t t' s _ _ ⟨.int (g i j),H,I.tok _,⟨_,rfl⟩,q⟩
theorem Pm {f:Value->Value->Sem Value} {g:Int->Int->Bool}
 (rule:∀(i j:Int) (t u:Tok) (s:Shared) (Q:Value->Shared->Prop) (E:Value->Shared->Prop),Q (.bool (g i j)) s->wpAny (model X.prog X.w) X.A (f (.int i t) (.int j u)) Q E s) :
 OpR X f (rI0 fun i j=>.bl (g i j)):=by
 intro pins s σ H x y v u Q I rx ry h
 obtain ⟨i,j,rfl,rfl,q⟩:=h
 obtain ⟨t,rfl⟩:=rx
 obtain ⟨t',rfl⟩:=ry
 exact rule i j t t' s _ _ ⟨.bl (g i j),H,I,rfl,q⟩
def MX (i j:Int):Prop:=0<=j/\j<=1000000/\i.natAbs < 2 ^ 64
theorem Ke (k:Nat):(0:Int)<=2 ^ k:=by
 rw [two_pow_cast]
 exact Int.natCast_nonneg _
theorem AU:OpR X (binaryOp .Add) (rI0 fun i j=>.int (i+j)):=O5 fun _ _ _ _ _ _ _ q=>add_int q
theorem NJ:OpR X (binaryOp .Sub) (rI0 fun i j=>.int (i - j)):=O5 fun _ _ _ _ _ _ _ q=>sub_int q
theorem AM:OpR X (binaryOp .Mod) (rI (fun _ j=>j≠0) fun i j=>.int (i.fmod j)):=opI fun _ _ _ _ _ _ _ hc q=>mod_int' hc q
theorem Hj:OpR X (binaryOp .Pow) (rI MX fun i j=>.int (i ^ j.toNat)):=opI fun _ _ _ _ _ _ _ hc q=>pow_int_small hc.1 hc.2.1 hc.2.2 q
theorem Ki:OpR X (binaryOp .LShift) (rI MX fun i j=>.int (i*2 ^ j.toNat)):=opI fun _ _ _ _ _ _ _ hc q=>lshift_int_small hc.1 hc.2.1 hc.2.2 q
theorem P9:OpR X (binaryOp .RShift) (rI (fun _ j=>0<=j) fun i j=>.int (i / 2 ^ j.toNat)):=opI fun i j _ _ _ _ _ hc q =>
 rshift_int hc (by rw [Int.fdiv_eq_ediv_of_nonneg i (Ke _)];exact q)
theorem ML:OpR X (binaryOp .BitAnd) (rI0 fun i j=>.int (Builtin.bitAnd i j)):=O5 fun _ _ _ _ _ _ _ q=>and_int q
theorem Qz:OpR X (binaryOp .BitOr) (rI0 fun i j=>.int (Builtin.bitOr i j)):=O5 fun _ _ _ _ _ _ _ q=>or_int q
theorem unI {f:Value->Sem Value} {g:Int->Int}
 (rule:∀(i:Int) (t:Tok) (s:Shared) (Q:Value->Shared->Prop) (E:Value->Shared->Prop),Q (.int (g i) s.toks) { s with toks:=s.toks+1 }->wpAny (model X.prog X.w) X.A (f (.int i t)) Q E s) :
 UnR X f (rU fun i=>.int (g i)):=by
 intro pins s σ H x v Q I rx h
 obtain ⟨i,rfl,q⟩:=h
 obtain ⟨t,rfl⟩:=rx
 exact rule i t s _ _ ⟨.int (g i),H,I.tok _,⟨_,rfl⟩,q⟩
theorem Pp:UnR X (unaryOp .Invert) (rU fun i=>.int (Builtin.bitNot i)):=unI fun _ _ _ _ _ q=>invert_int q
end
def QK:V->V->Bool
 | .non,.non=>true | .non,.int _=>true | .int _,.non=>true | .non,.bl _=>true | .bl _,.non=>true | .non,.str _=>true | .str _,.non=>true
 | .int _,.int _=>true | .bl _,.bl _=>true | .str _,.str _=>true | .byt _,.byt _=>true
 | .int _,.str _=>true | .str _,.int _=>true | .bl _,.str _=>true | .str _,.bl _=>true
 | _,_=>false
def rEq:R2:=fun x y H Q=>QK x y=true/\Q (.bl (decide (x=y))) H
def rNe:R2:=fun x y H Q=>QK x y=true/\Q (.bl (!decide (x=y))) H
theorem KC {i j:Int}:decide (V.int i=V.int j)=(i == j):=by
 rw [Bool.eq_iff_iff]
 simp
theorem Ng {i j:Bool}:decide (V.bl i=V.bl j)=(i == j):=by
 rw [Bool.eq_iff_iff]
 simp
theorem KI {i j:Str}:decide (V.str i=V.str j)=(i == j):=by
 rw [Bool.eq_iff_iff]
 simp
theorem Km {i j:Array UInt8}:decide (V.byt i=V.byt j)=(i.toList == j.toList):=by
 rw [Bool.eq_iff_iff]
 cases i
 cases j
 simp
section
variable {X:Cx} {a b c:Expr} {ta tb tc:TE} {pos:Pos}
theorem AB {pins:List (Addr × Obj)} {σ:St} {H:Hp} {s:Shared} {Q:VK} {k k':Bool} (I:Inv X pins σ H s) (q:Q (.bl k) H) (e:k=k'):EP X pins σ Q (.bool k') s:=by
 subst e
 exact ⟨.bl k,H,I,rfl,q⟩
theorem KK:OpR X (compareOp .Eq) rEq:=by
 intro pins s σ H x y v u Q I rx ry h
 obtain ⟨hs,q⟩:=h
 cases x with
 | non =>
   cases rx
   cases y with
   | non=>cases ry;exact PySem.EqNone.eq_none_none (AB I q (by simp))
   | bl j=>cases ry;exact PySem.EqNone.eq_none_bool (AB I q (by simp))
   | int j=>obtain ⟨t',rfl⟩:=ry;exact PySem.EqNone.eq_none_int (AB I q (by simp))
   | str j=>obtain ⟨t',rfl⟩:=ry;exact PySem.EqNone.eq_none_str (AB I q (by simp))
   | _=>exact absurd (show false=true from hs) Bool.false_ne_true
 | bl i =>
   cases rx
   cases y with
   | non=>cases ry;exact PySem.EqNone.eq_bool_none (AB I q (by simp))
   | bl j=>cases ry;exact eq_bool (AB I q Ng)
   | str j=>obtain ⟨t',rfl⟩:=ry;exact PySem.EqMixed.eq_bool_str (AB I q (by simp))
   | _=>exact absurd (show false=true from hs) Bool.false_ne_true
 | int i =>
   obtain ⟨t,rfl⟩:=rx
   cases y with
   | non=>cases ry;exact PySem.EqNone.eq_int_none (AB I q (by simp))
   | int j=>obtain ⟨t',rfl⟩:=ry;exact eq_int (AB I q KC)
   | str j=>obtain ⟨t',rfl⟩:=ry;exact PySem.EqMixed.eq_int_str (AB I q (by simp))
   | _=>exact absurd (show false=true from hs) Bool.false_ne_true
 | str i =>
   obtain ⟨t,rfl⟩:=rx
   cases y with
   | non=>cases ry;exact PySem.EqNone.eq_str_none (AB I q (by simp))
   | bl j=>cases ry;exact PySem.EqMixed.eq_str_bool (AB I q (by simp))
   | int j=>obtain ⟨t',rfl⟩:=ry;exact PySem.EqMixed.eq_str_int (AB I q (by simp))
   | str j=>obtain ⟨t',rfl⟩:=ry;exact eq_str (AB I q KI)
   | _=>exact absurd (show false=true from hs) Bool.false_ne_true
 | byt i =>
   obtain ⟨t,rfl⟩:=rx
   cases y with
   | byt j=>obtain ⟨t',rfl⟩:=ry;exact PySem.W.eq_bytes (AB I q Km)
   | _=>exact absurd (show false=true from hs) Bool.false_ne_true
 | _=>cases y <;> exact absurd (show false=true from hs) Bool.false_ne_true
theorem Eb:OpR X (compareOp .NotEq) rNe:=by
 intro pins s σ H x y v u Q I rx ry h
 obtain ⟨hs,q⟩:=h
 cases x with
 | non =>
   cases rx
   cases y with
   | non=>cases ry;exact PySem.EqNone.ne_none_none (AB I q (by simp))
   | bl j=>cases ry;exact PySem.EqNone.ne_none_bool (AB I q (by simp))
   | int j=>obtain ⟨t',rfl⟩:=ry;exact PySem.EqNone.ne_none_int (AB I q (by simp))
   | str j=>obtain ⟨t',rfl⟩:=ry;exact PySem.EqNone.ne_none_str (AB I q (by simp))
   | _=>exact absurd (show false=true from hs) Bool.false_ne_true
 | bl i =>
   cases rx
   cases y with
   | non=>cases ry;exact PySem.EqNone.ne_bool_none (AB I q (by simp))
   | bl j=>cases ry;exact ne_bool (AB I q (congrArg not Ng))
   | str j=>obtain ⟨t',rfl⟩:=ry;exact PySem.EqMixed.ne_bool_str (AB I q (by simp))
   | _=>exact absurd (show false=true from hs) Bool.false_ne_true
 | int i =>
   obtain ⟨t,rfl⟩:=rx
   cases y with
   | non=>cases ry;exact PySem.EqNone.ne_int_none (AB I q (by simp))
   | int j=>obtain ⟨t',rfl⟩:=ry;exact ne_int (AB I q (congrArg not KC))
   | str j=>obtain ⟨t',rfl⟩:=ry;exact PySem.EqMixed.ne_int_str (AB I q (by simp))
   | _=>exact absurd (show false=true from hs) Bool.false_ne_true
 | str i =>
   obtain ⟨t,rfl⟩:=rx
   cases y with
   | non=>cases ry;exact PySem.EqNone.ne_str_none (AB I q (by simp))
   | bl j=>cases ry;exact PySem.EqMixed.ne_str_bool (AB I q (by simp))
   | int j=>obtain ⟨t',rfl⟩:=ry;exact PySem.EqMixed.ne_str_int (AB I q (by simp))
   | str j=>obtain ⟨t',rfl⟩:=ry;exact ne_str (AB I q (congrArg not KI))
   | _=>exact absurd (show false=true from hs) Bool.false_ne_true
 | byt i =>
   obtain ⟨t,rfl⟩:=rx
   cases y with
   | byt j=>obtain ⟨t',rfl⟩:=ry;exact PySem.W.ne_bytes (AB I q (congrArg not Km))
   | _=>exact absurd (show false=true from hs) Bool.false_ne_true
 | _=>cases y <;> exact absurd (show false=true from hs) Bool.false_ne_true
theorem FV:OpR X (compareOp .Lt) (rI0 fun i j=>.bl (decide (i < j))):=Pm fun _ _ _ _ _ _ _ q=>lt_int q
theorem Jj:OpR X (compareOp .LtE) (rI0 fun i j=>.bl (decide (i<=j))):=Pm fun _ _ _ _ _ _ _ q=>le_int q
theorem IV:OpR X (compareOp .Gt) (rI0 fun i j=>.bl (decide (j < i))):=Pm fun _ _ _ _ _ _ _ q=>gt_int q
theorem Pd:OpR X (compareOp .Is) (fun x y H Q=>y=.non/\Q (.bl (decide (x=.non))) H):=by
 intro pins s σ H x y v u Q I rx ry h
 obtain ⟨rfl,q⟩:=h
 cases ry
 refine is_none_gen (AB I q ?_)
 cases x <;> first
  | (cases rx;rfl)
  | (obtain ⟨t,rfl⟩:=rx;rfl)
theorem OG:OpR X (compareOp .IsNot) (fun x y H Q=>y=.non/\Q (.bl (!decide (x=.non))) H):=by
 intro pins s σ H x y v u Q I rx ry h
 obtain ⟨rfl,q⟩:=h
 cases ry
 refine isnot_none_gen (AB I q ?_)
 cases x <;> first
  | (cases rx;rfl)
  | (obtain ⟨t,rfl⟩:=rx;rfl)
theorem Az (b:Expr) {op:CmpOp} (h:op≠.In:=by decide) (h2:op≠.NotIn:=by decide):behindInMarks op b=false:=by
 have e1:(op == CmpOp.In)=false:=by cases op <;> first | rfl | exact absurd rfl h
 have e2:(op == CmpOp.NotIn)=false:=by cases op <;> first | rfl | exact absurd rfl h2
 cases b <;> simp [behindInMarks,e1,e2]
theorem DJ {op:CmpOp} {r:R2} (ho:OpR X (compareOp op) r) (ha:PE X a ta) (hb:PE X b tb) (hm:behindInMarks op b=false):PE X (.Compare a [op] [b] pos) (tOp r ta tb):=by
 intro pins s σ H Q I h
 exact wpAny_Compare1 (OX ha hb I h fun v u s2 x y H2 I2 rx ry q=>ho pins s2 σ H2 x y v u Q I2 rx ry q) hm
def OV (t:TE):TT:=fun σ H Q=>t σ H fun x H'=>∃k,x=.bl k/\Q k H'
theorem Ax {op:CmpOp} {r:R2} (ho:OpR X (compareOp op) r) (ha:PE X a ta) (hb:PE X b tb) (hm:behindInMarks op b=false):PT X (.Compare a [op] [b] pos) (OV (tOp r ta tb)):=by
 intro pins s σ H Q I h
 refine wpAny_isTrue_Compare1 (thn (ha pins s σ H _ I h) fun v s1 ⟨x,H1,I1,r1,q1⟩=>thn (hb pins s1 σ H1 _ I1 q1) fun u s2 ⟨y,H2,I2,r2,q2⟩ =>
  thn (ho pins s2 σ H2 x y v u _ I2 r1 r2 q2) fun c s3 ⟨z,H3,I3,r3,k,e,q3⟩=>?_) hm
 subst e
 cases r3
 exact wpAny_truthy_bool ⟨H3,I3,q3⟩
def NF (r r':R2) (ta tb tc:TE):TE:=fun σ H Q=>ta σ H fun x H1=>tb σ H1 fun y H2=>r x y H2 fun z H3=>∃k,z=.bl k /\
 (if k=true then tc σ H3 fun w' H4=>r' y w' H4 Q else Q (.bl false) H3)
theorem FF {op op':CmpOp} {r r':R2} (ho:OpR X (compareOp op) r) (ho':OpR X (compareOp op') r') (ha:PE X a ta) (hb:PE X b tb) (hc:PE X c tc)
 (hm:lastMarks [op,op'] [b,c]=false:=by with_unfolding_all rfl):PE X (.Compare a [op,op'] [b,c] pos) (NF r r' ta tb tc):=by
 intro pins s σ H Q I h
 refine Compare_chain (thn (ha pins s σ H _ I h) fun v s1 ⟨x,H1,I1,r1,q1⟩=>chain_link (thn (hb pins s1 σ H1 _ I1 q1) fun u s2 ⟨y,H2,I2,r2,q2⟩ =>
  thn (ho pins s2 σ H2 x y v u _ I2 r1 r2 q2) fun d s3 ⟨z,H3,I3,r3,k,e,q3⟩=>?_)) hm
 subst e
 cases r3
 refine wpAny_truthy_bool ?_
 cases k with
 | false=>exact ite_ff ⟨.bl false,H3,I3,rfl,q3⟩
 | true=>exact ite_tt (chain_last (thn (hc pins s3 σ H3 _ I3 q3) fun w' s4 ⟨z',H4,I4,r4,q4⟩=>ho' pins s4 σ H4 y z' u w' Q I4 r2 r4 q4))
theorem N1 {op op':CmpOp} {r r':R2} (ho:OpR X (compareOp op) r) (ho':OpR X (compareOp op') r') (ha:PE X a ta) (hb:PE X b tb) (hc:PE X c tc)
 (hm:lastMarks [op,op'] [b,c]=false:=by with_unfolding_all rfl):PT X (.Compare a [op,op'] [b,c] pos) (OV (NF r r' ta tb tc)):=by
 intro pins s σ H Q I h
 refine isTrue_chain (thn (ha pins s σ H _ I h) fun v s1 ⟨x,H1,I1,r1,q1⟩=>test_link (thn (hb pins s1 σ H1 _ I1 q1) fun u s2 ⟨y,H2,I2,r2,q2⟩ =>
  thn (ho pins s2 σ H2 x y v u _ I2 r1 r2 q2) fun d s3 ⟨z,H3,I3,r3,k,e,q3⟩=>?_)) hm
 subst e
 cases r3
 refine wpAny_truthy_bool ?_
 cases k with
 | false =>
   obtain ⟨k',e',q'⟩:=q3
   cases e'
   exact ite_ff ⟨H3,I3,q'⟩
 | true =>
   refine ite_tt (test_last (thn (hc pins s3 σ H3 _ I3 q3) fun w' s4 ⟨z',H4,I4,r4,q4⟩=>thn (ho' pins s4 σ H4 y z' u w' _ I4 r2 r4 q4) fun d' s5 ⟨z2,H5,I5,r5,k2,e2,q5⟩=>?_))
   subst e2
   cases r5
   exact wpAny_truthy_bool ⟨H5,I5,q5⟩
theorem Hn:(sizeLine:Nat) < 2 ^ 63:=by rw [sizeLine_eq];decide
theorem DF {x:V} {us:List Value} (r:Aw [x] us):∃u,us=[u]/\Av x u:=by
 cases r with
 | cons r1 r2=>cases r2;exact ⟨_,rfl,r1⟩
theorem GN {x y:V} {us:List Value} (r:Aw [x,y] us):∃u w',us=[u,w']/\Av x u/\Av y w':=by
 cases r with
 | cons r1 r2 =>
   cases r2 with
   | cons r3 r4=>cases r4;exact ⟨_,_,rfl,r1,r3⟩
theorem KS (hc:X.calm=true):Cy X (.builtin "max") (fun xs H Q=>∃i j,xs=[.int i,.int j]/\Q (.int (if j > i then j else i)) H):=by
 intro pins s σ H xs us Q I r h
 obtain ⟨i,j,rfl,q⟩:=h
 obtain ⟨u,w',rfl,⟨t,rfl⟩,⟨t',rfl⟩⟩:=GN r
 refine max_two_ints (I.ok.hd hc) fun h' tk k=>⟨_,H,I.kept k,?_,q⟩
 by_cases hj:j > i
 ·rw [if_pos hj,if_pos hj];exact ⟨_,rfl⟩
 ·rw [if_neg hj,if_neg hj];exact ⟨_,rfl⟩
theorem DP (hc:X.calm=true):Cy X (.builtin "min") (fun xs H Q=>∃i j,xs=[.int i,.int j]/\Q (.int (if j < i then j else i)) H):=by
 intro pins s σ H xs us Q I r h
 obtain ⟨i,j,rfl,q⟩:=h
 obtain ⟨u,w',rfl,⟨t,rfl⟩,⟨t',rfl⟩⟩:=GN r
 refine min_two_ints (I.ok.hd hc) fun h' tk k=>⟨_,H,I.kept k,?_,q⟩
 by_cases hj:j < i
 ·rw [if_pos hj,if_pos hj];exact ⟨_,rfl⟩
 ·rw [if_neg hj,if_neg hj];exact ⟨_,rfl⟩
theorem L7:Cy X (.type "int") (fun xs H Q=>(∃i,xs=[.int i]/\Q (.int i) H)\/∃k,xs=[.bl k]/\Q (.int (if k then 1 else 0)) H):=by
 intro pins s σ H xs us Q I r h
 rcases h with ⟨i,rfl,q⟩ | ⟨k,rfl,q⟩
 ·obtain ⟨u,rfl,t,rfl⟩:=DF r
  exact call_int_int ⟨.int i,H,I,⟨_,rfl⟩,q⟩
 ·obtain ⟨u,rfl,r1⟩:=DF r
  cases r1
  exact call_int_bool ⟨.int (if k then 1 else 0),H,I.tok _,⟨_,rfl⟩,q⟩
end
end L2
namespace L2
open PySem PySem.Spec PyProof.Rows
structure JD (h:Heap) (x dx C:Addr) (mA:Str->Option Value):Prop where
 obj:h.get? x=some (PySem.W.instObj C dx)
 ns:h.Ns1 dx mA
 ne:dx≠x
theorem Me {h:Heap} {dx:Addr} {mA:Str->Option Value} (n:h.Ns1 dx mA):∃od,h.get? dx=some od/\∀name,PySem.W.lookIn name od=some (mA name):=by
 obtain ⟨o,es,ep,ho,hd,hk,_,hm⟩:=n
 refine ⟨o,ho,fun name=>?_⟩
 have e:=hm name
 unfold nsFind findBy at e
 rw [<- Array.find?_toList] at e
 unfold PySem.W.lookIn
 rw [hd]
 dsimp only
 split
 ·rename_i y q
  rw [q] at e
  exact congrArg some e
 ·rename_i q
  rw [q] at e
  have a:es.toList.any (·.refKey)=false:=by
   rw [List.any_eq_false]
   intro y hy
   obtain ⟨z,t,hkey⟩:=hk y (Array.mem_toList_iff.mp hy)
   simp [DictEntry.refKey,hkey]
  have a':¬ es.toList.any (·.refKey)=true:=by rw [a];exact Bool.false_ne_true
  rw [if_neg a']
  exact congrArg some e
theorem JD.look {h:Heap} {x dx C:Addr} {mA:Str->Option Value} (I:JD h x dx C mA):∃od,PySem.W.InstAt h x (PySem.W.instObj C dx) C (some od)/\∀name,PySem.W.lookIn name od=some (mA name) :=
 let ⟨od,ho,hl⟩:=Me I.ns
 ⟨od,⟨I.obj,rfl,rfl,ho⟩,hl⟩
section
variable {prog:Program} {w:World} {A:Around} {E:Value->Shared->Prop} {s:Shared} {K:PySem.W.Frag} {x dx C f:Addr} {mA:Str->Option Value} {name:Str} {v:Value}
theorem NV {expr:Bool} {Q:Value->Shared->Prop} (X:K.In s.heap) (I:JD s.heap x dx C mA) (hg:PySem.W.plainGet K C name=true) (hh:PySem.W.hasDictIn K C=true)
 (ha:PySem.W.findIn K (.ref C) name=some none) (hv:mA name=some v) (hv':PySem.W.handedIn v=true) (h:Q v { s with toks:=s.toks+1 }) :
 wpAny (model prog w) A (getAttr (.ref x) name expr) Q E s:=by
 obtain ⟨od,J,hl⟩:=I.look
 exact PySem.W.get_value X J (PySem.W.plainGet_of hg).1 (PySem.W.findObj_own hh ha rfl (by rw [hl,hv])) hv' h
theorem NE {pl:Sem Bool} {Q:Value × List Value->Shared->Prop} (X:K.In s.heap) (I:JD s.heap x dx C mA) (hg:PySem.W.plainGet K C name=true)
 (hf:PySem.W.findIn K (.ref C) name=some (some (.ref f))) (ht:PySem.W.isFn K (.ref f)=true) (hv:mA name=none) (h:Q (.ref f,[.ref x]) s) :
 wpAny (model prog w) A (getMethod (.ref x) name pl) Q E s:=by
 obtain ⟨od,J,hl⟩:=I.look
 exact PySem.W.method_fn X J (PySem.W.plainGet_of hg).1 (PySem.W.plainGet_of hg).2 hf (beq_iff_eq.mp ht) (by show (PySem.W.lookIn name od).map (·.isSome)=some false;rw [hl,hv];rfl) h
theorem set_map {ns:List Str} {Q:Unit->Shared->Prop} (X:K.In s.heap) (I:JD s.heap x dx C mA)
 (hs:PySem.W.findIn K (.ref C) "__setattr__"=some (some (.builtin "object.__setattr__"))) (hp:PySem.W.plainOver K C=true) (ht:PySem.W.takerIn K C name=some none) (hh:PySem.W.hasDictIn K C=true)
 (hw:PySem.Within mA ns) (hsz:ns.length<=sizeLine)
 (h:∀h',JD h' x dx C (fun y=>if y=name then some v else mA y)->Heap.SameBut dx s.heap h'->Q () { s with heap:=h',toks:=s.toks+2 }) :
 wpAny (model prog w) A (setAttr (.ref x) name v) Q E s:=by
 obtain ⟨od,J,hl⟩:=I.look
 refine PySem.W.set_plain X J hs (PySem.W.osa_open (s:={ s with toks:=s.toks+1 }) (r:=none) X J hp ht fun b=>?_)
 obtain ⟨cd,hc,hd'⟩:=PySem.W.any_some hh
 have hx:s.heap.get? x=some ⟨.ref C,some dx,.plain,#[]⟩:=I.obj
 refine wpAny_bind (wpAny_pure (wpAny_bind (wpAny_bind (wpAny_loadPart hx (wpAny_bind (PySem.W.Looks.here (s:={ s with toks:=s.toks+1 }) (PySem.W.looks_clsIn X hc) ?_))))))
 rw [hd']
 refine wpAny_pure (a:=some dx) (wpAny_bind (wpAny_pure (wpAny_bind ?_)))
 refine wpAny_nsSet1 (s:={ s with toks:=s.toks+1 }) I.ns fun h' hn2 hs2=>?_
 obtain ⟨oD,esD,epD,hoD,hdD,hcD⟩:=hn2.count (PySem.Within.cons name v hw)
 refine wpAny_bind (wpAny_lookBehind hoD (by rw [hdD];exact pastItsLine_dict (Nat.le_trans hcD (by rw [List.length_cons];omega))) ?_)
 exact wpAny_pure (h _ ⟨(hs2.2 _ (Ne.symm I.ne)).trans I.obj,hn2,I.ne⟩ hs2)
theorem Jl {R:Result->Shared->Prop} {vs:List Value} {kw:List (Str × Value)} (X:K.In s.heap) (hm:PySem.W.makesIn K C=true)
 (hi:PySem.W.findIn K (.ref C) "__init__"=some (some (.ref f))) (hf:PySem.W.typeIn K (.ref f)=some (.type "function"))
 (h:codeAny (model prog w) (A.under (.builtin "type.__call__" ⟨.ref C :: vs,kw⟩)) (.call (.ref f) ⟨.ref (s.heap.objs.size+1) :: vs,kw⟩) (PySem.W.InitBack (s.heap.objs.size+1) R)
  { s with heap:=(s.heap.push PySem.W.emptyDict).push (PySem.W.instObj C s.heap.objs.size) }) :
 codeAny (model prog w) A (.call (.ref C) ⟨vs,kw⟩) R s:=by
 obtain ⟨hh,g,d,t,os⟩:=s
 exact PySem.W.make_core (PySem.W.makes_of X hm) (PySem.W.looks_findIn X hi) (fun self=>PySem.W.bind_fn X self hf) (.inl rfl) h
end
def CJ (f:Str) (v:V):List (Str × V)->List (Str × V)
 | []=>[(f,v)]
 | (g,x) :: r=>if g=f then (g,v) :: r else (g,x) :: CJ f v r
theorem EX (f g:Str) (v:V):∀fs:List (Str × V),(CJ f v fs).lookup g=if g=f then some v else fs.lookup g
 | []=>by
   show List.lookup g [(f,v)]=_
   by_cases h:g=f
   ·have hb:(g == f)=true:=beq_iff_eq.mpr h
    simp only [List.lookup,hb,if_pos h]
   ·have hb:(g == f)=false:=beq_eq_false_iff_ne.mpr h
    simp only [List.lookup,hb,if_neg h]
 | (k,x) :: r=>by
   have ih:=EX f g v r
   rw [show CJ f v ((k,x) :: r)=(if k=f then (k,v) :: r else (k,x) :: CJ f v r) from rfl]
   by_cases hk:k=f
   ·rw [if_pos hk]
    by_cases h:g=k
    ·have hb:(g == k)=true:=beq_iff_eq.mpr h
     simp only [List.lookup,hb,if_pos (h.trans hk)]
    ·have hb:(g == k)=false:=beq_eq_false_iff_ne.mpr h
     simp only [List.lookup,hb,if_neg (fun e:g=f=>h (e.trans hk.symm))]
   ·rw [if_neg hk]
    by_cases h:g=k
    ·have hb:(g == k)=true:=beq_iff_eq.mpr h
     simp only [List.lookup,hb,if_neg (fun e:g=f=>hk (h.symm.trans e))]
    ·have hb:(g == k)=false:=beq_eq_false_iff_ne.mpr h
     simp only [List.lookup,hb]
     exact ih
theorem E7 (f:Str) (v:V):∀fs:List (Str × V),f∈(CJ f v fs).map (·.1)/\∀g,g∈fs.map (·.1)->g∈(CJ f v fs).map (·.1)
 | []=>⟨by simp [CJ],fun g h=>by simp at h⟩
 | (k,x) :: r=>by
   obtain ⟨i1,i2⟩:=E7 f v r
   rw [show CJ f v ((k,x) :: r)=(if k=f then (k,v) :: r else (k,x) :: CJ f v r) from rfl]
   by_cases hk:k=f
   ·rw [if_pos hk]
    subst hk
    exact ⟨by simp,fun g h=>by simpa using h⟩
   ·rw [if_neg hk]
    refine ⟨?_,fun g h=>?_⟩
    ·rw [List.map_cons]
     exact List.mem_cons_of_mem _ i1
    ·rw [List.map_cons] at h ⊢
     rcases List.mem_cons.mp h with e | e
     ·exact List.mem_cons.mpr (.inl e)
     ·exact List.mem_cons_of_mem _ (i2 g e)
theorem EQ (f:Str) (v:V):∀fs:List (Str × V),(CJ f v fs).length<=fs.length+1
 | []=>by simp [CJ]
 | (k,x) :: r=>by
   have ih:=EQ f v r
   rw [show CJ f v ((k,x) :: r)=(if k=f then (k,v) :: r else (k,x) :: CJ f v r) from rfl]
   by_cases hk:k=f
   ·rw [if_pos hk,List.length_cons,List.length_cons];omega
   ·rw [if_neg hk,List.length_cons,List.length_cons];omega
theorem Dr.some_of {v:V} {o:Option Value} (r:Dr (some v) o):∃u,o=some u/\Av v u:=by
 cases o with
 | none=>exact (show False from r).elim
 | some u=>exact ⟨u,rfl,r⟩
theorem Dr.none_of {o:Option Value} (r:Dr none o):o=none:=by
 cases o with
 | none=>rfl
 | some u=>exact (show False from r).elim
theorem LZ {v:V} {u:Value} (r:Av v u):PySem.W.handedIn u=true:=by
 cases v with
 | non=>cases (show u=Value.none from r);rfl
 | bl b=>cases (show u=Value.bool b from r);rfl
 | int i=>obtain ⟨t,e⟩:=(show ∃t,u=Value.int i t from r);cases e;rfl
 | str x=>obtain ⟨t,e⟩:=(show ∃t,u=Value.str x t from r);cases e;rfl
 | byt b=>obtain ⟨t,e⟩:=(show ∃t,u=Value.bytes b t from r);cases e;rfl
 | flt b=>obtain ⟨t,e⟩:=(show ∃t,u=Value.float b t from r);cases e;rfl
 | ref a=>cases (show u=Value.ref a from r);rfl
 | ty n=>cases (show u=Value.type n from r);rfl
section
variable {P:Program} {w:World} {H H':Hp} {h h':Heap} {a C dx:Addr} {fs fs':List (Str × V)}
theorem Fk (hok:HOk P w H h) (e:H a=some (.ins C dx fs)):∃mA,JD h a dx C mA/\(∀f,Dr (fs.lookup f) (mA f))/\PySem.Within mA (fs.map (·.1))/\fs.length<=1000/\H dx=some (.own a):=by
 obtain ⟨d,z,ne,ob,mA,n,r,q⟩:=(show AI P w H h a (.ins C dx fs) from hok a _ e)
 exact ⟨mA,⟨ob,n,ne⟩,r,q,z,d⟩
end
structure Cls (K:PySem.W.Frag) (C:Addr):Prop where
 pg:PySem.W.plainGet K C Str.empty=true
 hd:PySem.W.hasDictIn K C=true
 po:PySem.W.plainOver K C=true
 sa:PySem.W.findIn K (.ref C) "__setattr__"=some (some (.builtin "object.__setattr__"))
theorem Cls.get {K:PySem.W.Frag} {C:Addr} (c:Cls K C) (f:Str):PySem.W.plainGet K C f=true:=c.pg
def Cr (K:PySem.W.Frag) (C:Addr) (f:Str):Prop:=PySem.W.findIn K (.ref C) f=some none
theorem Cr.taker {K:PySem.W.Frag} {C:Addr} {f:Str} (n:Cr K C f):PySem.W.takerIn K C f=some none:=by
 unfold PySem.W.takerIn
 rw [show PySem.W.findIn K (.ref C) f=some none from n]
 rfl
structure JN (K:PySem.W.Frag) (C:Addr) (m:Str) (f:Addr):Prop where
 at_:PySem.W.findIn K (.ref C) m=some (some (.ref f))
 fn:PySem.W.isFn K (.ref f)=true
 kp:PySem.W.keepIn K (.ref f)=true
section
variable {X:Cx} {pins:List (Addr × Obj)} {σ:St} {H:Hp} {s:Shared} {a C dx:Addr} {fs:List (Str × V)} {f:Str} {v:V} {A:Around} {E:Value->Shared->Prop}
theorem J3 {b:Bool} {Q:Value->Shared->Prop} (I:Inv X pins σ H s) (e:H a=some (.ins C dx fs)) (c:Cls X.K C) (n:Cr X.K C f) (l:fs.lookup f=some v)
 (h:∀u s',Inv X pins σ H s'->Av v u->Q u s'):wpAny (model X.prog X.w) A (getAttr (.ref a) f b) Q E s:=by
 obtain ⟨mA,O,r,_,_,_⟩:=Fk I.hok e
 obtain ⟨u,hu,ru⟩:=Dr.some_of (v:=v) (o:=mA f) (by rw [<- l];exact r f)
 exact NV I.kIn O (c.get f) c.hd n hu (LZ ru) (h u _ (I.tok _) ru)
theorem Js {m:Str} {g:Addr} {pl:Sem Bool} {Q:Value × List Value->Shared->Prop} (I:Inv X pins σ H s) (e:H a=some (.ins C dx fs)) (c:Cls X.K C) (k:JN X.K C m g) (l:fs.lookup m=none)
 (h:Q (.ref g,[.ref a]) s):wpAny (model X.prog X.w) A (getMethod (.ref a) m pl) Q E s:=by
 obtain ⟨mA,O,r,_,_,_⟩:=Fk I.hok e
 have hn:mA m=none:=Dr.none_of (by rw [<- l];exact r m)
 exact NE I.kIn O (c.get m) k.at_ k.fn hn h
theorem JF {y:V} {u:Value} {Q:Unit->Shared->Prop} (I:Inv X pins σ H s) (e:H a=some (.ins C dx fs)) (c:Cls X.K C) (n:Cr X.K C f) (hl:fs.length < 1000) (ry:Av y u)
 (h:∀s',Inv X pins σ (upd H a (.ins C dx (CJ f y fs))) s'->Q () s'):wpAny (model X.prog X.w) A (setAttr (.ref a) f u) Q E s:=by
 obtain ⟨mA,O,r,wi,_,ho⟩:=Fk I.hok e
 have hz:(fs.map (·.1)).length<=sizeLine:=by rw [List.length_map,sizeLine_eq];omega
 refine set_map I.kIn O c.sa c.po n.taker c.hd wi hz fun h' O' sb=>h _ ?_
 have hd:∃o,h'.get? dx=some o:=let ⟨o,_,_,e',_⟩:=O'.ns;⟨o,e'⟩
 refine I.write (x:=a) (e:=dx) (by rw [e];exact True.intro) (.inr ho) (fun b q hb z=>(sb.2 b hb).trans z) hd ?_
 refine ⟨by rw [Ai O.ne];exact ho,?_,O.ne,O'.obj,_,O'.ns,fun g=>?_,fun g hg=>?_⟩
 ·have:=EQ f y fs;omega
 ·show Dr ((CJ f y fs).lookup g) (if g=f then some u else mA g)
  rw [EX]
  by_cases q:g=f
  ·rw [if_pos q,if_pos q];exact ry
  ·rw [if_neg q,if_neg q];exact r g
 ·by_cases q:g=f
  ·rw [q];exact (E7 f y fs).1
  ·refine (E7 f y fs).2 g (wi g fun z=>hg ?_)
   show (if g=f then some u else mA g)=none
   rw [if_neg q];exact z
theorem Inv.made (I:Inv X pins σ H s):Inv X pins σ (upd (upd H s.heap.objs.size (.own (s.heap.objs.size+1))) (s.heap.objs.size+1) (.ins C s.heap.objs.size []))
 { s with heap:=(s.heap.push PySem.W.emptyDict).push (PySem.W.instObj C s.heap.objs.size) }:=by
 have e1:(s.heap.push PySem.W.emptyDict).get? s.heap.objs.size=some PySem.W.emptyDict:=Heap.get?_push_size s.heap rfl
 have e2:((s.heap.push PySem.W.emptyDict).push (PySem.W.instObj C s.heap.objs.size)).get? (s.heap.objs.size+1)=some (PySem.W.instObj C s.heap.objs.size):=by
  have:=Heap.get?_push_size (s.heap.push PySem.W.emptyDict) (o:=PySem.W.instObj C s.heap.objs.size) rfl
  rwa [Heap.size_push] at this
 have e3:(s.heap.push PySem.W.emptyDict).Ns s.heap.objs.size (fun _=>none):=⟨PySem.W.emptyDict,#[],_,e1,rfl,(fun e he=>absurd he (by simp)),fun _=>rfl⟩
 have I1:=I.laid (a:=s.heap.objs.size) (o:=.own (s.heap.objs.size+1)) (h':=s.heap.push PySem.W.emptyDict) (t':=s.toks) (fun b u q=>Heap.get?_push_of_some _ q) (Nat.le_refl _) ⟨_,e1⟩
 refine I1.laid (a:=s.heap.objs.size+1) (o:=.ins C s.heap.objs.size []) (t':=s.toks) (fun b u q=>Heap.get?_push_of_some _ q) (Nat.le_of_eq (Heap.size_push _ _)) ?_
 have ne:s.heap.objs.size≠s.heap.objs.size+1:=Nat.ne_of_lt (Nat.lt_succ_self _)
 refine ⟨by rw [Ai ne,Ab],Nat.zero_le _,ne,e2,fun _=>none,(Heap.Ns1.of_empty e3).at fun o q=>Heap.get?_push_of_some _ q,fun _=>True.intro,fun y hy=>absurd rfl hy⟩
theorem NQ {prog:Program} {w:World} {env:Env} {e:Expr} {f:Str} {pos:Pos} {s:Shared} {Q:Value->Shared->Prop} (hb:attributeBase e f env (eval e env)=eval e env)
 (h:wpAny (model prog w) A (eval e env) (fun o s₁=>wpAny (model prog w) A (getAttr o f true) Q E s₁) E s):wpAny (model prog w) A (eval (.Attribute e f pos) env) Q E s :=
 Attribute_any_ h (by rw [arm_eval_Attribute,hb])
end
def Rr (K:PySem.W.Frag) (ta:TE) (f:Str):TE:=fun σ H Q=>ta σ H fun x H1=>∃a C dx fs v,x=.ref a/\H1 a=some (.ins C dx fs)/\Cls K C/\Cr K C f/\fs.lookup f=some v/\Q v H1
def Rc (K:PySem.W.Frag) (ta tv:TE) (f:Str):TS:=fun D σ H=>tv σ H fun y H1=>ta σ H1 fun x H2=>∃a C dx fs,x=.ref a/\H2 a=some (.ins C dx fs)/\Cls K C/\Cr K C f/\fs.length < 1000 /\
 D.nx σ (upd H2 a (.ins C dx (CJ f y fs)))
section
variable {X:Cx} {o e value:Expr} {f:Str} {pos pos' tpos:Pos} {ta tv:TE}
theorem Cd (he:PE X e ta) (hb:attributeBase e f X.env (eval e X.env)=eval e X.env):PE X (.Attribute e f pos) (Rr X.K ta f):=by
 intro pins s σ H Q I h
 refine NQ hb (thn (he pins s σ H _ I h) fun u s1 ⟨x,H1,I1,rx,a,C,dx,fs,v,ex,ea,c,n,l,q⟩=>?_)
 subst ex
 obtain rfl:u=Value.ref a:=rx
 exact J3 I1 ea c n l fun u' s2 I2 ru=>⟨v,H1,I2,ru,q⟩
theorem JK (ha:PE X o ta) (hv:PE X value tv) (hs:swapsWith value (some (.Attribute o f pos')) pos.line X.env=pure false):PS X (.Assign [.Attribute o f pos'] value pos) (Rc X.K ta tv f):=by
 intro pins s σ H D I h
 refine plainObj_wpAny_Assign_Attribute (thn (hv pins s σ H _ I h) fun u s1 ⟨y,H1,I1,ry,q⟩=>thn (ha pins s1 σ H1 _ I1 q) fun ov s2 ⟨x,H2,I2,rx,a,C,dx,fs,ex,ea,c,n,l,q2⟩=>?_) hs
 subst ex
 obtain rfl:ov=Value.ref a:=rx
 exact JF I2 ea c n l ry fun s3 I3=>⟨σ,_,I3,q2⟩
end
section
variable {X:Cx} {pins:List (Addr × Obj)} {σ:St} {H:Hp} {s:Shared} {A:Around} {E:Value->Shared->Prop} {Q:Value->Shared->Prop} {c:Value} {b:Bool}
inductive CI (K:PySem.W.Frag) (H:Hp):V->Value->Prop where
 | non:CI K H .non (.type "NoneType")
 | bl (x:Bool):CI K H (.bl x) (.type "bool")
 | int (i:Int):CI K H (.int i) (.type "int")
 | str (x:Str):CI K H (.str x) (.type "str")
 | flt (x:UInt64):CI K H (.flt x) (.type "float")
 | lst {a:Addr} {xs:List V} (e:H a=some (.lst xs)):CI K H (.ref a) (.type "list")
 | frz {a:Addr} {o:Obj} {xs:List V} (e:H a=some (.frz o (.lst xs))):CI K H (.ref a) (.type "list")
 | tup {a:Addr} {xs:List V} (e:H a=some (.tup xs)):CI K H (.ref a) (.type "tuple")
 | dK {a:Addr} {kvs:List (Key × V)} (e:H a=some (.dK kvs)):CI K H (.ref a) (.type "dict")
 | dT {a:Addr} {kvs:List (List Key × V)} (e:H a=some (.dT kvs)):CI K H (.ref a) (.type "dict")
 | ins {a C dx:Addr} {fs:List (Str × V)} (e:H a=some (.ins C dx fs)) (cl:Cls K C) (ha:PySem.W.findIn K (.ref C) "__class__"=some (some (.builtin "object.__class__")))
  (hn:PySem.W.specialIn K (.builtin "object.__class__") "__get__"=some (some (.builtin "getset_descriptor.__get__"))) (htk:PySem.W.takesIn K (.builtin "object.__class__")=some true)
  (hm:PySem.W.mroIn K C (.type "object")=some true):CI K H (.ref a) (.ref C)
theorem GF {x:V} {u t:Value} (I:Inv X pins σ H s) (rx:Av x u) (ty:CI X.K H x t) (e:PySem.W.kitOne X.K t c=some b) (h:∀tk,Q (.bool b) { s with toks:=tk }) :
 wpAny (model X.prog X.w) A (call (.builtin "isinstance") [u,c]) Q E s:=by
 cases ty with
 | non=>cases (show u=Value.none from rx);exact PySem.W.kia_one PySem.W.kitx_none I.kIn True.intro e (fun z=>nomatch z) h
 | bl y=>cases (show u=Value.bool y from rx);exact PySem.W.kia_one PySem.W.kitx_bool I.kIn True.intro e (fun z=>nomatch z) h
 | int i=>obtain ⟨t,q⟩:=(show ∃t,u=Value.int i t from rx);cases q;exact PySem.W.kia_one PySem.W.kitx_int I.kIn True.intro e (fun z=>nomatch z) h
 | str y=>obtain ⟨t,q⟩:=(show ∃t,u=Value.str y t from rx);cases q;exact PySem.W.kia_one PySem.W.kitx_str I.kIn True.intro e (fun z=>nomatch z) h
 | flt y=>obtain ⟨t,q⟩:=(show ∃t,u=Value.float y t from rx);cases q;exact PySem.W.kia_one PySem.W.kitx_float I.kIn True.intro e (fun z=>nomatch z) h
 | @lst a xs ea =>
   cases (show u=Value.ref a from rx)
   obtain ⟨_,_,n,_,h1⟩:=(show AI X.prog X.w H s.heap a (.lst xs) from I.hok a _ ea)
   exact PySem.W.kia_one PySem.W.kitx_list I.kIn ⟨_,h1,rfl⟩ e (fun z=>nomatch z) h
 | @frz a ob xs ea =>
   cases (show u=Value.ref a from rx)
   obtain ⟨_,_,_,n,_,h1⟩:=(show AI X.prog X.w H s.heap a (.frz ob (.lst xs)) from I.hok a _ ea)
   exact PySem.W.kia_one PySem.W.kitx_list I.kIn ⟨_,h1,rfl⟩ e (fun z=>nomatch z) h
 | @tup a xs ea =>
   cases (show u=Value.ref a from rx)
   obtain ⟨_,_,_,p⟩:=(show AI X.prog X.w H s.heap a (.tup xs) from I.hok a _ ea)
   obtain ⟨o,h1,h2,_⟩:=p
   exact PySem.W.kia_one PySem.W.kitx_tuple I.kIn ⟨o,h1,h2⟩ e (fun z=>nomatch z) h
 | @dK a kvs ea =>
   cases (show u=Value.ref a from rx)
   obtain ⟨_,_,vs,_,p⟩:=(show AI X.prog X.w H s.heap a (.dK kvs) from I.hok a _ ea)
   obtain ⟨o,es,ep,h1,h2,_⟩:=p
   exact PySem.W.kia_one PySem.W.kitx_dict I.kIn ⟨o,h1,h2.1⟩ e (fun z=>nomatch z) h
 | @dT a kvs ea =>
   cases (show u=Value.ref a from rx)
   obtain ⟨_,_,xs,_,o,es,ep,h1,h2,_⟩:=(show AI X.prog X.w H s.heap a (.dT kvs) from I.hok a _ ea)
   exact PySem.W.kia_one PySem.W.kitx_dict I.kIn ⟨o,h1,h2.1⟩ e (fun z=>nomatch z) h
 | @ins a C dx fs ea cl ha hn htk hm =>
   cases (show u=Value.ref a from rx)
   obtain ⟨mA,O,_⟩:=Fk I.hok ea
   obtain ⟨od,J,_⟩:=O.look
   exact PySem.W.kia_one (PySem.W.kitx_own (cl.get _) cl.hd ha hn htk hm) I.kIn J e (fun z=>nomatch z) h
end
end L2
namespace L2
open PySem PySem.Spec PyProof.Rows
structure Cj (k:Nat) (A:Around):Prop where
 hd:A.handled=none
 dp:A.depth+3*k+5 < recursionLimit
 un:A.units+16*k+200 < cLine
theorem Cj.mono {j k:Nat} {A:Around} (r:Cj k A) (h:j<=k):Cj j A:=⟨r.hd,by have:=r.dp;omega,by have:=r.un;omega⟩
theorem Cj.deeper {k:Nat} {A:Around} (r:Cj (k+1) A) (env:Env):Cj k (A.deeper env) :=
 ⟨r.hd,by have:=r.dp;show A.depth+1+3*k+5 < _;omega,by have:=r.un;show A.units+3+16*k+200 < _;omega⟩
theorem JO {A:Around} {C:Addr} {us:List Value} {kw:List (Str × Value)}:(A.under (.builtin "type.__call__" ⟨.ref C :: us,kw⟩)).depth=A.depth+1:=by
 first | rfl | simp [Around.under,Code.weight,Code.isCreation,Code.isGuard,Code.isCaller,Code.frames,Code.isFrame,guardIds]
theorem JZ {A:Around} {C:Addr} {us:List Value} {kw:List (Str × Value)}:(A.under (.builtin "type.__call__" ⟨.ref C :: us,kw⟩)).units=A.units+1:=by
 first | rfl | simp [Around.under,Code.cUnits,Code.frames,Code.isFrame]
theorem Cj.make {k:Nat} {A:Around} (r:Cj (k+1) A) (C:Addr) (us:List Value) (kw:List (Str × Value)):Cj k (A.under (.builtin "type.__call__" ⟨.ref C :: us,kw⟩)) :=
 ⟨r.hd,by have:=r.dp;rw [JO];omega,by have:=r.un;rw [JZ];omega⟩
theorem Cj.depth {k:Nat} {A:Around} (r:Cj k A):A.depth < recursionLimit:=by have:=r.dp;omega
theorem Cj.units {k:Nat} {A:Around} (r:Cj k A):A.units+64 < cLine:=by have:=r.un;omega
def Rn:TA:=fun _ H Q=>Q [] H
def Q0 (ta:TE) (tr:TA):TA:=fun σ H Q=>ta σ H fun x H1=>tr σ H1 fun xs H2=>Q (x :: xs) H2
section
variable {X:Cx} {e:Expr} {es:List Expr} {te:TE} {t:TA} {pos:Pos}
theorem Ac:PA X [] Rn:=fun _ _ _ _ H Q I h=>Calls.spliced_nil ⟨[],H,I,.nil,h⟩
theorem Aa (ha:PE X e te) (hr:PA X es t) (hs:starEach (e :: es) X.env=(false,eval e X.env) :: starEach es X.env:=by rfl):PA X (e :: es) (Q0 te t):=by
 intro pos pins s σ H Q I h
 rw [hs]
 show wpAny _ _ (spliced ((false,eval e X.env) :: backTo pos (starEach es X.env))) _ _ s
 refine Calls.spliced_cons (thn (ha pins s σ H _ I h) fun u s1 ⟨x,H1,I1,r1,q1⟩=>?_)
 exact thn (hr pos pins s1 σ H1 _ I1 q1) fun us s2 ⟨xs,H2,I2,r2,q2⟩=>⟨x :: xs,H2,I2,.cons r1 r2,q2⟩
def Rq (t:TA):TE:=fun σ H Q=>t σ H fun xs H1=>xs.length<=sizeLine/\∀p,H1 p=none->Q (.ref p) (upd H1 p (.tup xs))
def QX (t:TA):TE:=fun σ H Q=>t σ H fun xs H1=>xs.length<=sizeLine/\∀p,H1 p=none->Q (.ref p) (upd H1 p (.lst xs))
theorem BL {x1} (h:PA X es t):PE X (.Tuple es x1 pos) (Rq t):=by
 intro pins s σ H Q I hq
 refine wpAny_Tuple_spliced (thn (h pos pins s σ H _ I hq) fun us s1 ⟨xs,H1,I1,r,z,q⟩=>⟨by rw [<- r.length];exact z,?_⟩)
 have hf:H1 s1.heap.objs.size=none:=I1.hok.fresh (Nat.le_refl _)
 refine ⟨.ref s1.heap.objs.size,upd H1 s1.heap.objs.size (.tup xs),I1.laid (t':=s1.toks) (fun b u e=>Heap.get?_push_of_some _ e) (Nat.le_refl _) ?_,rfl,q _ hf⟩
 exact ⟨z,us,r,⟨_,Heap.get?_push_size _ rfl,rfl,_,rfl⟩⟩
theorem Bk (h:PA X es t):PE X (.List es pos) (QX t):=by
 intro pins s σ H Q I hq
 refine wpAny_List_spliced (thn (h pos pins s σ H _ I hq) fun us s1 ⟨xs,H1,I1,r,z,q⟩=>⟨by rw [<- r.length];exact z,?_⟩)
 have hf:H1 s1.heap.objs.size=none:=I1.hok.fresh (Nat.le_refl _)
 refine ⟨.ref s1.heap.objs.size,upd H1 s1.heap.objs.size (.lst xs),I1.laid (t':=s1.toks) (fun b u e=>Heap.get?_push_of_some _ e) (Nat.le_refl _) ?_,rfl,q _ hf⟩
 exact ⟨z,us,0,r,Heap.get?_push_size _ rfl⟩
end
abbrev Sp:=List V->Hp->VK->XK->Prop
abbrev CXT:=List Env->Hp->Shared->XK->Value->Shared->Prop
structure JL (P:Program) (w:World) (K:PySem.W.Frag) (mg:Str->Option Value) (base:Heap) (A:Around) (outer:List Env) (s:Shared) (H:Hp):Prop where
 frames:A.frames=some outer
 mod:Mod K mg base
 bs:∀b o,base.get? b=some o->s.heap.get? b=some o/\H b=none
 bsz:base.objs.size<=s.heap.objs.size
 funs:s.heap.FunFrames base outer
 frf:∀b∈frs outer,H b=none
 hok:HOk P w H s.heap
 bare:AllBare s.gens
def CE (outer:List Env) (P:Program) (w:World) (H:Hp) (s:Shared) (Q:VK) (u:Value) (s':Shared):Prop :=
 ∃v H',s'.os=s.os/\AllBare s'.gens/\Un (frs outer) [] H H' s.heap s'.heap/\HOk P w H' s'.heap/\Av v u/\Q v H'
def CR (CX:CXT) (outer:List Env) (P:Program) (w:World) (H:Hp) (s:Shared) (Q:VK) (E:XK) (r:Result) (s':Shared):Prop :=
 match r with
 | .ok (.ret u)=>CE outer P w H s Q u s'
 | .ok _=>False
 | .error e=>CX outer H s E e s'
structure AT (P:Program) (w:World) (K:PySem.W.Frag) (mg:Str->Option Value) (base:Heap) (CX:CXT) (k:Nat) (f:Addr) (fd:FuncData) (ps:List Str) (sp:Sp):Prop where
 len:∀vs H Q E,sp vs H Q E->vs.length=ps.length
 run:∀(A:Around) (outer:List Env) (s:Shared) (H:Hp) (args:Args) (us:List Value) (vs:List V) (Q:VK) (E:XK),Cj k A->JL P w K mg base A outer s H->BindsTo s fd args (ps.zip us)->Aw vs us->sp vs H Q E ->
  codeAny (model P w) A (.call (.ref f) args) (CR CX outer P w H s Q E) s
theorem JL.make {P:Program} {w:World} {K:PySem.W.Frag} {mg:Str->Option Value} {base:Heap} {A:Around} {outer:List Env} {s:Shared} {H:Hp} (e:JL P w K mg base A outer s H) (C:Addr) (us:List Value) (kw:List (Str × Value)) :
 JL P w K mg base (A.under (.builtin "type.__call__" ⟨.ref C :: us,kw⟩)) outer s H:=⟨by first | exact e.frames | (simpa [Around.under,Code.envs,Code.isFrame,pushEnvs] using e.frames),e.mod,e.bs,e.bsz,e.funs,e.frf,e.hok,e.bare⟩
section
variable {X:Cx} {pins:List (Addr × Obj)} {σ:St} {H:Hp} {s s':Shared}
theorem Inv.env0 (I:Inv X pins σ H s):JL X.prog X.w X.K X.mg X.base X.A X.stack s H :=
 ⟨I.ok.frames,I.ok.mod,I.bs,Nat.le_trans I.ok.bsz I.sz,I.stack,I.stkFree,I.hok,I.bare⟩
theorem Inv.after {Q:VK} {u:Value} (I:Inv X pins σ H s) (h:CE X.stack X.prog X.w H s Q u s'):EP X pins σ Q u s':=by
 obtain ⟨v,H',os,bare,un,hok,r,q⟩:=h
 obtain ⟨hh,g,d,t,os'⟩:=s'
 obtain rfl:os'=s.os:=os
 exact ⟨v,H',I.call (h':=hh) (g':=g) (d':=d) (t':=t) (ch:=[]) un hok bare (fun b z=>absurd z (by simp)),r,q⟩
end
def Qm (sp:Sp) (dvs:List V) (E:XK) (t:TA):TE:=fun σ H Q=>t σ H fun vs H1=>sp (vs++dvs) H1 Q E
def QE (C:Addr) (m:Str) (sp:Sp) (dvs:List V) (E:XK) (ta:TE) (t:TA):TE:=fun σ H Q=>ta σ H fun x H1=>∃a dx fs,x=.ref a/\H1 a=some (.ins C dx fs)/\fs.lookup m=none /\
 t σ H1 fun vs H2=>sp (x :: (vs++dvs)) H2 Q E
def Qq (C:Addr) (sp:Sp) (dvs:List V) (E:XK) (t:TA):TE:=fun σ H Q=>t σ H fun vs H1=>∀x dx,H1 x=none->H1 dx=none->dx≠x ->
 sp (.ref x :: (vs++dvs)) (upd (upd H1 dx (.own x)) x (.ins C dx [])) (fun v H2=>v=.non/\Q (.ref x) H2) E
def A0 (K:PySem.W.Frag) (fd:FuncData) (ps:List Str) (ds:List Value):Prop :=
 ∀(s:Shared) (us:List Value),K.In s.heap->(us++ds).length=ps.length->BindsTo s fd ⟨us,[]⟩ (ps.zip (us++ds))
theorem A0.all {K:PySem.W.Frag} {fd:FuncData} {ps:List Str} (h:∀us:List Value,us.length=ps.length->bindArgs fd ⟨us,[]⟩=pure (ps.zip us)):A0 K fd ps []:=fun s us _ hl=>by
 rw [List.append_nil] at hl ⊢
 exact .of_eq (h us hl)
def Ef (CX:CXT) (X:Cx) (E:XK):Prop:=∀(pins:List (Addr × Obj)) (σ:St) (H:Hp) (s:Shared) (e:Value) (s':Shared),Inv X pins σ H s->CX X.stack H s E e s'->X.xe e s'
section
variable {X:Cx} {CX:CXT} {k:Nat} {f C:Addr} {fd:FuncData} {ps:List Str} {sp:Sp} {dvs:List V} {ds:List Value} {E:XK} {x m:Str} {p pos apos:Pos} {e o:Expr} {es:List Expr} {ta:TE} {t:TA}
theorem Nz {pins:List (Addr × Obj)} {σ:St} {H:Hp} {s:Shared} {Q:VK} {us:List Value} {vs:List V} (F:AT X.prog X.w X.K X.mg X.base CX k f fd ps sp) (hr:Cj k X.A) (hb:A0 X.K fd ps ds) (hd:Aw dvs ds) (hx:Ef CX X E)
 (I:Inv X pins σ H s) (r:Aw vs us) (h:sp (vs++dvs) H Q E):wpAny (model X.prog X.w) X.A (call (.ref f) us) (EP X pins σ Q) X.xe s:=by
 have r2:Aw (vs++dvs) (us++ds):=r.append hd
 have hl:(us++ds).length=ps.length:=by rw [<- r2.length];exact F.len _ _ _ _ h
 refine wpAny_call (codeAny_mono (F.run X.A X.stack s H ⟨us,[]⟩ (us++ds) (vs++dvs) Q E hr I.env0 (hb s us I.kIn hl) r2 h) fun r s' hq=>?_)
 cases r with
 | error e=>exact hx pins σ H s e s' I hq
 | ok fl =>
   cases fl with
   | ret u=>exact I.after hq
   | next=>exact False.elim hq
   | brk=>exact False.elim hq
   | cont=>exact False.elim hq
theorem Aq (F:AT X.prog X.w X.K X.mg X.base CX k f fd ps sp) (hr:Cj k X.A) (hg:Gl X x) (hm:X.mg x=some (.ref f)) (hk:PySem.W.keepIn X.K (.ref f)=true) (hb:A0 X.K fd ps ds) (hd:Aw dvs ds) (hx:Ef CX X E)
 (ha:PA X (e :: es) t) (hdb:(x == ("__debug__":Str))=false:=by decide) (he:starEach (e :: es) X.env=(false,eval e X.env) :: starEach es X.env:=by rfl) (hpl:(backTo pos (starEach es X.env)).any (·.1)=false:=by rfl) :
 PE X (.Call (.Name x p) (e :: es) [] pos) (Qm sp dvs E t):=by
 intro pins s σ H Q I h
 refine wpAny_Call_Name_kw (DT I hg hm ?_ hdb)
 refine PySem.W.callWith_K (h₀:=X.base) I.ok.mod.kin hk (thn (ha pos pins s σ H _ I h) fun us s1 ⟨vs,H1,I1,r,q⟩=>⟨I1.kIn,?_⟩) he hpl
 exact Nz F hr hb hd hx I1 r q
theorem Cg {pl:Sem Bool} (he:PE X o ta) (c:Cls X.K C) (hm:JN X.K C m f) (F:AT X.prog X.w X.K X.mg X.base CX k f fd ps sp) (hr:Cj k X.A) (hb:A0 X.K fd ps ds) (hd:Aw dvs ds) (hx:Ef CX X E) (ha:PA X (e :: es) t)
 (hst:starEach (e :: es) X.env=(false,eval e X.env) :: starEach es X.env:=by rfl) (hpl:(backTo pos (starEach es X.env)).any (·.1)=false:=by rfl)
 (ht:eval (.Call (.Attribute o m apos) (e :: es) [] pos) X.env=(do
  let ov <- eval o X.env
  standAt apos.atName
  let (f,first) <- holding [ov] (getMethod ov m pl)
  callWith pos f first (backTo pos (starEach (e :: es) X.env)) (backToKw pos (keywordEach [] X.env))):=by rfl) :
 PE X (.Call (.Attribute o m apos) (e :: es) [] pos) (QE C m sp dvs E ta t):=by
 intro pins s σ H Q I h
 refine PySem.W.methodCall_KW (pl:=pl) (thn (he pins s σ H _ I h) fun u s1 ⟨x,H1,I1,rx,a,dx,fs,ex,ea,l,q⟩=>?_) ht
 subst ex
 obtain rfl:u=Value.ref a:=rx
 refine Js I1 ea c hm l ?_
 refine PySem.W.callWith_K (first:=[.ref a]) (h₀:=X.base) I.ok.mod.kin hm.kp (thn (ha pos pins s1 σ H1 _ I1 q) fun us s2 ⟨vs,H2,I2,r,q2⟩=>⟨I2.kIn,?_⟩) hst hpl
 exact Nz (us:=.ref a :: us) (vs:=.ref a :: vs) F hr hb hd hx I2 (.cons rfl r) q2
structure Mk (K:PySem.W.Frag) (C f:Addr):Prop where
 makes:PySem.W.makesIn K C=true
 init:PySem.W.findIn K (.ref C) "__init__"=some (some (.ref f))
 fn:PySem.W.isFn K (.ref f)=true
 kp:PySem.W.keepIn K (.ref C)=true
theorem No {pins:List (Addr × Obj)} {σ:St} {H:Hp} {s:Shared} {Q:VK} {us:List Value} {vs:List V} (M:Mk X.K C f) (F:AT X.prog X.w X.K X.mg X.base CX k f fd ps sp) (hr:Cj (k+1) X.A) (hb:A0 X.K fd ps ds) (hd:Aw dvs ds)
 (hx:Ef CX X E) (I:Inv X pins σ H s) (r:Aw vs us)
 (h:∀x dx,H x=none->H dx=none->dx≠x->sp (.ref x :: (vs++dvs)) (upd (upd H dx (.own x)) x (.ins C dx [])) (fun v H2=>v=.non/\Q (.ref x) H2) E) :
 wpAny (model X.prog X.w) X.A (call (.ref C) us) (EP X pins σ Q) X.xe s:=by
 have hq:=h (s.heap.objs.size+1) s.heap.objs.size (I.hok.fresh (Nat.le_succ _)) (I.hok.fresh (Nat.le_refl _)) (Nat.ne_of_lt (Nat.lt_succ_self _))
 have I2:=Inv.made (C:=C) I
 have r2:Aw (V.ref (s.heap.objs.size+1) :: (vs++dvs)) (Value.ref (s.heap.objs.size+1) :: (us++ds)):=.cons rfl (r.append hd)
 have hl:(Value.ref (s.heap.objs.size+1) :: us++ds).length=ps.length:=by
  have e:=r2.length
  rw [F.len _ _ _ _ hq] at e
  exact e.symm
 refine wpAny_call (Jl (f:=f) I.kIn M.makes M.init (beq_iff_eq.mp M.fn) (codeAny_mono (F.run _ X.stack _ _ ⟨Value.ref (s.heap.objs.size+1) :: us,[]⟩ (Value.ref (s.heap.objs.size+1) :: (us++ds)) _ _ E (hr.make C us [])
  (I2.env0.make C us []) (hb _ (Value.ref (s.heap.objs.size+1) :: us) I2.kIn hl) r2 hq) fun r s' hq'=>?_))
 cases r with
 | error e=>exact hx pins σ _ _ e s' I2 hq'
 | ok fl =>
   cases fl with
   | ret u =>
     obtain ⟨v,H',I3,rv,ev,q3⟩:=I2.after hq'
     subst ev
     exact ⟨rv,⟨V.ref (s.heap.objs.size+1),H',I3,rfl,q3⟩⟩
   | next=>exact False.elim hq'
   | brk=>exact False.elim hq'
   | cont=>exact False.elim hq'
theorem Ci (M:Mk X.K C f) (F:AT X.prog X.w X.K X.mg X.base CX k f fd ps sp) (hr:Cj (k+1) X.A) (hg:Gl X x) (hm:X.mg x=some (.ref C)) (hb:A0 X.K fd ps ds) (hd:Aw dvs ds) (hx:Ef CX X E)
 (ha:PA X (e :: es) t) (hdb:(x == ("__debug__":Str))=false:=by decide) (he:starEach (e :: es) X.env=(false,eval e X.env) :: starEach es X.env:=by rfl) (hpl:(backTo pos (starEach es X.env)).any (·.1)=false:=by rfl) :
 PE X (.Call (.Name x p) (e :: es) [] pos) (Qq C sp dvs E t):=by
 intro pins s σ H Q I h
 refine wpAny_Call_Name_kw (DT I hg hm ?_ hdb)
 refine PySem.W.callWith_K (h₀:=X.base) I.ok.mod.kin M.kp (thn (ha pos pins s σ H _ I h) fun us s1 ⟨vs,H1,I1,r,q⟩=>⟨I1.kIn,?_⟩) he hpl
 exact No M F hr hb hd hx I1 r q
end
section
variable {X:Cx} {CX:CXT} {k:Nat} {f C:Addr} {fd:FuncData} {ps ks:List Str} {sp:Sp} {E:XK} {x m:Str} {p pos apos kpos:Pos} {e o:Expr} {es:List Expr} {kws:List Keyword} {te ta:TE} {t tk:TA} {nm:Option Str}
variable {g:List Value->List Value->List Value} {gV:List V->List V->List V}
end
structure Ar (N P:List Str) (sc:Scope):Prop where
 kind:sc.kind=.function
 co:sc.isCoroutine=false
 gen:sc.isGenerator=false
 nd:N.Nodup
 pre:N.take P.length=P
 par:∀x∈P,sc.names.lookup x=some .local\/sc.names.lookup x=some .cell
 nofree:∀y∈sc.names,y.2≠.free
theorem Gu {kindOf:Str->Option NameKind} {x:Str}:∀{binds:List (Str × Value)} {m:Str->Option Value},(∀v,(x,v) ∉ binds)->bindL kindOf binds m x=m x
 | [],_,_=>rfl
 | (n,v) :: r,m,h=>by
   unfold bindL
   rw [Gu fun w hw=>h w (List.mem_cons_of_mem _ hw)]
   split
   ·have:x≠n:=by rintro rfl;exact h v List.mem_cons_self
    simp [this]
   ·rfl
theorem GI {kindOf:Str->Option NameKind} {x:Str}:∀{binds:List (Str × Value)} {m:Str->Option Value},(∀v,(x,v) ∉ binds)->bindC kindOf binds m x=m x
 | [],_,_=>rfl
 | (n,v) :: r,m,h=>by
   unfold bindC
   rw [GI fun w hw=>h w (List.mem_cons_of_mem _ hw)]
   split
   ·rfl
   ·have:x≠n:=by rintro rfl;exact h v List.mem_cons_self
    simp [this]
theorem Gz {kindOf:Str->Option NameKind} {x:Str} {v:Value}:∀{P:List Str} {vs:List Value} {i:Nat} {m:Str->Option Value},P.Nodup->P[i]?=some x->vs[i]?=some v->kindOf x=some .local ->
 bindL kindOf (P.zip vs) m x=some v
 | [],_,_,_,_,h,_,_=>by simp at h
 | _ :: _,[],_,_,_,_,h,_=>by simp at h
 | p :: P,w :: vs,0,m,nd,h1,h2,hk=>by
   simp at h1 h2;subst h1;subst h2
   show bindL kindOf ((p,w) :: P.zip vs) m p=_
   unfold bindL
   rw [Gu fun v hv=>(List.nodup_cons.mp nd).1 (List.of_mem_zip hv).1,if_pos hk]
   simp
 | p :: P,w :: vs,i+1,m,nd,h1,h2,hk=>by
   show bindL kindOf ((p,w) :: P.zip vs) m x=_
   unfold bindL
   exact Gz (i:=i) (List.nodup_cons.mp nd).2 (by simpa using h1) (by simpa using h2) hk
theorem GQ {kindOf:Str->Option NameKind} {x:Str} {v:Value}:∀{P:List Str} {vs:List Value} {i:Nat} {m:Str->Option Value},P.Nodup->P[i]?=some x->vs[i]?=some v->kindOf x≠some .local ->
 bindC kindOf (P.zip vs) m x=some v
 | [],_,_,_,_,h,_,_=>by simp at h
 | _ :: _,[],_,_,_,_,h,_=>by simp at h
 | p :: P,w :: vs,0,m,nd,h1,h2,hk=>by
   simp at h1 h2;subst h1;subst h2
   show bindC kindOf ((p,w) :: P.zip vs) m p=_
   unfold bindC
   rw [GI fun v hv=>(List.nodup_cons.mp nd).1 (List.of_mem_zip hv).1,if_neg hk]
   simp
 | p :: P,w :: vs,i+1,m,nd,h1,h2,hk=>by
   show bindC kindOf ((p,w) :: P.zip vs) m x=_
   unfold bindC
   exact GQ (i:=i) (List.nodup_cons.mp nd).2 (by simpa using h1) (by simpa using h2) hk
def start (N:List Str) (vs:List V):St:=vs.map some++List.replicate (N.length - vs.length) none
def FA (CX:CXT) (P:Program) (w:World) (K:PySem.W.Frag) (mg:Str->Option Value) (base:Heap) (N:List Str) (qual:Str) (scope:Scope) (f:Addr) (cd:Value) (A:Around) (outer:List Env) (s:Shared) (H:Hp) (E:XK):Cx where
 prog:=P
 w:=w
 K:=K
 mg:=mg
 base:=base
 A:=A.deeper (envOfC qual scope s.heap.objs.size f cd)
 N:=N
 s₀:=s
 H₀:=H
 env:=envOfC qual scope s.heap.objs.size f cd
 outer:=outer
 stack:=envOfC qual scope s.heap.objs.size f cd :: outer
 ex:=[]
 calm:=true
 fn:=fun _=>true
 pn:=[]
 xe:=fun e s'=>wpAny (model P w) (A.deeper (envOfC qual scope s.heap.objs.size f cd)) (leaving (envOfC qual scope s.heap.objs.size f cd) e) (fun _ s''=>CX outer H s E e s'') (fun e' s''=>CX outer H s E e' s'') s'
theorem HY {sc:Scope} {n:Nat} {x:Str} (h:sc.names.lookup x=some .cell):∃c,(cellsFrom n sc.names []).lookup x=some c:=by
 have q:=PySem.W.cellsFrom_some sc.names n [] (.inl h)
 exact Option.isSome_iff_exists.mp q
theorem Lh {CX:CXT} {P:Program} {w:World} {K:PySem.W.Frag} {mg:Str->Option Value} {base:Heap} {N ps:List Str} {qual:Str} {scope:Scope} {f:Addr} {cd:Value} {A:Around} {outer:List Env} {s s1:Shared} {H:Hp} {E:XK} {us:List Value} {vs:List V}
 (S:Ar N ps scope) (hd:A.handled=none) (e0:JL P w K mg base A outer s H) (hl:vs.length=ps.length) (r:Aw vs us)
 (x:InCallC s s.heap.objs.size (bindL (envOfC qual scope s.heap.objs.size f cd).kindOf (ps.zip us) fun _=>none) (cellsFrom (s.heap.objs.size+1) scope.names []) (bindC (envOfC qual scope s.heap.objs.size f cd).kindOf (ps.zip us) fun _=>none) s1) :
 Inv (FA CX P w K mg base N qual scope f cd A outer s H E) [] (start N vs) H s1:=by
 have hpl:ps.length<=N.length:=by have:=congrArg List.length S.pre;rw [List.length_take] at this;omega
 obtain ⟨h1,tk,rfl,hk⟩:=x.done
 have noA:∀b:Addr,b ∉ (FA CX P w K mg base N qual scope f cd A outer s H E).ex:=fun b z=>absurd (show b∈([]:List Addr) from z) (by simp)
 refine ⟨⟨e0.mod,S.kind,rfl,rfl,Nat.le_refl _,fun y z c h1 h2=>?_,fun y hy=>?_,fun y c _ h=>?_,fun _=>hd,Around.frames_deeper e0.frames,.inr ⟨rfl,rfl⟩,fun b z=>absurd z (noA b),e0.bs,e0.bsz,fun b _ _=>noA b,fun b z=>absurd z (noA b),e0.funs,e0.frf⟩,
  rfl,e0.bare,Un.kept hk,⟨_,x.toInCall.ns,fun i y v h1 h2 h3=>?_⟩,fun y c h=>⟨_,x.cell y c h⟩,e0.hok.fresh (Nat.le_refl _),fun y c h=>?_,fun p hp=>absurd (show p∈([]:List (Addr × Obj)) from hp) (by simp),e0.hok.kept hk,?_⟩
 ·exact name_of_addr x.apart (PySem.mem_of_lookup h1) (PySem.mem_of_lookup h2)
 ·have hy:scope.names.lookup y=some .cell\/scope.names.lookup y=some .free:=hy
  rcases hy with hy | hy
  ·exact HY hy
  ·exact absurd rfl (S.nofree _ (PySem.mem_of_lookup hy))
 ·exact Nat.le_of_lt (x.above y c (PySem.mem_of_lookup h))
 ·have hi:i < vs.length:=by
   unfold start at h2
   by_cases hi:i < vs.length
   ·exact hi
   ·rw [List.getElem?_append_right (by simpa using hi)] at h2
    rw [List.getElem?_replicate] at h2
    split at h2 <;> cases h2
  have ha:vs[i]?=some v:=by
   unfold start at h2
   rw [List.getElem?_append_left (by simpa using hi),List.getElem?_map] at h2
   cases e:vs[i]? with
   | none=>rw [e] at h2;cases h2
   | some a=>rw [e] at h2;cases h2;rfl
  obtain ⟨u,hu,rv⟩:=r.get ha
  have hp:ps[i]?=some y:=by
   rw [<- S.pre,List.getElem?_take_of_lt (by omega)];exact h1
  have ndP:ps.Nodup:=by rw [<- S.pre];exact S.nd.sublist (List.take_sublist _ _)
  refine ⟨u,rv,?_⟩
  rcases S.par y (List.mem_of_getElem? hp) with k | k
  ·exact .inl ⟨k,Gz ndP hp hu k⟩
  ·obtain ⟨c,e⟩:=HY (n:=s.heap.objs.size+1) k
   refine .inr ⟨.inl k,c,e,?_⟩
   have q:=x.cell y c e
   rw [GQ ndP hp hu (by show scope.names.lookup y≠_;rw [k];decide)] at q
   exact q
 ·exact e0.hok.fresh (Nat.le_of_lt (x.above y c (PySem.mem_of_lookup h)))
 ·unfold start
  show _=N.length
  rw [List.length_append,List.length_map,List.length_replicate]
  omega
theorem Mm {CX:CXT} {P:Program} {w:World} {K:PySem.W.Frag} {mg:Str->Option Value} {base:Heap} {k:Nat} {f:Addr} {name qual:Str} {params:Arguments} {body:List Stmt} {scope:Scope} {dV kV doc pm cdv ct oc:Value} {an od:Option Addr}
 {osl:Array (Option Value)} {N ps:List Str} {sp:Sp} (lk:K.lookup f=some ⟨oc,od,.func (PySem.W.fnOf name qual params body scope dV kV doc pm an cdv ct),osl⟩) (hcd:PySem.W.codeIn K cdv qual=true) (S:Ar N ps scope)
 (len:∀vs H Q E,sp vs H Q E->vs.length=ps.length)
 (hbody:∀(A:Around) (outer:List Env) (s:Shared) (H:Hp) (vs:List V) (Q:VK) (E:XK),Cj k (A.deeper (envOfC qual scope s.heap.objs.size f cdv))->sp vs H Q E ->
  ∃t,PSs (FA CX P w K mg base N qual scope f cdv A outer s H E) body t/\t { nx:=fun _ H'=>Q .non H',rt:=Q } (start N vs) H) :
 AT P w K mg base CX (k+1) f (PySem.W.fnOf name qual params body scope dV kV doc pm an cdv ct) ps sp:=by
 refine ⟨len,fun A outer s H args us vs Q E hr e0 hb r hsp=>?_⟩
 have hl:=len _ _ _ _ hsp
 have KX:K.In s.heap:=e0.mod.kin.keeps fun b o e=>(e0.bs b o e).1
 have lim:s.heap.NoLimit:=e0.mod.nolimit.keeps fun b o e=>(e0.bs b o e).1
 have hkind:∀y∈ps.zip us,scope.names.lookup y.1=some .local\/(scope.names.lookup y.1=some .cell/\((cellsFrom (s.heap.objs.size+1) scope.names []).lookup y.1).isSome=true):=fun ⟨n,v⟩ hy=>by
  rcases S.par n (List.of_mem_zip hy).1 with q | q
  ·exact .inl q
  ·exact .inr ⟨q,PySem.W.cellsFrom_some _ _ _ (.inl q)⟩
 refine codeAny_call_function hr.depth (KX _ _ lk) rfl S.co S.gen rfl (PySem.W.codeRec_of KX hcd) (hb _ _ _ _ ?_)
 refine wpAny_newFunctionEnv_cells S.kind hkind fun env he s1 x=>?_
 subst he
 refine ⟨lim.keeps x.toInCall.keep,codeAny_func ?_⟩
 obtain ⟨t,ht,hq⟩:=hbody A outer s H vs Q E (hr.deeper _) hsp
 have I:Inv (FA CX P w K mg base N qual scope f cdv A outer s H E) [] (start N vs) H s1:=Lh S hr.hd e0 hl r x
 refine wpAny_mono (ht [] s1 (start N vs) H _ I hq) (fun fl s' hs=>?_) fun e s' hs=>hs
 have fin:∀{σ':St} {H':Hp} {v:V} {u:Value},Inv (FA CX P w K mg base N qual scope f cdv A outer s H E) [] σ' H' s'->Av v u->Q v H'->CE outer P w H s Q u s' :=
  fun {σ' H' v u} J rv q=>⟨v,H',J.os,J.bare,J.base,J.hok,rv,q⟩
 cases fl with
 | ret u =>
   obtain ⟨v,σ',H',J,rv,q⟩:=hs
   exact fin J rv q
 | next =>
   obtain ⟨σ',H',J,q⟩:=hs
   exact fin (v:=V.non) (u:=Value.none) J rfl q
 | brk =>
   obtain ⟨_,_,_,q⟩:=hs
   exact False.elim q
 | cont =>
   obtain ⟨_,_,_,q⟩:=hs
   exact False.elim q
end L2
namespace L2
open PySem PySem.Spec PyProof.Rows
section
variable {X:Cx} {x:Str} {p pos:Pos} {e:Expr} {es:List Expr} {t:TA} {id T:String} {r:List V->Hp->VK->Prop}
def tCB (r:List V->Hp->VK->Prop) (t:TA):TE:=fun σ H Q=>t σ H fun vs H1=>r vs H1 Q
theorem Am (hc:Cy X (.builtin id) r) (hg:Gl X x) (hm:X.mg x=none) (hv:bootBuiltins x=some (.builtin id)) (ha:PA X (e :: es) t) (hn:x≠"__name__":=by decide) (hdb:(x == ("__debug__":Str))=false:=by decide)
 (he:starEach (e :: es) X.env=(false,eval e X.env) :: starEach es X.env:=by rfl) (hpl:(backTo pos (starEach es X.env)).any (·.1)=false:=by rfl):PE X (.Call (.Name x p) (e :: es) [] pos) (tCB r t):=by
 intro pins s σ H Q I h
 refine wpAny_Call_Name_kw (CH I hg hm hv ?_ hn hdb)
 exact PyProof.Rows.callWith_builtin1 (thn (ha pos pins s σ H _ I h) fun us s1 ⟨vs,H1,I1,r1,q1⟩=>hc pins s1 σ H1 vs us Q I1 r1 q1) he hpl
theorem BU (hc:Cy X (.type T) r) (hg:Gl X x) (hm:X.mg x=none) (hv:bootBuiltins x=some (.type T)) (ha:PA X (e :: es) t) (hn:x≠"__name__":=by decide) (hdb:(x == ("__debug__":Str))=false:=by decide)
 (he:starEach (e :: es) X.env=(false,eval e X.env) :: starEach es X.env:=by rfl) (hpl:(backTo pos (starEach es X.env)).any (·.1)=false:=by rfl):PE X (.Call (.Name x p) (e :: es) [] pos) (tCB r t):=by
 intro pins s σ H Q I h
 refine wpAny_Call_Name_kw (CH I hg hm hv ?_ hn hdb)
 exact PyProof.Rows.callWith_type1 (thn (ha pos pins s σ H _ I h) fun us s1 ⟨vs,H1,I1,r1,q1⟩=>hc pins s1 σ H1 vs us Q I1 r1 q1) he hpl
end
end L2
namespace HT
open PySem PyProof.Rows
def lexLt:List Int->List Int->Bool
 | [],[]=>false
 | [],_ :: _=>true
 | _ :: _,[]=>false
 | x :: xs,y :: ys=>if x=y then lexLt xs ys else decide (x < y)
theorem lexLt_cons (x y:Int) (xs ys:List Int):lexLt (x :: xs) (y :: ys)=if x=y then lexLt xs ys else decide (x < y):=rfl
theorem Gj:lexLt [] []=false:=rfl
theorem Fy (y:Int) (ys:List Int):lexLt [] (y :: ys)=true:=rfl
theorem FB (x:Int) (xs:List Int):lexLt (x :: xs) []=false:=rfl
theorem MM (A:Around) (s:Shared) (a:Int) (t:Tok) (c:Int) (u:Tok):∃e,SeqAt.EqAt A s (.int a t) (.int c u) e/\(e=true↔a=c) :=
 ⟨(a == c),SeqAt.EqAt.int_int a t c u,by simp⟩
theorem N5 (A:Around) (s:Shared) (a:Int) (t:Tok) (c:Int) (u:Tok) (prog:Program) (w:World) (E:Value->Shared->Prop) (Q:Value->Shared->Prop) (h:Q (.bool (decide (a < c))) s) :
 wpAny (model prog w) A (richCompare .Lt (.int a t) (.int c u)) Q E s :=
 (PyProof.Rows.lt_int h:wpAny (model prog w) A (compareOp .Lt (.int a t) (.int c u)) Q E s)
section
open PySem.SeqAt
open PySem.AutoSeq1 (wpAny_loadPart')
open PySem.MeetsSeq PySem.MeetsSeq2 PySem.MeetsSeq3
theorem tuple_lt_ints (l b:Addr) (items items2:Array Value) (n n2:Nat) (dd dd2:Option Addr) (sl sl2:Array (Option Value)) (ns ms:List Int) (hi:IntsAre items.toList ns) (hj:IntsAre items2.toList ms) :
 Meets (Builtin.«tuple.__lt__» ⟨[.ref l,.ref b],[]⟩)
  (fun _ R s=>s.heap.get? l=some { cls:=.type "tuple",dict:=dd,data:=.seq items n,slots:=sl }/\s.heap.get? b=some { cls:=.type "tuple",dict:=dd2,data:=.seq items2 n2,slots:=sl2 } /\
   R (.ok (.ret (.bool (lexLt ns ms)))) s) :=
 .of_wp fun prog w A R s h=>by
  obtain ⟨hp,g,d,tk,os⟩:=s;obtain ⟨hl,hb,h⟩:=h
  have f2:=AutoSeq1.sub_tuple_tuple
  have z1:items.size=ns.length:=by rw [<- hi.length];simp
  have z2:items2.size=ms.length:=by rw [<- hj.length];simp
  wp_walk using wpAny_loadPart' hl,wpAny_loadPart' hb,wpAny_forIn_list _ (fun rest b s'=>b.1=none/\s'=⟨hp,g,d,tk,os⟩/\∃(vs ws:List Value) (ns' ms':List Int),rest=vs.zip ws /\
   IntsAre vs ns'/\IntsAre ws ms'/\ns'.length+items2.size=ms'.length+items.size/\R (.ok (.ret (.bool (lexLt ns' ms')))) ⟨hp,g,d,tk,os⟩) _
  case turn =>
   rintro ⟨y,x⟩ rest b s' ⟨hb',rfl,vs,ws,ns',ms',hz,hvi,hwi,hlen,hR⟩
   cases hvi with
   | nil=>rw [List.zip_nil_left] at hz;cases hz
   | cons a t hvi' =>
     cases hwi with
     | nil=>rw [List.zip_nil_right] at hz;cases hz
     | cons c u hwi' =>
       rw [List.zip_cons_cons] at hz
       injection hz with hyx hrest
       injection hyx with hy hx
       subst hy hx
       rw [lexLt_cons] at hR
       simp only [List.length_cons] at hlen
       obtain ⟨e,he,hiff⟩:=MM A.in1 ⟨hp,g,d,tk,os⟩ a t c u
       refine wpAny_bind (he prog w _ _ ?_)
       cases e with
       | true =>
         rw [if_pos (hiff.mp rfl)] at hR
         wp_walk
         exact ⟨rfl,rfl,_,_,_,_,hrest,hvi',hwi',by omega,hR⟩
       | false =>
         rw [if_neg (fun q=>absurd (hiff.mpr q) Bool.false_ne_true)] at hR
         have hri:=N5 A.in1 ⟨hp,g,d,tk,os⟩ a t c u prog w
         wp_walk using hri
         exact ⟨_,rfl,by simpa using hR⟩
  case fin =>
   rintro ⟨b1,b2⟩ s' ⟨hb',rfl,vs,ws,ns',ms',hz,hvi,hwi,hlen,hR⟩
   simp only at hb'
   subst hb'
   have hv:lexLt ns' ms'=decide (items.size < items2.size):=by
    cases hvi with
    | nil =>
      cases hwi with
      | nil =>
        simp only [List.length_nil] at hlen
        rw [Gj]
        exact (decide_eq_false (by omega)).symm
      | cons c u hw =>
        simp only [List.length_nil,List.length_cons] at hlen
        rw [Fy]
        exact (decide_eq_true (by omega)).symm
    | cons a t hv =>
      cases hwi with
      | nil =>
        simp only [List.length_nil,List.length_cons] at hlen
        rw [FB]
        exact (decide_eq_false (by omega)).symm
      | cons c u hw =>
        rw [List.zip_cons_cons] at hz
        cases hz
   rw [hv] at hR
   wp_walk
   exact ⟨_,rfl,by simpa [Builtin.Tuple.tupleCompareSizes] using hR⟩
  case h =>
   exact ⟨rfl,rfl,items.toList,items2.toList,ns,ms,rfl,hi,hj,by omega,h⟩
end
section
variable {prog:Program} {w:World} {A:Around} {E:Value->Shared->Prop} {s:Shared}
theorem lt_tupInts {l b:Addr} {items items2:Array Value} {ns ms:List Int} {Q:Value->Shared->Prop} (hl:IsTup s.heap l items) (hb:IsTup s.heap b items2) (hi:IntsAre items.toList ns) (hj:IntsAre items2.toList ms)
 (hu:A.units < cLine) (h:Q (.bool (lexLt ns ms)) s):wpAny (model prog w) A (compareOp .Lt (.ref l) (.ref b)) Q E s:=by
 obtain ⟨⟨cls,dd,data,sl⟩,ho,hc,n,hd⟩:=id hl
 obtain ⟨⟨cls2,dd2,data2,sl2⟩,ho2,hc2,n2,hd2⟩:=id hb
 simp only at hc hd hc2 hd2
 subst hc hd hc2 hd2
 exact richCompare_meets_room (op:=.Lt) ⟨_,ho,rfl⟩ ⟨_,ho2,rfl⟩ PySem.F.slot_tuple_lt PySem.F.entry_tuple_lt (PySem.F.args_tuple_lt_2 _ _) (tuple_lt_ints l b items items2 n n2 dd dd2 sl sl2 ns ms hi hj)
  ⟨ho,ho2,show Value.bool (lexLt ns ms)≠Value.notImplemented/\Q (.bool (lexLt ns ms)) s from ⟨(fun x=>nomatch x),h⟩⟩ hu
def sIx (n d:Nat):Option Int->Nat
 | none=>d
 | some v=>if v < 0 then (v+(n:Int)).toNat else min v.toNat n
theorem sIx_none (n d:Nat):sIx n d none=d:=rfl
theorem sIx_nat (n d k:Nat):sIx n d (some (k:Int))=min k n:=by
 show (if (k:Int) < 0 then ((k:Int)+(n:Int)).toNat else min (k:Int).toNat n)=min k n
 rw [if_neg (by omega),Int.toNat_natCast]
end
end HT
namespace L2
open PySem PySem.Spec PyProof.Rows
abbrev TO:=St->Hp->(Option Int->Hp->Prop)->Prop
def PO (X:Cx) (e:Option Expr) (t:TO):Prop :=
 ∀(pins:List (Addr × Obj)) (s:Shared) (σ:St) (H:Hp) (Q:Option Int->Hp->Prop),Inv X pins σ H s->t σ H Q ->
  wpAny (model X.prog X.w) X.A (evalPart e X.env) (fun u s'=>∃o H',Inv X pins σ H' s'/\IsPart u o/\Q o H') X.xe s
def O3:TO:=fun _ H Q=>Q none H
def Qi (t:TE):TO:=fun σ H Q=>t σ H fun x H1=>∃i,x=.int i/\Q (some i) H1
theorem Cp {ns:List Int}:∀{us:List Value},Aw (ns.map V.int) us->IntsAre us ns:=by
 induction ns with
 | nil=>intro us r;rw [List.map_nil] at r;cases r;exact .nil
 | cons n ns ih =>
   intro us r
   rw [List.map_cons] at r
   cases r with
   | cons r1 r2 =>
     obtain ⟨t,e⟩:=r1
     subst e
     exact .cons n t (ih r2)
section
variable {X:Cx} {e:Expr} {te:TE} {lo hi:Option Expr} {tl th:TO} {pos p2:Pos}
theorem Kn:PO X none O3:=by
 intro pins s σ H Q I h
 rw [evalPart_none]
 exact wpAny_pure ⟨none,H,I,.none,h⟩
theorem KJ (h:PE X e te):PO X (some e) (Qi te):=by
 intro pins s σ H Q I hw
 rw [evalPart_some]
 refine thn (h pins s σ H _ I hw) fun u s1 ⟨x,H1,I1,r1,q1⟩=>?_
 obtain ⟨i,rfl,q⟩:=q1
 obtain ⟨t,rfl⟩:=r1
 exact ⟨some i,H1,I1,.int i t,q⟩
def SlR (X:Cx) (r:V->Option Int->Option Int->Hp->VK->Prop):Prop :=
 ∀(pins:List (Addr × Obj)) (s:Shared) (σ:St) (H:Hp) (x:V) (v vl vu:Value) (lo hi:Option Int) (sl:Addr) (Q:VK),Inv X pins σ H s->Av x v->s.heap.IsSliceOf sl vl vu .none->IsPart vl lo->IsPart vu hi->r x lo hi H Q ->
  ∃T id,typeLookup (.type T) "__getitem__"=pure (some (.builtin id))/\s.TypeIs v T/\wpAny (model X.prog X.w) X.A (getItem v (.ref sl)) (EP X pins σ Q) X.xe s
def tSl (r:V->Option Int->Option Int->Hp->VK->Prop) (te:TE) (tl th:TO):TE:=fun σ H Q=>te σ H fun x H1=>tl σ H1 fun l H2=>th σ H2 fun u H3=>r x l u H3 Q
theorem IW {r:V->Option Int->Option Int->Hp->VK->Prop} (hr:SlR X r) (he:PE X e te) (hl:PO X lo tl) (hu:PO X hi th):PE X (.Subscript e (.Slice lo hi none p2) pos) (tSl r te tl th):=by
 intro pins s σ H Q I h
 refine Subscript_ (thn (he pins s σ H _ I h) fun v s1 ⟨x,H1,I1,r1,q1⟩=>?_)
 refine wpAny_Slice (thn (hl pins s1 σ H1 _ I1 q1) fun vl s2 ⟨l,H2,I2,pl,q2⟩=>thn (hu pins s2 σ H2 _ I2 q2) fun vu s3 ⟨u,H3,I3,pu,q3⟩=>?_)
 rw [evalPart_none]
 refine wpAny_pure ?_
 have I4:Inv X pins σ H3 { s3 with heap:=s3.heap.push { cls:=.type "slice",data:=.fields #[vl,vu,.none] } }:=I3.kept (t':=s3.toks) fun b ob q=>Heap.get?_push_of_some _ q
 obtain ⟨T,id,hT,ht,hg⟩:=hr pins { s3 with heap:=s3.heap.push { cls:=.type "slice",data:=.fields #[vl,vu,.none] } } σ H3 x v vl vu l u s3.heap.objs.size Q I4 r1 (Heap.IsSliceOf.new ..) pl pu q3
 show wpAny (model X.prog X.w) X.A (subscriptTail e (.Slice lo hi none p2) v (.ref s3.heap.objs.size)) (EP X pins σ Q) X.xe { s3 with heap:=s3.heap.push { cls:=.type "slice",data:=.fields #[vl,vu,.none] } }
 exact tail_any (ops:=[.ref s3.heap.objs.size,v]) ht hT hg (by with_unfolding_all rfl)
def He (xs:List V) (lo hi:Option Int):List V:=(xs.drop (HT.sIx xs.length 0 lo)).take (HT.sIx xs.length xs.length hi - HT.sIx xs.length 0 lo)
theorem Ie (xs:List V) (lo hi:Option Int):(He xs lo hi).length<=xs.length:=by
 unfold He
 rw [List.length_take,List.length_drop]
 omega
end
end L2
namespace L2
open PySem PySem.Spec PyProof.Rows
def ixN (n:Nat) (i:Int):Option Nat:=if 0<=i then (if i < n then some i.toNat else none) else if -(n:Int)<=i then some (i+n).toNat else none
def atI {α:Type} (xs:List α) (i:Int):Option α:=(ixN xs.length i).bind fun j=>xs[j]?
theorem Hi {n:Nat} {i:Int} {j:Nat} (h:ixN n i=some j):seqIndex? i n=some j/\j < n/\-(n:Int)<=i/\i < n:=by
 unfold ixN at h
 by_cases h0:0<=i
 ·rw [if_pos h0] at h
  by_cases h1:i < n
  ·rw [if_pos h1] at h
   have e:i.toNat=j:=Option.some.inj h
   exact ⟨by rw [seqIndex_of h0 h1,e],by omega,by omega,h1⟩
  ·rw [if_neg h1] at h;cases h
 ·rw [if_neg h0] at h
  by_cases h1:-(n:Int)<=i
  ·rw [if_pos h1] at h
   have e:(i+n).toNat=j:=Option.some.inj h
   exact ⟨by rw [seqIndex_neg (by omega) h1,e],by omega,h1,by omega⟩
  ·rw [if_neg h1] at h;cases h
theorem Ko {α:Type} {xs:List α} {i:Int} {v:α} (h:atI xs i=some v):∃j,seqIndex? i xs.length=some j/\xs[j]?=some v/\j < xs.length/\-(xs.length:Int)<=i/\i < xs.length:=by
 unfold atI at h
 cases e:ixN xs.length i with
 | none=>rw [e] at h;cases h
 | some j =>
   rw [e] at h
   obtain ⟨h1,h2,h3,h4⟩:=Hi e
   exact ⟨j,h1,h,h2,h3,h4⟩
theorem E2 {α:Type} {xs:List α} {j:Nat} {v:α} (h:xs[j]?=some v):atI xs (j:Int)=some v:=by
 have hj:j < xs.length:=(List.getElem?_eq_some_iff.mp h).1
 have e:ixN xs.length (j:Int)=some j:=by
  unfold ixN
  rw [if_pos (by omega),if_pos (by omega)];simp
 unfold atI;rw [e];exact h
def Op (b:Expr):Prop:=∀o i,subscripted b false o i=operate [o,i] (getItem o i)
def IxR (X:Cx) (r:R2):Prop :=
 ∀(value slice:Expr) (pins:List (Addr × Obj)) (s:Shared) (σ:St) (H:Hp) (x y:V) (v u:Value) (Q:VK),Inv X pins σ H s->Av x v->Av y u->r x y H Q ->
  subscripted slice false v u=operate [v,u] (getItem v u)->wpAny (model X.prog X.w) X.A (subscriptTail value slice v u) (EP X pins σ Q) X.xe s
def MtR (X:Cx) (id:String) (r:V->List V->Hp->VK->Prop):Prop :=
 ∀(pins:List (Addr × Obj)) (s:Shared) (σ:St) (H:Hp) (x:V) (xs:List V) (v:Value) (us:List Value) (Q:VK),Inv X pins σ H s->Av x v->Aw xs us->r x xs H Q ->
  wpAny (model X.prog X.w) X.A (call (.builtin id) (v :: us)) (EP X pins σ Q) X.xe s
section
variable {X:Cx} {a b:Expr} {ta tb:TE} {pos:Pos}
theorem A4 {r:R2} (hr:IxR X r) (ha:PE X a ta) (hb:PE X b tb) (hs:Op b):PE X (.Subscript a b pos) (tOp r ta tb):=by
 intro pins s σ H Q I h
 exact Subscript_ (OX ha hb I h fun v u s2 x y H2 I2 rx ry q=>hr a b pins s2 σ H2 x y v u Q I2 rx ry q (hs _ _))
def QG (K:PySem.W.Frag):R2:=fun x y H Q=>∃p xs i v,x=.ref p/\y=.int i/\SqL K H p xs/\atI xs i=some v/\Q v H
def QD (K:PySem.W.Frag):R2:=fun x y H Q=>∃p xs i v,x=.ref p/\y=.int i/\SqT K H p xs/\atI xs i=some v/\Q v H
theorem AH:IxR X (QG X.K):=by
 intro value slice pins s σ H x y v u Q I rx ry h hs
 obtain ⟨p,xs,i,z,rfl,rfl,hq,he,q⟩:=h
 cases rx
 obtain ⟨t,rfl⟩:=ry
 obtain ⟨its,r,pl,hz⟩:=I.list hq
 obtain ⟨j,h1,h2,h3,h4,h5⟩:=Ko he
 obtain ⟨w,ew,rw'⟩:=r.get h2
 have hl:=r.length
 have hn:=Hn
 have fin:EP X pins σ Q w s:=⟨z,H,I,rw',q⟩
 by_cases h0:0<=i
 ·have hj:i.toNat=j:=by
   rw [seqIndex_of h0 h5] at h1
   exact Option.some.inj h1
  exact item_listR pl.isList h0 (by omega) (by rw [hj];simpa using ew) fin hs
 ·have hj:(i+(its.toArray.size:Int)).toNat=j:=by
   rw [seqIndex_neg (by omega) h4] at h1
   rw [List.size_toArray,<- hl]
   exact Option.some.inj h1
  exact subscriptTail_builtinR (x:=w) pl.isList.typeIs slot_list_getitem.lookup
   (wpAny_getItem_list_neg (Q:=fun r s'=>r=w/\EP X pins σ Q r s') pl.isList (by omega) (by rw [List.size_toArray] <;> omega) (by omega) (by rw [hj];simpa using ew) ⟨rfl,fin⟩) hs
theorem Dn:IxR X (QD X.K):=by
 intro value slice pins s σ H x y v u Q I rx ry h hs
 obtain ⟨p,xs,i,z,rfl,rfl,hq,he,q⟩:=h
 cases rx
 obtain ⟨t,rfl⟩:=ry
 obtain ⟨its,r,pl,hz⟩:=I.tuple hq
 obtain ⟨j,h1,h2,h3,h4,h5⟩:=Ko he
 obtain ⟨w,ew,rw'⟩:=r.get h2
 have hl:=r.length
 have hn:=Hn
 have fin:EP X pins σ Q w s:=⟨z,H,I,rw',q⟩
 exact subscriptTail_builtinR (x:=w) pl.typeIs slot_tuple_getitem.lookup
  (getItem_tuple (j:=j) (Q:=fun r s'=>r=w/\EP X pins σ Q r s') pl (by omega) (by omega) (by rw [List.size_toArray,<- hl];exact h1) (by simpa using ew) ⟨rfl,fin⟩) hs
theorem Kc (its:List Value) (n j:Nat) (u:Value):Obj.mapSeq (·.setIfInBounds j u) { cls:=.type "list",data:=.seq its.toArray n }={ cls:=.type "list",data:=.seq (its.set j u).toArray n }:=by
 simp [Obj.mapSeq]
theorem Inv.lst {pins:List (Addr × Obj)} {σ:St} {H:Hp} {s:Shared} {p:Addr} {xs:List V} (I:Inv X pins σ H s) (h:H p=some (.lst xs)) :
 ∃(its:List Value) (n:Nat),Aw xs its/\s.heap.get? p=some { cls:=.type "list",data:=.seq its.toArray n }/\xs.length<=sizeLine:=by
 obtain ⟨z,its,n,r,e⟩:=I.hok p _ h
 exact ⟨its,n,r,e,z⟩
theorem Inv.lstUpd {pins:List (Addr × Obj)} {σ:St} {H:Hp} {s:Shared} {p:Addr} {xs ys:List V} {its its':List Value} {n n':Nat} {f:Obj->Obj} (I:Inv X pins σ H s) (h:H p=some (.lst xs))
 (ho:s.heap.get? p=some { cls:=.type "list",data:=.seq its.toArray n }) (hf:f { cls:=.type "list",data:=.seq its.toArray n }={ cls:=.type "list",data:=.seq its'.toArray n' }) (r:Aw ys its') (hz:ys.length<=sizeLine) (t:Nat) :
 Inv X pins σ (upd H p (.lst ys)) { s with heap:=s.heap.update p f,toks:=t }:=by
 have e:(s.heap.update p f).get? p=some { cls:=.type "list",data:=.seq its'.toArray n' }:=by
  rw [Heap.get?_update_self f ho (by rw [hf] <;> rfl),hf]
 refine I.write (x:=p) (e:=p) (by rw [h];trivial) (.inl rfl) (fun b u hb q=>(Heap.get?_update_other _ _ (Ne.symm hb)).trans q) ⟨_,e⟩ ?_
 exact ⟨hz,its',n',r,e⟩
def Qs:V->V->V->Hp->(Hp->Prop)->Prop:=fun o i v H Q=>∃p xs k j,o=.ref p/\i=.int k/\H p=some (.lst xs)/\ixN xs.length k=some j/\Q (upd H p (.lst (xs.set j v)))
theorem Dy:Qr X Qs:=by
 intro pins s σ H o i v ov iv u Q I ro ri rv h
 obtain ⟨p,xs,k,j,rfl,rfl,hp,hj,q⟩:=h
 cases ro
 obtain ⟨t,rfl⟩:=ri
 obtain ⟨its,n,r,ho,hz⟩:=I.lst hp
 obtain ⟨h1,h2,h3,h4⟩:=Hi hj
 have hl:=r.length
 have hn:=Hn
 have I':Inv X pins σ (upd H p (.lst (xs.set j v))) { s with heap:=s.heap.update p (Obj.mapSeq (·.setIfInBounds j u)) } :=
  I.lstUpd hp ho (Kc its n j u) (r.set rv j) (by rw [List.length_set];exact hz) s.toks
 by_cases h0:0<=k
 ·have hk:k.toNat=j:=by
   rw [seqIndex_of h0 h4] at h1
   exact Option.some.inj h1
  exact PySem.W.ki_setAt ho h0 (by omega) (by rw [List.size_toArray,<- hl];exact h4) (by rw [hk];exact ⟨_,I',q⟩)
 ·have hk:(k+(its.toArray.size:Int)).toNat=j:=by
   rw [seqIndex_neg (by omega) h3] at h1
   rw [List.size_toArray,<- hl]
   exact Option.some.inj h1
  exact PySem.W.ki_setBack ho (by omega) (by rw [List.size_toArray,<- hl];exact h3) (by omega) (by rw [hk];exact ⟨_,I',q⟩)
theorem HE (lo hi:Option Int) (n:Nat):(sliceBounds lo hi none n).1=((HT.sIx n 0 lo:Nat):Int)/\(sliceBounds lo hi none n).2.1=((HT.sIx n n hi:Nat):Int)/\(sliceBounds lo hi none n).2.2=1:=by
 refine ⟨?_,?_,rfl⟩
 ·cases lo with
  | none=>simp [sliceBounds,HT.sIx]
  | some i =>
    simp only [sliceBounds,HT.sIx,Option.getD_none,show (1:Int) > 0 by decide,if_true]
    by_cases h:i < 0
    ·simp only [h,if_true] <;> omega
    ·simp only [h,if_false] <;> omega
 ·cases hi with
  | none=>simp [sliceBounds,HT.sIx]
  | some i =>
    simp only [sliceBounds,HT.sIx,Option.getD_none,show (1:Int) > 0 by decide,if_true]
    by_cases h:i < 0
    ·simp only [h,if_true] <;> omega
    ·simp only [h,if_false] <;> omega
theorem Gn (its:List Value) (lo hi:Option Int):slicePick its.toArray lo hi none=((its.drop (HT.sIx its.length 0 lo)).take (HT.sIx its.length its.length hi - HT.sIx its.length 0 lo)).toArray:=by
 obtain ⟨h1,h2,h3⟩:=HE lo hi its.toArray.size
 unfold slicePick
 rw [h1,h2,h3]
 simp only [sliceRange_one,pick_run,List.size_toArray] <;> rfl
def QW (K:PySem.W.Frag):V->Option Int->Option Int->Hp->VK->Prop:=fun x lo hi H Q=>∃a xs,x=.ref a/\SqL K H a xs/\∀p,H p=none->Q (.ref p) (upd H p (.lst (He xs lo hi)))
theorem KA:SlR X (QW X.K):=by
 intro pins s σ H x v vl vu lo hi sl Q I rx hs pl pu h
 obtain ⟨a,xs,rfl,hx,q⟩:=h
 cases rx
 obtain ⟨its,r,ht,hz⟩:=I.list hx
 have hlen:=r.length
 refine ⟨"list",_,slot_list_getitem.lookup,ht.isList.typeIs,?_⟩
 refine wpAny_getItem_list_slice ht.isList hs pl pu .none (by simp) ?_ (by rw [List.size_toArray] <;> omega)
 rw [Gn,<- hlen]
 refine ⟨.ref s.heap.objs.size,_,I.laid (t':=s.toks) (o:=.lst (He xs lo hi)) (fun b ob q=>Heap.get?_push_of_some _ q) (Nat.le_refl _) ?_,rfl,q _ (I.hok.fresh (Nat.le_refl _))⟩
 exact ⟨Nat.le_trans (Ie xs lo hi) hz,_,0,(r.drop (HT.sIx xs.length 0 lo)).take (HT.sIx xs.length xs.length hi - HT.sIx xs.length 0 lo),Heap.get?_push_size _ rfl⟩
def El:V->Bool
 | .non=>true
 | .bl _=>true
 | .int _=>true
 | .str _=>true
 | _=>false
def eqV:V->V->Bool
 | .non,.non=>true
 | .bl a,.bl b=>a == b
 | .bl a,.int b=>(if a then 1 else 0) == b
 | .int a,.bl b=>a == (if b then 1 else 0)
 | .int a,.int b=>a == b
 | .str a,.str b=>a == b
 | _,_=>false
theorem Pq {A:Around} {s:Shared} {y x:V} {u v:Value} (ry:Av y u) (rx:Av x v) (fy:El y=true) (fx:El x=true):SeqAt.EqAt A s u v (eqV y x):=by
 cases y with
 | non =>
   cases ry
   cases x with
   | non=>cases rx;exact SeqAt.EqAt.same _
   | bl b=>cases rx;exact SeqAt.EqAt.none_bool b
   | int b=>obtain ⟨t,rfl⟩:=rx;exact SeqAt.EqAt.none_int b t
   | str b=>obtain ⟨t,rfl⟩:=rx;exact SeqAt.EqAt.none_str b t
   | _=>exact absurd (show false=true from fx) Bool.false_ne_true
 | bl a =>
   cases ry
   cases x with
   | non=>cases rx;exact SeqAt.EqAt.bool_none a
   | bl b=>cases rx;exact SeqAt.EqAt.bool_bool a b
   | int b=>obtain ⟨t,rfl⟩:=rx;exact SeqAt.EqAt.bool_int a b t
   | str b=>obtain ⟨t,rfl⟩:=rx;exact SeqAt.EqAt.bool_str a b t
   | _=>exact absurd (show false=true from fx) Bool.false_ne_true
 | int a =>
   obtain ⟨t',rfl⟩:=ry
   cases x with
   | non=>cases rx;exact SeqAt.EqAt.int_none a t'
   | bl b=>cases rx;exact SeqAt.EqAt.int_bool a t' b
   | int b=>obtain ⟨t,rfl⟩:=rx;exact SeqAt.EqAt.int_int a t' b t
   | str b=>obtain ⟨t,rfl⟩:=rx;exact SeqAt.EqAt.int_str a t' b t
   | _=>exact absurd (show false=true from fx) Bool.false_ne_true
 | str a =>
   obtain ⟨t',rfl⟩:=ry
   cases x with
   | non=>cases rx;exact SeqAt.EqAt.str_none a t'
   | bl b=>cases rx;exact SeqAt.EqAt.str_bool a t' b
   | int b=>obtain ⟨t,rfl⟩:=rx;exact SeqAt.EqAt.str_int a t' b t
   | str b=>obtain ⟨t,rfl⟩:=rx;exact SeqAt.EqAt.str_str a t' b t
   | _=>exact absurd (show false=true from fx) Bool.false_ne_true
 | _=>exact absurd (show false=true from fy) Bool.false_ne_true
def eqU (x:V) (u:Value):Bool:=match u with
 | .none=>eqV .non x
 | .bool b=>eqV (.bl b) x
 | .int i _=>eqV (.int i) x
 | .str z _=>eqV (.str z) x
 | _=>false
theorem Mv {x y:V} {u:Value} (r:Av y u) (f:El y=true):eqU x u=eqV y x:=by
 cases y with
 | non=>cases r;rfl
 | bl b=>cases r;rfl
 | int i=>obtain ⟨t,rfl⟩:=r;rfl
 | str z=>obtain ⟨t,rfl⟩:=r;rfl
 | _=>exact absurd (show false=true from f) Bool.false_ne_true
theorem Ht {x:V}:∀{xs:List V} {us:List Value},Aw xs us->xs.all El=true->us.any (eqU x)=xs.any fun y=>eqV y x
 | _,_,.nil,_=>rfl
 | y :: xs,u :: us,.cons r t,f=>by
   rw [List.all_cons,Bool.and_eq_true] at f
   rw [List.any_cons,List.any_cons,Mv r f.1,Ht t f.2]
theorem FH {A:Around} {s:Shared} {x:V} {v:Value} (rx:Av x v) (fx:El x=true):∀{xs:List V} {us:List Value},Aw xs us->xs.all El=true->∀u∈us,SeqAt.EqAt A s u v (eqU x u)
 | _,_,.nil,_=>fun u hu=>by cases hu
 | y :: xs,u :: us,.cons r t,f=>fun u' hu=>by
   rw [List.all_cons,Bool.and_eq_true] at f
   rcases List.mem_cons.mp hu with rfl | hu
   ·rw [Mv r f.1];exact Pq r rx f.1 fx
   ·exact FH rx fx t f.2 u' hu
def inV (x:V) (xs:List V):Bool:=xs.any fun y=>eqV y x
def rIn (K:PySem.W.Frag) (neg:Bool):R2:=fun x y H Q=>∃p xs,y=.ref p/\(SqL K H p xs\/SqT K H p xs)/\El x=true/\xs.all El=true/\Q (.bl (if neg then !inV x xs else inV x xs)) H
theorem Lc:OpR X (compareOp .In) (rIn X.K false):=by
 intro pins s σ H x y v u Q I rx ry h
 obtain ⟨p,xs,rfl,hq,fx,fs,q⟩:=h
 cases ry
 rcases hq with hq | hq
 ·obtain ⟨its,r,pl,hz⟩:=I.list hq
  refine SeqAt.in_listAt (eqU x) pl.isList (fun w hw=>FH rx fx r fs w (by simpa using hw)) ⟨.bl _,H,I,rfl,?_⟩
  rw [show its.toArray.any (eqU x)=its.any (eqU x) by simp,Ht r fs]
  exact q
 ·obtain ⟨its,r,pl,hz⟩:=I.tuple hq
  refine SeqAt.in_tupleAt (eqU x) pl (fun w hw=>FH rx fx r fs w (by simpa using hw)) ⟨.bl _,H,I,rfl,?_⟩
  rw [show its.toArray.any (eqU x)=its.any (eqU x) by simp,Ht r fs]
  exact q
theorem A8:Cy X (.builtin "len") (fun xs H Q=>∃p ys,xs=[.ref p]/\(SqL X.K H p ys\/SqT X.K H p ys)/\Q (.int ys.length) H):=by
 intro pins s σ H xs us Q I r h
 obtain ⟨p,ys,rfl,hq,q⟩:=h
 obtain ⟨u,rfl,rx⟩:=DF r
 cases rx
 have hn:=Hn
 rcases hq with hq | hq
 ·obtain ⟨its,r',pl,hz⟩:=I.list hq
  have hlen:=r'.length
  exact Calls.call_len_list pl.isList (by simp only [List.size_toArray] <;> omega) ⟨.int ys.length,H,I.tok _,⟨s.toks+1,by rw [List.size_toArray,hlen]⟩,q⟩
 ·obtain ⟨its,r',pl,hz⟩:=I.tuple hq
  have hlen:=r'.length
  exact len_tuple pl (by simp only [List.size_toArray] <;> omega) ⟨.int ys.length,H,I.tok _,⟨s.toks+1,by rw [List.size_toArray,hlen]⟩,q⟩
theorem BI:Cy X (.type "list") (fun xs H Q=>∃p ys,xs=[.ref p]/\(SqL X.K H p ys\/SqT X.K H p ys)/\∀l,H l=none->Q (.ref l) (upd H l (.lst ys))):=by
 intro pins s σ H xs us Q I r h
 obtain ⟨p,ys,rfl,hq,q⟩:=h
 obtain ⟨u,rfl,rx⟩:=DF r
 cases rx
 have fin:∀(its:List Value),Aw ys its->ys.length<=sizeLine->∀(h':Heap) (c':Nat),(∀b o',s.heap.get? b=some o'->h'.get? b=some o') ->
  h'.get? s.heap.objs.size=some { cls:=.type "list",dict:=none,data:=.seq its.toArray c',slots:=#[] }->EP X pins σ Q (.ref s.heap.objs.size) { s with heap:=h' }:=fun its r' hz h' c' kp e =>
  ⟨.ref s.heap.objs.size,_,I.laid (t':=s.toks) kp (Nat.le_refl _) (show AI X.prog X.w _ h' _ (.lst ys) from ⟨hz,its,c',r',e⟩),rfl,q _ (I.hok.fresh (Nat.le_refl _))⟩
 rcases hq with hq | hq
 ·obtain ⟨its,r',pl,hz⟩:=I.list hq
  have hlen:=r'.length
  obtain ⟨o,ho,hc,n,hd⟩:=pl.isList
  exact call_list_seq p (.inl rfl) ho hc hd (fun h' c' kp e=>fin its r' hz h' c' kp e) (by simp only [List.size_toArray] <;> omega)
 ·obtain ⟨its,r',pl,hz⟩:=I.tuple hq
  have hlen:=r'.length
  obtain ⟨o,ho,hc,n,hd⟩:=pl
  exact call_list_seq p (.inr rfl) ho hc hd (fun h' c' kp e=>fin its r' hz h' c' kp e) (by simp only [List.size_toArray] <;> omega)
theorem Go:Cy X (.type "tuple") (fun xs H Q=>∃p ys,xs=[.ref p]/\((SqL X.K H p ys/\∀l,H l=none->Q (.ref l) (upd H l (.tup ys)))\/(SqT X.K H p ys/\Q (.ref p) H))):=by
 intro pins s σ H xs us Q I r h
 obtain ⟨p,ys,rfl,h⟩:=h
 obtain ⟨u,rfl,rx⟩:=DF r
 cases rx
 rcases h with ⟨hq,q⟩ | ⟨hq,q⟩
 ·obtain ⟨its,r',pl,hz⟩:=I.list hq
  have hlen:=r'.length
  refine call_tuple_list pl.isList (fun h' kp=>?_) (by simp only [List.size_toArray] <;> omega)
  have I1:Inv X pins σ H { s with heap:=h' }:=I.kept (t':=s.toks) kp
  have I2:Inv X pins σ (upd H h'.objs.size (.tup ys)) { s with heap:=h'.push { cls:=.type "tuple",data:=.seq its.toArray } } :=
   I1.laid (t':=s.toks) (fun b o e=>Heap.get?_push_of_some _ e) (Nat.le_refl _) (show AI X.prog X.w _ _ _ (.tup ys) from ⟨hz,its,r',IsTup.new _ _⟩)
  exact ⟨.ref h'.objs.size,_,I2,rfl,q _ (I1.hok.fresh (Nat.le_refl _))⟩
 ·obtain ⟨its,r',pl,hz⟩:=I.tuple hq
  exact call_tuple_same pl ⟨.ref p,H,I,rfl,q⟩
def tyV (K:PySem.W.Frag) (T:String) (x:V) (H:Hp):Prop:=match x with
 | .str _=>T="str"
 | .int _=>T="int"
 | .ref p=>(T="list"/\∃xs,SqL K H p xs)\/(T="tuple"/\∃o,K.lookup p=some o/\o.cls=.type "tuple"/\o.dict=none) \/
  (T="dict"/\((∃kvs,H p=some (.dK kvs))\/∃kvs,H p=some (.dT kvs)))\/(T="set"/\∃S n,H p=some (.set S n))
 | _=>False
theorem MC {pins:List (Addr × Obj)} {σ:St} {H:Hp} {s:Shared} {T:String} {x:V} {v:Value} (I:Inv X pins σ H s) (r:Av x v) (ty:tyV X.K T x H) :
 s.TypeIs v T/\∀a,v=.ref a->∃ob,s.heap.get? a=some ob/\ob.dict=none:=by
 cases x with
 | str z =>
   obtain ⟨t,rfl⟩:=r
   cases (show T="str" from ty)
   exact ⟨typeIs_str s z t,fun _ e=>nomatch e⟩
 | int i =>
   obtain ⟨t,rfl⟩:=r
   cases (show T="int" from ty)
   exact ⟨typeIs_int s i t,fun _ e=>nomatch e⟩
 | ref p =>
   cases r
   rcases ty with ⟨rfl,xs,hq⟩ | ⟨rfl,o,hk,hc,hd⟩ | ⟨rfl,hk⟩ | ⟨rfl,S,n,hk⟩
   ·obtain ⟨its,_,pl,_⟩:=I.list hq
    refine ⟨pl.isList.typeIs,fun a e=>?_⟩
    cases e
    obtain ⟨o,n,e,c,hd,_⟩:=pl
    exact ⟨o,e,hd⟩
   ·refine ⟨⟨o,I.kIn p o hk,hc⟩,fun a e=>?_⟩
    cases e
    exact ⟨o,I.kIn _ o hk,hd⟩
   ·have z:∃o,s.heap.get? p=some o/\o.ExactDict:=by
     rcases hk with ⟨kvs,hk⟩ | ⟨kvs,hk⟩
     ·obtain ⟨_,_,_,_,o,_,_,e,ex,_⟩:=I.hok p _ hk
      exact ⟨o,e,ex⟩
     ·obtain ⟨_,_,_,_,o,_,_,e,ex,_⟩:=I.hok p _ hk
      exact ⟨o,e,ex⟩
    obtain ⟨o,e,ex⟩:=z
    refine ⟨⟨o,e,ex.1⟩,fun a e2=>?_⟩
    cases e2
    exact ⟨o,e,ex.2.1⟩
   ·obtain ⟨o,_,_,_,e,ex,_⟩:=I.hok p _ hk
    refine ⟨⟨o,e,ex.1⟩,fun a e2=>?_⟩
    cases e2
    exact ⟨o,e,ex.2.1⟩
 | _=>exact False.elim ty
def Rg (K:PySem.W.Frag) (T:String) (r:V->List V->Hp->VK->Prop) (to:TE):TE:=fun σ H Q=>to σ H fun x H1=>tyV K T x H1/\r x [] H1 Q
def tBM (K:PySem.W.Frag) (T:String) (r:V->List V->Hp->VK->Prop) (to:TE) (t:TA):TE:=fun σ H Q=>to σ H fun x H1=>tyV K T x H1/\t σ H1 fun xs H2=>r x xs H2 Q
variable {o e:Expr} {es:List Expr} {to:TE} {t:TA} {name:Str} {apos cpos:Pos} {T id:String} {r:V->List V->Hp->VK->Prop}
theorem Pn (pa:PlainAttrs T) (slot:Slot T name id) (hty:typeOf (.builtin id)=pure (.type "method_descriptor")) (hm:MtR X id r) (ho:PE X o to)
 (hbase:attributeBase o name X.env (eval o X.env)=eval o X.env:=by rfl) (hline:(apos.endLine == cpos.line)=true:=by rfl):PE X (.Call (.Attribute o name apos) [] [] cpos) (Rg X.K T r to):=by
 intro pins s σ H Q I h
 refine wpAny_Call_method0_late hbase hline (thn (ho pins s σ H _ I h) fun v s1 ⟨x,H1,I1,r1,ty,q1⟩=>?_)
 obtain ⟨h1,h2⟩:=MC I1 r1 ty
 exact ⟨T,id,pa,slot,hty,h1,h2,Calls.callWith_builtin rfl (PySem.evalArgs_none (hm pins s1 σ H1 x [] v [] Q I1 r1 .nil q1))⟩
theorem CY (pa:PlainAttrs T) (slot:Slot T name id) (hty:typeOf (.builtin id)=pure (.type "method_descriptor")) (hm:MtR X id r) (ho:PE X o to) (ha:PA X (e :: es) t)
 (hbase:attributeBase o name X.env (eval o X.env)=eval o X.env:=by rfl)
 (hfew:((backTo cpos (starEach (e :: es) X.env)).all (fun x=>!x.1) && (backToKw cpos (keywordEach [] X.env)).all (fun x=>x.1.isSome)
  && decide ((e :: es).length+([]:List Keyword).length+(if ([]:List Keyword).isEmpty then 0 else 1) < 30))=true:=by rfl)
 (hline:(apos.endLine == cpos.line)=true:=by rfl) (hs:starEach (e :: es) X.env=(false,eval e X.env) :: starEach es X.env:=by rfl) (hplain:(backTo cpos (starEach es X.env)).any (·.1)=false:=by rfl) :
 PE X (.Call (.Attribute o name apos) (e :: es) [] cpos) (tBM X.K T r to t):=by
 intro pins s σ H Q I h
 refine wpAny_Call_method_late hbase hfew hline rfl (thn (ho pins s σ H _ I h) fun v s1 ⟨x,H1,I1,r1,ty,q1⟩=>?_)
 obtain ⟨h1,h2⟩:=MC I1 r1 ty
 refine ⟨T,id,pa,slot,hty,h1,h2,?_⟩
 have hA:=ha cpos pins s1 σ H1 _ I1 q1
 rw [hs] at hA ⊢
 refine Calls.callWith_builtin (by show (false || (backTo cpos (starEach es X.env)).any (·.1))=false;rw [hplain] <;> rfl) (Calls.evalArgs_plain ?_)
 exact thn hA fun us s2 ⟨vs,H2,I2,r2,q2⟩=>hm pins s2 σ H2 x vs v us Q I2 r1 r2 q2
end
end L2
namespace L2
open PySem PySem.Spec PyProof.Rows
def MtM (X:Cx) (id:String) (r:V->List V->Hp->VK->Prop):Prop :=
 ∀(pins:List (Addr × Obj)) (s:Shared) (σ:St) (H:Hp) (x:V) (xs:List V) (v:Value) (us:List Value) (Q:VK),Inv X pins σ H s->Av x v->Aw xs us->r x xs H Q ->
  wpAny (model X.prog X.w) X.A (call (.builtin id) (v :: us)) (EP X pins σ Q) X.xe s
theorem Aw.one:∀{x:V} {us:List Value},Aw [x] us->∃u,us=[u]/\Av x u
 | _,_,.cons r .nil=>⟨_,rfl,r⟩
theorem Aw.eraseIdx:∀{xs:List V} {us:List Value} (i:Nat),Aw xs us->Aw (xs.eraseIdx i) (us.eraseIdx i)
 | _,_,_,.nil=>.nil
 | _,_,0,.cons _ t=>t
 | _,_,i+1,.cons r t=>.cons r (Aw.eraseIdx i t)
theorem Aw.rep {xs:List V} {us:List Value} (h:Aw xs us):∀k:Nat,Aw (List.replicate k xs).flatten (List.replicate k us).flatten
 | 0=>.nil
 | k+1=>by
   rw [List.replicate_succ,List.replicate_succ,List.flatten_cons,List.flatten_cons]
   exact Aw.append h (Aw.rep h k)
theorem E9 {α:Type}:∀(l:List α) (i:Nat),(l.eraseIdx i).length<=l.length
 | [],_=>Nat.le_refl _
 | _ :: _,0=>Nat.le_succ _
 | _ :: r,i+1=>Nat.succ_le_succ (E9 r i)
theorem GO (its:List Value):∀(k:Nat) (acc:List Value),
 List.foldl (fun x1 x2=>x1++x2) acc.toArray (List.replicate k its.toArray)=(acc++(List.replicate k its).flatten).toArray
 | 0,acc=>by simp
 | k+1,acc=>by
   have e:acc.toArray++its.toArray=(acc++its).toArray:=by simp
   have e2:(acc++its)++(List.replicate k its).flatten=acc++(List.replicate (k+1) its).flatten:=by
    rw [List.replicate_succ,List.flatten_cons,List.append_assoc]
   rw [<- e2,<- GO its k (acc++its),<- e,List.replicate_succ,List.foldl_cons]
section
variable {X:Cx} {pins:List (Addr × Obj)} {σ:St} {H:Hp} {s:Shared} {l b:Addr} {xs ys zs:List V}
theorem Inv.lset {its its':List Value} {n:Nat} {f:Array Value->Array Value} {t':Nat} (I:Inv X pins σ H s) (hH:H l=some (.lst xs))
 (e:s.heap.get? l=some { cls:=.type "list",data:=.seq its.toArray n }) (hf:f its.toArray=its'.toArray) (hv:Aw ys its') (hz:ys.length<=sizeLine) :
 Inv X pins σ (upd H l (.lst ys)) { s with heap:=s.heap.update l (Obj.mapSeq f),toks:=t' }:=by
 have q:=PySem.IsL.update e f
 rw [hf] at q
 refine I.write (x:=l) (e:=l) (by rw [hH];exact trivial) (.inl rfl) (fun b' u hb hu=>(Heap.get?_update_other s.heap (Obj.mapSeq f) (Ne.symm hb)).trans hu) ⟨_,q⟩ ?_
 exact ⟨hz,its',_,hv,q⟩
theorem Inv.lnew {its:List Value} {t':Nat} (I:Inv X pins σ H s) (hv:Aw ys its) (hz:ys.length<=sizeLine) :
 Inv X pins σ (upd H s.heap.objs.size (.lst ys)) { s with heap:=s.heap.push { cls:=.type "list",data:=.seq its.toArray },toks:=t' } :=
 I.laid (fun _ _ q=>Heap.get?_push_of_some _ q) (Nat.le_refl _) ⟨hz,its,0,hv,Heap.get?_push_size _ rfl⟩
theorem Inv.fresh (I:Inv X pins σ H s):H s.heap.objs.size=none:=I.hok.fresh (Nat.le_refl _)
theorem Inv.lstM (I:Inv X pins σ H s) (hH:H l=some (.lst xs)):xs.length<=sizeLine/\∃(its:List Value) (n:Nat),Aw xs its/\xs.length=its.length/\s.heap.get? l=some { cls:=.type "list",data:=.seq its.toArray n }:=by
 obtain ⟨z,its,n,r,e⟩:=I.hok l _ hH
 exact ⟨z,its,n,r,r.length,e⟩
theorem Jo {n:Nat} (h:n<=sizeLine):Builtin.List.listTooLong n=false:=by
 unfold Builtin.List.listTooLong
 exact decide_eq_false (by omega)
end
section
variable {X:Cx}
def Oo:V->List V->Hp->VK->Prop:=fun x vs H Q=>∃l xs y,x=.ref l/\vs=[y]/\H l=some (.lst xs)/\xs.length < sizeLine/\Q .non (upd H l (.lst (xs++[y])))
theorem BH:MtM X "list.append" Oo:=by
 intro pins s σ H x vs v us Q I rx rv h
 obtain ⟨l,xs,y,rfl,rfl,hH,hz,q⟩:=h
 cases rx
 obtain ⟨u,rfl,ru⟩:=rv.one
 obtain ⟨z,its,n,r,hl,e⟩:=I.lstM hH
 refine call_meets F.slot_list_append ⟨_,e,rfl⟩ F.entry_list_append (F.args_list_append_2 _ _) (PySem.list_append l its.toArray n u (by rw [List.size_toArray];omega)) ⟨e,?_⟩
 refine ⟨.non,_,I.lset (its':=its++[u]) hH e (by simp) (r.append (.cons ru .nil)) ?_,rfl,q⟩
 rw [List.length_append,List.length_singleton]
 omega
def NZ:V->List V->Hp->VK->Prop:=fun x vs H Q=>∃l b xs zs,x=.ref l/\vs=[.ref b]/\H l=some (.lst xs)/\H b=some (.lst zs)/\xs.length+zs.length<=sizeLine/\Q .non (upd H l (.lst (xs++zs)))
theorem KY:MtM X "list.extend" NZ:=by
 intro pins s σ H x vs v us Q I rx rv h
 obtain ⟨l,b,xs,zs,rfl,rfl,hH,hB,hz,q⟩:=h
 cases rx
 obtain ⟨u,rfl,ru⟩:=rv.one
 cases ru
 obtain ⟨z,its,n,r,hl,e⟩:=I.lstM hH
 obtain ⟨z2,its2,n2,r2,hl2,e2⟩:=I.lstM hB
 have hsz:its.toArray.size+its2.toArray.size<=sizeLine:=by rw [List.size_toArray,List.size_toArray];omega
 have hlong:¬ (!its.toArray.isEmpty && Builtin.List.listTooLong (its.toArray.size+its2.toArray.size))=true:=by
  rw [Jo hsz,Bool.and_false]
  exact Bool.false_ne_true
 refine call_meets F.slot_list_extend ⟨_,e,rfl⟩ F.entry_list_extend (F.args_list_extend_2 _ _)
  (AutoSeq1.list_extend_list_list_0 l its.toArray n b its2.toArray n2 hlong (by rw [List.size_toArray];omega) (by omega)) ⟨e,e2,?_⟩
 refine ⟨.non,_,I.lset (its':=its++its2) hH e (by simp) (r.append r2) ?_,rfl,q⟩
 rw [List.length_append]
 omega
def P6:V->List V->Hp->VK->Prop:=fun x vs H Q=>∃l xs i k y,x=.ref l/\vs=[.int i]/\H l=some (.lst xs)/\-(2 ^ 63)<=i/\i < 2 ^ 63/\seqIndex? i xs.length=some k/\xs[k]?=some y/\Q y (upd H l (.lst (xs.eraseIdx k)))
theorem N9:MtM X "list.pop" P6:=by
 intro pins s σ H x vs v us Q I rx rv h
 obtain ⟨l,xs,i,k,y,rfl,rfl,hH,h1,h2,hk,hy,q⟩:=h
 cases rx
 obtain ⟨u,rfl,ru⟩:=rv.one
 obtain ⟨t,rfl⟩:=ru
 obtain ⟨z,its,n,r,hl,e⟩:=I.lstM hH
 obtain ⟨w,hw,rw'⟩:=r.get hy
 refine call_meets F.slot_list_pop ⟨_,e,rfl⟩ F.entry_list_pop (F.args_list_pop_2 _ _)
  (MeetsSeq.list_pop_at l its.toArray n i t k w (fitsIndex_both h1 h2) (by rw [List.size_toArray,<- hl];exact hk) (by rw [<- Array.getElem?_toList];exact hw) (by rw [List.size_toArray];omega)) ⟨e,?_⟩
 refine ⟨y,_,I.lset (its':=its.eraseIdx k) hH e ?_ (r.eraseIdx k) ?_,rw',q⟩
 ·show its.toArray.eraseIdxIfInBounds k=(its.eraseIdx k).toArray
  rw [List.eraseIdxIfInBounds_toArray]
 ·have:=E9 xs k
  omega
def QQ:R2:=fun x y H Q=>∃l b xs zs,x=.ref l/\y=.ref b/\H l=some (.lst xs)/\H b=some (.lst zs)/\xs.length+zs.length<=sizeLine/\∀p,H p=none->Q (.ref p) (upd H p (.lst (xs++zs)))
theorem MK:OpR X (binaryOp .Add) QQ:=by
 intro pins s σ H x y v u Q I rx ry h
 obtain ⟨l,b,xs,zs,rfl,rfl,hH,hB,hz,q⟩:=h
 cases rx
 cases ry
 obtain ⟨z,its,n,r,hl,e⟩:=I.lstM hH
 obtain ⟨z2,its2,n2,r2,hl2,e2⟩:=I.lstM hB
 refine PySem.P.add_list e e2 ?_ (by rw [List.size_toArray,List.size_toArray];omega)
 have ea:its.toArray++its2.toArray=(its++its2).toArray:=by simp
 rw [ea]
 exact ⟨.ref _,_,I.lnew (t':=s.toks) (r.append r2) (by rw [List.length_append];omega),rfl,q _ I.fresh⟩
def Rj:R2:=fun x y H Q=>∃l k xs,x=.ref l/\y=.int k/\H l=some (.lst xs)/\-(2 ^ 63)<=k/\k < 2 ^ 63/\xs.length*k.toNat<=sizeLine /\
 ∀p,H p=none->Q (.ref p) (upd H p (.lst (List.replicate k.toNat xs).flatten))
theorem NK {α:Type} (xs:List α) (k:Nat):(List.replicate k xs).flatten.length=k*xs.length:=by
 induction k with
 | zero=>simp
 | succ k ih=>rw [List.replicate_succ,List.flatten_cons,List.length_append,ih,Nat.succ_mul,Nat.add_comm]
theorem JV:OpR X (binaryOp .Mult) Rj:=by
 intro pins s σ H x y v u Q I rx ry h
 obtain ⟨l,k,xs,rfl,rfl,hH,h1,h2,hz,q⟩:=h
 cases rx
 obtain ⟨t,rfl⟩:=ry
 obtain ⟨z,its,n,r,hl,e⟩:=I.lstM hH
 have hlen:its.toArray.size*k.toNat<=sizeLine:=by rw [List.size_toArray,<- hl];exact hz
 have hcap:¬ its.toArray.size*k.toNat > (2 ^ 63 - 1) / 8:=by
  have:(sizeLine:Nat)<=(2 ^ 63 - 1) / 8:=by decide
  omega
 have hfit:¬ (!Builtin.List.listFitsIndex k)=true:=by
  rw [fitsIndex_both h1 h2]
  exact Bool.false_ne_true
 have hlong:¬ Builtin.List.listTooLong (its.toArray.size*k.toNat)=true:=by
  rw [Jo hlen]
  exact Bool.false_ne_true
 have hnew:List.foldl (fun x1 x2=>x1++x2) #[] (List.replicate (if its.toArray.isEmpty=true then 0 else k.toNat) its.toArray)=(List.replicate k.toNat its).flatten.toArray:=by
  have f0:∀m:Nat,List.foldl (fun x1 x2=>x1++x2) #[] (List.replicate m its.toArray)=(List.replicate m its).flatten.toArray:=fun m=>by
   have:=GO its m []
   rw [List.nil_append] at this
   exact this
  rw [f0]
  cases its with
  | nil=>simp
  | cons a r'=>rw [if_neg (by simp)]
 refine wpAny_binaryOp_repeat_ref (T:="list") (U:="int") (by decide) ⟨_,e,rfl⟩ (fun s'=>typeIs_int s' k t) noFill_list_mul F.fills_int_mul F.slot_int_rmul repeat_list F.slot_int_index.lookup
  (call_meets F.slot_int_rmul (typeIs_int s k t) F.entry_int_rmul (F.args_int_rmul_2 _ _) (int___rmul___int_list k t l its.toArray n)
   ⟨e,rfl,⟨_,e,rfl⟩,call_meets F.slot_list_mul ⟨_,e,rfl⟩ F.entry_list_mul (F.args_list_mul_2 _ _) (AutoListH.list___mul___list_int_3 l its.toArray n k t hfit hcap hlong) ⟨e,?_⟩⟩)
 rw [hnew]
 exact ⟨.ref _,_,I.lnew (t':=s.toks) (r.rep k.toNat) (by rw [NK,Nat.mul_comm];exact hz),rfl,q _ I.fresh⟩
end
section
variable {prog:Program} {w:World} {A:Around} {E:Value->Shared->Prop} {s:Shared}
set_option maxRecDepth 100000 in
end
section
variable {X:Cx}
end
end L2
namespace Att
open PySem PySem.W PySem.Calls PyProof.Rows
theorem Ff {P:Params} {h:Heap}:∀(ns:List Int) (vs:List Value),WellAll P h vs (ns.map WData.int)->IntsAre vs ns:=by
 intro ns
 induction ns with
 | nil =>
   intro vs w
   rw [List.map_nil] at w
   cases w
   exact .nil
 | cons n ns ih =>
   intro vs w
   rw [List.map_cons] at w
   cases w with
   | cons a b =>
     cases a
     exact .cons _ _ (ih _ b)
theorem LX {l:OpenLaw} {n:Nat} (hn:l.most=some n) {P:Params} {h:Heap} {args:List WData} {vals:List Value}
 (hpre:l.row.toRowW.claim.pre args=true) (hwl:WellAll P h vals args) :
 ∃a vs ns,vals=[Value.ref a]/\args=[WData.list (ns.map WData.int)]/\h.get? a=some { cls:=.type "list",data:=.seq vs.toArray }/\IntsAre vs ns/\ns.length<=n:=by
 have hsh:WShape.hasAll [] args [.list .int]=true:=(pre_splitW hpre).1
 have hc:l.pre.holds [] { args:=args }=true:=(pre_splitW hpre).2
 obtain ⟨d,r,rfl,h1,h2⟩:=hasAllW_cons hsh
 obtain rfl:=hasAllW_nil h2
 obtain ⟨xs,rfl,h3⟩:=hasW_list h1
 obtain ⟨ns,rfl⟩:=items_int h3
 have hlen:ns.length<=n:=by
  unfold OpenLaw.pre at hc
  have h4:(WTm.not (.lt (.lit (.int (n:Int))) (.len (.arg 0)))).holds [] { args:=[.list (ns.map .int)] }=true:=by
   have h4:=(holds_andW hc).1
   rw [hn] at h4
   exact h4
  have h5:=condW_of h4 (w_not (w_lt w_lit (w_len_list (w_arg rfl))))
  rw [List.length_map] at h5
  refine Nat.le_of_not_lt fun q=>?_
  have q':(n:Int) < ((ns.length:Nat):Int):=by omega
  first
   | (rw [decide_eq_true q'] at h5;exact absurd h5 (by decide))
   | (simp at h5;omega)
 cases hwl with
 | cons w1 w2 =>
   cases w2
   cases w1 with
   | list ho hall=>exact ⟨_,_,ns,rfl,rfl,ho,Ff ns _ hall,hlen⟩
theorem LP (l:OpenLaw) (args:List WData):l.row.toRowW.claim.post args (.bool true) args=true :=
 postW_of (r:=l.row.toRowW) (X:=(true == true))
  (show WShape.has [] (.bool true) .bool=true by first | rfl | decide | simp [WShape.has,WShape.arms,WShape.armsAll])
  (show (WTm.eq .res (.lit (.bool true))).value [] { args:=args,res:=some (.bool true),after:=args }=some (.bool (true == true)) from w_eq_bool (w_res rfl) w_lit) rfl
theorem attach_call {l:OpenLaw} {n:Nat} {q:Program} {loose:List Str} {XP:(Str->Option Value)->Heap->Prop} {YP:World->Heap->Prop} {d:DefRec}
 (hn:l.most=some n) (hdf:d.params.defaults=[])
 (call:∀(w:World) (s₀ s₁:Shared) (mg mb:Str->Option Value) (fa:Addr) (o:Obj) (pm cd doc:Value) (a:Addr) (vs:List Value) (ns:List Int),
  Ground q loose [] XP w s₀ mg mb s₁.heap->YP w s₁.heap ->
  s₁.heap.get? fa=some o->o.data=.func (docDef d.name d.params d.body d.scope pm cd doc)->s₁.heap.CodeRec cd d.name->mg d.name=some (.ref fa) ->
  s₁.heap.get? a=some { cls:=.type "list",data:=.seq vs.toArray }->IntsAre vs ns->ns.length<=n->s₁.gens=#[] ->
  codeAny (model l.prog w) callerA (.call (.ref fa) ⟨[.ref a],[]⟩) (fun r s'=>r=.ok (.ret (.bool true))/\OldK s₁.heap s'.heap/\s'.os=s₁.os/\AllBare s'.gens) s₁) :
 WalkO q loose XP YP l.row.toRowW d [] (fun f vs=>PySem.call f vs):=by
 intro w s₀ s₁ mg mb G Y fa o pm cd doc dV kV ho hd hcd hD hmg hg args vals as hpre hlay hrd hwl hlo
 obtain rfl:dV=.none:=Dflts.none hD hdf
 obtain rfl:kV=.none:=Dflts.noKw hD
 obtain ⟨a,vs,ns,rfl,rfl,hobj,hints,hlen⟩:=LX hn hpre hwl
 refine enter_call (codeAny_mono (call w s₀ s₁ mg mb fa o pm cd doc a vs ns G Y ho (fd_plain hd) hcd hmg hobj hints hlen hg) fun r s' hq=>?_)
 obtain ⟨rfl,h2,h3,h4⟩:=hq
 exact ⟨.inl ⟨.bool true,.bool true,[],rfl,fun _=>rfl,.bool true,LP l _,fun _=>⟨List.Pairwise.nil,fun _ hm=>(nomatch hm)⟩⟩,h2,h3,h4⟩
section
variable {prog:Program} {w:World} {A:Around} {E:Value->Shared->Prop} {s:Shared} {K:Frag}
end
end Att
namespace L2
open PySem PySem.Spec PyProof.Rows
theorem DR:∀{vs:List Value} {ns:List Int},IntsAre vs ns->Aw (ns.map V.int) vs
 | _,_,.nil=>.nil
 | _,_,.cons n t h=>.cons ⟨t,rfl⟩ (DR h)
end L2
namespace L2
open PySem PySem.Spec PyProof.Rows
end L2
namespace L2
open PySem PySem.Spec PyProof.Rows
def DQ (s:Stmt) (j:Nat):Stmt:=match s with
 | .ClassDef _ _ _ body _ _ _ _ _ _ _=>body.getD j (.Pass ⟨0,0,0,0⟩)
 | _=>.Pass ⟨0,0,0,0⟩
def Al (s:Stmt):Arguments:=match s with
 | .FunctionDef _ a _ _ _ _ _ _ _ _=>a
 | _=>{ posonlyargs:=[],args:=[],vararg:=none,kwonlyargs:=[],kw_defaults:=[],kwarg:=none,defaults:=[] }
def Ak (s:Stmt):List Stmt:=match s with
 | .FunctionDef _ _ b _ _ _ _ _ _ _=>b
 | _=>[]
def Ae (s:Stmt):Scope:=match s with
 | .FunctionDef _ _ _ _ _ _ sc _ _ _=>sc
 | _=>{ kind:=.function,names:=[],isGenerator:=false,isCoroutine:=false }
abbrev CX0:CXT:=fun _ _ _ _ _ _=>False
abbrev E0:XK:=fun _ _ _=>False
theorem Ay {X:Cx}:Ef CX0 X E0:=fun _ _ _ _ _ _ _ h=>h.elim
structure Fun (K:PySem.W.Frag) (x qual:Str) (st:Stmt) (f:Addr) (fd:FuncData):Prop where
 ex:∃(oc:Value) (od:Option Addr) (kV doc pm:Value) (an:Option Addr) (cdv ct:Value) (osl:Array (Option Value)),
  fd=PySem.W.fnOf x qual (Al st) (Ak st) (Ae st) .none kV doc pm an cdv ct/\K.lookup f=some ⟨oc,od,.func fd,osl⟩/\PySem.W.codeIn K cdv qual=true
 kp:PySem.W.keepIn K (.ref f)=true
section
variable {P:Program} {w:World} {K:PySem.W.Frag} {mg:Str->Option Value} {base:Heap}
theorem Fun.ok {x qual:Str} {st:Stmt} {f:Addr} {fd:FuncData} {N ps:List Str} {k:Nat} {sp:Sp} (F:Fun K x qual st f fd) (S:Ar N ps (Ae st)) (len:∀vs H Q E,sp vs H Q E->vs.length=ps.length)
 (hbody:∀(cdv:Value) (A:Around) (outer:List Env) (s:Shared) (H:Hp) (vs:List V) (Q:VK) (E:XK),Cj k (A.deeper (envOfC qual (Ae st) s.heap.objs.size f cdv))->sp vs H Q E ->
  ∃t,PSs (FA CX0 P w K mg base N qual (Ae st) f cdv A outer s H E).nox (Ak st) t/\t { nx:=fun _ H'=>Q .non H',rt:=Q } (start N vs) H):AT P w K mg base CX0 (k+1) f fd ps sp:=by
 obtain ⟨oc,od,kV,doc,pm,an,cdv,ct,osl,rfl,lk,hcd⟩:=F.ex
 refine Mm lk hcd S len fun A outer s H vs Q E hr hsp=>?_
 obtain ⟨t,h,q⟩:=hbody cdv A outer s H vs Q E hr hsp
 exact ⟨t,h.nox,q⟩
theorem Fun.binds {x qual:Str} {st:Stmt} {f:Addr} {fd:FuncData} {ps:List Str} (F:Fun K x qual st f fd)
 (h:∀(kV doc pm:Value) (an:Option Addr) (cdv ct:Value) (us:List Value),us.length=ps.length->bindArgs (PySem.W.fnOf x qual (Al st) (Ak st) (Ae st) .none kV doc pm an cdv ct) ⟨us,[]⟩=pure (ps.zip us)):A0 K fd ps []:=by
 obtain ⟨oc,od,kV,doc,pm,an,cdv,ct,osl,rfl,lk,hcd⟩:=F.ex
 exact .all (h kV doc pm an cdv ct)
theorem AA {x qual:Str} {st:Stmt} {f:Addr} {oc:Value} {od an:Option Addr} {osl:Array (Option Value)} {kV doc pm cdv ct:Value} (l:K.lookup f=some ⟨oc,od,.func (PySem.W.fnOf x qual (Al st) (Ak st) (Ae st) .none kV doc pm an cdv ct),osl⟩)
 (c:PySem.W.codeIn K cdv qual=true) (k:PySem.W.keepIn K (.ref f)=true):Fun K x qual st f (PySem.W.fnOf x qual (Al st) (Ak st) (Ae st) .none kV doc pm an cdv ct):=⟨⟨oc,od,kV,doc,pm,an,cdv,ct,osl,rfl,l,c⟩,k⟩
end
theorem Bq {n:Nat} (h:n<=1000):n < sizeLine:=Nat.lt_of_le_of_lt h (by decide)
section
variable {X:Cx}
theorem pv (i:Nat) {x:Str} {pos:Pos} (hN:X.N[i]?=some x:=by rfl) (hv:Vis X.env.scope x:=by first | exact Or.inl rfl | exact Or.inr (Or.inl rfl) | exact Or.inr (Or.inr rfl)) (hd:(x == ("__debug__":Str))=false:=by decide)
 (hcd:(x == ("__classdict__":Str))=false:=by decide):PE X (.Name x pos) (Qc i):=PC hN hv hd hcd
end
theorem Q4 {A B:Prop} (h:B):if false=true then A else B:=by
 rw [if_neg Bool.false_ne_true]
 exact h
theorem M0 {A B:Prop} (h:A):if true=true then A else B:=by
 rw [if_pos rfl]
 exact h
theorem Om {c A B:Prop} [Decidable c] (h1:c->A) (h2:¬ c->B):if c then A else B:=by
 by_cases h:c
 ·rw [if_pos h]
  exact h1 h
 ·rw [if_neg h]
  exact h2 h
def Ao (H H':Hp):Prop:=∀b o,H b=some o->H' b=some o
theorem Ao.refl (H:Hp):Ao H H:=fun _ _ h=>h
theorem Ao.trans {H H1 H2:Hp} (a:Ao H H1) (b:Ao H1 H2):Ao H H2:=fun c o h=>b c o (a c o h)
theorem Ao.seq {K:PySem.W.Frag} {H H':Hp} {a:Addr} {xs:List V} (e:Ao H H') (h:SqL K H a xs):SqL K H' a xs:=by
 rcases h with (h | ⟨o,h⟩) | h
 ·exact .inl (.inl (e _ _ h))
 ·exact .inl (.inr ⟨o,e _ _ h⟩)
 ·exact .inr h
end L2
namespace L2
open PySem PySem.Spec PyProof.Rows
section
variable {κ:Type} [DecidableEq κ]
def C2 (kvs:List (κ × V)) (k:κ):Option V:=(kvs.find? fun kv=>decide (kv.1=k)).map (·.2)
def C9 (kvs:List (κ × V)) (k:κ) (v:V):List (κ × V) :=
 if (kvs.any fun kv=>decide (kv.1=k))=true then kvs.map (fun kv=>if kv.1=k then (kv.1,v) else kv) else kvs++[(k,v)]
theorem Fw {p:κ × V} {r:List (κ × V)} {k:κ} (e:p.1=k):C2 (p :: r) k=some p.2:=by simp [C2,List.find?_cons,e]
theorem FZ {p:κ × V} {r:List (κ × V)} {k:κ} (e:¬ p.1=k):C2 (p :: r) k=C2 r k:=by simp [C2,List.find?_cons,e]
theorem DH (k:κ):∀kvs:List (κ × V),(kvs.any fun kv=>decide (kv.1=k))=(C2 kvs k).isSome
 | []=>rfl
 | p :: r=>by
   rw [List.any_cons]
   by_cases e:p.1=k
   ·simp only [Fw e,decide_eq_true e,Bool.true_or,Option.isSome_some]
   ·rw [FZ e,decide_eq_false e,Bool.false_or];exact DH k r
theorem ES (kvs:List (κ × V)) (k:κ) (v:V):(C9 kvs k v).length<=kvs.length+1:=by
 unfold C9
 split
 ·rw [List.length_map];omega
 ·rw [List.length_append,List.length_cons,List.length_nil];omega
theorem Dr.isSome_eq {o:Option V} {u:Option Value} (r:Dr o u):o.isSome=u.isSome:=by
 cases o with
 | none=>cases u with
   | none=>rfl
   | some _=>exact (show False from r).elim
 | some _=>cases u with
   | none=>exact (show False from r).elim
   | some _=>rfl
theorem Dr.getD {o:Option V} {u:Option Value} {d:V} {d':Value} (r:Dr o u) (rd:Av d d'):Av (o.getD d) (u.getD d'):=by
 cases o with
 | none=>cases u with
   | none=>exact rd
   | some _=>exact (show False from r).elim
 | some _=>cases u with
   | none=>exact (show False from r).elim
   | some _=>exact r
theorem KV.val {kvs:List (κ × V)} {vs:List (κ × Value)} (r:KV kvs vs) (k:κ):Dr (C2 kvs k) (valueAt vs k):=by
 unfold KV at r
 induction r with
 | nil=>exact True.intro
 | @cons p q ps qs h t ih =>
   obtain ⟨h1,h2⟩:=h
   by_cases e:p.1=k
   ·have e':q.1=k:=h1.symm.trans e
    have b:valueAt (q :: qs) k=some q.2:=by simp [valueAt,List.find?_cons,e']
    rw [Fw e,b];exact h2
   ·have e':¬ q.1=k:=fun z=>e (h1.trans z)
    have b:valueAt (q :: qs) k=valueAt qs k:=by simp [valueAt,List.find?_cons,e']
    rw [FZ e,b];exact ih
theorem KV.any {kvs:List (κ × V)} {vs:List (κ × Value)} (r:KV kvs vs) (k:κ):(kvs.any fun kv=>decide (kv.1=k))=vs.any fun kv=>decide (kv.1=k):=by
 unfold KV at r
 induction r with
 | nil=>rfl
 | cons h t ih=>rw [List.any_cons,List.any_cons,ih,h.1]
theorem KV.repl {kvs:List (κ × V)} {vs:List (κ × Value)} (r:KV kvs vs) (k:κ) {y:V} {u:Value} (ry:Av y u) :
 KV (kvs.map fun kv=>if kv.1=k then (kv.1,y) else kv) (vs.map fun kv=>if kv.1=k then (kv.1,u) else kv):=by
 unfold KV at r ⊢
 induction r with
 | nil=>exact .nil
 | @cons p q ps qs h t ih =>
   rw [List.map_cons,List.map_cons]
   refine .cons ?_ ih
   obtain ⟨h1,h2⟩:=h
   by_cases e:p.1=k
   ·rw [if_pos e,if_pos (h1.symm.trans e)];exact ⟨h1,ry⟩
   ·rw [if_neg e,if_neg (fun z=>e (h1.trans z))];exact ⟨h1,h2⟩
theorem KV.put {kvs:List (κ × V)} {vs:List (κ × Value)} (r:KV kvs vs) (k:κ) {y:V} {u:Value} (ry:Av y u):KV (C9 kvs k y) (stored vs k u):=by
 unfold C9 stored
 rw [r.any k]
 by_cases e:(vs.any fun kv=>decide (kv.1=k))=true
 ·rw [if_pos e,if_pos e];exact r.repl k ry
 ·rw [if_neg e,if_neg e];exact Paired.snoc r ⟨rfl,ry⟩
theorem KV.length {kvs:List (κ × V)} {vs:List (κ × Value)} (r:KV kvs vs):kvs.length=vs.length:=Paired.length r
end
theorem KG {P:Program} {w:World} {k:Key} {u:Value} (r:Av (kV k) u):(Bx P w).is k u=true:=by
 cases k with
 | inl i=>obtain ⟨t,e⟩:=(show ∃t,u=Value.int i t from r);subst e;exact HL P w i t
 | inr x=>obtain ⟨t,e⟩:=(show ∃t,u=Value.str x t from r);subst e;exact Jg P w x t
theorem GL {P:Program} {w:World}:∀{ks:List Key} {us:List Value},Aw (ks.map kV) us->ItemsAre (Bx P w) ks us
 | [],_,r=>by rw [List.map_nil] at r;cases r;exact .nil
 | k :: ks,_,r=>by
   rw [List.map_cons] at r
   cases r with
   | cons h t=>exact .cons (KG h) (GL t)
abbrev KT (H:Hp):List (List Key × V)->List (List Key × Addr × Value)->Prop:=Paired fun p q=>p.1=q.1/\H q.2.1=some (.tup (p.1.map kV))/\Av p.2 q.2.2
theorem KT.val {H:Hp} {kvs:List (List Key × V)} {xs:List (List Key × Addr × Value)} (r:KT H kvs xs) (k:List Key):Dr (C2 kvs k) ((atKey xs k).map (·.2)):=by
 induction r with
 | nil=>exact True.intro
 | @cons p q ps qs h t ih =>
   obtain ⟨h1,_,h2⟩:=h
   by_cases e:p.1=k
   ·have e':q.1=k:=h1.symm.trans e
    have b:atKey (q :: qs) k=some q.2:=by simp [atKey,List.find?_cons,e']
    rw [Fw e,b];exact h2
   ·have e':¬ q.1=k:=fun z=>e (h1.trans z)
    have b:atKey (q :: qs) k=atKey qs k:=by simp [atKey,List.find?_cons,e']
    rw [FZ e,b];exact ih
theorem KT.repl {H:Hp} {kvs:List (List Key × V)} {xs:List (List Key × Addr × Value)} (r:KT H kvs xs) (k:List Key) {y:V} {u:Value} (ry:Av y u) :
 KT H (kvs.map fun kv=>if kv.1=k then (kv.1,y) else kv) (xs.map (putAt k u)):=by
 induction r with
 | nil=>exact .nil
 | @cons p q ps qs h t ih =>
   rw [List.map_cons,List.map_cons]
   refine .cons ?_ ih
   obtain ⟨h1,h2,h3⟩:=h
   unfold putAt
   by_cases e:p.1=k
   ·rw [if_pos e,if_pos (h1.symm.trans e)];exact ⟨h1,h2,ry⟩
   ·rw [if_neg e,if_neg (fun z=>e (h1.trans z))];exact ⟨h1,h2,h3⟩
theorem KT.put {H:Hp} {kvs:List (List Key × V)} {xs:List (List Key × Addr × Value)} (r:KT H kvs xs) (k:List Key) {b:Addr} {y:V} {u:Value} (hb:H b=some (.tup (k.map kV))) (ry:Av y u) :
 KT H (C9 kvs k y) (storedH xs k b u):=by
 have e:(kvs.any fun kv=>decide (kv.1=k))=(atKey xs k).isSome:=by
  rw [DH,(r.val k).isSome_eq,Option.isSome_map]
 unfold C9 storedH
 rw [e]
 by_cases q:(atKey xs k).isSome=true
 ·rw [if_pos q,if_pos q];exact r.repl k ry
 ·rw [if_neg q,if_neg q];exact Paired.snoc r ⟨rfl,hb,ry⟩
theorem KT.keeps {H H':Hp} {kvs:List (List Key × V)} {xs:List (List Key × Addr × Value)} (r:KT H kvs xs) (ht:∀b ys,H b=some (.tup ys)->H' b=some (.tup ys)):KT H' kvs xs :=
 Paired.mapP r fun _ _ z=>⟨z.1,ht _ _ z.2.1,z.2.2⟩
section
variable {P:Program} {w:World} {H:Hp} {h:Heap} {a:Addr}
theorem OU {u:HO} (ok:HOk P w H h) (e:Rd H a u):AI P w H h a u:=e.ok ok
theorem HN {kvs:List (Key × V)} (ok:HOk P w H h) (e:Rd H a (.dK kvs)):kvs.length<=sizeLine/\(a == sysModules)=false/\∃vs,KV kvs vs/\h.DictOf (Bx P w) a vs :=
 show AI P w H h a (.dK kvs) from OU ok e
theorem Qp {kvs:List (Key × V)} (ok:HOk P w H h) (e:H a=some (.dK kvs)):kvs.length<=sizeLine/\(a == sysModules)=false/\∃vs,KV kvs vs/\h.DictOf (Bx P w) a vs:=HN ok (.inl e)
theorem HH {ks:List Key} (ok:HOk P w H h) (e:H a=some (.tup (ks.map kV))):(tupleKind (Bx P w)).is h ks a:=by
 obtain ⟨_,its,r,o,h1,h2,n,h3⟩:=(show AI P w H h a (.tup (ks.map kV)) from ok a _ e)
 exact ⟨o,its.toArray,n,h1,h2,h3,by simpa using GL r⟩
theorem GC {kvs:List (List Key × V)} (ok:HOk P w H h) (e:Rd H a (.dT kvs)):kvs.length<=sizeLine/\(a == sysModules)=false /\
 ∃xs,KT H kvs xs/\h.DictOfH (tupleKind (Bx P w)) a xs:=by
 obtain ⟨z,y,xs,r,o,es,ep,h1,h2,h3,h4,h5⟩:=(show AI P w H h a (.dT kvs) from OU ok e)
 refine ⟨z,y,xs,r,o,es,ep,h1,h2,h3,h4,fun x hx=>?_,h5⟩
 have all:∀{l:List (List Key × V)} {m:List (List Key × Addr × Value)},KT H l m->∀x∈m,(tupleKind (Bx P w)).is h x.1 x.2.1:=by
  intro l m q
  induction q with
  | nil=>intro x hx;exact nomatch hx
  | @cons p q ps qs hq t ih =>
    intro x hx
    rcases List.mem_cons.mp hx with e | hx
    ·subst e
     exact HH ok (by rw [<- hq.1];exact hq.2.1)
    ·exact ih x hx
 exact all r x hx
theorem Q7 {kvs:List (List Key × V)} (ok:HOk P w H h) (e:H a=some (.dT kvs)):kvs.length<=sizeLine/\(a == sysModules)=false /\
 ∃xs,KT H kvs xs/\h.DictOfH (tupleKind (Bx P w)) a xs:=GC ok (.inl e)
end
def Hf (H:Hp) (a:Addr) (y:V) (r:Option V):Prop :=
 (∃kvs k,Rd H a (.dK kvs)/\y=kV k/\r=C2 kvs k)\/∃kvs k b,Rd H a (.dT kvs)/\y=.ref b/\H b=some (.tup (k.map kV))/\r=C2 kvs k
def Lj (H:Hp) (a:Addr) (y v:V) (H':Hp):Prop :=
 (∃kvs k,H a=some (.dK kvs)/\y=kV k/\kvs.length < sizeLine/\H'=upd H a (.dK (C9 kvs k v))) \/
 ∃kvs k b,H a=some (.dT kvs)/\y=.ref b/\H b=some (.tup (k.map kV))/\kvs.length < sizeLine/\H'=upd H a (.dT (C9 kvs k v))
theorem Hf.t {H:Hp} {a b:Addr} {kvs:List (List Key × V)} {k:List Key} (e:H a=some (.dT kvs)) (eb:H b=some (.tup (k.map kV))):Hf H a (.ref b) (C2 kvs k):=.inr ⟨kvs,k,b,.inl e,rfl,eb,rfl⟩
theorem Lj.t {H:Hp} {a b:Addr} {kvs:List (List Key × V)} {k:List Key} {v:V} (e:H a=some (.dT kvs)) (eb:H b=some (.tup (k.map kV))) (hl:kvs.length < sizeLine) :
 Lj H a (.ref b) v (upd H a (.dT (C9 kvs k v))):=.inr ⟨kvs,k,b,e,rfl,eb,hl,rfl⟩
section
variable {X:Cx} {pins:List (Addr × Obj)} {σ:St} {H:Hp} {s:Shared} {a:Addr} {y v:V} {u r:Value} {o:Option V} {A:Around} {E:Value->Shared->Prop}
theorem Inv.big (I:Inv X pins σ H s):sysModules < s.heap.objs.size:=by
 have h:mainGlobals < s.heap.objs.size:=(I.mod.glob.keeps I.bk).lt
 exact Nat.lt_trans (by decide) h
theorem La {Q:Value->Shared->Prop} (hu:A.units+1 < cLine) (I:Inv X pins σ H s) (g:Hf H a y (some v)) (ry:Av y u) (h:∀w' s',Inv X pins σ H s'->Av v w'->Q w' s') :
 wpAny (model X.prog X.w) A (getItem (.ref a) u) Q E s:=by
 rcases g with ⟨kvs,k,e,ey,l⟩ | ⟨kvs,k,b,e,ey,eb,l⟩
 ·subst ey
  obtain ⟨z,hd,vs,rel,dd⟩:=HN I.hok e
  obtain ⟨w',hw,rw'⟩:=Dr.some_of (v:=v) (o:=valueAt vs k) (by rw [l];exact rel.val k)
  exact wpAny_getItem_of (KG ry) dd.mapOf hw (h w' _ (I.tok _) rw')
 ·subst ey
  cases (show u=Value.ref b from ry)
  obtain ⟨z,hd,xs,rel,dd⟩:=GC I.hok e
  obtain ⟨w',hw,rw'⟩:=Dr.some_of (v:=v) (o:=(atKey xs k).map (·.2)) (by rw [l];exact rel.val k)
  obtain ⟨p,hp,hp2⟩:=Option.map_eq_some_iff.mp hw
  refine wpAny_getItem_heap (tupleKind_room_in1 hu) (HH I.hok eb) dd hp ?_
  rw [hp2]
  exact h w' _ (I.tok _) rw'
theorem K0 {h':Heap} {t':Nat} {ob:HO} (I:Inv X pins σ H s) (mu:Mut (H a)) (hs:Heap.SameBut a s.heap h') (he:∃q,h'.get? a=some q) (new:AI X.prog X.w (upd H a ob) h' a ob) :
 Inv X pins σ (upd H a ob) { s with heap:=h',toks:=t' } :=
 I.write (x:=a) (e:=a) mu (.inl rfl) (fun b q hb z=>(hs.2 b hb).trans z) he new
theorem PM {P:Program} {w:World} {H':Hp} {h':Heap} {kvs:List (Key × V)} {vs:List (Key × Value)} (z:kvs.length<=sizeLine) (hd:(a == sysModules)=false) (rel:KV kvs vs) (dd:h'.DictOf (Bx P w) a vs) :
 AI P w H' h' a (.dK kvs):=⟨z,hd,vs,rel,dd⟩
theorem Lq {H':Hp} {Q:Unit->Shared->Prop} (hu:A.units+1 < cLine) (I:Inv X pins σ H s) (g:Lj H a y v H') (ry:Av y u) (rv:Av v r) (h:∀s',Inv X pins σ H' s'->Q () s') :
 wpAny (model X.prog X.w) A (setItem (.ref a) u r) Q E s:=by
 rcases g with ⟨kvs,k,e,ey,l,eH⟩ | ⟨kvs,k,b,e,ey,eb,l,eH⟩
 ·subst ey eH
  obtain ⟨z,hd,vs,rel,dd⟩:=Qp I.hok e
  have hz:vs.length<=sizeLine:=by rw [<- rel.length];exact z
  have hl:(C9 kvs k v).length<=sizeLine:=by have:=ES kvs k v;omega
  refine wpAny_setItem_pairs (hsz:=hz) (KG ry) dd fun h' dd' hs=>h _ ?_
  have he:∃q,h'.get? a=some q:=let ⟨q,_,_,hq,_⟩:=dd';⟨q,hq⟩
  exact K0 I (by rw [e];exact True.intro) hs he (PM hl hd (rel.put k rv) dd')
 ·subst ey eH
  cases (show u=Value.ref b from ry)
  obtain ⟨z,hd,xs,rel,dd⟩:=Q7 I.hok e
  have hz:xs.length<=sizeLine:=by rw [<- Paired.length rel];exact z
  have hl:(C9 kvs k v).length<=sizeLine:=by have:=ES kvs k v;omega
  refine wpAny_setItem_heap (hsz:=hz) (tupleKind_room_in1 hu) (HH I.hok eb) dd fun h' dd' hs=>h _ ?_
  obtain ⟨q,es,ep,hq,h2,h3,h4,_,h5⟩:=dd'
  refine K0 I (by rw [e];exact True.intro) hs ⟨q,hq⟩ ⟨hl,hd,_,(rel.put k eb rv).keeps fun c ys ec=>?_,q,es,ep,hq,h2,h3,h4,h5⟩
  rw [Ai (Mt ec e (fun z=>nomatch z))]
  exact ec
end
section
variable {X:Cx} {pins:List (Addr × Obj)} {σ:St} {H:Hp} {s:Shared} {a:Addr} {kvs:List (Key × V)} {k:Key} {u:Value} {A:Around} {E:Value->Shared->Prop}
end
def Qt (i:Expr):Prop:=∀ov iv,subscripted i false ov iv=operate [ov,iv] (getItem ov iv)
theorem Og {prog:Program} {w:World} {A:Around} {E:Value->Shared->Prop} {s:Shared} {env:Env} {value slice:Expr} {pos:Pos} {T id:String} {Q:Value->Shared->Prop}
 (hl:typeLookup (.type T) "__getitem__"=pure (some (.builtin id))) (hs:Qt slice)
 (h:wpAny (model prog w) A (eval value env) (fun o s₁=>wpAny (model prog w) A (eval slice env) (fun i s₂=>s₂.TypeIs o T/\wpAny (model prog w) A (getItem o i) Q E s₂) E s₁) E s) :
 wpAny (model prog w) A (eval (.Subscript value slice pos) env) Q E s:=by
 refine Subscript_ (wpAny_mono h (fun o s₁ h₁=>wpAny_mono h₁ (fun i s₂ h₂=>?_) fun _ _ x=>x) fun _ _ x=>x)
 obtain ⟨hT,h₂⟩:=h₂
 unfold subscriptTail
 refine wpAny_bind ?_
 rw [getitemInPython_of_ne hT.not_modules]
 refine wpAny_bind (wpAny_specialOf hT hl ?_)
 have fin:wpAny (model prog w) A (subscripted slice false o i) (fun r s₃=>wpAny (model prog w) A (letTemporaryGo value o r >>= fun _=>pure r) Q E s₃) E s₂:=by
  rw [hs o i]
  exact wpAny_operating (wpAny_mono h₂ (fun r s₃ h₃=>wpAny_bind (wpAny_letTemporaryGo (wpAny_pure h₃))) fun _ _ x=>x)
 first
  | exact wpAny_pure (wpAny_bind fin)
  | exact wpAny_bind (wpAny_pure (wpAny_bind fin))
  | exact wpAny_bind fin
theorem Id {X:Cx} {pins:List (Addr × Obj)} {σ:St} {H:Hp} {s:Shared} {a:Addr} {y:V} {o:Option V} (I:Inv X pins σ H s) (g:Hf H a y o):s.TypeIs (.ref a) "dict":=by
 rcases g with ⟨kvs,k,e,_,_⟩ | ⟨kvs,k,b,e,_,_,_⟩
 ·obtain ⟨_,_,vs,_,dd⟩:=HN I.hok e
  exact dd.typeIs
 ·obtain ⟨_,_,xs,_,dd⟩:=GC I.hok e
  exact dd.typeIs
def QI (td ty:TE):TE:=fun σ H Q=>td σ H fun x H1=>ty σ H1 fun y H2=>∃a v,x=.ref a/\Hf H2 a y (some v)/\Q v H2
def Q3 (td ty tv:TE):TS:=fun D σ H=>tv σ H fun v H1=>td σ H1 fun x H2=>ty σ H2 fun y H3=>∃a H4,x=.ref a/\Lj H3 a y v H4/\D.nx σ H4
section
variable {X:Cx} {o i e value:Expr} {pos pos' tpos:Pos} {td ty tv:TE}
theorem OD (hu:X.A.units+1 < cLine) (ho:PE X o td) (hi:PE X i ty) (hs:Qt i):PE X (.Subscript o i pos) (QI td ty):=by
 intro pins s σ H Q I h
 refine Og PySem.F.slot_dict_getitem.lookup hs (thn (ho pins s σ H _ I h) fun u s1 ⟨x,H1,I1,rx,q1⟩=>thn (hi pins s1 σ H1 _ I1 q1) fun iv s2 ⟨y,H2,I2,ry,a,v,ex,g,q2⟩=>?_)
 subst ex
 obtain rfl:u=Value.ref a:=rx
 exact ⟨Id I2 g,La hu I2 g ry fun w' s3 I3 rw'=>⟨v,H2,I3,rw',q2⟩⟩
theorem Ox (hu:X.A.units+1 < cLine) (ho:PE X o td) (hi:PE X i ty) (hv:PE X value tv) (hs:swapsWith value (some (.Subscript o i pos')) pos.line X.env=pure false) :
 PS X (.Assign [.Subscript o i pos'] value pos) (Q3 td ty tv):=by
 intro pins s σ H D I h
 refine wpAny_Assign_Subscript (thn (hv pins s σ H _ I h) fun r s1 ⟨v,H1,I1,rv,q1⟩=>thn (ho pins s1 σ H1 _ I1 q1) fun u s2 ⟨x,H2,I2,rx,q2⟩=>thn (hi pins s2 σ H2 _ I2 q2) fun iv s3 ⟨y,H3,I3,ry,a,H4,ex,g,q3⟩=>?_) hs
 subst ex
 obtain rfl:u=Value.ref a:=rx
 exact Lq hu I3 g ry rv fun s4 I4=>⟨σ,H4,I4,q3⟩
end
theorem Nh {P:Program} {w:World} {H:Hp} (h:Heap) (hb:sysModules < h.objs.size):AI P w H (h.push { cls:=.type "dict",data:=.dict #[] }) h.objs.size (.dT []) :=
 ⟨Nat.zero_le _,beq_eq_false_iff_ne.mpr (Ne.symm (Nat.ne_of_lt hb)),[],.nil,_,#[],0,Heap.get?_push_size _ rfl,⟨rfl,rfl,rfl⟩,rfl,rfl,List.nodup_nil⟩
def PR:TE:=fun _ H Q=>∀p,H p=none->Q (.ref p) (upd H p (.dT []))
section
variable {X:Cx} {pos:Pos}
theorem Nw:PE X (.Dict [] [] pos) PR:=fun pins s σ H Q I h =>
 wpAny_Dict_empty ⟨.ref s.heap.objs.size,_,I.laid (a:=s.heap.objs.size) (o:=.dT []) (t':=s.toks) (fun _ _ q=>Heap.get?_push_of_some _ q) (Nat.le_refl _) (Nh s.heap I.big),rfl,h _ (I.hok.fresh (Nat.le_refl _))⟩
end
structure M2 (X:Cx) (o:Expr) (m:Str) (apos:Pos) (e f:Expr) (cpos:Pos):Prop where
 base:attributeBase o m X.env (eval o X.env)=eval o X.env
 few:((backTo cpos (starEach [e,f] X.env)).all (fun x=>!x.1) && (backToKw cpos (keywordEach [] X.env)).all (fun x=>x.1.isSome)
  && decide (([e,f]:List Expr).length+([]:List Keyword).length+(if ([]:List Keyword).isEmpty then 0 else 1) < 30))=true
 line:(apos.endLine == cpos.line)=true
 trees:backTo cpos (starEach [e,f] X.env)=[(false,eval e X.env),(false,eval f X.env)]
def IsD (H:Hp) (a:Addr):Prop:=(∃kvs,Rd H a (.dK kvs))\/∃kvs,Rd H a (.dT kvs)
theorem Pl {X:Cx} {pins:List (Addr × Obj)} {σ:St} {H:Hp} {s:Shared} {a:Addr} (I:Inv X pins σ H s) (d:IsD H a) :
 s.TypeIs (.ref a) "dict"/\(∀b,Value.ref a=.ref b->∃ob,s.heap.get? b=some ob/\ob.dict=none)/\(a == sysModules)=false:=by
 rcases d with ⟨kvs,e⟩ | ⟨kvs,e⟩
 ·obtain ⟨_,hd,vs,_,dd⟩:=HN I.hok e
  refine ⟨dd.typeIs,fun b q=>?_,hd⟩
  cases q
  obtain ⟨ob,_,_,h1,h2,_⟩:=dd
  exact ⟨ob,h1,h2.2.1⟩
 ·obtain ⟨_,hd,xs,_,dd⟩:=GC I.hok e
  refine ⟨dd.typeIs,fun b q=>?_,hd⟩
  cases q
  obtain ⟨ob,_,_,h1,h2,_⟩:=dd
  exact ⟨ob,h1,h2.2.1⟩
section
variable {X:Cx} {pins:List (Addr × Obj)} {σ:St} {H:Hp} {s:Shared} {a:Addr} {y d:V} {u r:Value} {o:Option V} {A:Around} {E:Value->Shared->Prop}
theorem Qa {Q:Value->Shared->Prop} (hu:A.units+1 < cLine) (I:Inv X pins σ H s) (g:Hf H a y o) (ry:Av y u) (rd:Av d r) (h:∀w' s',Inv X pins σ H s'->Av (o.getD d) w'->Q w' s') :
 wpAny (model X.prog X.w) A (call (.builtin "dict.get") [.ref a,u,r]) Q E s:=by
 rcases g with ⟨kvs,k,e,ey,l⟩ | ⟨kvs,k,b,e,ey,eb,l⟩
 ·subst ey
  obtain ⟨z,hd,vs,rel,dd⟩:=HN I.hok e
  refine call_meetsIn PySem.F.slot_dict_get dd.typeIs PySem.F.entry_dict_get (PySem.F.args_dict_get_3 _ _ _) (meets_dict_get_default (Bx X.prog X.w) a (KG ry) hd r) ⟨_,dd.mapOf,h _ _ (I.tok _) ?_⟩
  rw [l]
  exact (rel.val k).getD rd
 ·subst ey
  cases (show u=Value.ref b from ry)
  obtain ⟨z,hd,xs,rel,dd⟩:=GC I.hok e
  refine call_meetsIn PySem.F.slot_dict_get dd.typeIs PySem.F.entry_dict_get (PySem.F.args_dict_get_3 _ _ _) (meetsH_dict_get_default (tupleKind (Bx X.prog X.w)) a b hd r) ⟨tupleKind_room_in1 hu,k,xs,HH I.hok eb,dd,h _ _ (I.tok _) ?_⟩
  rw [l]
  exact (rel.val k).getD rd
end
def P3 (td ty tx:TE):TE:=fun σ H Q=>td σ H fun x H1=>∃a,x=.ref a/\IsD H1 a/\ty σ H1 fun y H2=>tx σ H2 fun z H3=>∃o,Hf H3 a y o/\Q (o.getD z) H3
section
variable {X:Cx} {o e f:Expr} {apos cpos:Pos} {td ty tx:TE}
theorem Nj (hu:X.A.units+1 < cLine) (ho:PE X o td) (he:PE X e ty) (hf:PE X f tx) (m:M2 X o "get" apos e f cpos):PE X (.Call (.Attribute o "get" apos) [e,f] [] cpos) (P3 td ty tx):=by
 intro pins s σ H Q I h
 refine wpAny_Call_method m.base m.few m.line PySem.F.plainAttrs_dict PySem.F.slot_dict_get PySem.F.type_dict_get (thn (ho pins s σ H _ I h) fun u s1 ⟨x,H1,I1,rx,a,ex,d,q1⟩=>?_)
 subst ex
 obtain rfl:u=Value.ref a:=rx
 obtain ⟨t1,t2,_⟩:=Pl I1 d
 refine ⟨t1,t2,?_⟩
 rw [m.trees]
 refine Calls.callWith_builtin rfl (Calls.evalArgs_plain (Calls.spliced_cons (thn (he pins s1 σ H1 _ I1 q1) fun iv s2 ⟨y,H2,I2,ry,q2⟩ =>
  Calls.spliced_cons (thn (hf pins s2 σ H2 _ I2 q2) fun fv s3 ⟨z,H3,I3,rz,ov,g,q3⟩=>Calls.spliced_nil ?_))))
 exact Qa hu I3 g ry rz fun w' s4 I4 rw'=>⟨_,H3,I4,rw',q3⟩
end
section
variable {X:Cx} {pins:List (Addr × Obj)} {σ:St} {H:Hp} {s:Shared} {a:Addr} {kvs:List (Key × V)} {A:Around} {E:Value->Shared->Prop}
end
section
variable {X:Cx} {pins:List (Addr × Obj)} {σ:St} {H:Hp} {s:Shared} {a:Addr} {y:V} {u:Value} {A:Around} {E:Value->Shared->Prop}
end
end L2
namespace L2
open PySem PySem.Spec PyProof.Rows
section
variable {κ:Type} [DecidableEq κ]
theorem NA {kvs:List (κ × V)} {k:κ} (h:C2 kvs k=none):¬ k∈kvs.map (·.1):=by
 intro m
 obtain ⟨p,hp,e⟩:=List.mem_map.mp m
 have q:(kvs.any fun kv=>decide (kv.1=k))=true:=List.any_eq_true.mpr ⟨p,hp,decide_eq_true e⟩
 rw [DH,h] at q
 exact absurd q (by simp)
end
end L2
namespace L2
open PySem PySem.Spec PyProof.Rows
def Sz (n:Nat) (x:Int):Prop:=x.natAbs < 2 ^ n
section
variable {m n:Nat} {x y:Int}
theorem Sz.bits (h:Sz n x):Builtin.Int.intBits x<=n:=intBits_le_iff.mpr h
theorem Sz.of_bits (h:Builtin.Int.intBits x<=n):Sz n x:=intBits_le_iff.mp h
theorem Sz.mono (h:Sz m x) (l:m<=n):Sz n x:=.of_bits (Nat.le_trans h.bits l)
theorem Sz.mul (h:Sz m x) (k:Sz n y):Sz (m+n) (x*y):=.of_bits (intBits_mul_le h.bits k.bits)
theorem Sz.add (h:Sz m x) (k:Sz n y):Sz (max m n+1) (x+y):=.of_bits (intBits_add_le h.bits k.bits)
theorem szd (n:Nat) {x:Int} (h:decide (x.natAbs < 2 ^ n)=true:=by decide +kernel):Sz n x:=(show x.natAbs < 2 ^ n from of_decide_eq_true h)
theorem EU (h:-(2 ^ n:Nat) < x) (k:x < (2 ^ n:Nat)):Sz n x:=by
 unfold Sz
 generalize 2 ^ n=p at h k ⊢
 omega
end
def OS (i j:Int):Prop:=∃m n,Sz m i/\Sz n j/\m+n<=134217728
def QF (_ j:Int):Prop:=j≠0/\Sz 9000 j
section
variable {X:Cx}
theorem DM:OpR X (binaryOp .Mult) (rI OS fun i j=>.int (i*j)):=opI fun _ _ _ _ _ _ _ hc q =>
 mul_int q (let ⟨_,_,a,b,c⟩:=hc;IntMulOk.of_le a.bits b.bits c)
theorem AZ:OpR X (binaryOp .FloorDiv) (rI QF fun i j=>.int (i.fdiv j)):=opI fun _ j _ _ _ _ _ hc q =>
 floordiv_int hc.1 q (.inl (PyProof.noPylong_of_log2 ((Nat.log2_lt (by have:=hc.1;omega)).mpr hc.2)))
theorem CD:Cy X (.builtin "isinstance") (fun xs H Q=>∃x t c b,xs=[x,.ty c]/\CI X.K H x t/\PySem.W.kitOne X.K t (.type c)=some b/\Q (.bl b) H):=by
 intro pins s σ H xs us Q I rv h
 obtain ⟨x,t,c,b,rfl,ty,e,q⟩:=h
 obtain ⟨u,u',rfl,r1,r2⟩:=GN rv
 cases (show u'=Value.type c from r2)
 exact GF I r1 ty e fun tk=>⟨.bl b,H,I.tok tk,rfl,q⟩
end
section
variable {K:PySem.W.Frag}
theorem EN:PySem.W.kitOne K (.type "int") (.type "int")=some true:=by
 show (if ((Value.type "int") == (Value.type "int"))=true then some true else (if PySem.W.kitMeta "int"=true then (PySem.fastBuiltinMro "int").map (·.contains (Value.type "int")) else none))=some true
 decide +kernel
theorem Ew:PySem.W.kitOne K (.type "int") (.type "bool")=some false:=by
 show (if ((Value.type "int") == (Value.type "bool"))=true then some true else (if PySem.W.kitMeta "bool"=true then (PySem.fastBuiltinMro "int").map (·.contains (Value.type "bool")) else none))=some false
 decide +kernel
theorem DX:PySem.W.kitOne K (.type "bool") (.type "bool")=some true:=by
 show (if ((Value.type "bool") == (Value.type "bool"))=true then some true else (if PySem.W.kitMeta "bool"=true then (PySem.fastBuiltinMro "bool").map (·.contains (Value.type "bool")) else none))=some true
 decide +kernel
theorem DY:PySem.W.kitOne K (.type "list") (.type "list")=some true:=by
 show (if ((Value.type "list") == (Value.type "list"))=true then some true else (if PySem.W.kitMeta "list"=true then (PySem.fastBuiltinMro "list").map (·.contains (Value.type "list")) else none))=some true
 decide +kernel
end
def Ri (c:TT) (t u:TS):TS:=fun D σ H=>∃M:St->Hp->Prop,(c σ H fun b H1=>if b=true then t { D with nx:=M } σ H1 else u { D with nx:=M } σ H1)/\∀σ' H',M σ' H'->D.nx σ' H'
theorem Hs {X:Cx} {c:Expr} {a b:List Stmt} {tc:TT} {t u:TS} {pos:Pos} (hc:PT X c tc) (ha:PSs X a t) (hb:PSs X b u):PS X (.If c a b pos) (Ri tc t u):=by
 intro pins s σ H D I h
 obtain ⟨M,h,hM⟩:=h
 have up:∀(f:Flow) (s':Shared),SP X pins { D with nx:=M } f s'->SP X pins D f s':=fun f s' q=>by
  cases f with
  | next =>
    obtain ⟨σ',H',I',q⟩:=q
    exact ⟨σ',H',I',hM σ' H' q⟩
  | ret v=>exact q
  | brk=>exact q
  | cont=>exact q
 refine wpAny_If (thn (hc pins s σ H _ I h) fun d s1 ⟨H1,I1,q1⟩=>?_)
 cases d with
 | true=>exact thn (ha pins s1 σ H1 _ I1 q1) up
 | false=>exact thn (hb pins s1 σ H1 _ I1 q1) up
theorem PJ:MX 10 40:=⟨by decide,by decide,by decide⟩
theorem A5 {n:Nat} (h:n<=1000):n<=sizeLine:=Nat.le_of_lt (Bq h)
theorem Of {ns:List Int} {k:Int} (h0:0<=k) (h:k < (ns.length:Int)):∃v:Int,atI (ns.map V.int) k=some (.int v):=by
 have hk:k.toNat < ns.length:=by omega
 have ek:k=((k.toNat:Nat):Int):=by omega
 have q:atI (ns.map V.int) ((k.toNat:Nat):Int)=some (.int ns[k.toNat]):=E2 (by rw [List.getElem?_map,List.getElem?_eq_getElem hk] <;> rfl)
 rw [<- ek] at q
 exact ⟨_,q⟩
end L2
namespace L2
open PySem PySem.Spec PyProof.Rows
def Cx.inComp (X:Cx) (Nc:List Str) (sc:Scope) (cl:List (Str × Addr)) (s:Shared) (H:Hp) (ex:List Addr):Cx :=
 { X with N:=Nc,s₀:=s,H₀:=H,env:=compEnvC sc cl s.heap.objs.size X.env,outer:=X.stack,stack:=X.stack,ex:=ex,fn:=fun _=>false,pn:=[],xe:=fun _ _=>False }
theorem JM {env:Env} {f:Str × NameKind->List (Str × Addr)->Sem (ForInStep (List (Str × Addr)))}
 (hf:∀n k r,f (n,k) r=if (k == NameKind.free)=true then (cellOf env n >>= fun c=>pure (ForInStep.yield ((n,c) :: r))) else pure (ForInStep.yield r)) :
 ∀(l:List (Str × NameKind)) (cs:List (Str × Addr)),(∀x∈l,x.2=.free->∃c,env.cells.lookup x.1=some c) ->
  ∃cl,(forIn l cs f:Sem (List (Str × Addr)))=pure cl/\(∀p∈cl,p∈cs\/env.cells.lookup p.1=some p.2)/\(∀p∈cs,p∈cl)/\∀x∈l,x.2=.free->∃c,(x.1,c)∈cl:=by
 intro l
 induction l with
 | nil =>
   intro cs _
   exact ⟨cs,by rw [List.forIn_nil],fun p hp=>.inl hp,fun p hp=>hp,fun x hx=>absurd hx (by simp)⟩
 | cons y r ih =>
   intro cs h
   obtain ⟨n,k⟩:=y
   by_cases hk:k=.free
   ·subst hk
    obtain ⟨c,hc⟩:=h (n,.free) (by simp) rfl
    have e:cellOf env n=pure c:=by
     unfold cellOf
     rw [show env.cells.lookup n=some c from hc]
    obtain ⟨cl,h1,h2,h3,h4⟩:=ih ((n,c) :: cs) fun x hx=>h x (List.mem_cons_of_mem _ hx)
    refine ⟨cl,?_,fun p hp=>?_,fun p hp=>h3 p (List.mem_cons_of_mem _ hp),fun x hx hf'=>?_⟩
    ·rw [List.forIn_cons,hf,if_pos (by decide),e]
     simp only [pure_bind]
     exact h1
    ·rcases h2 p hp with z | z
     ·rcases List.mem_cons.mp z with z | z
      ·subst z;exact .inr hc
      ·exact .inl z
     ·exact .inr z
    ·rcases List.mem_cons.mp hx with z | z
     ·subst z;exact ⟨c,h3 _ (by simp)⟩
     ·exact h4 x z hf'
   ·have hb:(k == NameKind.free)=false:=by simpa using hk
    obtain ⟨cl,h1,h2,h3,h4⟩:=ih cs fun x hx=>h x (List.mem_cons_of_mem _ hx)
    refine ⟨cl,?_,h2,h3,fun x hx hf'=>?_⟩
    ·rw [List.forIn_cons,hf,hb,if_neg (by decide)]
     simp only [pure_bind]
     exact h1
    ·rcases List.mem_cons.mp hx with z | z
     ·subst z;exact absurd hf' hk
     ·exact h4 x z hf'
theorem FU {α:Type}:∀{l:List (Str × α)} {n:Str} {c:α},(n,c)∈l->∃d,l.lookup n=some d
 | (k,v) :: r,n,c,h=>by
   rw [List.lookup_cons]
   cases hx:(n == k) with
   | true=>exact ⟨v,rfl⟩
   | false =>
     rcases List.mem_cons.mp h with z | z
     ·cases z
      simp at hx
     ·exact FU z
theorem CF {env:Env} {sc:Scope} (h:∀x∈sc.names,x.2=.free->∃c,env.cells.lookup x.1=some c) :
 ∃cl,closureFor sc env=pure cl/\(∀y c,cl.lookup y=some c->env.cells.lookup y=some c)/\∀x∈sc.names,x.2=.free->∃c,cl.lookup x.1=some c:=by
 obtain ⟨cl,h1,h2,_,h4⟩:=JM (env:=env) (f:=fun x r=>if (x.2 == NameKind.free)=true then (cellOf env x.1 >>= fun c=>pure (ForInStep.yield ((x.1,c) :: r))) else pure (ForInStep.yield r)) (fun _ _ _=>rfl) sc.names [] h
 refine ⟨cl,?_,fun y c e=>?_,fun x hx hf=>?_⟩
 ·unfold closureFor
  have:(forIn sc.names ([]:List (Str × Addr)) fun x r=>(match x with | (name,kind)=>if (kind == NameKind.free)=true then (do let __do_lift <- cellOf env name;pure (ForInStep.yield ((name,__do_lift) :: r))) else pure (ForInStep.yield r)):Sem (List (Str × Addr)))=pure cl:=h1
  first
   | (simp only [this,pure_bind];done)
   | (simp only [h1,pure_bind];done)
   | (rw [show (forIn sc.names ([]:List (Str × Addr)) _:Sem (List (Str × Addr)))=pure cl from h1];rfl)
 ·rcases h2 (y,c) (PySem.mem_of_lookup e) with z | z
  ·exact absurd z (by simp)
  ·exact z
 ·obtain ⟨c,hc⟩:=h4 x hx hf
  exact FU hc
theorem B9 (env:Env):∀(names:List (Str × NameKind)) (y:Str),
 (names.map fun (n,k)=>if (k == NameKind.free && env.scope.kind == .function && env.kindOf n == some .cell) then (n,NameKind.cell) else (n,k)).lookup y
  = (names.lookup y).map fun k=>if (k == NameKind.free && env.scope.kind == .function && env.kindOf y == some .cell) then NameKind.cell else k
 | [],y=>rfl
 | (n,k) :: r,y=>by
   have ih:=B9 env r y
   rw [List.map_cons]
   dsimp only
   cases hx:(y == n) with
   | true =>
     have e:y=n:=by simpa using hx
     subst e
     by_cases c:(k == NameKind.free && env.scope.kind == .function && env.kindOf y == some .cell)=true
     ·rw [if_pos c];simp only [List.lookup_cons,hx,Option.map_some];rw [if_pos c]
     ·rw [if_neg c];simp only [List.lookup_cons,hx,Option.map_some];rw [if_neg c]
   | false =>
     by_cases c:(k == NameKind.free && env.scope.kind == .function && env.kindOf n == some .cell)=true
     ·rw [if_pos c];simp only [List.lookup_cons,hx];exact ih
     ·rw [if_neg c];simp only [List.lookup_cons,hx];exact ih
def Fc (X:Cx) (ifs:List Expr) (t:TT):Prop :=
 ∀(pins:List (Addr × Obj)) (s:Shared) (σ:St) (H:Hp) (Q:Bool->Hp->Prop),Inv X pins σ H s->t σ H Q ->
  wpAny (model X.prog X.w) X.A (forIn ifs true fun c r=>if r=true then do let ok <- isTrue c X.env (eval c X.env);pure (ForInStep.yield ok) else pure (ForInStep.yield r)) (TP X pins σ Q) X.xe s
def Qu:TT:=fun _ H Q=>Q true H
theorem yes {σ:St} {H:Hp} {Q:Bool->Hp->Prop} (h:Q true H):Qu σ H Q:=h
theorem Bm {X:Cx}:Fc X [] Qu:=by
 intro pins s σ H Q I h
 rw [List.forIn_nil]
 exact wpAny_pure ⟨H,I,h⟩
theorem DO {X:Cx} {c:Expr} {t:TT} (hc:PT X c t):Fc X [c] t:=by
 intro pins s σ H Q I h
 rw [List.forIn_cons,if_pos rfl]
 refine wpAny_bind (wpAny_bind (thn (hc pins s σ H Q I h) fun b s1 q=>wpAny_pure ?_))
 dsimp only
 rw [List.forIn_nil]
 exact wpAny_pure q
theorem Dq {α:Type} {t:Sem α} {Q Q':α->Shared->Prop} {M:Model} {A:Around} {E:Value->Shared->Prop} {s:Shared} (h:wpAny M A t Q (fun _ _=>False) s) (hQ:∀a s,Q a s->Q' a s):wpAny M A t Q' E s:=wpAny_mono h hQ fun _ _ z=>z.elim
def Je (wi:TI) (tt:TT) (te:TE):TE:=fun σ H Q=>wi σ H fun J H1=>∀D,H1 D=none->∃W:Nat->Nat->List V->Hp->Prop,(∃m,W 0 m [] (upd H1 D (.lst [])))/\∀i m ys H2,W i m ys H2 ->
 H2 D=some (.lst ys)/\((J.stop i H2/\Q (.ref D) H2)\/(J.go i H2/\ys.length < sizeLine/\∀x H3,J.yld i H2 x H3->tt (σ++[some x]) H3 fun b H4=>if b=true then te (σ++[some x]) H4 fun y H5=>H5 D=some (.lst ys)/\∃m',m' < m/\W (i+1) m' (ys++[y]) (upd H5 D (.lst (ys++[y])))
  else ∃m',m' < m/\W (i+1) m' ys H4))
structure DB (N Nc:List Str) (x:Str) (sc fsc:Scope):Prop where
 kind:sc.kind=.function
 cell:∀y∈sc.names,y.2≠.cell
 nm:∀y∈sc.names,y.2=.local->sc.names.lookup y.1=some .local
 own:sc.names.lookup x=some .local
 fr:∀y∈sc.names,y.2=.free->fsc.names.lookup y.1=some .cell\/fsc.names.lookup y.1=some .free
 len:Nc.length=N.length+1
 nd:Nc.Nodup
 last:Nc[N.length]?=some x
 slot:((List.range N.length).all fun i=>match Nc[i]? with
  | some y=>(match sc.names.lookup y with | some .free=>N[i]? == some y | some .local=>false | some .cell=>false | _=>true)
  | none=>true)=true
theorem DB.at {N Nc:List Str} {x:Str} {sc fsc:Scope} (C:DB N Nc x sc fsc) {i:Nat} {y:Str} (hi:i < N.length) (h:Nc[i]?=some y):sc.names.lookup y≠some .local/\sc.names.lookup y≠some .cell/\(sc.names.lookup y=some .free->N[i]?=some y):=by
 have q:=List.all_eq_true.mp C.slot i (List.mem_range.mpr hi)
 rw [h] at q
 dsimp only at q
 cases e:sc.names.lookup y with
 | none=>exact ⟨fun z=>(nomatch z),fun z=>(nomatch z),fun z=>(nomatch z)⟩
 | some k =>
   rw [e] at q
   cases k with
   | «local»=>exact absurd (show false=true from q) Bool.false_ne_true
   | cell=>exact absurd (show false=true from q) Bool.false_ne_true
   | free=>exact ⟨fun z=>(nomatch z),fun z=>(nomatch z),fun _=>by simpa using q⟩
   | _=>exact ⟨fun z=>(nomatch z),fun z=>(nomatch z),fun z=>(nomatch z)⟩
section
variable {X:Cx} {elt iter:Expr} {x:Str} {px pos:Pos} {ifs:List Expr} {sc fsc:Scope} {N Nc:List Str} {wi:TI} {tt:TT} {te:TE}
structure CU (X:Cx) (pins:List (Addr × Obj)) (H:Hp) (C:Addr):Prop where
 free:H C=none
 ne:C≠X.env.locals
 new:X.s₀.heap.objs.size<=C
 cells:∀x c,X.env.cells.lookup x=some c->c≠C
 pins:∀p∈X.pn++pins,p.1≠C
theorem Inv.sameBut {pins:List (Addr × Obj)} {σ:St} {H:Hp} {s:Shared} {C:Addr} {h':Heap} (I:Inv X pins σ H s) (c:CU X pins H C) (k:Heap.SameBut C s.heap h'):Inv X pins σ H { s with heap:=h' } :=
 I.turned (t':=s.toks) (it:=C) (fun b o hb e=>(k.2 b hb).trans e) c.free c.ne (.inr c.new) c.cells c.pins
theorem IX {σ:St} {o v:Option V}:(σ++[o]).set σ.length v=σ++[v]:=by
 rw [List.set_append_right _ _ (Nat.le_refl _),Nat.sub_self]
 rfl
theorem GJ (hE:X.env.scope=fsc) (hXN:X.N=N) (cn:DB N Nc x sc fsc) (hc:X.calm=true)
 (ht:∀cl s H ex,Fc (X.inComp Nc sc cl s H ex) ifs tt) (he:∀cl s H ex,PE (X.inComp Nc sc cl s H ex) elt te)
 {cl:List (Str × Addr)} (clS:∀y c,cl.lookup y=some c->X.env.cells.lookup y=some c) (clH:∀y∈sc.names,y.2=.free->∃c,cl.lookup y.1=some c)
 {pins:List (Addr × Obj)} {σ:St} {H2:Hp} {s2:Shared} {it:Addr} {fp:List Addr} {tn:Nat->Heap->Prop} {J:It} {Q:VK} {E:Value->Shared->Prop}
 (I2:Inv X pins σ H2 s2) (T:Io X.prog X.w X.K (.Name x px) J fp it tn) (st2:tn 0 s2.heap) (f2:∀b∈fp,E3 X pins H2 b)
 (h2:∀D,H2 D=none->∃W:Nat->Nat->List V->Hp->Prop,(∃m,W 0 m [] (upd H2 D (.lst [])))/\∀i m ys H2,W i m ys H2 ->
  H2 D=some (.lst ys)/\((J.stop i H2/\Q (.ref D) H2)\/(J.go i H2/\ys.length < sizeLine/\∀x H3,J.yld i H2 x H3->tt (σ++[some x]) H3 fun b H4=>if b=true then te (σ++[some x]) H4 fun y H5=>H5 D=some (.lst ys)/\∃m',m' < m/\W (i+1) m' (ys++[y]) (upd H5 D (.lst (ys++[y])))
   else ∃m',m' < m/\W (i+1) m' ys H4))) :
 wpAny (model X.prog X.w) X.A (newList []) (fun acc s₃=>wpAny (model X.prog X.w) X.A (newFunctionEnv sc X.env.globals cl [] X.env.qual none .none (some X.env)) (fun cenv s₄ =>
  codeAny (model X.prog X.w) X.A (.compStart (.ListComp elt [⟨.Name x px,iter,ifs,0⟩] sc pos) 0 (.ref it) acc { cenv with scope:=relabel sc X.env })
   (fun r s'=>r=.ok .next/\∃D H',acc=.ref D/\Inv X pins σ H' s'/\Q (.ref D) H'/\CU X pins H' cenv.locals/\∃m,s'.heap.Ns cenv.locals m) s₄) E s₃) E s2:=by
 refine wpAny_newObj_type (wpAny_newFunctionEnv cn.cell (by intro y hy;simp at hy) (fun h₁ hns₁ hsb₁=>?_) cn.kind)
 dsimp only at hns₁ hsb₁ ⊢
 have hD:H2 s2.heap.objs.size=none:=I2.hok.fresh (Nat.le_refl _)
 obtain ⟨W,⟨m0,w0⟩,turn⟩:=h2 s2.heap.objs.size hD
 have I3:Inv X pins σ (upd H2 s2.heap.objs.size (.lst [])) { s2 with heap:=s2.heap.push { cls:=.type "list",dict:=none,data:=.seq ([]:List Value).toArray } } :=
  I2.laid (t':=s2.toks) (fun b u e=>Heap.get?_push_of_some _ e) (Nat.le_refl _) ⟨Nat.zero_le _,[],0,.nil,Heap.get?_push_size _ rfl⟩
 generalize hs3:({ s2 with heap:=s2.heap.push { cls:=.type "list",dict:=none,data:=.seq ([]:List Value).toArray } }:Shared)=s3 at I3
 have eh:s3.heap=s2.heap.push { cls:=.type "list",dict:=none,data:=.seq ([]:List Value).toArray }:=by rw [<- hs3]
 have e2:({ s2 with heap:=h₁,toks:=s2.toks+([]:List (Str × Value)).length }:Shared)={ s3 with heap:=h₁,toks:=s3.toks }:=by rw [<- hs3];rfl
 generalize hH3:upd H2 s2.heap.objs.size (.lst [])=H3 at I3 w0
 rw [<- eh] at hns₁ hsb₁ ⊢
 rw [e2]
 have below2:∀b,b∈fp->b < s3.heap.objs.size:=fun b hb=>by
  obtain ⟨o,e,_⟩:=T.obj _ _ st2 b hb
  have:s2.heap.objs.size<=s3.heap.objs.size:=by rw [eh,Heap.size_push];exact Nat.le_succ _
  exact Nat.lt_of_lt_of_le (Heap.lt_size e) this
 have old:∀b o,s3.heap.get? b=some o->h₁.get? b=some o:=fun b o e=>(hsb₁.2 b (Nat.ne_of_lt (Heap.lt_size e))).trans (Heap.get?_push_of_some _ e)
 have old2:∀b o,s2.heap.get? b=some o->s3.heap.get? b=some o:=fun b o e=>by rw [eh];exact Heap.get?_push_of_some _ e
 have hsz3:s2.heap.objs.size < s3.heap.objs.size:=by rw [eh,Heap.size_push];exact Nat.lt_succ_self _
 have fpFree:∀b∈fp,H3 b=none:=fun b hb=>by
  rw [<- hH3,Ai (fun z=>?_)]
  ·exact (f2 b hb).1
  ·obtain ⟨o,e,_⟩:=T.obj _ _ st2 b hb
   have:=Heap.lt_size e
   rw [z] at this
   exact Nat.lt_irrefl _ this
 have rl:∀y,(relabel sc X.env).names.lookup y=(sc.names.lookup y).map fun k=>if (k == NameKind.free && X.env.scope.kind == .function && X.env.kindOf y == some .cell) then NameKind.cell else k:=fun y=>B9 X.env sc.names y
 have freeOf:∀y,sc.names.lookup y=some .free->∃c,cl.lookup y=some c:=fun y e=>clH (y,.free) (PySem.mem_of_lookup e) rfl
 have noCell:∀y,sc.names.lookup y≠some .cell:=fun y e=>cn.cell (y,.cell) (PySem.mem_of_lookup e) rfl
 have isFree:∀y,((relabel sc X.env).names.lookup y=some .cell\/(relabel sc X.env).names.lookup y=some .free)->sc.names.lookup y=some .free:=fun y h=>by
  rw [rl y] at h
  cases e:sc.names.lookup y with
  | none=>rw [e] at h;rcases h with z | z <;> exact absurd z (by simp)
  | some k =>
    rw [e] at h
    cases k with
    | free=>rfl
    | cell=>exact absurd e (noCell y)
    | «local»=>rcases h with z | z <;> exact absurd z (by simp)
    | _=>rcases h with z | z <;> exact absurd z (by simp)
 have ownLoc:(relabel sc X.env).names.lookup x=some .local:=by rw [rl x,cn.own];rfl
 have exOk:∀b∈fp,b≠s3.heap.objs.size/\(∀y c,X.env.cells.lookup y=some c->c≠b)/\b ∉ frs X.stack:=fun b hb=>by
  obtain ⟨g0,g1,g2,g3,g4,g5⟩:=f2 b hb
  refine ⟨Nat.ne_of_lt (below2 b hb),g4,fun z=>?_⟩
  rcases List.mem_cons.mp (I2.stkSub b z) with z | z
  ·exact g1 z
  ·exact g2 z
 have hCnew:X.s₀.heap.objs.size<=s3.heap.objs.size:=I3.sz
 have hCcell:∀y c,X.env.cells.lookup y=some c->c≠s3.heap.objs.size:=fun y c e z=>by
  obtain ⟨v,q⟩:=I3.cell y c e
  have:=q.lt
  rw [z] at this
  exact Nat.lt_irrefl _ this
 have hCpin:∀p∈X.pn++pins,p.1≠s3.heap.objs.size:=fun p hp z=>by
  have:=Heap.lt_size (I3.pin p hp).1
  rw [z] at this
  exact Nat.lt_irrefl _ this
 have okc:(X.inComp Nc sc cl s3 H3 fp).Ok:=by
  refine ⟨I3.ok.mod,cn.kind,I3.ok.glob,I3.ok.blt,Nat.le_refl _,fun y z c h1 h2=>I3.ok.inj y z c (clS y c h1) (clS z c h2),fun y hy=>freeOf y (isFree y hy),fun y c hf=>absurd (show false=true from hf) Bool.false_ne_true,I3.ok.hd,I3.ok.frames,.inl rfl,
   fun b hb=>⟨(exOk b hb).1,fun y c e=>(exOk b hb).2.1 y c (clS y c e)⟩,fun b o e=>I3.bs b o e,Nat.le_trans I3.ok.bsz I3.sz,fun b o e hb=>?_,fun b hb=>(exOk b hb).2.2,I3.stack,I3.stkFree⟩
  obtain ⟨g0,g1,g2,g3,g4,g5⟩:=f2 b hb
  rcases g3 with z | z
  ·exact I3.ok.noex b o e z
  ·exact absurd (Heap.lt_size (I3.ok.bs b o e).1) (Nat.not_lt.mpr z)
 have hlen:σ.length=N.length:=by rw [I3.len,hXN]
 have Ic:Inv (X.inComp Nc sc cl s3 H3 fp) [] (σ++[none]) H3 { s3 with heap:=h₁,toks:=s3.toks }:=by
  refine ⟨okc,rfl,I3.bare,Un.kept old,⟨_,hns₁,fun i y v h1 h2 h3=>?_⟩,fun y c e=>?_,I3.hok.fresh (Nat.le_refl _),fun y c e=>I3.freeC y c (clS y c e),fun p hp=>absurd (show p∈([]:List (Addr × Obj)) from hp) (by simp),I3.hok.kept old,?_⟩
  ·have hi:i < σ.length:=by
    by_cases hi:i < σ.length
    ·exact hi
    ·rw [List.getElem?_append_right (Nat.not_lt.mp hi)] at h2
     cases e:i - σ.length with
     | zero=>rw [e] at h2;cases h2
     | succ k=>rw [e] at h2;simp at h2
   rw [List.getElem?_append_left hi] at h2
   have hi':i < N.length:=by rw [<- hlen];exact hi
   obtain ⟨n1,n2,n3⟩:=cn.at hi' h1
   have hf:sc.names.lookup y=some .free:=by
    rcases h3 with z | z
    ·exfalso
     have z':(relabel sc X.env).names.lookup y=some .local:=z
     rw [rl y] at z'
     cases e:sc.names.lookup y with
     | none=>rw [e] at z';simp at z'
     | some k =>
       rw [e] at z'
       cases k with
       | «local»=>exact n1 e
       | cell=>exact n2 e
       | free =>
         simp only [Option.map_some,Option.some.injEq] at z'
         split at z' <;> cases z'
       | _=>simp at z'
    ·exact isFree y z
   have hN:X.N[i]?=some y:=by rw [hXN];exact n3 hf
   obtain ⟨m,hn,hl⟩:=I3.loc
   have hv:fsc.names.lookup y=some .cell\/fsc.names.lookup y=some .free:=cn.fr (y,.free) (PySem.mem_of_lookup hf) rfl
   have hv':X.env.scope.names.lookup y=some .cell\/X.env.scope.names.lookup y=some .free:=by rw [hE];exact hv
   obtain ⟨u,ru,lk⟩:=hl i y v hN h2 (.inr hv')
   refine ⟨u,ru,.inr ⟨?_,?_⟩⟩
   ·show (relabel sc X.env).names.lookup y=some .cell\/(relabel sc X.env).names.lookup y=some .free
    rw [rl y,hf]
    simp only [Option.map_some,Option.some.injEq]
    split
    ·exact .inl rfl
    ·exact .inr rfl
   ·rcases lk with ⟨kl,_⟩ | ⟨_,c,hc,hcell⟩
    ·exfalso
     have kl':X.env.scope.names.lookup y=some .local:=kl
     rw [kl'] at hv'
     rcases hv' with z | z <;> cases z
    ·obtain ⟨d,hd⟩:=freeOf y hf
     have ed:=clS y d hd
     rw [hc] at ed
     cases ed
     exact ⟨c,hd,hcell.keeps old⟩
  ·obtain ⟨v,q⟩:=I3.cell y c (clS y c e)
   exact ⟨v,q.keeps old⟩
  ·show (σ++[none]).length=Nc.length
   rw [List.length_append,hlen,cn.len]
   rfl
 have stc:tn 0 ({ s3 with heap:=h₁,toks:=s3.toks }:Shared).heap:=T.keep _ _ _ st2 fun b _ o e=>old b o (old2 b o e)
 have hDf:s2.heap.objs.size ∉ fp:=fun hm=>by
  obtain ⟨o,e,_⟩:=T.obj _ _ st2 _ hm
  exact Nat.lt_irrefl _ (Heap.lt_size e)
 have fpc:∀{pins':List (Addr × Obj)} {H':Hp},pins'=[]->(∀b∈fp,H' b=none)->∀b∈fp,E3 (X.inComp Nc sc cl s3 H3 fp) pins' H' b:=fun {pins' H'} hp hn b hb=>by
  subst hp
  exact ⟨hn b hb,(exOk b hb).1,(exOk b hb).2.2,.inl hb,fun y c e=>(exOk b hb).2.1 y c (clS y c e),fun p hp=>absurd (show p∈([]:List (Addr × Obj)) from hp) (by simp)⟩
 have hg:PG (X.inComp Nc sc cl s3 H3 fp) (.Name x px) (D1 σ.length):=AC (X:=X.inComp Nc sc cl s3 H3 fp) cn.nd (by show Nc[σ.length]?=some x;rw [hlen];exact cn.last) (.inl ownLoc) (.inr ownLoc)
 have loop:∀s₄:Shared,s₄={ s3 with heap:=h₁,toks:=s3.toks } ->
  codeAny (model X.prog X.w) X.A (.compLoop (.ListComp elt [⟨.Name x px,iter,ifs,0⟩] sc pos) 0 (.ref it) (.ref s2.heap.objs.size) (compEnvC sc cl s3.heap.objs.size X.env))
   (fun r s'=>r=.ok .next/\∃D H',(Value.ref s2.heap.objs.size)=.ref D/\Inv X pins σ H' s'/\Q (.ref D) H'/\CU X pins H' s3.heap.objs.size/\∃m,s'.heap.Ns s3.heap.objs.size m) s₄:=by
  rintro s₄ rfl
  refine codeAny_compLoop_tests (fun n s'=>∃(i:Nat) (o:Option V) (H':Hp) (ys:List V),Inv (X.inComp Nc sc cl s3 H3 fp) [] (σ++[o]) H' s'/\tn i s'.heap/\(∀b∈fp,H' b=none)/\W i n ys H') ?_ m0 ⟨0,none,H3,[],Ic,stc,fpFree,w0⟩
  rintro n s' ⟨i,o,H',ys,I',st',fr',w'⟩
  obtain ⟨hDl,tw⟩:=turn i n ys H' w'
  rcases tw with ⟨stop,q⟩ | ⟨go,hz,step⟩
  ·
   refine thn (T.done (X.inComp Nc sc cl s3 H3 fp) rfl rfl rfl hc i [] s' _ H' _ I' (fpc rfl fr') st' stop) fun r s5 ⟨hr,I5⟩=>?_
   subst hr
   have Ix:Inv X pins σ H' s5:=I3.call' (ch:=fp) I5.os I5.base I5.hok I5.bare fun b hb=>by
    obtain ⟨g0,g1,g2,g3,g4,g5⟩:=f2 b hb
    exact ⟨g3,g1,g4,g5⟩
   have hCf:H' s3.heap.objs.size=none:=I5.free
   obtain ⟨m,hn,_⟩:=I5.loc
   exact ⟨rfl,s2.heap.objs.size,H',rfl,Ix,q,⟨hCf,fun z=>Nat.lt_irrefl _ (by have:=I3.lt;rw [<- z] at this;exact this),hCnew,hCcell,hCpin⟩,m,hn⟩
  ·
   refine thn (T.item (X.inComp Nc sc cl s3 H3 fp) rfl rfl rfl hc i [] s' _ H' _ I' (fpc rfl fr') st' go) fun r s5 ⟨u,hr,h4⟩=>?_
   subst hr
   dsimp only
   have e0:letOwnedTupleGo (.Name x px) (.ref it) u=pure ():=rfl
   have e1:(letOwnedTupleGo (.Name x px) (.ref it) u >>= fun _=>assign (.Name x px) (compEnvC sc cl s3.heap.objs.size X.env) u)=assign (.Name x px) (compEnvC sc cl s3.heap.objs.size X.env) u:=by rw [e0,pure_bind]
   rw [<- e1]
   refine wpAny_bind (thn h4 fun _ s6 ⟨xv,H5,I5,r5,y5,st5,fr5⟩=>?_)
   have I5':=I5.pinned (fpc rfl fr5) (T.obj _ _ st5)
   have again:∀{H7:Hp} {s7:Shared} {m':Nat} {ys':List V},Inv (X.inComp Nc sc cl s3 H3 fp) ([]++Ej fp s6.heap) (σ++[some xv]) H7 s7->m' < n->W (i+1) m' ys' H7 ->
    ∃m,m < n/\∃(i:Nat) (o:Option V) (H':Hp) (ys:List V),Inv (X.inComp Nc sc cl s3 H3 fp) [] (σ++[o]) H' s7/\tn i s7.heap/\(∀b∈fp,H' b=none)/\W i m ys H':=fun {H7 s7 m' ys'} I7 hm w7=>by
    refine ⟨m',hm,i+1,some xv,H7,ys',I7.unpinned,T.keep _ _ _ st5 fun b hb o e=>(I7.pin (b,o) (List.mem_append_right _ (List.mem_append_right _ (BE hb e)))).1,fun b hb=>?_,w7⟩
    obtain ⟨o',e,d⟩:=T.obj _ _ st5 b hb
    exact (I7.pin (b,o') (List.mem_append_right _ (List.mem_append_right _ (BE hb e)))).2.1
   refine Dq (hg _ s6 _ H5 xv u (fun σ' H''=>σ'=σ++[some xv]/\H''=H5) I5' r5 ⟨IX,rfl⟩) fun _ s7 ⟨σ7,H7,I7,e7,e7'⟩=>?_
   subst e7
   subst e7'
   refine Dq (ht cl s3 H3 fp _ s7 _ _ _ I7 (step xv _ y5)) fun b s8 ⟨H8,I8,q8⟩=>?_
   cases b with
   | false =>
     rw [if_neg Bool.false_ne_true] at q8 ⊢
     obtain ⟨m',hm,w8⟩:=q8
     exact again I8 hm w8
   | true =>
     rw [if_pos rfl] at q8 ⊢
     refine Dq (he cl s3 H3 fp _ s8 _ H8 _ I8 q8) fun y s9 ⟨yv,H9,I9,r9,hD9,m',hm,w9⟩=>?_
     refine Dq (BH _ s9 _ H9 (.ref s2.heap.objs.size) [yv] (.ref s2.heap.objs.size) [y] (fun v H=>v=.non/\H=upd H9 s2.heap.objs.size (.lst (ys++[yv]))) I9 rfl (.cons r9 .nil) ⟨_,ys,yv,rfl,rfl,hD9,hz,rfl,rfl⟩) fun _ s10 ⟨v10,H10,I10,r10,e10,e11⟩=>?_
     subst e11
     exact again I10 hm w9
 exact codeAny_compStart_list (loop _ rfl) (T.self _ 0 _ _ _ stc (loop _ rfl))
theorem Fr (I:∀y,(X.env.kindOf y=some .cell\/X.env.kindOf y=some .free)->∃c,X.env.cells.lookup y=some c) (hE:X.env.scope=fsc) (cn:DB N Nc x sc fsc):∀y∈sc.names,y.2=.free->∃c,X.env.cells.lookup y.1=some c:=fun y hy hf=>by
 refine I y.1 ?_
 show X.env.scope.names.lookup y.1=some .cell\/X.env.scope.names.lookup y.1=some .free
 rw [hE]
 exact cn.fr y hy hf
theorem Bl (hE:X.env.scope=fsc) (hXN:X.N=N) (cn:DB N Nc x sc fsc) (hc:X.calm=true) (hi:PI X (.Name x px) iter wi)
 (ht:∀cl s H ex,Fc (X.inComp Nc sc cl s H ex) ifs tt) (he:∀cl s H ex,PE (X.inComp Nc sc cl s H ex) elt te)
 (hs:∀v,foldedSetIterable iter X.env v=pure v:=by intro _;rfl):PE X (.ListComp elt [⟨.Name x px,iter,ifs,0⟩] sc pos) (Je wi tt te):=by
 intro pins s σ H Q I h
 obtain ⟨cl,hcl,clS,clH⟩:=CF (env:=X.env) (sc:=sc) (Fr I.ok.has hE cn)
 rw [eval_ListComp]
 refine wpAny_comprehension_free (use:=none) rfl hs hcl cn.kind cn.nm (thn (hi pins s σ H _ I h) fun v s1 h1=>thn h1 fun itv s2 h2=>?_)
 obtain ⟨it,fp,tn,J,H2,rfl,I2,T,st2,f2,h2⟩:=h2
 refine thn (GJ (pos:=pos) (iter:=iter) hE hXN cn hc ht he clS clH I2 T st2 f2 h2) fun acc s3 h3=>thn h3 fun cenv s4 h4=>codeAny_mono h4 fun r s' h5=>?_
 obtain ⟨rfl,D,H',rfl,I',q,cloc,m,hn⟩:=h5
 exact ⟨m,hn,fun h' k=>⟨.ref D,H',I'.sameBut cloc k,rfl,q⟩⟩
theorem Fj {j:Nat} {y:Str} {py spos:Pos} (hE:X.env.scope=fsc) (hXN:X.N=N) (cn:DB N Nc x sc fsc) (hc:X.calm=true) (hnd:X.N.Nodup) (hj:X.N[j]?=some y) (hy:X.env.scope.names.lookup y=some .local) (hi:PI X (.Name x px) iter wi)
 (ht:∀cl s H ex,Fc (X.inComp Nc sc cl s H ex) ifs tt) (he:∀cl s H ex,PE (X.inComp Nc sc cl s H ex) elt te)
 (hsw:swapsWith (.ListComp elt [⟨.Name x px,iter,ifs,0⟩] sc pos) (some (.Name y py)) spos.line X.env=pure true)
 (hs:∀v,foldedSetIterable iter X.env v=pure v:=by intro _;rfl):PS X (.Assign [.Name y py] (.ListComp elt [⟨.Name x px,iter,ifs,0⟩] sc pos) spos) (Pc (Je wi tt te) (D1 j)):=by
 intro pins s σ H D I h
 obtain ⟨cl,hcl,clS,clH⟩:=CF (env:=X.env) (sc:=sc) (Fr I.ok.has hE cn)
 rw [exec_Assign_Name_used _ _ _ _ hsw]
 refine wpAny_bind (wpAny_standAt (wpAny_bind ?_))
 show wpAny _ X.A (do let _ <- comprehension (.ListComp elt [⟨.Name x px,iter,ifs,0⟩] sc pos) sc X.env _ (newList []) false (eval iter X.env) (some (assign (.Name y py) X.env))) _ _ s
 refine wpAny_bind (thn (wpAny_comprehension_free (Q:=fun _ s'=>SP X pins D .next s') rfl hs hcl cn.kind cn.nm (thn (hi pins s σ H _ I h) fun v s1 h1=>thn h1 fun itv s2 h2=>?_)) fun _ s' hq=>wpAny_pure (wpAny_pure hq))
 obtain ⟨it,fp,tn,J,H2,rfl,I2,T,st2,f2,h2⟩:=h2
 refine thn (GJ (pos:=pos) (iter:=iter) (Q:=fun x H1=>D1 j x σ H1 D.nx) hE hXN cn hc ht he clS clH I2 T st2 f2 h2) fun acc s3 h3=>thn h3 fun cenv s4 h4=>codeAny_mono h4 fun r s' h5=>?_
 obtain ⟨rfl,D',H',rfl,I',q,cloc,m,hn⟩:=h5
 refine wpAny_assign_Name (GP (v:=.ref D') I' hnd hj (.inl hy) rfl (fun s6 I6 sb=>?_) (.inr hy))
 obtain ⟨a,k,ha⟩:=sb
 refine ⟨m,hn.sameBut k (fun z=>?_),fun h' k'=>⟨_,H',I6.sameBut cloc k',q⟩⟩
 rcases ha with ha | ha
 ·exact cloc.ne (z.trans ha)
 ·exact cloc.cells _ _ ha z.symm
end
theorem B6 {lo:Int} {n:Nat} {tt:TT} {te:TE} {σ:St} {H1:Hp} {Q:Addr->Hp->Prop} (hn:n<=sizeLine) (Pv:Addr->Nat->List V->Hp->Prop)
 (h0:∀D,H1 D=none->Pv D 0 [] (upd H1 D (.lst []))) (hD:∀D i ys H,Pv D i ys H->H D=some (.lst ys)/\ys.length<=i)
 (hs:∀D i ys H (K1:VK) (K2:Hp->Prop),H1 D=none->i < n->Pv D i ys H->(∀y H5,H5 D=some (.lst ys)->Pv D (i+1) (ys++[y]) (upd H5 D (.lst (ys++[y])))->K1 y H5)->(∀H4,Pv D (i+1) ys H4->K2 H4) ->
  tt (σ++[some (.int (lo+i))]) H fun b H4=>if b=true then te (σ++[some (.int (lo+i))]) H4 K1 else K2 H4)
 (hd:∀D ys H,H1 D=none->Pv D n ys H->Q D H) :
 ∀D,H1 D=none->∃W:Nat->Nat->List V->Hp->Prop,(∃m,W 0 m [] (upd H1 D (.lst [])))/\∀i m ys H2,W i m ys H2 ->
  H2 D=some (.lst ys)/\(((Itr lo n).stop i H2/\Q D H2)\/((Itr lo n).go i H2/\ys.length < sizeLine/\∀x H3,(Itr lo n).yld i H2 x H3->tt (σ++[some x]) H3 fun b H4=>if b=true then te (σ++[some x]) H4 fun y H5=>H5 D=some (.lst ys)/\∃m',m' < m/\W (i+1) m' (ys++[y]) (upd H5 D (.lst (ys++[y])))
   else ∃m',m' < m/\W (i+1) m' ys H4)):=by
 intro D hDn
 refine ⟨fun i m ys H=>m=n - i/\i<=n/\Pv D i ys H,⟨n,rfl,Nat.zero_le _,h0 D hDn⟩,?_⟩
 rintro i m ys H2 ⟨rfl,hi,p⟩
 obtain ⟨e,l⟩:=hD D i ys H2 p
 refine ⟨e,?_⟩
 by_cases hlt:i < n
 ·refine .inr ⟨hlt,Nat.lt_of_le_of_lt l (Nat.lt_of_lt_of_le hlt hn),fun x H3 y=>?_⟩
  obtain ⟨e1,e2⟩:=y
  subst e1 e2
  exact hs D i ys _ _ _ hDn hlt p (fun y H5 h5 p5=>⟨h5,n - (i+1),by omega,rfl,hlt,p5⟩) fun H4 p4=>⟨n - (i+1),by omega,rfl,hlt,p4⟩
 ·have ei:i=n:=by omega
  subst ei
  exact .inl ⟨Nat.le_refl _,hd D ys H2 hDn p⟩
theorem AV {K:PySem.W.Frag} {a:Addr} {xs:List V} {tt:TT} {te:TE} {σ:St} {H1:Hp} {Q:Addr->Hp->Prop} (hn:xs.length<=sizeLine) (Pv:Addr->Nat->List V->Hp->Prop)
 (h0:∀D,H1 D=none->Pv D 0 [] (upd H1 D (.lst []))) (hD:∀D i ys H,Pv D i ys H->H D=some (.lst ys)/\ys.length<=i) (hl:∀D i ys H,H1 D=none->Pv D i ys H->SqL K H a xs)
 (hs:∀D i x ys H (K1:VK) (K2:Hp->Prop),H1 D=none->xs[i]?=some x->Pv D i ys H->(∀y H5,H5 D=some (.lst ys)->Pv D (i+1) (ys++[y]) (upd H5 D (.lst (ys++[y])))->K1 y H5)->(∀H4,Pv D (i+1) ys H4->K2 H4) ->
  tt (σ++[some x]) H fun b H4=>if b=true then te (σ++[some x]) H4 K1 else K2 H4)
 (hd:∀D ys H,H1 D=none->Pv D xs.length ys H->Q D H) :
 ∀D,H1 D=none->∃W:Nat->Nat->List V->Hp->Prop,(∃m,W 0 m [] (upd H1 D (.lst [])))/\∀i m ys H2,W i m ys H2 ->
  H2 D=some (.lst ys)/\(((Itl K a).stop i H2/\Q D H2)\/((Itl K a).go i H2/\ys.length < sizeLine/\∀x H3,(Itl K a).yld i H2 x H3->tt (σ++[some x]) H3 fun b H4=>if b=true then te (σ++[some x]) H4 fun y H5=>H5 D=some (.lst ys)/\∃m',m' < m/\W (i+1) m' (ys++[y]) (upd H5 D (.lst (ys++[y])))
   else ∃m',m' < m/\W (i+1) m' ys H4)):=by
 intro D hDn
 refine ⟨fun i m ys H=>m=xs.length - i/\i<=xs.length/\Pv D i ys H,⟨xs.length,rfl,Nat.zero_le _,h0 D hDn⟩,?_⟩
 rintro i m ys H2 ⟨rfl,hi,p⟩
 obtain ⟨e,l⟩:=hD D i ys H2 p
 have q:=hl D i ys H2 hDn p
 refine ⟨e,?_⟩
 by_cases hlt:i < xs.length
 ·refine .inr ⟨⟨xs,xs[i],q,by simp [hlt]⟩,Nat.lt_of_le_of_lt l (Nat.lt_of_lt_of_le hlt hn),fun x H3 y=>?_⟩
  obtain ⟨e1,y⟩:=y
  subst e1
  exact hs D i x ys _ _ _ hDn (y xs q) p (fun y H5 h5 p5=>⟨h5,xs.length - (i+1),by omega,rfl,hlt,p5⟩) fun H4 p4=>⟨xs.length - (i+1),by omega,rfl,hlt,p4⟩
 ·have ei:i=xs.length:=by omega
  subst ei
  exact .inl ⟨⟨xs,q,Nat.le_refl _⟩,hd D ys H2 hDn p⟩
section
variable {X:Cx}
theorem Ba (K:PySem.W.Frag) (h:X.K=K:=by rfl):IxR X (QG K):=by subst h;exact AH
theorem Kr (K:PySem.W.Frag) (h:X.K=K:=by rfl):IxR X (QD K):=by subst h;exact Dn
theorem JT (K:PySem.W.Frag) (h:X.K=K:=by rfl):OpR X (compareOp .In) (rIn K false):=by subst h;exact Lc
end
end L2
namespace L2
open PySem PySem.Spec PyProof.Rows
section
variable {X:Cx}
theorem M9 (hc:X.calm=true):Cy X (.builtin "sum") (fun xs H Q=>∃(p:Addr) (ns:List Int),xs=[.ref p]/\SqL X.K H p (ns.map V.int)/\Q (.int ns.sum) H):=by
 intro pins s σ H xs us Q I rv h
 obtain ⟨p,ns,rfl,hS,q⟩:=h
 obtain ⟨u,rfl,r⟩:=DF rv
 cases r
 obtain ⟨its,rv,pl,hz⟩:=I.list hS
 have hi:=Cp rv
 obtain ⟨xs,e⟩:=hi.allInts.items
 have en:xs.toList.map (·.1)=ns:=by
  have:=nums_intItems xs
  rw [<- e,show its.toArray.toList=its from rfl,hi.numsOf] at this
  exact this.symm
 refine sum_intListG (I.ok.hd hc) (by rw [<- e];exact pl.isList) fun h' tk t' hk=>?_
 rw [preSum_eq,List.take_of_length_le (by simp),en]
 exact ⟨.int ns.sum,H,I.kept hk,⟨_,rfl⟩,q⟩
theorem NT:MtR X "int.bit_length" (fun x xs H Q=>∃i:Int,x=.int i/\xs=[]/\Q (.int (Builtin.Int.intBits i:Nat)) H):=by
 intro pins s σ H x xs v us Q I rx rv h
 obtain ⟨i,rfl,rfl,q⟩:=h
 obtain ⟨t,rfl⟩:=rx
 cases rv
 exact call_int_bit_length ⟨.int _,H,I.tok _,⟨_,rfl⟩,q⟩
end
end L2
namespace L2
open PySem PySem.Spec PyProof.Rows
def Rec (h:Heap) (e:Addr) (cls:Value) (od T:Option Addr) (fl:Value):Prop :=
 ∃oe vs,h.get? e=some oe/\oe.cls=cls/\oe.dict=od/\oe.data=.fields vs /\
  match T with
  | none=>vs[1]?=some .none
  | some t=>vs[1]?=some (.ref t)/\t≠e/\∃oT ts,h.get? t=some oT/\oT.data=.fields ts/\ts[3]?=some fl
structure Keep (fs xs:List Addr) (h h':Heap):Prop where
 keep:∀b o,h.get? b=some o->b ∉ fs->b ∉ xs->h'.get? b=some o
 slot:∀b o,h.get? b=some o->b∈fs->b ∉ xs->∃sl,h'.get? b=some { o with slots:=sl }
 there:∀b o,h.get? b=some o->∃o',h'.get? b=some o'
theorem Keep.any {fs xs:List Addr} {h h':Heap} (k:Keep fs xs h h') {b:Addr} {o:Obj} (e:h.get? b=some o) (n:b ∉ xs):∃sl,h'.get? b=some { o with slots:=sl }:=by
 by_cases hb:b∈fs
 ·exact k.slot b o e hb n
 ·exact ⟨o.slots,k.keep b o e hb n⟩
theorem Keep.mono {fs fs' xs xs':List Addr} {h h':Heap} (k:Keep fs xs h h') (hf:∀b∈fs,b∈fs') (hx:∀b∈xs,b∈xs'):Keep fs' xs' h h' :=
 ⟨fun b o e n m=>k.keep b o e (fun z=>n (hf b z)) fun z=>m (hx b z),fun b o e _ m=>k.any e fun z=>m (hx b z),k.there⟩
theorem Kl (f:Array Value->Array Value) (o:Obj):(Obj.mapFields f o).dict=o.dict:=by
 obtain ⟨c,d,dt,sl⟩:=o
 cases dt <;> rfl
section
variable {M:Model} {A:Around} {E:Value->Shared->Prop} {s:Shared} {env:Env} {outer:List Env} {L e:Addr} {base:Heap}
theorem Iq {oe:Obj} {vs:Array Value} {head:Value} {nx:Bool} {Q:Unit->Shared->Prop} (fr:A.frames=some (env :: outer)) (hl:s.heap.FunFrames base (env :: outer)) (hf:env.frame=some L)
 (he:s.heap.get? e=some oe) (hd:oe.data=.fields vs) (sz:1 < vs.size)
 (k:∀h' oT ts,Keep (frs (env :: outer)) [e] s.heap h'->h'.get? e=some (oe.mapFields (·.setIfInBounds 1 (.ref s.heap.objs.size)))->h'.get? s.heap.objs.size=some oT->oT.data=.fields ts->ts[3]?=some (rawInt L)->Q () { s with heap:=h' }) :
 wpAny M A (do let a <- frameOf env;let pl <- entryPlaceOf L nx;let b <- EntryCells.newEntry head a .none (rawInt L) .none pl;setField (.ref e) 1 b) Q E s:=by
 have ne:e ∉ frs (env :: outer):=fun hm=>by
  obtain ⟨_,o,ho,hn⟩:=hl.mem hm
  rw [he] at ho
  cases ho
  exact hn vs hd
 refine wpAny_bind (wpAny_frameOf_fun fr hl hf fun h₁ q=>?_)
 obtain ⟨q1,q2,q3⟩:=q
 refine wpAny_bind (wpAny_entryPlaceOf fun pl hp=>?_)
 simp only [EntryCells.newEntry,newFields]
 refine wpAny_bind (wpAny_newObj_type ?_ (hp.sizeOk5 _ _ _ _ _))
 rw [q1]
 generalize hT:({ cls:=.type "traceback",dict:=none,data:=.fields ([head,Value.ref L,.none,rawInt L,.none]++(if pl.isEmpty then List.replicate 6 Value.none else pl)).toArray }:Obj)=oT
 have e1:h₁.get? e=some oe:=(q2 e ne).trans he
 have e2:(h₁.push oT).get? e=some oe:=Heap.get?_push_of_some _ e1
 have lt:s.heap.objs.size≠e:=Nat.ne_of_gt (Heap.lt_size he)
 have hT0:(h₁.push oT).get? s.heap.objs.size=some oT:=by
  have:=Heap.get?_push_size h₁ (o:=oT) (by rw [<- hT];rfl)
  rw [q1] at this
  exact this
 refine wpAny_setField e2 hd sz ?_
 have d3:=Obj.data_mapFields hd (·.setIfInBounds 1 (Value.ref s.heap.objs.size))
 have oth:∀b o,b≠e->h₁.get? b=some o->((h₁.push oT).update e (Obj.mapFields (·.setIfInBounds 1 (Value.ref s.heap.objs.size)))).get? b=some o:=fun b o hb z=>by
  rw [Heap.get?_update_other _ _ (Ne.symm hb)]
  exact Heap.get?_push_of_some _ z
 have es:=Heap.get?_update_self (Obj.mapFields (·.setIfInBounds 1 (Value.ref s.heap.objs.size))) e2 (Obj.isFreed_of_fields d3)
 refine k _ oT _ ⟨fun b o z hb hx=>?_,fun b o z hb hx=>?_,fun b o z=>?_⟩ es ?_ (by rw [<- hT]) ?_
 ·exact oth b o (fun y=>hx (by rw [y];exact List.mem_singleton.mpr rfl)) ((q2 b hb).trans z)
 ·obtain ⟨sl,z1⟩:=q3 b o z
  exact ⟨sl,oth b _ (fun y=>hx (by rw [y];exact List.mem_singleton.mpr rfl)) z1⟩
 ·by_cases hb:b=e
  ·rw [hb];exact ⟨_,es⟩
  ·obtain ⟨sl,z1⟩:=q3 b o z
   exact ⟨_,oth b _ hb z1⟩
 ·rw [Heap.get?_update_other _ _ (Ne.symm lt)];exact hT0
 ·rcases hp with rfl | ⟨_,_,_,_,_,_,_,rfl⟩ <;> simp
theorem Ms {cls:Value} {od T:Option Addr} {fl:Value} {Q:Unit->Shared->Prop} (fr:A.frames=some (env :: outer)) (hl:s.heap.FunFrames base (env :: outer)) (hf:env.frame=some L) (R:Rec s.heap e cls od T fl)
 (hfl:T=none\/fl=.none\/fl=rawInt L)
 (k:∀h' t,Rec h' e cls od (some t) (rawInt L)->(T=some t\/t=s.heap.objs.size)->Keep (frs (env :: outer)) (e :: T.toList) s.heap h'->Q () { s with heap:=h' }):wpAny M A (noteFrame (.ref e) env) Q E s:=by
 obtain ⟨oe,vs,he,hc,ho,hd,hT⟩:=R
 have lt:s.heap.objs.size≠e:=Nat.ne_of_gt (Heap.lt_size he)
 unfold noteFrame
 simp only [hf]
 cases T with
 | none =>
   have h1:vs[1]?=some Value.none:=hT
   have sz:=(Array.getElem?_eq_some_iff.mp h1).1
   refine wpAny_bind (wpAny_field he hd h1 ?_)
   rw [if_neg (by decide)]
   refine Iq fr hl hf he hd sz fun h' oT ts kp e' t1 t2 t3=>k h' _ ?_ (.inr rfl) kp
   exact ⟨_,_,e',by rw [Obj.cls_mapFields];exact hc,by rw [Kl];exact ho,Obj.data_mapFields hd _,by simp [sz],lt,oT,ts,t1,t2,t3⟩
 | some t =>
   obtain ⟨h1,ne,oT,ts,ht,hdt,h3⟩:=hT
   have sz:=(Array.getElem?_eq_some_iff.mp h1).1
   have sz3:=(Array.getElem?_eq_some_iff.mp h3).1
   refine wpAny_bind (wpAny_field he hd h1 ?_)
   rw [if_pos (show (Value.ref t != Value.none)=true from by simp)]
   refine wpAny_bind (wpAny_field ht hdt h3 ?_)
   by_cases hh:fl=rawInt L
   ·subst hh
    rw [if_pos (show (rawInt L == rawInt L)=true from by simp)]
    exact wpAny_pure (k s.heap t ⟨oe,vs,he,hc,ho,hd,h1,ne,oT,ts,ht,hdt,h3⟩ (.inl rfl) ⟨fun _ _ z _ _=>z,fun _ o z _ _=>⟨o.slots,z⟩,fun _ o z=>⟨o,z⟩⟩)
   ·have hn:fl=.none:=by
     rcases hfl with z | z | z
     ·cases z
     ·exact z
     ·exact absurd z hh
    subst hn
    rw [if_neg (show ¬ ((Value.none == rawInt L)=true) from by simp [rawInt])]
    refine wpAny_bind (wpAny_setField ht hdt sz3 ?_)
    have oth:∀b,b≠t->(s.heap.update t (Obj.mapFields (·.setIfInBounds 3 Value.none))).get? b=s.heap.get? b:=fun b hb=>Heap.get?_update_other _ _ (Ne.symm hb)
    have nf:∀b o,s.heap.get? b=some o->(∀vs,o.data≠.fields vs)->b≠t:=fun b o hb hnf q=>by
     rw [q,ht] at hb
     cases hb
     exact hnf ts hdt
    have ts':=Heap.get?_update_self (Obj.mapFields (·.setIfInBounds 3 Value.none)) ht (Obj.isFreed_of_fields (Obj.data_mapFields hdt _))
    have zs:(s.heap.update t (Obj.mapFields (·.setIfInBounds 3 Value.none))).objs.size=s.heap.objs.size:=by first | exact Heap.size_update _ _ _ | simp [Heap.update]
    refine Iq (s:={ s with heap:=s.heap.update t (Obj.mapFields (·.setIfInBounds 3 Value.none)) }) fr (hl.of_keeps fun b o hb hnf=>⟨o,(oth b (nf b o hb hnf)).trans hb,rfl⟩) hf ((oth e (Ne.symm ne)).trans he) hd sz
     fun h' oT' ts'' kp e' t1 t2 t3=>k h' _ ?_ (.inr zs) ?_
    ·rw [show ({ s with heap:=s.heap.update t (Obj.mapFields (·.setIfInBounds 3 Value.none)) }:Shared).heap.objs.size=s.heap.objs.size from zs] at *
     exact ⟨_,_,e',by rw [Obj.cls_mapFields];exact hc,by rw [Kl];exact ho,Obj.data_mapFields hd _,by simp [sz],lt,oT',ts'',t1,t2,t3⟩
    ·refine ⟨fun b o z hb hx=>?_,fun b o z hb hx=>?_,fun b o z=>?_⟩
     ·have hbe:b≠e:=fun y=>hx (by rw [y];simp)
      have hbt:b≠t:=fun y=>hx (by rw [y];simp)
      exact kp.keep b o ((oth b hbt).trans z) hb (by simpa using hbe)
     ·have hbe:b≠e:=fun y=>hx (by rw [y];simp)
      have hbt:b≠t:=fun y=>hx (by rw [y];simp)
      exact kp.slot b o ((oth b hbt).trans z) hb (by simpa using hbe)
     ·by_cases hbt:b=t
      ·rw [hbt];exact kp.there t _ ts'
      ·exact kp.there b o ((oth b hbt).trans z)
theorem Kb {cls:Value} {od:Option Addr} {t:Addr} {fl:Value} {f:Option Addr} {Q:Unit->Shared->Prop} (R:Rec s.heap e cls od (some t) fl)
 (k:∀h',Rec h' e cls od (some t) (f.elim .none fun a=>rawInt a)->Keep [] [t] s.heap h'->Q () { s with heap:=h' }):wpAny M A (setFlight (.ref e) f) Q E s:=by
 obtain ⟨oe,vs,he,hc,ho,hd,h1,ne,oT,ts,ht,hdt,h3⟩:=R
 have sz3:=(Array.getElem?_eq_some_iff.mp h3).1
 unfold setFlight
 refine wpAny_bind (wpAny_field he hd h1 ?_)
 rw [if_pos (show (Value.ref t != Value.none)=true from by simp)]
 have oth:∀b,b≠t->(s.heap.update t (Obj.mapFields (·.setIfInBounds 3 (f.elim .none fun a=>rawInt a)))).get? b=s.heap.get? b:=fun b hb=>Heap.get?_update_other _ _ (Ne.symm hb)
 have ts':=Heap.get?_update_self (Obj.mapFields (·.setIfInBounds 3 (f.elim .none fun a=>rawInt a))) ht (Obj.isFreed_of_fields (Obj.data_mapFields hdt _))
 refine wpAny_setField ht hdt sz3 (k _ ?_ ⟨fun b o z _ hx=>(oth b fun y=>hx (by rw [y];simp)).trans z,fun b o z _ hx=>⟨o.slots,(oth b fun y=>hx (by rw [y];simp)).trans z⟩,fun b o z=>?_⟩)
 ·exact ⟨oe,vs,(oth e (Ne.symm ne)).trans he,hc,ho,hd,h1,ne,_,_,ts',Obj.data_mapFields hdt _,by simp [sz3]⟩
 ·by_cases hbt:b=t
  ·rw [hbt];exact ⟨_,ts'⟩
  ·exact ⟨o,(oth b hbt).trans z⟩
end
end L2
namespace L2
open PySem PySem.Spec PyProof.Rows
structure IC (X:Cx) (pins:List (Addr × Obj)) (H:Hp) (b:Addr):Prop where
 un:H b=none
 new:X.s₀.heap.get? b=none
 loc:b≠X.env.locals
 cel:∀x c,X.env.cells.lookup x=some c->c≠b
 pin:∀p∈X.pn++pins,p.1≠b
def Fly (X:Cx) (pins:List (Addr × Obj)) (H:Hp) (e:Addr) (cls:Value) (od:Option Addr) (s:Shared):Prop :=
 ∃T fl,Rec s.heap e cls od T fl/\(T=none\/fl=.none\/∃L:Addr,X.env.frame=some L/\fl=rawInt L)/\∀b∈e :: T.toList,IC X pins H b
def NO (X:Cx) (pins:List (Addr × Obj)) (H:Hp) (e:Addr) (cls:Value) (od:Option Addr) (fl:Value) (s:Shared):Prop :=
 ∃t,Rec s.heap e cls od (some t) fl/\∀b∈[e,t],IC X pins H b
structure Gm (X:Cx):Prop where
 stk:X.stack=X.env :: X.outer
 fr:X.env.frame=some X.env.locals
 ex:X.ex=[]
theorem HOk.there {P:Program} {w:World} {H:Hp} {h:Heap} {a:Addr} {o:HO} (k:HOk P w H h) (z:H a=some o):∃ob,h.get? a=some ob:=by
 have x:=k a o z
 cases o with
 | lst xs=>obtain ⟨_,_,_,_,e⟩:=x;exact ⟨_,e⟩
 | tup xs=>obtain ⟨_,_,_,ob,e,_⟩:=x;exact ⟨ob,e⟩
 | dK kvs=>obtain ⟨_,_,_,_,ob,_,_,e,_⟩:=x;exact ⟨ob,e⟩
 | dT kvs=>obtain ⟨_,_,_,_,ob,_,_,e,_⟩:=x;exact ⟨ob,e⟩
 | set S n=>obtain ⟨ob,_,_,_,e,_⟩:=x;exact ⟨ob,e⟩
 | ins C dx fs=>obtain ⟨_,_,_,e,_⟩:=x;exact ⟨_,e⟩
 | own y=>exact x
 | xd fs=>obtain ⟨_,⟨ob,_,_,e,_⟩,_⟩:=x;exact ⟨ob,e⟩
 | rng lo hi=>obtain ⟨_,_,_,e⟩:=x;exact ⟨_,e⟩
 | frz ob u=>obtain ⟨e,_⟩:=x;exact ⟨ob,e⟩
 | tbl ps=>exact ⟨_,(show h.get? a=some _ from x)⟩
 | met f y=>exact ⟨_,(show h.get? a=some _ from x)⟩
 | ext φ=>obtain ⟨_,e,_⟩:=x;exact e
section
variable {X:Cx} {pins:List (Addr × Obj)} {σ:St} {H:Hp} {s:Shared} {e:Addr} {cls:Value} {od:Option Addr}
theorem Inv.mine {b:Addr} (B:Gm X) (I:Inv X pins σ H s) (hb:s.heap.get? b=none):IC X pins H b where
 un:=by
  cases z:H b with
  | none=>rfl
  | some o =>
    obtain ⟨ob,y⟩:=I.hok.there z
    rw [hb] at y;cases y
 new:=by
  cases z:X.s₀.heap.get? b with
  | none=>rfl
  | some o =>
    obtain ⟨ob,y⟩:=I.base.there b o z (by rw [B.ex];simp)
    rw [hb] at y;cases y
 loc:=fun z=>by
  obtain ⟨m,⟨o,_,_,y,_⟩,_⟩:=I.loc
  rw [<- z,hb] at y;cases y
 cel:=fun x c y z=>by
  obtain ⟨v,o,ho,_⟩:=I.cell x c y
  rw [z,hb] at ho;cases ho
 pin:=fun p hp z=>by
  have y:=(I.pin p hp).1
  rw [z,hb] at y;cases y
theorem Inv.kept2 {xs:List Addr} {h':Heap} (I:Inv X pins σ H s) (k:Keep (frs X.stack) xs s.heap h') (hx:∀b∈xs,IC X pins H b):Inv X pins σ H { s with heap:=h' }:=by
 have tr:∀c w,H c=some w->c ∉ frs X.stack/\c ∉ xs:=fun c w z=>⟨fun y=>(by rw [I.stkFree c y] at z;cases z),fun y=>(by rw [(hx c y).un] at z;cases z)⟩
 have sub:∀b∈X.fs,b∈frs X.stack:=fun b hb=>by
  rcases I.ok.stk with z | ⟨z,_⟩
  ·rw [z];exact hb
  ·rw [z]
   unfold frs
   rw [List.filterMap_cons]
   split
   ·exact hb
   ·exact List.mem_cons_of_mem _ hb
 have nf:∀b,b∈frs X.stack->b ∉ X.fs->b=X.env.locals:=fun b hb hn=>by
  rcases List.mem_cons.mp (I.stkSub b hb) with z | z
  ·exact z
  ·exact absurd z hn
 refine ⟨I.ok,I.os,I.bare,⟨fun b o z n hb he=>?_,fun b o z n hb he=>?_,I.base.free,fun b o z he=>?_,I.base.tups,I.base.frzs,I.base.tbls⟩,?_,fun x c z=>?_,I.free,I.freeC,fun p hp=>?_,fun b u z=>?_,I.len⟩
 ·have y:=I.base.keep b o z n hb he
  have nx:b ∉ xs:=fun q=>by rw [(hx b q).new] at z;cases z
  refine k.keep b o y (fun q=>?_) nx
  have:=nf b q hb
  exact absurd (Nat.lt_of_lt_of_le (Heap.lt_size z) I.ok.above) (by rw [this];exact Nat.lt_irrefl _)
 ·obtain ⟨sl,y⟩:=I.base.slot b o z n hb he
  have nx:b ∉ xs:=fun q=>by rw [(hx b q).new] at z;cases z
  obtain ⟨sl',y'⟩:=k.any y nx
  exact ⟨sl',y'⟩
 ·obtain ⟨o',y⟩:=I.base.there b o z he
  exact k.there b o' y
 ·obtain ⟨m,⟨o,es,ep,ho,r⟩,hl⟩:=I.loc
  obtain ⟨sl,y⟩:=k.any ho fun q=>(hx _ q).loc rfl
  refine ⟨m,⟨_,es,ep,y,r⟩,fun i x v e1 e2 e3=>?_⟩
  obtain ⟨u,ru,l⟩:=hl i x v e1 e2 e3
  refine ⟨u,ru,?_⟩
  rcases l with l | ⟨kd,c,e,oc,hoc,hd⟩
  ·exact .inl l
  ·obtain ⟨sl,y⟩:=k.any hoc fun q=>(hx _ q).cel x c e rfl
   exact .inr ⟨kd,c,e,_,y,hd⟩
 ·obtain ⟨v,o,ho,hd⟩:=I.cell x c z
  obtain ⟨sl,y⟩:=k.any ho fun q=>(hx _ q).cel x c z rfl
  exact ⟨v,_,y,hd⟩
 ·obtain ⟨e,n,ne,nfs,d⟩:=I.pin p hp
  exact ⟨k.keep p.1 p.2 e (fun q=>ne (nf _ q nfs)) fun q=>(hx _ q).pin p hp rfl,n,ne,nfs,d⟩
 ·refine (I.hok b u z).stay (fun c v hc q=>?_) (fun _ q=>q) fun _ _ q=>q
  have t:∃w,H c=some w:=by
   rcases hc with y | y
   ·exact ⟨u,by rw [y];exact z⟩
   ·exact ⟨_,y⟩
  obtain ⟨w,t⟩:=t
  exact k.keep c v q (tr c w t).1 (tr c w t).2
theorem Inv.note {A:Around} {E:Value->Shared->Prop} {Q:Unit->Shared->Prop} (B:Gm X) (fr:A.frames=some X.stack) (I:Inv X pins σ H s) (F:Fly X pins H e cls od s)
 (k:∀s',Inv X pins σ H s'->NO X pins H e cls od (rawInt X.env.locals) s'->Q () s'):wpAny (model X.prog X.w) A (noteFrame (.ref e) X.env) Q E s:=by
 obtain ⟨T,fl,R,hfl,hm⟩:=F
 have st:=I.stack
 rw [B.stk] at st fr
 refine Ms fr st B.fr R ?_ fun h' t R' ht kp=>?_
 ·rcases hfl with z | z | ⟨L,z1,z2⟩
  ·exact .inl z
  ·exact .inr (.inl z)
  ·rw [B.fr] at z1
   cases z1
   exact .inr (.inr z2)
 ·refine k _ (I.kept2 (by rw [B.stk];exact kp) hm) ⟨t,R',fun b hb=>?_⟩
  rcases List.mem_cons.mp hb with z | z
  ·rw [z];exact hm e (by simp)
  ·have z':b=t:=by simpa using z
   rcases ht with y | y
   ·rw [z'];exact hm t (by rw [y];simp)
   ·exact I.mine B (by rw [z',y];exact Heap.get?_none_of_le (Nat.le_refl _))
theorem Inv.flight {A:Around} {E:Value->Shared->Prop} {Q:Unit->Shared->Prop} {fl:Value} {f:Option Addr} (I:Inv X pins σ H s) (F:NO X pins H e cls od fl s)
 (k:∀s',Inv X pins σ H s'->NO X pins H e cls od (f.elim .none fun a=>rawInt a) s'->Q () s'):wpAny (model X.prog X.w) A (setFlight (.ref e) f) Q E s:=by
 obtain ⟨t,R,hm⟩:=F
 refine Kb R fun h' R' kp=>k _ (I.kept2 (kp.mono (fun _ z=>absurd z (by simp)) fun b z=>z) fun b hb=>?_) ⟨t,R',hm⟩
 have z:b=t:=by simpa using hb
 rw [z];exact hm t (by simp)
theorem IC.less {b:Addr} (m:IC X pins H b):IC X [] H b:=⟨m.un,m.new,m.loc,m.cel,fun p hp=>m.pin p (by rw [List.append_nil] at hp;exact List.mem_append_left _ hp)⟩
theorem Fly.less (F:Fly X pins H e cls od s):Fly X [] H e cls od s:=by
 obtain ⟨T,fl,R,hf,hm⟩:=F
 exact ⟨T,fl,R,hf,fun b hb=>(hm b hb).less⟩
theorem Inv.nopins (I:Inv X pins σ H s):Inv X [] σ H s:=I.pins_of fun _ z=>absurd z (by simp)
end
def O0 (X:Cx) (W:St->XK) (ev:Value) (s:Shared):Prop:=∃σ H e cls od,ev=.ref e/\Inv X [] σ H s/\Fly X [] H e cls od s/\W σ cls od H
abbrev Cx.wants (X:Cx) (W:St->XK):Cx:=X.wish (O0 X W)
def CX1 (P:Program) (w:World):CXT:=fun outer H s E ev s'=>∃e cls od H' t,ev=.ref e/\s'.os=s.os/\AllBare s'.gens/\Un (frs outer) [] H H' s.heap s'.heap/\HOk P w H' s'.heap /\
 Rec s'.heap e cls od (some t) .none/\(∀b∈[e,t],H' b=none/\s.heap.get? b=none)/\E cls od H'
theorem D7 {X:Cx} {P:Program} {w:World}:Ef (CX1 P w) X E0:=by
 rintro _ _ _ _ _ _ _ ⟨_,_,_,_,_,_,_,_,_,_,_,_,z⟩
 exact z.elim
section
variable {X:Cx} {pins:List (Addr × Obj)} {σ:St} {H:Hp} {s s':Shared} {E:XK} {ev:Value}
theorem Inv.flew (B:Gm X) (I:Inv X pins σ H s) (h:CX1 X.prog X.w X.stack H s E ev s'):∃e cls od H',ev=.ref e/\Inv X pins σ H' s'/\Fly X pins H' e cls od s'/\E cls od H':=by
 obtain ⟨e,cls,od,H',t,rfl,os,bare,un,hok,R,hm,q⟩:=h
 have I':Inv X pins σ H' s':=I.call' (ch:=[]) os un hok bare fun _ z=>absurd z (by simp)
 refine ⟨e,cls,od,H',rfl,I',⟨some t,.none,R,.inr (.inl rfl),fun b hb=>?_⟩,q⟩
 obtain ⟨m1,m2⟩:=hm b hb
 have q:=I.mine B m2
 exact ⟨m1,q.new,q.loc,q.cel,q.pin⟩
end
theorem Pz {P:Program} {w:World} {K:PySem.W.Frag} {mg:Str->Option Value} {base:Heap} {N:List Str} {qual:Str} {sc:Scope} {f:Addr} {cd:Value} {A:Around} {outer:List Env} {s:Shared} {H:Hp} {E:XK} {ev:Value} {s1:Shared}
 (h:O0 (FA (CX1 P w) P w K mg base N qual sc f cd A outer s H E) (fun _=>E) ev s1):(FA (CX1 P w) P w K mg base N qual sc f cd A outer s H E).xe ev s1:=by
 obtain ⟨σ,H1,e,cls,od,rfl,I,F,q⟩:=h
 show wpAny _ _ (leaving _ _) _ _ _
 unfold leaving
 have B:Gm (FA (CX1 P w) P w K mg base N qual sc f cd A outer s H E):=⟨rfl,rfl,rfl⟩
 refine wpAny_bind (I.note B I.ok.frames F fun s2 I2 F2=>I2.flight F2 fun s3 I3 F3=>?_)
 obtain ⟨t,R,hm⟩:=F3
 exact ⟨e,cls,od,H1,t,rfl,I3.os,I3.bare,I3.base,I3.hok,R,fun b hb=>⟨(hm b hb).un,(hm b hb).new⟩,q⟩
section
variable {X:Cx} {W:St->XK} {k:Nat} {f:Addr} {fd:FuncData} {ps:List Str} {sp:Sp} {dvs:List V} {ds:List Value} {x:Str} {p pos:Pos} {e:Expr} {es:List Expr} {t:TA}
end
end L2
namespace L2
open PySem PySem.Spec PyProof.Rows
abbrev OR:List Value:=[.type "ValueError",.type "Exception",.type "BaseException",.type "object"]
abbrev NM (K:PySem.W.Frag) (C:Addr):Prop:=PySem.W.excIn K C OR "ValueError.__new__"=true
theorem OJ {K:PySem.W.Frag} {h:Heap} {C:Addr} (X:K.In h) (q:NM K C):∃bm N nm qn bs hd sn sub ab col dd k0 k1 k2 k3 k5 mN,
 h.get? C=some (excClassObj nm qn C N bs bm hd sn sub ab col dd k0 k1 k2 k3 k5 "ValueError.__new__")/\h.Ns N mN/\mN "__init__"=none/\OwnTail h OR bm:=by
 unfold NM PySem.W.excIn at q
 split at q
 ·rename_i d1 c1 s1 look
  split at q
  ·rename_i C1 bm j0 j1 j2 j3 n1 j5 e1 e2
   simp only [Bool.and_eq_true,beq_iff_eq,Bool.not_eq_true'] at q
   obtain ⟨⟨⟨⟨⟨r1,r2⟩,r3⟩,r4⟩,r5⟩,r6⟩:=q
   subst r1 r2
   obtain ⟨nm,bs,mro,ns,qn,hd,sn,sub,ab,col,del⟩:=c1
   dsimp only at e1 r3 r5 r6
   subst e1 r3
   have es:s1=#[j0,j1,j2,j3,some (.builtin "ValueError.__new__"),j5]:=Array.toList_inj.mp (by rw [e2])
   subst es
   exact ⟨bm,ns,nm,qn,bs,hd,sn,sub,ab,col,d1,j0,j1,j2,j3,j5,_,X _ _ look,.of_isNs (PySem.W.isNs_of_in X r5),PySem.W.nsMap_none_of_in X r5 r6,PySem.W.tail_of_in X r4⟩
  ·exact absurd q Bool.false_ne_true
 ·exact absurd q Bool.false_ne_true
def Pa (C:Addr) (W:St->XK) (t:TA):TS:=fun _ σ H=>t σ H fun vs H1=>vs.length<=sizeLine/\W σ (.ref C) none H1
section
variable {X:Cx} {W:St->XK} {C:Addr} {x:Str} {p cpos pos:Pos} {e:Expr} {es:List Expr} {t:TA}
theorem Inv.raised {pins:List (Addr × Obj)} {σ:St} {H:Hp} {s:Shared} {h':Heap} {a:Addr} {us:List Value} (B:Gm X) (I:Inv X pins σ H s) (m:Heap.MadeExcOf s.heap h' a (.ref C) us) (w:W σ (.ref C) none H) :
 O0 X W (.ref a) { s with heap:=h' }:=by
 obtain ⟨t,m1,_,_⟩:=m.there
 refine ⟨σ,H,a,.ref C,none,rfl,(I.kept m.keeps).nopins,⟨none,.none,⟨_,_,m1,rfl,rfl,rfl,rfl⟩,.inl rfl,fun b hb=>?_⟩,w⟩
 have z:b=a:=by simpa using hb
 have q:=I.nopins.mine B m.new
 rw [z]
 exact q
theorem Ij (B:Gm X) (hc:X.calm=true) (hg:Gl X x) (hm:X.mg x=some (.ref C)) (q:NM X.K C) (ha:PA (X.wants W) (e :: es) t) (hdb:(x == ("__debug__":Str))=false:=by decide)
 (he:starEach (e :: es) X.env=(false,eval e X.env) :: starEach es X.env:=by rfl) (hpl:(backTo cpos (starEach es X.env)).any (·.1)=false:=by rfl) :
 PS (X.wants W) (.Raise (some (.Call (.Name x p) (e :: es) [] cpos)) none pos) (Pa C W t):=by
 intro pins s σ H D I h
 obtain ⟨bm,N,nm,qn,bs,hd,sn,sub,ab,col,dd,k0,k1,k2,k3,k5,mN,hC,hN,hni,TL⟩:=OJ I.ok.mod.kin q
 refine wpAny_Raise_call_subT (C:=C) (nm:=nm) (q:=qn) (N:=N) (bs:=bs) (bm:=bm) (hdct:=hd) (sn:=sn) (sub:=sub) (ab:=ab) (col:=col) (dd:=dd) (k0:=k0) (k1:=k1) (k2:=k2) (k3:=k3) (k5:=k5) (mN:=mN)
  PySem.F.excBase_ValueError (TL.hasType PySem.F.excBase_ValueError.hasBase) (I.ok.hd hc) (by show (backTo cpos (starEach (e :: es) X.env)).any (·.1)=false;rw [he];show (false || (backTo cpos (starEach es X.env)).any (·.1))=false;rw [hpl];rfl) hni (DT I hg hm ⟨rfl,?_⟩ hdb)
 have hA:=ha cpos pins s σ H _ I h
 rw [he] at hA ⊢
 refine Calls.evalArgs_plain (thn hA fun us s1 ⟨vs,H1,I1,r,lv,w⟩=>?_)
 refine ⟨rfl,?_,I1.bk _ _ hC,hN.keeps I1.bk,TL.keeps I1.bk,fun h' a m=>I1.unwish.raised B m w⟩
 show us.length<=sizeLine
 rw [<- r.length];exact lv
end
def IE (e:Addr) (cls:Value) (od:Option Addr):Heap->Prop:=fun h=>∃oe vs,h.get? e=some oe/\oe.cls=cls/\oe.dict=od/\oe.data=.fields vs
abbrev hoX (e:Addr) (cls:Value) (od:Option Addr):HO:=.ext (IE e cls od)
theorem IE.ok {P:Program} {w:World} {H:Hp} {h:Heap} {e:Addr} {cls:Value} {od:Option Addr} (x:IE e cls od h):AI P w H h e (hoX e cls od):=by
 refine ⟨x,?_,fun h1 h2 y k=>?_⟩
 ·obtain ⟨oe,_,z,_⟩:=x;exact ⟨oe,z⟩
 ·obtain ⟨oe,vs,z,r⟩:=y;exact ⟨oe,vs,k _ z,r⟩
section
variable {X:Cx} {pins:List (Addr × Obj)} {σ:St} {H:Hp} {s:Shared} {e:Addr} {cls:Value} {od:Option Addr}
theorem Inv.track {o:HO} (I:Inv X pins σ H s) (m:IC X pins H e) (ok:AI X.prog X.w (upd H e o) s.heap e o):Inv X pins σ (upd H e o) s:=by
 have nt:∀b u,H b=some u->b≠e:=fun b u z=>AF z m.un
 refine ⟨I.ok,I.os,I.bare,⟨I.base.keep,I.base.slot,fun b ob z n hx=>?_,I.base.there,fun b xs z=>?_,fun b ob u z=>?_,fun b ps z=>?_⟩,I.loc,I.cell,?_,fun x c z=>?_,fun p hp=>?_,fun b u z=>?_,I.len⟩
 ·rw [Ai fun y=>by rw [y,m.new] at z;cases z]
  exact I.base.free b ob z n hx
 ·have y:=I.base.tups b xs z
  rw [Ai (nt b _ y)];exact y
 ·have y:=I.base.frzs b ob u z
  rw [Ai (nt b _ y)];exact y
 ·obtain ⟨more,y⟩:=I.base.tbls b ps z
  exact ⟨more,by rw [Ai (nt b _ y)];exact y⟩
 ·rw [Ai (Ne.symm m.loc)];exact I.free
 ·rw [Ai (m.cel x c z)];exact I.freeC x c z
 ·obtain ⟨z,n,r⟩:=I.pin p hp
  exact ⟨z,by rw [Ai (m.pin p hp)];exact n,r⟩
 ·by_cases hb:b=e
  ·subst hb;rw [Ab] at z;cases z;exact ok
  ·rw [Ai hb] at z
   exact (I.hok b u z).stay (fun c v _ y=>y) (fun c y=>by rw [Ai (nt c _ y)];exact y) fun c xs y=>by rw [Ai (nt c _ y)];exact y
end
abbrev Cx.suite (X:Cx) (e:Addr):Cx:={ X with A:=X.A.mark (some (.ref e)),calm:=false,xe:=fun _ _=>False }
theorem Inv.suite {X:Cx} {pins:List (Addr × Obj)} {σ:St} {H:Hp} {s:Shared} (I:Inv X pins σ H s) (e:Addr):Inv (X.suite e) pins σ H s :=
 ⟨⟨I.ok.mod,I.ok.kind,I.ok.glob,I.ok.blt,I.ok.above,I.ok.inj,I.ok.has,I.ok.cab,(fun z=>absurd (show false=true from z) Bool.false_ne_true),I.ok.frames,I.ok.stk,I.ok.exf,I.ok.bs,I.ok.bsz,I.ok.noex,I.ok.exfs,I.ok.funs,I.ok.frf⟩,I.os,I.bare,I.base,I.loc,I.cell,I.free,I.freeC,I.pin,I.hok,I.len⟩
theorem Inv.unsuite {X:Cx} {pins:List (Addr × Obj)} {σ:St} {H:Hp} {s:Shared} {e:Addr} (ok:X.Ok) (I:Inv (X.suite e) pins σ H s):Inv X pins σ H s :=
 ⟨ok,I.os,I.bare,I.base,I.loc,I.cell,I.free,I.freeC,I.pin,I.hok,I.len⟩
abbrev Cx.pin (X:Cx) (pins:List (Addr × Obj)):Cx:={ X with pn:=X.pn++pins }
theorem Cx.Ok.pin {X:Cx} (ok:X.Ok) (pins:List (Addr × Obj)):(X.pin pins).Ok :=
 ⟨ok.mod,ok.kind,ok.glob,ok.blt,ok.above,ok.inj,ok.has,ok.cab,ok.hd,ok.frames,ok.stk,ok.exf,ok.bs,ok.bsz,ok.noex,ok.exfs,ok.funs,ok.frf⟩
theorem Inv.pnd {X:Cx} {pins:List (Addr × Obj)} {σ:St} {H:Hp} {s:Shared} (I:Inv X pins σ H s):Inv (X.pin pins) [] σ H s :=
 ⟨I.ok.pin pins,I.os,I.bare,I.base,I.loc,I.cell,I.free,I.freeC,fun p hp=>I.pin p (by rw [List.append_nil] at hp;exact hp),I.hok,I.len⟩
theorem Inv.unpnd {X:Cx} {pins:List (Addr × Obj)} {σ:St} {H:Hp} {s:Shared} (ok:X.Ok) (I:Inv (X.pin pins) [] σ H s):Inv X pins σ H s :=
 ⟨ok,I.os,I.bare,I.base,I.loc,I.cell,I.free,I.freeC,fun p hp=>I.pin p (by rw [List.append_nil];exact hp),I.hok,I.len⟩
theorem Fly.unpinned {X:Cx} {pins:List (Addr × Obj)} {H:Hp} {s:Shared} {e:Addr} {cls:Value} {od:Option Addr} (F:Fly (X.pin pins) [] H e cls od s):Fly X pins H e cls od s:=by
 obtain ⟨T,fl,R,hf,hm⟩:=F
 exact ⟨T,fl,R,hf,fun b hb=>let m:=hm b hb;⟨m.un,m.new,m.loc,m.cel,fun p hp=>m.pin p (by rw [List.append_nil];exact hp)⟩⟩
abbrev TH:=Value->Option Addr->TS
def PH (X:Cx) (hs:List ExceptHandler) (th:TH):Prop:=∀(pins:List (Addr × Obj)) (s:Shared) (σ:St) (H:Hp) (D:Fg) (e:Addr) (cls:Value) (od:Option Addr),Inv X pins σ H s->NO X pins H e cls od .none s->th cls od D σ H ->
 wpAny (model X.prog X.w) X.A (handleBy (.ref e) X.env hs) (SP X pins D) X.xe s
def Ro (tb:(St->XK)->TS) (th:TH):TS:=fun D σ H=>tb (fun σ' cls od H'=>th cls od D σ' H') D σ H
theorem PQ {X:Cx} {body:List Stmt} {h₀:ExceptHandler} {hs:List ExceptHandler} {pos:Pos} {tb:(St->XK)->TS} {th:TH} (B:Gm X) (hb:∀pins W,PSs ((X.pin pins).wants W) body (tb W)) (hh:PH X (h₀ :: hs) th) :
 PS X (.Try body (h₀ :: hs) [] [] pos) (Ro tb th):=by
 intro pins s σ H D I h
 have un:∀f s',SP ((X.pin pins).wants fun σ' cls od H'=>th cls od D σ' H') [] D f s'->SP X pins D f s':=fun f s' z=>by
  have z:=z.unwish
  cases f with
  | next=>obtain ⟨σ',H',J,q⟩:=z;exact ⟨σ',H',J.unpnd I.ok,q⟩
  | brk=>obtain ⟨σ',H',J,q⟩:=z;exact ⟨σ',H',J.unpnd I.ok,q⟩
  | cont=>obtain ⟨σ',H',J,q⟩:=z;exact ⟨σ',H',J.unpnd I.ok,q⟩
  | ret u=>obtain ⟨v,σ',H',J,r,q⟩:=z;exact ⟨v,σ',H',J.unpnd I.ok,r,q⟩
 refine wpAny_Try_except (wpAny_mono (hb pins (fun σ' cls od H'=>th cls od D σ' H') [] s σ H D (I.pnd.wish _) h) (fun f s1 z=>?_) fun ev s1 z=>?_)
 ·cases f with
  | next=>exact wpAny_execs_nil (un .next s1 z)
  | brk=>exact un _ s1 z
  | cont=>exact un _ s1 z
  | ret u=>exact un _ s1 z
 ·obtain ⟨σ1,H1,e,cls,od,rfl,J,F,q⟩:=z
  have J':=J.unpnd I.ok
  refine J'.note B J'.ok.frames F.unpinned fun s2 I2 F2=>I2.flight F2 fun s3 I3 F3=>?_
  exact hh pins s3 σ1 H1 D e cls od I3 F3 q
structure Dd (K:PySem.W.Frag) (C:Addr):Prop where
 ty:PySem.W.typeIn K (.ref C)=some (.type "type")
 ex:PySem.W.mroIn K C (.type "BaseException")=some true
theorem Dd.isTy {K:PySem.W.Frag} {C:Addr} (c:Dd K C) {M:Model} {h:Heap} (X:K.In h):PySem.W.Looks M h (isType (.ref C)) true:=by
 obtain ⟨cd,h1,_⟩:=Option.bind_eq_some_iff.mp c.ex
 unfold PySem.W.clsIn at h1
 split at h1
 ·rename_i look
  intro A Q E s k q
  unfold isType loadHead
  exact wpAny_bind (wpAny_loadPart (k _ _ (X _ _ look)) (wpAny_pure q))
 ·cases h1
theorem LN {K:PySem.W.Frag} {M:Model} {A:Around} {E:Value->Shared->Prop} {s:Shared} {e C:Addr} {cls:Value} {b:Bool} {Q:Bool->Shared->Prop} (X:K.In s.heap) (c:Dd K C) (he:∃oe,s.heap.get? e=some oe/\oe.cls=cls)
 (hs:PySem.W.subIn K cls (.ref C)=some b) (h:Q b s):wpAny M A (excMatches (.ref e) (.ref C)) Q E s:=by
 obtain ⟨oe,e1,e2⟩:=he
 have L2:PySem.W.Looks M s.heap (isExcClass (.ref C)) true:=by
  unfold isExcClass
  refine (c.isTy X).andThen ?_
  simp only [if_true]
  exact PySem.W.looks_mroIn X c.ex
 have L3:PySem.W.Looks M s.heap (typeOf (.ref e)) cls:=e2 ▸ (PySem.W.Looks.ld e1).andThen .now
 have L4:PySem.W.Looks M s.heap (isSubtype cls (.ref C)) b:=PySem.W.looks_subIn X hs
 have LT:PySem.W.Looks M s.heap (isInstance (.ref C) (.type "tuple")) false:=(PySem.W.looks_typeIn X c.ty).andThen (PySem.W.Looks.of_pure tc_notTuple)
 obtain ⟨hp,g,d,tk,os⟩:=s
 unfold excMatches
 refine wpAny_bind (LT.at ?_)
 simp only [Bool.false_eq_true,if_false]
 refine wpAny_bind (wpAny_pure ?_)
 simp only [List.forIn_cons,List.forIn_nil]
 refine wpAny_bind (wpAny_bind (wpAny_bind (L2.at ?_)))
 simp only [Bool.not_true,Bool.false_eq_true,if_false]
 refine wpAny_pure (wpAny_pure (wpAny_bind (L3.at (wpAny_bind (wpAny_bind (wpAny_bind (L4.at ?_)))))))
 cases b with
 | true=>simp only [if_true];exact wpAny_pure (wpAny_pure (wpAny_pure h))
 | false=>simp only [Bool.false_eq_true,if_false];exact wpAny_pure (wpAny_pure (wpAny_pure h))
def Qy (D:Fg) (i:Nat):Fg:={ nx:=fun σ H=>D.nx (σ.set i none) H,rt:=D.rt,bk:=fun σ H=>D.bk (σ.set i none) H,ct:=fun σ H=>D.ct (σ.set i none) H }
def QN (K:PySem.W.Frag) (C:Addr) (i:Nat) (ts:TS) (tr:TH):TH:=fun cls od D σ H=>∃b,PySem.W.subIn K cls (.ref C)=some b /\
 if b=true then ∀e,H e=none->ts (Qy D i) (σ.set i (some (.ref e))) (upd H e (hoX e cls od)) else tr cls od D σ H
section
variable {X:Cx} {pins:List (Addr × Obj)} {σ:St} {H:Hp} {s:Shared} {e C:Addr} {cls:Value} {od:Option Addr} {x n:Str} {i:Nat} {np pos:Pos} {b₀:Stmt} {suite:List Stmt} {rest:List ExceptHandler} {ts:TS} {tr:TH}
theorem Inv.forget {h':Heap} {v:Option Value} {m:Str->Option Value} {tk:Nat} (I:Inv X pins σ H s) (hN:X.N.Nodup) (hi:X.N[i]?=some n) (hn:s.heap.Ns X.env.locals m) (hl:∀(j:Nat) (y:Str) (v:V),X.N[j]?=some y->σ[j]?=some (some v)->Vis X.env.scope y->∃u,Av v u/\QC X.env s.heap m y u)
 (hn':h'.Ns X.env.locals (fun y=>if y=n then v else m y)) (hs:Heap.SameBut X.env.locals s.heap h'):Inv X pins (σ.set i none) H { s with heap:=h',toks:=tk }:=by
 have iσ:i < σ.length:=by rw [I.len];exact (List.getElem?_eq_some_iff.mp hi).1
 have old:∀b o,X.s₀.heap.get? b=some o->b≠X.env.locals:=fun b o z=>Nat.ne_of_lt (Nat.lt_of_lt_of_le (Heap.lt_size z) I.ok.above)
 refine ⟨I.ok,I.os,I.bare,⟨fun b o z n hb hx=>?_,fun b o z n hb hx=>?_,I.base.free,fun b o z hx=>?_,I.base.tups,I.base.frzs,I.base.tbls⟩,⟨_,hn',fun j y v' e1 e2 e3=>?_⟩,fun y c z=>?_,I.free,I.freeC,fun p hp=>?_,fun b u z=>?_,by simpa using I.len⟩
 ·exact (hs.2 b (old b o z)).trans (I.base.keep b o z n hb hx)
 ·obtain ⟨sl,y⟩:=I.base.slot b o z n hb hx
  exact ⟨sl,(hs.2 b (old b o z)).trans y⟩
 ·obtain ⟨o',y⟩:=I.base.there b o z hx
  exact ⟨o',(hs.2 b (old b o z)).trans y⟩
 ·by_cases hj:j=i
  ·subst hj
   rw [List.getElem?_set_self iσ] at e2
   cases e2
  ·rw [List.getElem?_set_ne (Ne.symm hj)] at e2
   obtain ⟨u,r,q⟩:=hl j y v' e1 e2 e3
   refine ⟨u,r,?_⟩
   rcases q with ⟨k,q⟩ | ⟨k,c,q,z⟩
   ·refine .inl ⟨k,?_⟩
    have:y≠n:=fun z=>hj (Fn hN e1 (z ▸ hi))
    simp [this,q]
   ·exact .inr ⟨k,c,q,z.sameBut hs (I.cne y c q)⟩
 ·obtain ⟨w,q⟩:=I.cell y c z
  exact ⟨w,q.sameBut hs (I.cne y c z)⟩
 ·obtain ⟨z,n,ne,r⟩:=I.pin p hp
  exact ⟨(hs.2 p.1 ne).trans z,n,ne,r⟩
 ·refine (I.hok b u z).stay (fun c w hc q=>(hs.2 c ?_).trans q) (fun _ q=>q) fun _ _ q=>q
  rintro rfl
  rcases hc with y | y
  ·rw [<- y,I.free] at z;cases z
  ·rw [I.free] at y;cases y
theorem Q6 (B:Gm X) (hc:Dd X.K C) (hg:Gl X x) (hm:X.mg x=some (.ref C)) (nd:X.N.Nodup) (hi:X.N[i]?=some n) (hl:X.env.scope.names.lookup n=some .local) (hs:∀e,PSs (X.suite e) (b₀ :: suite) ts) (hr:PH X rest tr)
 (hdb:(x == ("__debug__":Str))=false:=by decide):PH X (.ExceptHandler (some (.Name x np)) (some n) (b₀ :: suite) pos :: rest) (QN X.K C i ts tr):=by
 intro pins s σ H D e cls od I F h
 obtain ⟨b,sb,h⟩:=h
 have I0:Inv (X.suite e) pins σ H s:=I.suite e
 have rec0:∃oe,s.heap.get? e=some oe/\oe.cls=cls:=by
  obtain ⟨t,⟨oe,_,z,y,_⟩,_⟩:=F
  exact ⟨oe,z,y⟩
 refine wpAny_handleBy_cons (codeAny_handlers_test (DT (X:=X.suite e) I0 hg hm (LN I.kIn hc rec0 sb ?_) hdb)) (by intro z;cases z)
 cases b with
 | false=>exact hr pins s σ H D e cls od I F h
 | true =>
   have h:=h
   rw [if_pos rfl] at h
   refine codeAny_handlers_suite_as ?_
   refine Inv.flight (X:=X.suite e) (f:=none) I0 (let ⟨t,R,hm⟩:=F;⟨t,R,fun b hb=>let m:=hm b hb;⟨m.un,m.new,m.loc,m.cel,m.pin⟩⟩) fun s1 I1 F1=>?_
   obtain ⟨t,R,hm1⟩:=F1
   have m:=hm1 e (by simp)
   have xo:IE e cls od s1.heap:=let ⟨oe,vs,r1,r2,r3,r4,_⟩:=R;⟨oe,vs,r1,r2,r3,r4⟩
   have I2:=I1.track (o:=hoX e cls od) m xo.ok
   refine FP (X:=X.suite e) (v:=.ref e) I2 nd hi (.inl hl) rfl (fun s2 I3=>?_) (.inr hl)
   refine wpAny_mono (hs e pins s2 _ _ (Qy D i) I3 (h e m.un)) (fun f s3 z=>?_) fun _ _ z=>z.elim
   have fin:∀(σ3:St) (H3:Hp) (Q:Unit->Shared->Prop),Inv (X.suite e) pins σ3 H3 s3->(∀s4,Inv X pins (σ3.set i none) H3 s4->Q () s4)->wpAny (model X.prog X.w) X.A (do bindName X.env n .none;unbindBehindTheSuite X.env n pos) Q X.xe s3:=fun σ3 H3 Q J k=>by
    have J':=J.unsuite I.ok
    obtain ⟨m0,hn,hlk⟩:=id J'.loc
    exact wpAny_nameGoes_keeps hl hn (by rw [I.ok.kind];rfl) fun h' v hn' hs'=>k _ (J'.forget nd hi hn hlk hn' hs')
   cases f with
   | next=>obtain ⟨σ3,H3,J,q⟩:=z;exact fin σ3 H3 _ J fun s4 J4=>⟨_,H3,J4,q⟩
   | brk=>obtain ⟨σ3,H3,J,q⟩:=z;exact fin σ3 H3 _ J fun s4 J4=>⟨_,H3,J4,q⟩
   | cont=>obtain ⟨σ3,H3,J,q⟩:=z;exact fin σ3 H3 _ J fun s4 J4=>⟨_,H3,J4,q⟩
   | ret u=>obtain ⟨v,σ3,H3,J,r,q⟩:=z;exact fin σ3 H3 _ J fun s4 J4=>⟨v,_,H3,J4,r,q⟩
theorem MQ:PH X [] fun _ _ _ _ _=>False:=fun _ _ _ _ _ _ _ _ _ _ z=>z.elim
end
end L2
namespace L2
open PySem PySem.Spec PyProof.Rows
structure XGet (K:PySem.W.Frag) (C:Addr):Prop where
 ga:PySem.W.findIn K (.ref C) "__getattribute__"=some (some (.builtin "BaseException.__getattribute__"))
 gh:PySem.W.findIn K (.ref C) "__getattr__"=some none
 be:PySem.W.mroIn K C (.type "BaseException")=some true
section
variable {prog:Program} {w:World} {A:Around} {E:Value->Shared->Prop} {s:Shared} {K:PySem.W.Frag} {a C:Addr} {o:Obj} {od:Option Obj} {name:Str} {tk:Tok}
theorem LL {r:Builtin.ObjectAttr.Found} {Q:Fin->Shared->Prop} (X:K.In s.heap) (I:PySem.W.InstAt s.heap a o C od) (hf:PySem.W.findObj K C od name=some r)
 (h:wpAny (model prog w) A (match r with | .value v=>ret v | .bind g b=>Builtin.ObjectAttr.bindTo g b (.ref a) (.ref C) | .missing=>unsupported "no") Q E s) (hr:r≠.missing) :
 wpAny (model prog w) A (Builtin.«object.__getattribute__» ⟨[.ref a,.str name tk],[]⟩) Q E s:=by
 obtain ⟨hh,g,d,t,os⟩:=s
 have L0:=I.type (M:=model prog w)
 have L1:=PySem.W.looks_find (M:=model prog w) X I hf
 unfold Builtin.«object.__getattribute__»
 refine wpAny_bind (wpAny_pure ?_)
 refine wpAny_bind (wpAny_pure ?_)
 refine wpAny_bind (L0.at (wpAny_bind (L1.at ?_)))
 cases r with
 | value v=>exact h
 | bind g b=>exact h
 | missing=>exact absurd rfl hr
theorem KM {M:Model} {v:Value} {Q:Unit->Shared->Prop} (c:XGet K C) (X:K.In s.heap) (I:PySem.W.InstAt s.heap a o C od) (h:Q () s):wpAny M A (checkBuiltinCall "BaseException.__getattribute__" ⟨[.ref a,v],[]⟩) Q E s:=by
 obtain ⟨hh,g,d,t,os⟩:=s
 have kd:builtinKind "BaseException.__getattribute__"=some .slot:=by decide +kernel
 have sp:splitId "BaseException.__getattribute__"=some ("BaseException","__getattribute__"):=by decide +kernel
 have L0:=I.type (M:=M)
 have L1:=PySem.W.looks_mroIn (M:=M) X c.be
 have LI:PySem.W.Looks M hh (isInstance (.ref a) (.type "BaseException")) true:=L0.andThen L1
 have ha:=PySem.F.args_bexc_ga (.ref a) v
 simp only [checkBuiltinCall,kd,sp]
 refine wpAny_bind (LI.at ?_)
 repeat (any_goals (first | assumption | wp_step))
theorem Ny {fill ex:Bool} {Q:Value->Shared->Prop} (c:XGet K C) (X:K.In s.heap) (I:PySem.W.InstAt s.heap a o C od)
 (h:wpAny (model prog w) A.in1 (Builtin.«object.__getattribute__» ⟨[.ref a,.str name tk],[]⟩) (fun fin s'=>match fin with | .done (.ret v)=>wpAny (model prog w) A (handedOut v) Q E s' | _=>False) (fun _ _=>False) s) :
 wpAny (model prog w) A (getAttrBy (.ref a) (.str name tk) fill ex) Q E s:=by
 have L0:=I.type (M:=model prog w)
 have L1:=PySem.W.looks_findIn (M:=model prog w) X c.ga
 have L2:=PySem.W.looks_findIn (M:=model prog w) X c.gh
 have f3:=PySem.F.attr_ValueError.ga.bind (.ref a)
 have n0:(Value.builtin "BaseException.__getattribute__" == Value.builtin "object.__getattribute__")=false:=by decide +kernel
 have n1:(onTheHeap (Value.ref C) && Value.builtin "BaseException.__getattribute__" == Value.builtin "object.__getattribute__")=false:=by rw [n0,Bool.and_false]
 have n2:(ex && onTheHeap (Value.builtin "BaseException.__getattribute__"))=false:=by cases ex <;> rfl
 have ck:=fun (E':Value->Shared->Prop) (Q':Unit->Shared->Prop) (z:Q' () s)=>KM (M:=model prog w) (A:=A.in1) (E:=E') (v:=.str name tk) (Q:=Q') c X I z
 obtain ⟨hh,g,d,t,os⟩:=s
 unfold getAttrBy
 refine wpAny_holding (wpAny_bind (L0.at (wpAny_bind (L1.at ?_))))
 simp only [n1,Bool.false_eq_true,if_false]
 unfold getAttrByItsOwn hookBefore
 refine wpAny_bind ?_
 rw [if_pos (show onTheHeap (Value.ref C)=true from rfl)]
 refine L2.at ?_
 refine wpAny_bind (wpAny_attempt ?_)
 unfold callGetattribute
 simp only [n2,Bool.false_eq_true,if_false]
 refine wpAny_holding ?_
 unfold boundAndCalled
 refine wpAny_bind (wpAny_of_eq f3 ?_)
 refine wpAny_call (codeAny_call_builtin PySem.F.attr_ValueError.ga.plain PySem.F.entry_bexc_ga (ck _ _ ?_))
 refine wpAny_mono h (fun fin s' z=>?_) fun _ _ z=>z.elim
 rcases fin with (_ | _ | _ | _) | _ <;> first | exact z | exact z.elim
theorem JX {Q:Option Value->Shared->Prop} (c:XGet K C) (X:K.In s.heap) (I:PySem.W.InstAt s.heap a o C od) (hf:PySem.W.findObj K C od "__class__"=some (.bind (.builtin "getset_descriptor.__get__") (.builtin "object.__class__"))) (hm:PySem.W.mroIn K C (.type "object")=some true)
 (h:Q (some (.ref C)) { s with toks:=s.toks+1 }):wpAny (model prog w) A (getAttr? (.ref a) "__class__") Q E s:=by
 unfold getAttr? getAttrBy?
 refine wpAny_bind (wpAny_mkText (wpAny_bind (wpAny_attempt ?_)))
 refine Ny (s:={ s with toks:=s.toks+1 }) c X I (LL (s:={ s with toks:=s.toks+1 }) X I hf ?_ (by intro z;cases z))
 show wpAny _ _ (holding _ _ >>= ret) _ _ _
 refine wpAny_bind (wpAny_holding (wpAny_call (PySem.W.class_get (s:={ s with toks:=s.toks+1 }) X I hm ?_)))
 exact wpAny_pure (PySem.W.handed_on rfl (wpAny_pure h))
end
structure JG (K:PySem.W.Frag) (C:Addr):Prop extends XGet K C where
 cl:PySem.W.findIn K (.ref C) "__class__"=some (some (.builtin "object.__class__"))
 gt:PySem.W.specialIn K (.builtin "object.__class__") "__get__"=some (some (.builtin "getset_descriptor.__get__"))
 tk:PySem.W.takesIn K (.builtin "object.__class__")=some true
 ob:PySem.W.mroIn K C (.type "object")=some true
theorem JG.find {K:PySem.W.Frag} {C:Addr} (c:JG K C) (od:Option Obj):PySem.W.findObj K C od "__class__"=some (.bind (.builtin "getset_descriptor.__get__") (.builtin "object.__class__")):=by
 obtain ⟨cd,h1,_⟩:=Option.bind_eq_some_iff.mp c.ob
 unfold PySem.W.findObj
 rw [h1,Option.bind_some,c.cl,Option.bind_some]
 simp only [c.gt,Option.bind_some,c.tk]
theorem IE.inst {h:Heap} {e C:Addr} (x:IE e (.ref C) none h):∃o,PySem.W.InstAt h e o C none:=by
 obtain ⟨o,vs,h1,h2,h3,h4⟩:=x
 refine ⟨o,h1,h2,?_,?_⟩
 ·unfold PySem.W.notCls;rw [h4]
 ·rw [h3];trivial
theorem IE.instD {h:Heap} {e C dx:Addr} {od:Obj} (x:IE e (.ref C) (some dx) h) (hd:h.get? dx=some od):∃o,PySem.W.InstAt h e o C (some od):=by
 obtain ⟨o,vs,h1,h2,h3,h4⟩:=x
 refine ⟨o,h1,h2,?_,?_⟩
 ·unfold PySem.W.notCls;rw [h4]
 ·rw [h3];exact hd
theorem IO {K:PySem.W.Frag} {e C:Addr} {od:Option Obj} (c:JG K C):PySem.W.KitX K (.ref e) (.ref C) (fun h=>∃o,PySem.W.InstAt h e o C od):=by
 have cd:∃c' d' cd sl,K.lookup C=some ⟨c',d',.cls cd,sl⟩:=by
  obtain ⟨cd,h1,_⟩:=Option.bind_eq_some_iff.mp c.ob
  unfold PySem.W.clsIn at h1
  split at h1
  ·rename_i look;exact ⟨_,_,_,_,look⟩
  ·cases h1
 obtain ⟨c',d',cd,sl,look⟩:=cd
 refine ⟨fun M h X ⟨o,I⟩=>I.type,fun M h X _=>?_,fun h tp dd its n sl' X z=>?_,fun {_ _ _ _ _ s} X ⟨o,I⟩ q=>JX c.toXGet X I (c.find od) c.ob q⟩
 ·intro A Q E s k q
  unfold isType loadHead
  exact wpAny_bind (wpAny_loadPart (k _ _ (X _ _ look)) (wpAny_pure q))
 ·refine Bool.eq_false_iff.mpr fun q=>?_
  obtain rfl:C=tp:=Value.ref.inj (beq_iff_eq.mp q)
  cases (X _ _ look).symm.trans z
def XdO (dx:Addr) (fs:List (Str × V)):Heap->Prop:=fun h=>∃mA,h.Ns1 dx mA/\(∀f,Dr (fs.lookup f) (mA f))/\PySem.Within mA (fs.map (·.1))
abbrev hoD (dx:Addr) (fs:List (Str × V)):HO:=.ext (XdO dx fs)
def Mr (H:Hp) (od:Option Addr):Prop:=od=none\/∃dx fs,od=some dx/\H dx=some (hoD dx fs)
section
variable {X:Cx}
theorem K9 {pins:List (Addr × Obj)} {σ:St} {H:Hp} {s:Shared} {e C:Addr} {od:Option Addr} (I:Inv X pins σ H s) (c:JG X.K C) (ha:H e=some (hoX e (.ref C) od)) (hd:Mr H od) :
 ∃P:Heap->Prop,P s.heap/\PySem.W.KitX X.K (.ref e) (.ref C) P:=by
 obtain ⟨xo,_,_⟩:=(show AI X.prog X.w H s.heap e (hoX e (.ref C) od) from I.hok e _ ha)
 rcases hd with rfl | ⟨dx,fs,rfl,hx⟩
 ·exact ⟨_,xo.inst,IO c⟩
 ·obtain ⟨ob,y⟩:=I.hok.there hx
  exact ⟨_,xo.instD y,IO (od:=some ob) c⟩
def Oa:V->Option Value
 | .ref a=>some (.ref a)
 | .ty n=>some (.type n)
 | _=>none
theorem Ig {c:V} {u v:Value} (h:Oa c=some u) (r:Av c v):v=u:=by
 cases c with
 | ref a=>cases h;exact r
 | ty n=>cases h;exact r
 | _=>cases h
theorem HK:∀{cs:List V} {us vs:List Value},cs.map Oa=us.map some->Aw cs vs->vs=us
 | [],[],_,_,.nil=>rfl
 | [],_ :: _,_,h,_=>by cases h
 | _ :: _,[],_,h,_=>by cases h
 | c :: cs,u :: us,_,h,.cons r rs=>by
   rw [List.map_cons,List.map_cons] at h
   injection h with h1 h2
   rw [Ig h1 r,HK h2 rs]
def QP (K:PySem.W.Frag):List V->Hp->VK->Prop:=fun xs H Q=>∃e C od c u b,xs=[.ref e,c]/\H e=some (hoX e (.ref C) od)/\Mr H od/\JG K C/\Oa c=some u/\PySem.W.kitOne K (.ref C) u=some b/\Q (.bl b) H
theorem Gd {K:PySem.W.Frag} (hK:X.K=K:=by rfl):Cy X (.builtin "isinstance") (QP K):=by
 subst hK
 intro pins s σ H xs us Q I rv h
 obtain ⟨e,C,od,c,u,b,rfl,ha,hd,ck,rc,k,q⟩:=h
 obtain ⟨u1,u2,rfl,r1,r2⟩:=GN rv
 obtain rfl:u1=Value.ref e:=r1
 obtain rfl:=Ig rc r2
 obtain ⟨P,p,Z⟩:=K9 I ck ha hd
 exact PySem.W.kia_one Z I.kIn p k (fun z=>nomatch z) fun tk=>⟨.bl b,H,I.tok tk,rfl,q⟩
def QA (K:PySem.W.Frag):List V->Hp->VK->Prop:=fun xs H Q=>∃e C od t cs us b,xs=[.ref e,.ref t]/\H e=some (hoX e (.ref C) od)/\Mr H od/\JG K C/\SqT K H t cs/\cs.map Oa=us.map some/\PySem.W.kitAny K (.ref C) us=some b/\Q (.bl b) H
theorem KP {K:PySem.W.Frag} (hK:X.K=K:=by rfl):Cy X (.builtin "isinstance") (QA K):=by
 subst hK
 intro pins s σ H xs us Q I rv h
 obtain ⟨e,C,od,t,cs,vs,b,rfl,ha,hd,ck,ht,rc,k,q⟩:=h
 obtain ⟨u1,u2,rfl,r1,r2⟩:=GN rv
 obtain rfl:u1=Value.ref e:=r1
 obtain rfl:u2=Value.ref t:=r2
 obtain ⟨P,p,Z⟩:=K9 I ck ha hd
 obtain ⟨its,rt,tt,_⟩:=I.tuple ht
 obtain rfl:=HK rc rt
 obtain ⟨⟨c1,d1,dt,sl⟩,h1,h2,n,h3⟩:=tt
 dsimp only at h2 h3
 subst h2 h3
 exact PySem.W.kia_tup Z I.kIn p h1 k (fun z=>nomatch z) fun tk=>⟨.bl b,H,I.tok tk,rfl,q⟩
end
end L2
namespace L2
open PySem PySem.Spec PyProof.Rows
section
variable {X:Cx}
end
section
variable {K:PySem.W.Frag} {H H':Hp} {x:V} {b:Bool}
theorem Dt {T c:String} (h:(if ((Value.type T) == (Value.type c))=true then some true else (if PySem.W.kitMeta c=true then (PySem.fastBuiltinMro T).map (·.contains (Value.type c)) else none))=some b):PySem.W.kitOne K (.type T) (.type c)=some b:=h
def Wh (K:PySem.W.Frag) (H:Hp) (x:V) (b:Bool):Prop:=∃t b1 b2,CI K H x t/\PySem.W.kitOne K t (.type "int")=some b1/\PySem.W.kitOne K t (.type "bool")=some b2/\(b1 && !b2)=b
theorem Wh.int (i:Int):Wh K H (.int i) true:=⟨_,_,_,.int i,EN,Ew,rfl⟩
theorem Wh.bl (c:Bool):Wh K H (.bl c) false:=⟨_,true,true,.bl c,Dt (by decide +kernel),DX,rfl⟩
theorem Wh.non:Wh K H .non false:=⟨_,false,false,.non,Dt (by decide +kernel),Dt (by decide +kernel),rfl⟩
theorem CI.same {t:Value} (e:Ao H H') (h:CI K H x t):CI K H' x t:=by
 cases h with
 | non=>exact .non
 | bl c=>exact .bl c
 | int i=>exact .int i
 | str z=>exact .str z
 | flt z=>exact .flt z
 | lst q=>exact .lst (e _ _ q)
 | frz q=>exact .frz (e _ _ q)
 | tup q=>exact .tup (e _ _ q)
 | dK q=>exact .dK (e _ _ q)
 | dT q=>exact .dT (e _ _ q)
 | ins q cl ha hn htk hm=>exact .ins (e _ _ q) cl ha hn htk hm
theorem Wh.same (e:Ao H H') (h:Wh K H x b):Wh K H' x b:=by
 obtain ⟨t,b1,b2,ty,r⟩:=h
 exact ⟨t,b1,b2,ty.same e,r⟩
end
section
variable {K:PySem.W.Frag} {A B:Addr}
theorem Dd.some {C:Addr} (c:Dd K C):(PySem.W.clsIn K C).isSome=true:=by
 obtain ⟨cd,h1,_⟩:=Option.bind_eq_some_iff.mp c.ex
 rw [h1];rfl
theorem Ps {b:Bool} (c:Dd K B) (h:PySem.W.subIn K (.ref A) (.ref B)=some b) (s:PySem.W.subIn K (.ref A) (.ref A)=some true):PySem.W.kitOne K (.ref A) (.ref B)=some b:=by
 unfold PySem.W.kitOne
 by_cases e:A=B
 ·subst e
  rw [h] at s
  cases s
  rw [if_pos (beq_self_eq_true _)]
 ·rw [if_neg (fun q=>e (Value.ref.inj (beq_iff_eq.mp q)))]
  show (if ((PySem.W.clsIn K B).isSome && PySem.W.typeIn K (.ref B) == some (.type "type"))=true then PySem.W.subIn K (.ref A) (.ref B) else none)=_
  rw [c.some,c.ty,if_pos (by rfl)]
  exact h
theorem PY {T:String} {b:Bool} (m:PySem.W.kitMeta T=true) (h:PySem.W.subIn K (.ref A) (.type T)=some b):PySem.W.kitOne K (.ref A) (.type T)=some b:=by
 unfold PySem.W.kitOne
 rw [if_neg (fun q=>by cases beq_iff_eq.mp q)]
 show (if PySem.W.kitMeta T=true then PySem.W.subIn K (.ref A) (.type T) else none)=_
 rw [if_pos m]
 exact h
theorem Kh:PySem.W.kitMeta "ValueError"=true:=by decide +kernel
end
end L2
namespace L2
open PySem PySem.Spec PyProof.Rows
end L2
namespace L2
open PySem PySem.Spec PyProof.Rows
section
variable {prog:Program} {w:World} {A:Around} {E:Value->Shared->Prop} {s:Shared} {K:PySem.W.Frag} {C P f x:Addr} {ox:Obj} {od:Option Obj} {name:Str} {v:Value}
end
end L2
namespace L2
open PySem PySem.Spec PyProof.Rows
section
variable {prog:Program} {w:World} {A:Around} {E:Value->Shared->Prop} {h:Heap} {g:Array GenState} {d:Drawn} {t:Nat} {os:OsState}
variable {nm q:Str} {C N:Addr} {bs bm:List Value} {hd:Bool} {sn:List Str} {sub:List Value} {ab:Bool} {col:Option Bool} {dd:Option Addr} {k0 k1 k2 k3 k5:Option Value}
end
section
variable {X:Cx} {W:St->XK} {C P fi:Addr} {k:Nat} {fd:FuncData} {ps ns:List Str} {x:Str} {p cpos pos:Pos} {e:Expr} {es:List Expr} {t:TA}
end
end L2
namespace L2
open PySem PySem.Spec PyProof.Rows
mutual
inductive Rep (K:PySem.W.Frag) (H:Hp):V->PyData->Prop
 | non:Rep K H .non .none
 | bl (b:Bool):Rep K H (.bl b) (.bool b)
 | int (i:Int):Rep K H (.int i) (.int i)
 | str (x:Str):Rep K H (.str x) (.str x)
 | lst {a:Addr} {xs:List V} {ds:List PyData}:SqL K H a xs->Reps K H xs ds->Rep K H (.ref a) (.list ds)
 | tup {a:Addr} {xs:List V} {ds:List PyData}:SqT K H a xs->Reps K H xs ds->Rep K H (.ref a) (.tuple ds)
inductive Reps (K:PySem.W.Frag) (H:Hp):List V->List PyData->Prop
 | nil:Reps K H [] []
 | cons {x:V} {xs:List V} {d:PyData} {ds:List PyData}:Rep K H x d->Reps K H xs ds->Reps K H (x :: xs) (d :: ds)
end
section
variable {K:PySem.W.Frag} {H H':Hp}
mutual
theorem Rep.same (e:Ao H H'):∀{x:V} {d:PyData},Rep K H x d->Rep K H' x d
 | _,_,.non=>.non
 | _,_,.bl b=>.bl b
 | _,_,.int i=>.int i
 | _,_,.str x=>.str x
 | _,_,.lst h r=>.lst (e.seq h) (Reps.same e r)
 | _,_,.tup h r=>.tup (by
  rcases h with (h | ⟨o,h⟩) | h
  ·exact .inl (.inl (e _ _ h))
  ·exact .inl (.inr ⟨o,e _ _ h⟩)
  ·exact .inr h) (Reps.same e r)
theorem Reps.same (e:Ao H H'):∀{xs:List V} {ds:List PyData},Reps K H xs ds->Reps K H' xs ds
 | _,_,.nil=>.nil
 | _,_,.cons r t=>.cons (Rep.same e r) (Reps.same e t)
end
theorem Reps.ints:∀(ns:List Int),Reps K H (ns.map V.int) (ns.map PyData.int)
 | []=>.nil
 | n :: ns=>.cons (.int n) (Reps.ints ns)
end
section
variable {X:Cx} {pins:List (Addr × Obj)} {σ:St} {H:Hp} {s:Shared}
mutual
theorem Inv.reads (I:Inv X pins σ H s):∀{x:V} {d:PyData},Rep X.K H x d->∀{v:Value},Av x v->∃as,Reads s.heap v d as
 | _,_,.non,v,r=>by cases (show v=Value.none from r);exact ⟨_,.none⟩
 | _,_,.bl b,v,r=>by cases (show v=Value.bool b from r);exact ⟨_,.bool b⟩
 | _,_,.int i,v,r=>by obtain ⟨t,e⟩:=(show ∃t,v=Value.int i t from r);cases e;exact ⟨_,.int i t⟩
 | _,_,.str x,v,r=>by obtain ⟨t,e⟩:=(show ∃t,v=Value.str x t from r);cases e;exact ⟨_,.str x t⟩
 | _,_,.lst (a:=a) h rs,v,r=>by
   cases (show v=Value.ref a from r)
   obtain ⟨its,rv,⟨o,n,e1,e2,_,e4⟩,_⟩:=I.list h
   obtain ⟨as,q⟩:=Inv.readsAll I rs rv
   exact ⟨_,.list e1 e2 e4 q⟩
 | _,_,.tup (a:=a) h rs,v,r=>by
   cases (show v=Value.ref a from r)
   obtain ⟨its,rv,⟨o,e1,e2,n,e4⟩,_⟩:=I.tuple h
   obtain ⟨as,q⟩:=Inv.readsAll I rs rv
   exact ⟨_,.tuple e1 e2 e4 q⟩
theorem Inv.readsAll (I:Inv X pins σ H s):∀{xs:List V} {ds:List PyData},Reps X.K H xs ds->∀{vs:List Value},Aw xs vs->∃as,ReadsAll s.heap vs ds as
 | _,_,.nil,_,.nil=>⟨_,.nil⟩
 | _,_,.cons r t,_,.cons q u=>by
   obtain ⟨a1,h1⟩:=Inv.reads I r q
   obtain ⟨a2,h2⟩:=Inv.readsAll I t u
   exact ⟨_,.cons h1 h2⟩
end
def Rm (K:PySem.W.Frag):R2:=fun x y H Q=>∃d e,Rep K H x d/\Rep K H y e/\PySem.SeqAt.shaped d=true/\PySem.SeqAt.shaped e=true/\Q (.bl (PyData.eqv d e)) H
def Rh (K:PySem.W.Frag):R2:=fun x y H Q=>∃d e,Rep K H x d/\Rep K H y e/\PySem.SeqAt.shaped d=true/\PySem.SeqAt.shaped e=true/\Q (.bl (!PyData.eqv d e)) H
theorem Mq {K:PySem.W.Frag} (hu:X.A.units+64 < cLine) (hK:X.K=K:=by rfl):OpR X (compareOp .Eq) (Rm K):=by
 subst hK
 intro pins s σ H x y v u Q I rx ry h
 obtain ⟨d,e,hx,hy,s1,s2,q⟩:=h
 obtain ⟨as,r1⟩:=I.reads hx rx
 obtain ⟨bs,r2⟩:=I.reads hy ry
 exact eq_dataH r1 r2 s1 s2 hu ⟨.bl _,H,I,rfl,q⟩
theorem Du {K:PySem.W.Frag} (hu:X.A.units+64 < cLine) (hK:X.K=K:=by rfl):OpR X (compareOp .NotEq) (Rh K):=by
 subst hK
 intro pins s σ H x y v u Q I rx ry h
 obtain ⟨d,e,hx,hy,s1,s2,q⟩:=h
 obtain ⟨as,r1⟩:=I.reads hx rx
 obtain ⟨bs,r2⟩:=I.reads hy ry
 exact ne_dataH r1 r2 s1 s2 hu ⟨.bl _,H,I,rfl,q⟩
end
end L2
namespace L2
open PySem PySem.W PySem.Spec PyProof.Rows
section
variable {O:KeyOrd} {ky:Nat->O.α} {n:Nat} {cmp:Nat->Nat->(Bool->Shared->Prop)->Shared->Prop} {J:Shared->Prop}
def kk (ky:Nat->O.α) (p:Array Nat) (i:Nat):O.α:=ky (p.getD i 0)
def Srt (ky:Nat->O.α) (p:Array Nat) (m:Nat):Prop:=∀i j,i<=j->j < m->O.kle (kk ky p i) (kk ky p j)
def Fal (ky:Nat->O.α) (p:Array Nat) (m:Nat):Prop:=∀i j,i<=j->j < m->O.kle (kk ky p j) (kk ky p i)
def Prm (n:Nat) (p:Array Nat):Prop:=p.toList.Perm (List.range n)
def GX (O:KeyOrd) (ky:Nat->O.α) (n:Nat) (cmp:Nat->Nat->(Bool->Shared->Prop)->Shared->Prop) (J:Shared->Prop):Prop :=
 ∀i j (C:Bool->Shared->Prop) s,i < n->j < n->J s->(∀s',J s'->C (O.blt (ky i) (ky j)) s')->cmp i j C s
theorem Prm.size {p:Array Nat} (h:Prm n p):p.size=n:=by
 have:=h.length_eq
 rw [List.length_range] at this
 exact this
theorem Prm.lt {p:Array Nat} (h:Prm n p) {k:Nat} (hk:k < n):p.getD k 0 < n:=by
 have hz:=h.size
 have e:p.getD k 0=p[k]'(by omega):=by simp [Array.getD,hz,hk]
 rw [e]
 exact List.mem_range.mp (h.mem_iff.mp (by simp))
theorem Prm.rev {p:Array Nat} (h:Prm n p) (i j:Nat):Prm n (kas_rev p i j):=(mirror_perm p i j _).toList.trans h
theorem Prm.bub {p:Array Nat} (h:Prm n p) (k d:Nat):Prm n (bubble p k d):=(bubble_perm p k d).toList.trans h
theorem Eo {p q:Array Nat} {i j:Nat} (e:p[i]?=q[j]?):p.getD i 0=q.getD j 0:=by
 rw [Array.getD_eq_getD_getElem?,Array.getD_eq_getD_getElem?,e]
theorem EF {p:Array Nat} {i j:Nat} (hj:j<=p.size) (k:Nat):kk ky (kas_rev p i j) k=if i<=k/\k < j then kk ky p (i+j - 1 - k) else kk ky p k:=by
 have e:=getElem?_mirror_all (xs:=p) (i:=i) hj k
 unfold kk kas_rev
 by_cases c:i<=k/\k < j
 ·rw [if_pos c] at e ⊢
  rw [Eo e]
 ·rw [if_neg c] at e ⊢
  rw [Eo e]
theorem Mx {p:Array Nat} {src d:Nat} (hs:src < p.size) (hd:d<=src) (k:Nat) :
 kk ky (bubble p src d) k=if k=src - d then kk ky p src else if src - d < k/\k<=src then kk ky p (k - 1) else kk ky p k:=by
 have e:=getElem?_bubble hs d hd k
 unfold kk
 by_cases c:k=src - d
 ·rw [if_pos c] at e ⊢
  rw [Eo e]
 ·rw [if_neg c] at e ⊢
  by_cases c2:src - d < k/\k<=src
  ·rw [if_pos c2] at e ⊢
   rw [Eo e]
  ·rw [if_neg c2] at e ⊢
   rw [Eo e]
theorem Srt.succ {p:Array Nat} {m:Nat} (h:Srt ky p m) (h1:1<=m) (c:O.kle (kk ky p (m - 1)) (kk ky p m)):Srt ky p (m+1):=fun i j hij hj=>by
 by_cases e:j=m
 ·subst e
  by_cases e2:i=j
  ·subst e2
   exact KeyOrd.kle_refl _
  ·exact KeyOrd.kle_trans (h i (j - 1) (by omega) (by omega)) c
 ·exact h i j hij (by omega)
theorem Fal.succ {p:Array Nat} {m:Nat} (h:Fal ky p m) (h1:1<=m) (c:O.kle (kk ky p m) (kk ky p (m - 1))):Fal ky p (m+1):=fun i j hij hj=>by
 by_cases e:j=m
 ·subst e
  by_cases e2:i=j
  ·subst e2
   exact KeyOrd.kle_refl _
  ·exact KeyOrd.kle_trans c (h i (j - 1) (by omega) (by omega))
 ·exact h i j hij (by omega)
theorem Srt.one {p:Array Nat}:Srt ky p 1:=fun i j hij hj=>by
 have:i=j:=by omega
 subst this
 exact KeyOrd.kle_refl _
theorem Fal.rev {p:Array Nat} {m:Nat} (hz:m<=p.size) (h:Fal ky p m):Srt ky (kas_rev p 0 m) m:=fun i j hij hj=>by
 rw [EF hz,EF hz,if_pos ⟨Nat.zero_le _,by omega⟩,if_pos ⟨Nat.zero_le _,hj⟩]
 exact h _ _ (by omega) (by omega)
theorem Fal.revEq {p:Array Nat} {i j m:Nat} (hz:j<=p.size) (hm:j<=m) (h:Fal ky p m) (eq:∀a b,i<=a->a < j->i<=b->b < j->O.kle (kk ky p a) (kk ky p b)):Fal ky (kas_rev p i j) m:=fun a b hab hb=>by
 rw [EF hz,EF hz]
 by_cases c1:i<=a/\a < j
 ·rw [if_pos c1]
  by_cases c2:i<=b/\b < j
  ·rw [if_pos c2]
   exact eq _ _ (by omega) (by omega) (by omega) (by omega)
  ·rw [if_neg c2]
   exact h _ _ (by omega) hb
 ·rw [if_neg c1]
  by_cases c2:i<=b/\b < j
  ·rw [if_pos c2]
   exact h _ _ (by omega) (by omega)
  ·rw [if_neg c2]
   exact h _ _ hab hb
theorem JA (ac:GX O ky n cmp J) {p:Array Nat} (hp:Prm n p) {R:Nat->Shared->Prop}:∀(f a:Nat) (s:Shared),1<=a->a+f<=n->Srt ky p a->J s ->
 (∀m s',a<=m->m<=a+f->Srt ky p m->(m < a+f->O.klt (kk ky p m) (kk ky p (m - 1)))->J s'->R m s')->(kas_asc p f a).kasWp cmp R s
 | 0,a,s,h1,hz,hs,hJ,k=>k a s (Nat.le_refl _) (Nat.le_refl _) hs (fun h=>absurd h (Nat.lt_irrefl _)) hJ
 | f+1,a,s,h1,hz,hs,hJ,k=>by
   refine ac _ _ _ s (hp.lt (by omega)) (hp.lt (by omega)) hJ fun s' hJ'=>?_
   cases e:O.blt (ky (p.getD a 0)) (ky (p.getD (a - 1) 0)) with
   | true =>
     dsimp only
     rw [if_pos rfl]
     exact k a s' (Nat.le_refl _) (by omega) hs (fun _=>e) hJ'
   | false =>
     dsimp only
     rw [if_neg Bool.false_ne_true]
     refine JA ac hp f (a+1) s' (by omega) (by omega) (hs.succ h1 e) hJ' fun m s2 l1 l2 q1 q2 q3=>?_
     exact k m s2 (by omega) (by omega) q1 (fun h=>q2 (by omega)) q3
theorem Fm (ac:GX O ky n cmp J) {R:Array Nat × Nat × Nat->Shared->Prop}:∀(f:Nat) (p:Array Nat) (m q:Nat) (s:Shared),Prm n p->q+1<=m->m+f<=n->Fal ky p m ->
 (∀a b,m - (q+1)<=a->a < m->m - (q+1)<=b->b < m->O.kle (kk ky p a) (kk ky p b))->J s ->
 (∀p' m' q' s',Prm n p'->q'+1<=m'->m<=m'->m'<=m+f->Fal ky p' m'->(∀a b,m' - (q'+1)<=a->a < m'->m' - (q'+1)<=b->b < m'->O.kle (kk ky p' a) (kk ky p' b))->J s'->R (p',m',q') s') ->
 (kas_desc f p m q).kasWp cmp R s
 | 0,p,m,q,s,hp,hq,hz,hf,he,hJ,k=>k p m q s hp hq (Nat.le_refl _) (Nat.le_refl _) hf he hJ
 | f+1,p,m,q,s,hp,hq,hz,hf,he,hJ,k=>by
   have hsz:=hp.size
   refine ac _ _ _ s (hp.lt (by omega)) (hp.lt (by omega)) hJ fun s' hJ'=>?_
   cases e:O.blt (ky (p.getD m 0)) (ky (p.getD (m - 1) 0)) with
   | true =>
     dsimp only
     rw [if_pos rfl]
     have hf':Fal ky p (m+1):=hf.succ (by omega) (KeyOrd.kle_of_klt e)
     have one:∀p':Array Nat,∀a b,m+1 - (0+1)<=a->a < m+1->m+1 - (0+1)<=b->b < m+1->O.kle (kk ky p' a) (kk ky p' b):=fun p' a b _ _ _ _=>by
      have:a=b:=by omega
      subst this
      exact KeyOrd.kle_refl _
     by_cases c:q > 0
     ·rw [if_pos c]
      refine Fm ac f (kas_rev p (m - (q+1)) m) (m+1) 0 s' (hp.rev _ _) (by omega) (by omega) (hf'.revEq (by omega) (by omega) he) (one _) hJ' fun p' m' q' s2 a1 a2 a3 a4 a5 a6 a7=>?_
      exact k p' m' q' s2 a1 a2 (by omega) (by omega) a5 a6 a7
     ·rw [if_neg c]
      refine Fm ac f p (m+1) 0 s' hp (by omega) (by omega) hf' (one _) hJ' fun p' m' q' s2 a1 a2 a3 a4 a5 a6 a7=>?_
      exact k p' m' q' s2 a1 a2 (by omega) (by omega) a5 a6 a7
   | false =>
     dsimp only
     rw [if_neg Bool.false_ne_true]
     refine ac _ _ _ s' (hp.lt (by omega)) (hp.lt (by omega)) hJ' fun s2 hJ2=>?_
     cases e2:O.blt (ky (p.getD (m - 1) 0)) (ky (p.getD m 0)) with
     | true =>
       dsimp only
       rw [if_pos rfl]
       exact k p m q s2 hp hq (Nat.le_refl _) (by omega) hf he hJ2
     | false =>
       dsimp only
       rw [if_neg Bool.false_ne_true]
       have g1:O.kle (kk ky p (m - 1)) (kk ky p m):=e
       have g2:O.kle (kk ky p m) (kk ky p (m - 1)):=e2
       refine Fm ac f p (m+1) (q+1) s2 hp (by omega) (by omega) (hf.succ (by omega) g2) (fun a b a1 a2 b1 b2=>?_) hJ2 fun p' m' q' s3 c1 c2 c3 c4 c5 c6 c7=>?_
       ·by_cases ea:a=m
        ·by_cases eb:b=m
         ·rw [ea,eb]
          exact KeyOrd.kle_refl _
         ·rw [ea]
          exact KeyOrd.kle_trans g2 (he (m - 1) b (by omega) (by omega) (by omega) (by omega))
        ·by_cases eb:b=m
         ·rw [eb]
          exact KeyOrd.kle_trans (he a (m - 1) (by omega) (by omega) (by omega) (by omega)) g1
         ·exact he a b (by omega) (by omega) (by omega) (by omega)
       ·exact k p' m' q' s3 c1 c2 (by omega) (by omega) c5 c6 c7
theorem HU (ac:GX O ky n cmp J) {p:Array Nat} (hp:Prm n p) {m nrem:Nat} {R:Nat × Array Nat->Shared->Prop} {s:Shared} (h1:1<=m) (h2:m<=nrem) (h3:nrem<=n) (hf:Fal ky p m) (hJ:J s)
 (k:∀m' p' s',1<=m'->m'<=nrem->Prm n p'->Srt ky p' m'->J s'->R (m',p') s'):(kas_tail3 m nrem p).kasWp cmp R s:=by
 have hsz:=hp.size
 unfold kas_tail3
 rw [KasT.kasWp_bind]
 refine JA ac (hp.rev 0 m) (nrem - m) m s h1 (by omega) (hf.rev (by omega)) hJ fun m' s' a1 a2 a3 _ a5=>?_
 exact k m' _ s' (by omega) (by omega) (hp.rev _ _) a3 a5
theorem EZ (ac:GX O ky n cmp J) {p:Array Nat} (hp:Prm n p) {m nrem:Nat} {R:Nat × Array Nat->Shared->Prop} {s:Shared} (h2:m+1<=nrem) (h3:nrem<=n) (hf:Fal ky p (m+1)) (hJ:J s)
 (k:∀m' p' s',1<=m'->m'<=nrem->Prm n p'->Srt ky p' m'->J s'->R (m',p') s'):(kas_descPart m nrem p).kasWp cmp R s:=by
 unfold kas_descPart
 rw [KasT.kasWp_bind]
 refine Fm ac (nrem - (m+1)) p (m+1) 0 s hp (by omega) (by omega) hf (fun a b _ _ _ _=>?_) hJ fun p' m' q' s' a1 a2 a3 a4 a5 a6 a7=>?_
 ·have:a=b:=by omega
  subst this
  exact KeyOrd.kle_refl _
 ·have hsz:=a1.size
  dsimp only
  by_cases c:q' > 0
  ·rw [if_pos c]
   exact HU ac (a1.rev _ _) (by omega) (by omega) h3 (a5.revEq (by omega) (Nat.le_refl _) a6) a7 k
  ·rw [if_neg c]
   exact HU ac a1 (by omega) (by omega) h3 a5 a7 k
theorem MH (ac:GX O ky n cmp J) {p:Array Nat} (hp:Prm n p) {R:Nat × Array Nat->Shared->Prop} {s:Shared} (h1:1<=n) (hJ:J s)
 (k:∀m' p' s',1<=m'->m'<=n->Prm n p'->Srt ky p' m'->J s'->R (m',p') s'):(kas_count n p).kasWp cmp R s:=by
 have hsz:=hp.size
 unfold kas_count
 rw [KasT.kasWp_bind]
 refine JA ac hp (n - 1) 1 s (Nat.le_refl _) (by omega) Srt.one hJ fun m s' a1 a2 a3 a4 a5=>?_
 by_cases c:m=n
 ·rw [if_pos (by simpa using c)]
  exact k m p s' a1 (by omega) hp a3 a5
 ·rw [if_neg (by simpa using c)]
  have lt:=a4 (by omega)
  by_cases c1:m > 1
  ·rw [if_pos c1]
   refine ac _ _ _ s' (hp.lt (by omega)) (hp.lt (by omega)) a5 fun s2 hJ2=>?_
   cases e:O.blt (ky (p.getD 0 0)) (ky (p.getD (m - 1) 0)) with
   | true =>
     dsimp only
     rw [if_pos rfl]
     exact k m p s2 a1 (by omega) hp a3 hJ2
   | false =>
     dsimp only
     rw [if_neg Bool.false_ne_true]
     have g:O.kle (kk ky p (m - 1)) (kk ky p 0):=e
     have eq:∀a b,a < m->b < m->O.kle (kk ky p a) (kk ky p b):=fun a b ha hb =>
      KeyOrd.kle_trans (a3 a (m - 1) (by omega) (by omega)) (KeyOrd.kle_trans g (a3 0 b (by omega) hb))
     refine EZ ac (hp.rev 0 m) (by omega) (Nat.le_refl _) ?_ hJ2 k
     intro i j hij hj
     rw [EF (by omega),EF (by omega)]
     by_cases cj:j < m
     ·rw [if_pos ⟨Nat.zero_le _,cj⟩,if_pos ⟨Nat.zero_le _,by omega⟩]
      exact eq _ _ (by omega) (by omega)
     ·have ej:j=m:=by omega
      subst ej
      rw [if_neg (by omega)]
      by_cases ci:i < j
      ·rw [if_pos ⟨Nat.zero_le _,ci⟩]
       exact KeyOrd.kle_trans (KeyOrd.kle_of_klt lt) (eq _ _ (by omega) (by omega))
      ·rw [if_neg (by omega)]
       have:i=j:=by omega
       subst this
       exact KeyOrd.kle_refl _
  ·rw [if_neg c1]
   have em:m=1:=by omega
   subst em
   refine EZ ac hp (by omega) (Nat.le_refl _) ?_ a5 k
   have f1:Fal ky p 1:=fun i j hij hj=>by
    have:i=j:=by omega
    subst this
    exact KeyOrd.kle_refl _
   exact f1.succ (Nat.le_refl _) (KeyOrd.kle_of_klt lt)
theorem FQ (ac:GX O ky n cmp J) {p:Array Nat} (hp:Prm n p) {t:Nat} (ht:t < n) {R:Nat->Shared->Prop}:∀(f l r:Nat) (s:Shared),l<=r->r<=t->r - l<=f->(∀i,i < l->O.kle (kk ky p i) (kk ky p t))->(∀i,r<=i->i < t->O.klt (kk ky p t) (kk ky p i)) ->
 Srt ky p t->J s->(∀l' s',l'<=t->(∀i,i < l'->O.kle (kk ky p i) (kk ky p t))->(∀i,l'<=i->i < t->O.klt (kk ky p t) (kk ky p i))->J s'->R l' s')->(kas_place p t f l r).kasWp cmp R s
 | 0,l,r,s,h1,h2,h3,h4,h5,_,hJ,k=>k l s (by omega) h4 (fun i a b=>h5 i (by omega) b) hJ
 | f+1,l,r,s,h1,h2,h3,h4,h5,hs,hJ,k=>by
   unfold kas_place
   by_cases c:l>=r
   ·rw [if_pos c]
    exact k l s (by omega) h4 (fun i a b=>h5 i (by omega) b) hJ
   ·rw [if_neg c]
    refine ac _ _ _ s (hp.lt ht) (hp.lt (by omega)) hJ fun s' hJ'=>?_
    cases e:O.blt (ky (p.getD t 0)) (ky (p.getD ((l+r) / 2) 0)) with
    | true =>
      dsimp only
      rw [if_pos rfl]
      have g:O.klt (kk ky p t) (kk ky p ((l+r) / 2)):=e
      exact FQ ac hp ht f l ((l+r) / 2) s' (by omega) (by omega) (by omega) h4 (fun i a b=>KeyOrd.klt_of_klt_of_kle g (hs _ _ a b)) hs hJ' k
    | false =>
      dsimp only
      rw [if_neg Bool.false_ne_true]
      have g:O.kle (kk ky p ((l+r) / 2)) (kk ky p t):=e
      exact FQ ac hp ht f ((l+r) / 2+1) r s' (by omega) h2 (by omega) (fun i a=>KeyOrd.kle_trans (hs i ((l+r) / 2) (by omega) (by omega)) g) h5 hs hJ' k
theorem Nq (ac:GX O ky n cmp J) {R:Array Nat->Shared->Prop}:∀(f:Nat) (p:Array Nat) (t:Nat) (s:Shared),Prm n p->t+f=n->Srt ky p t->J s->(∀p' s',Prm n p'->Srt ky p' n->J s'->R p' s')->(kas_bin f p t).kasWp cmp R s
 | 0,p,t,s,hp,hz,hs,hJ,k=>k p s hp (by have:t=n:=by omega
                                       subst this;exact hs) hJ
 | f+1,p,t,s,hp,hz,hs,hJ,k=>by
   have hsz:=hp.size
   unfold kas_bin
   rw [KasT.kasWp_bind]
   refine FQ ac hp (by omega) t 0 t s (Nat.zero_le _) (Nat.le_refl _) (by omega) (fun i h=>absurd h (Nat.not_lt_zero _)) (fun i a b=>absurd b (by omega)) hs hJ fun l s' a1 a2 a3 hJ'=>?_
   refine Nq ac f (bubble p t (t - l)) (t+1) s' (hp.bub _ _) (by omega) ?_ hJ' k
   intro i j hij hj
   have el:t - (t - l)=l:=by omega
   rw [Mx (by omega) (by omega),Mx (by omega) (by omega),el]
   by_cases ci:i=l
   ·rw [if_pos ci]
    by_cases cj:j=l
    ·rw [if_pos cj]
     exact KeyOrd.kle_refl _
    ·rw [if_neg cj,if_pos ⟨by omega,by omega⟩]
     exact KeyOrd.kle_of_klt (a3 _ (by omega) (by omega))
   ·rw [if_neg ci]
    by_cases ci2:l < i/\i<=t
    ·rw [if_pos ci2,if_neg (by omega),if_pos ⟨by omega,by omega⟩]
     exact hs _ _ (by omega) (by omega)
    ·rw [if_neg ci2]
     by_cases cj:j=l
     ·rw [if_pos cj]
      exact a2 _ (by omega)
     ·rw [if_neg cj]
      by_cases cj2:l < j/\j<=t
      ·rw [if_pos cj2]
       exact hs _ _ (by omega) (by omega)
      ·rw [if_neg cj2]
       exact hs _ _ hij (by omega)
theorem ON (ac:GX O ky n cmp J) {R:Array Nat->Shared->Prop} {s:Shared} (h1:1<=n) (hJ:J s) (k:∀p s',Prm n p->Srt ky p n->J s'->R p s'):(kas_sort n).kasWp cmp R s:=by
 unfold kas_sort
 rw [KasT.kasWp_bind]
 refine MH ac (List.Perm.refl _) h1 hJ fun m p s' a1 a2 a3 a4 a5=>?_
 dsimp only
 by_cases c:m < n
 ·rw [if_pos c]
  have e:max m 1=m:=by omega
  rw [e]
  exact Nq ac (n - m) p m s' a3 (by omega) a4 a5 k
 ·rw [if_neg c]
  have e:m=n:=by omega
  subst e
  exact k p s' a3 a4 a5
end
end L2
namespace L2
open PySem PySem.W PySem.Spec PyProof.Rows
theorem Dl:∀a b:List Int,HT.lexLt a b=decide (a < b)
 | [],[]=>by simp [HT.lexLt]
 | [],_ :: _=>by simp [HT.lexLt]
 | _ :: _,[]=>by simp [HT.lexLt]
 | x :: xs,y :: ys=>by
   rw [HT.lexLt_cons,Dl xs ys]
   by_cases e:x=y
   ·subst e
    rw [if_pos rfl]
    simp [List.cons_lt_cons_iff]
   ·rw [if_neg e]
    simp [List.cons_lt_cons_iff,e]
def O6:KeyOrd where
 α:=List Int
 blt a b:=HT.lexLt a b
 irrefl a:=by rw [Dl];simpa using List.lt_irrefl a
 trans a b c h1 h2:=by
  rw [Dl] at *
  simp only [decide_eq_true_eq] at *
  exact List.lt_trans h1 h2
 negTrans a b c h:=by
  rw [Dl] at h
  rw [Dl,Dl]
  simp only [decide_eq_true_eq] at *
  by_cases hab:a < b
  ·exact .inl hab
  ·exact .inr (List.lt_of_le_of_lt (List.not_lt.mp hab) h)
 total a b h1 h2:=by
  rw [Dl] at *
  simp only [decide_eq_false_iff_not] at *
  exact List.le_antisymm (List.not_lt.mp h2) (List.not_lt.mp h1)
def Dw (h:Heap) (v:Value) (ns:List Int):Prop:=∃a its,v=.ref a/\IsTup h a its/\IntsAre its.toList ns
section
variable {prog:Program} {w:World} {A:Around} {E:Value->Shared->Prop} {s:Shared} {Q:Bool->Shared->Prop}
theorem KE {fin bb:Bool}:∀{vs us:List Value} {ns ms:List Int} (i:Nat),IntsAre vs ns->IntsAre us ms->Q (HT.lexLt ns ms) s->fin=decide (vs.length < us.length)->KatLex prog w A bb fin Q (vs.zip us) i s
 | _,_,_,_,i,.nil,.nil,h,e=>by
   refine kat_nil ?_
   rw [e]
   exact h
 | _,_,_,_,i,.nil,.cons _ _ _,h,e=>by
   refine kat_nil ?_
   rw [e]
   simpa [HT.lexLt] using h
 | _,_,_,_,i,.cons _ _ _,.nil,h,e=>by
   refine kat_nil ?_
   rw [e]
   simpa [HT.lexLt] using h
 | _,_,_,_,i,.cons (vs:=vs) (ns:=ns) x t hv,.cons (vs:=us) (ns:=ms) y u hu,h,e=>by
   refine kat_cons (wpAny_eqBool_int (kat_go (fun c=>?_) (fun c=>?_)))
   ·have xy:x=y:=by simpa using c
    subst xy
    refine kat_yes (KE (i+1) hv hu ?_ ?_)
    ·simpa [HT.lexLt] using h
    ·rw [e]
     simp
   ·have xy:¬ x=y:=by simpa using c
    refine kat_no ?_
    have h':Q (decide (x < y)) s:=by simpa [HT.lexLt,xy] using h
    cases (bb && i == 0) with
    | true=>exact oneLt_int h'
    | false=>exact kat_one _ _ (lt_int h')
def K8 (κ:SortKind):Prop:=(∃b,κ=tuples' b)\/κ=general'\/κ=oneType'
theorem Pb {κ:SortKind} {x y:Value} {ns ms:List Int} (hk:K8 κ) (hx:Dw s.heap x ns) (hy:Dw s.heap y ms) (hu:A.units < cLine) (h:Q (HT.lexLt ns ms) s):wpAny (model prog w) A (keyLt' κ x y) Q E s:=by
 obtain ⟨a,its,rfl,ta,ia⟩:=hx
 obtain ⟨b,jts,rfl,tb,ib⟩:=hy
 rcases hk with ⟨bb,rfl⟩ | rfl | rfl
 ·obtain ⟨o,ho,hc,n,hd⟩:=ta
  obtain ⟨o2,ho2,hc2,n2,hd2⟩:=tb
  exact kat_lt ho hd ho2 hd2 (KE 0 ia ib h (by simp))
 ·exact kat_one _ _ (HT.lt_tupInts ta tb ia ib hu h)
 ·rw [keyLt'_oneType,oneLt'_eq]
  simp only [if_true]
  refine wpAny_bind (wpAny_cRoomFor hu ?_)
  obtain ⟨⟨cls,dd,data,sl⟩,ho,hc,n,hd⟩:=id ta
  obtain ⟨⟨cls2,dd2,data2,sl2⟩,ho2,hc2,n2,hd2⟩:=id tb
  simp only at hc hd hc2 hd2
  subst hc hd hc2 hd2
  refine wpAny_bind (wpAny_callSpecialIfBound?_slot (T:="tuple") ⟨_,ho,rfl⟩ PySem.F.slot_tuple_lt (call_meets PySem.F.slot_tuple_lt ⟨_,ho,rfl⟩ PySem.F.entry_tuple_lt (PySem.F.args_tuple_lt_2 _ _) (HT.tuple_lt_ints a b its jts n n2 dd dd2 sl sl2 ns ms ia ib) ⟨ho,ho2,?_⟩))
  exact wpAny_truthy_bool h
theorem JQ:∀{l:List Value} {ns:List Int},IntsAre l ns->∀{v:Value},l[0]?=some v->∃n t,v=Value.int n t
 | _,_,.nil,v,e=>by simp at e
 | _,_,.cons n t _,v,e=>⟨n,t,by simpa using e.symm⟩
theorem Jk {α β:Type} {f:α->Sem β}:∀(l:List α) {R:List β->Shared->Prop},(∀v∈l,∀(Q':β->Shared->Prop),(∀r,Q' r s)->wpAny (model prog w) A (f v) Q' E s)->(∀rs,R rs s)->wpAny (model prog w) A (l.mapM f) R E s
 | [],_,_,h=>by
   rw [List.mapM_nil]
   exact wpAny_pure (h [])
 | x :: l,R,hf,h=>by
   rw [List.mapM_cons]
   exact wpAny_bind (hf x (.head _) _ fun r=>wpAny_bind (Jk l (R:=fun bs s'=>wpAny (model prog w) A (pure (r :: bs)) R E s') (fun v hv=>hf v (.tail _ hv)) fun rs=>wpAny_pure (h _)))
theorem IN {l:List Value} {R:Option Value->Shared->Prop} (hf:∀v∈l,∀(Q':Value->Shared->Prop),(∀r,Q' r s)->wpAny (model prog w) A (typeOf v) Q' E s) (h:∀r,R r s):wpAny (model prog w) A (oneTypeOnly' l.toArray) R E s:=by
 rw [oneTypeOnly'_eq,List.mapM_toArray,map_eq_pure_bind]
 refine wpAny_bind (wpAny_bind (Jk l hf fun rs=>wpAny_pure ?_))
 cases rs.toArray[0]? with
 | none=>exact wpAny_pure (h _)
 | some t=>exact wpAny_pure (h _)
theorem Jw {rows:List (List Int)}:∀{vs:List Value},Paired (Dw s.heap) vs rows->∀{R:List (Option Value)->Shared->Prop},(∀fs,fs.length=vs.length->(∀f∈fs,∀v,f=some v->∃n t,v=Value.int n t)->R fs s) ->
 wpAny (model prog w) A (vs.mapM firstOfTuple') R E s:=by
 intro vs hp
 induction hp with
 | nil =>
   intro R h
   rw [List.mapM_nil]
   exact wpAny_pure (h [] rfl (fun f m=>nomatch m))
 | cons hx hr ih =>
   intro R h
   obtain ⟨a,its,rfl,⟨o,ho,hc,n,hd⟩,ia⟩:=hx
   rw [List.mapM_cons]
   refine wpAny_bind ?_
   rw [kas_first_eq]
   refine wpAny_bind (Looks.here (show Looks (model prog w) s.heap (typeOf (.ref a)) o.cls from (Looks.ld ho).andThen .now) ?_)
   rw [hc,if_neg (by first | decide | simp)]
   refine wpAny_bind (listItems_at ho hd (wpAny_pure ?_))
   refine wpAny_bind (ih fun fs l1 l2=>wpAny_pure (h _ (by rw [List.length_cons,List.length_cons,l1]) fun f m v e=>?_))
   rcases List.mem_cons.mp m with m | m
   ·subst m
    have e':its.toList[0]?=some v:=by simpa using e
    exact JQ ia e'
   ·exact l2 f m v e
theorem MP {vs:List Value} {rows:List (List Int)} (hp:Paired (Dw s.heap) vs rows) {R:SortKind->Shared->Prop} (h:∀κ,K8 κ->R κ s):wpAny (model prog w) A (keyKind' vs.toArray) R E s:=by
 rw [kat_kind_eq,List.mapM_toArray,map_eq_pure_bind]
 refine wpAny_bind (wpAny_bind (Jw hp fun fs l1 l2=>wpAny_pure ?_))
 by_cases c:(fs.toArray.all fun x=>x.isSome)=true
 ·rw [if_pos c]
  refine wpAny_bind (wpAny_rule ?_)
  have e:fs.toArray.filterMap id=(fs.filterMap id).toArray:=by simp
  rw [e]
  refine wpAny_bind (IN (fun v hv Q' hq=>?_) fun r=>wpAny_pure (h _ (.inl ⟨_,rfl⟩)))
  obtain ⟨f,fm,fe⟩:=List.mem_filterMap.mp hv
  obtain ⟨n,t,rfl⟩:=l2 f fm v fe
  exact wpAny_of_eq (a:=Value.type "int") rfl (hq _)
 ·rw [if_neg c]
  by_cases c2:(fs.toArray[0]?.bind id).isSome=true
  ·rw [if_pos c2]
   exact wpAny_pure (h _ (.inr (.inl rfl)))
  ·rw [if_neg c2]
   refine wpAny_bind (IN (fun v hv Q' hq=>?_) fun r=>?_)
   ·obtain ⟨ns,hr⟩:∃ns,Dw s.heap v ns:=by
     clear l1 l2 c c2
     induction hp with
     | nil=>cases hv
     | cons hx _ ih =>
       rcases List.mem_cons.mp hv with m | m
       ·exact ⟨_,m ▸ hx⟩
       ·exact ih m
    obtain ⟨a,its,rfl,⟨o,ho,hc,n,hd⟩,ia⟩:=hr
    exact Looks.here (show Looks (model prog w) s.heap (typeOf (.ref a)) o.cls from (Looks.ld ho).andThen .now) (hq _)
   ·cases r with
    | none=>exact wpAny_pure (h _ (.inr (.inl rfl)))
    | some t=>exact wpAny_pure (h _ (.inr (.inr rfl)))
theorem E4 {α β:Type} {R:α->β->Prop} (d:α) (e:β):∀{xs:List α} {ys:List β},Paired R xs ys->∀i,i < xs.length->R (xs.getD i d) (ys.getD i e)
 | _,_,.nil,i,h=>absurd h (Nat.not_lt_zero _)
 | _,_,.cons r _,0,_=>r
 | _,_,.cons _ t,i+1,h=>E4 d e t i (by simpa using h)
theorem FX (vs:List Value):(List.range vs.length).map (fun i=>vs.getD i Value.none)=vs:=by
 apply List.ext_getElem
 ·simp
 ·intro i h1 h2
  simp [h2]
theorem Dw.keep {h h':Heap} {v:Value} {ns:List Int} (x:Dw h v ns) (k:∀b o,o.cls=.type "tuple"->h.get? b=some o->h'.get? b=some o):Dw h' v ns:=by
 obtain ⟨a,its,rfl,⟨o,ho,hc,n,hd⟩,ia⟩:=x
 exact ⟨a,its,rfl,⟨o,k a o hc ho,hc,n,hd⟩,ia⟩
theorem Mh {a:Addr} {vs:List Value} {rows:List (List Int)} {n:Nat} {P:PySem.Fin->Shared->Prop} (ho:s.heap.get? a=some (seqObj "list" vs.toArray n)) (hp:Paired (Dw s.heap) vs rows) (h64:vs.length < 64) (hu:A.units < cLine)
 (h:∀p:Array Nat,Prm vs.length p->Srt (O:=O6) (fun i=>rows.getD i []) p vs.length->P (.done (.ret .none)) { s with heap:=sortedHeap s.heap a vs (List.toArray (p.toList.map fun i=>vs.getD i Value.none)) }) :
 wpAny (model prog w) A (Builtin.«list.sort» ⟨[.ref a],[]⟩) P E s:=by
 rw [list_sort_plain]
 have ha:a < s.heap.objs.size:=Heap.lt_size ho
 refine wpAny_bind (listItems_at ho rfl ?_)
 refine wpAny_bind (listUpdate_at ho rfl ?_)
 obtain ⟨e1,ho1⟩:∃e1,(s.heap.update a (Obj.mapSeq fun _=>#[])).get? a=some (seqObj "list" #[] e1):=⟨_,get?_update_seq ho (fun _=>#[])⟩
 refine wpAny_bind (seqEpoch_at ho1 rfl ?_)
 refine wpAny_bind (wpAny_newTuple ?_)
 refine wpAny_bind (wpAny_newList ?_)
 refine wpAny_holding ?_
 have ho6:(((s.heap.update a (Obj.mapSeq fun _=>#[])).push (seqObj "tuple" vs.toArray 0)).push (seqObj "list" #[] 0)).get? a=some (seqObj "list" #[] e1):=by
  rw [Heap.get?_push_ne _ _ _ (by rw [size_push',Heap.size_update];exact Nat.ne_of_lt (Nat.lt_succ_of_lt ha)),Heap.get?_push_ne _ _ _ (by rw [Heap.size_update];exact Nat.ne_of_lt ha)]
  exact ho1
 have hp6:Paired (Dw (((s.heap.update a (Obj.mapSeq fun _=>#[])).push (seqObj "tuple" vs.toArray 0)).push (seqObj "list" #[] 0))) vs rows:=Paired.mapP hp fun v ns x=>x.keep fun b o hc e=>by
  have hb:b≠a:=fun z=>by
   rw [z,ho] at e
   cases e
   exact absurd (show Value.type "list"=Value.type "tuple" from hc) (by decide)
  exact Heap.get?_push_of_some _ (Heap.get?_push_of_some _ ((Heap.get?_update_other _ _ (Ne.symm hb)).trans e))
 show wpAny (model prog w) A _ P E { s with heap:=((s.heap.update a (Obj.mapSeq fun _=>#[])).push (seqObj "tuple" vs.toArray 0)).push (seqObj "list" #[] 0) }
 dsimp only
 have hsz:vs.toArray.size=vs.length:=by simp
 by_cases h2:vs.toArray.size < 2
 ·rw [if_pos h2,if_pos h2]
  refine wpAny_bind (wpAny_pure ?_)
  rw [StateT.run_pure]
  refine wpAny_bind (wpAny_pure ?_)
  dsimp only
  refine wpAny_bind (seqEpoch_at ho6 rfl ?_)
  refine wpAny_bind (listUpdate_at ho6 rfl ?_ (hsz2:=by rw [Array.size_map];show (pairsOf vs).size<=_;rw [pairsOf_size,sizeLine_eq];omega))
  simp only [bne_self_eq_false,Bool.false_eq_true,if_false]
  have hh:=h (List.range vs.length).toArray (List.Perm.refl _) (fun i j hij hj=>by
   have:i=j:=by omega
   subst this
   exact KeyOrd.kle_refl _)
  rw [show (List.range vs.length).toArray.toList.map (fun i=>vs.getD i Value.none)=vs from FX vs] at hh
  have e:(arrOf (SortSt.mk' general' (vs.toArray.zip vs.toArray) #[] 7 none)).map (·.2)=vs.toArray:=by
   show (vs.toArray.zip vs.toArray).map (·.2)=vs.toArray
   apply Array.ext
   ·simp
   ·intro i h1 h2
    simp
  refine wpAny_pure ?_
  have hh':=hh
  rw [<- e] at hh'
  exact hh'
 ·rw [if_neg h2,if_neg h2]
  refine wpAny_bind (MP hp6 fun κ hκ=>?_)
  have ac:GX O6 (fun i=>rows.getD i []) vs.length (kas_ask prog w A κ vs) (fun s'=>s'={ s with heap:=((s.heap.update a (Obj.mapSeq fun _=>#[])).push (seqObj "tuple" vs.toArray 0)).push (seqObj "list" #[] 0) }):=by
   intro i j C s' hi hj e k
   subst e
   exact Pb hκ (E4 Value.none [] hp6 i hi) (E4 Value.none [] hp6 j hj) hu (k _ rfl)
  refine wpAny_bind (wpAny_mono (kat_run (ks:=vs) (vs:=vs) (Q:=fun st' s'=>∃p:Array Nat,arrOf st'=p.map (kas_item (vs.toArray.zip vs.toArray))/\failedOf st'=none/\s'={ s with heap:=((s.heap.update a (Obj.mapSeq fun _=>#[])).push (seqObj "tuple" vs.toArray 0)).push (seqObj "list" #[] 0) }/\Prm vs.length p/\Srt (O:=O6) (fun i=>rows.getD i []) p vs.length)
   (G:=fun p s'=>s'={ s with heap:=((s.heap.update a (Obj.mapSeq fun _=>#[])).push (seqObj "tuple" vs.toArray 0)).push (seqObj "list" #[] 0) }/\Prm vs.length p/\Srt (O:=O6) (fun i=>rows.getD i []) p vs.length)
   rfl (by omega) h64 (fun p st' s' _ a2 a3 g=>⟨p,a2,a3,g⟩) (ON ac (by omega) rfl fun p s' q1 q2 e=>⟨e,q1,q2⟩)) ?_ fun _ _ e=>e)
  rintro ⟨⟨⟩,st'⟩ s' ⟨p,har,hf,rfl,q1,q2⟩
  dsimp only
  have hout:=kat_snds rfl har
  refine wpAny_bind (seqEpoch_at ho6 rfl ?_)
  rw [hout]
  refine wpAny_bind (listUpdate_at ho6 rfl ?_ (hsz2:=by rw [List.size_toArray,List.length_map,Array.length_toList,q1.size,sizeLine_eq];omega))
  rw [hf]
  simp only [bne_self_eq_false,Bool.false_eq_true,if_false]
  exact wpAny_pure (h p q1 q2)
end
section
variable {X:Cx}
theorem Hb:Cy X (.builtin "sorted") (fun xs H Q=>∃(a:Addr) (ns:List Int),xs=[.ref a]/\SqL X.K H a (ns.map V.int)/\ns.length < 64 /\
 ∀(l:Addr) (ms:List Int),ms.Perm ns->ms.Pairwise (·<=·)->H l=none->Q (.ref l) (upd H l (.lst (ms.map V.int)))):=by
 intro pins s σ H xs us Q I r h
 obtain ⟨a,ns,rfl,hq,h64,q⟩:=h
 obtain ⟨u,rfl,rx⟩:=DF r
 cases rx
 obtain ⟨its,rv,pl,hz⟩:=I.list hq
 have hlen:=rv.length
 rw [List.length_map] at hlen
 refine sorted_ints pl.isList (Cp rv) (by omega) fun out ms i1 i2 i3=>?_
 obtain ⟨e,he⟩:=sortedAll_at s.heap its out
 have hfr:H (s.heap.objs.size+1)=none:=I.hok.fresh (Nat.le_succ _)
 refine ⟨.ref _,_,I.laid (t':=s.toks) (fun b o hb=>sortedAll_old hb) (Nat.le_succ _) (show AI X.prog X.w _ _ _ (.lst (ms.map V.int)) from ⟨?_,out.toList,e,DR i1,he⟩),rfl,q _ ms i2 i3 hfr⟩
 rw [List.length_map,i2.length_eq,sizeLine_eq]
 omega
theorem GT:∀as:List Addr,Aw (as.map V.ref) (as.map Value.ref)
 | []=>.nil
 | a :: as=>.cons rfl (GT as)
end
end L2
namespace L2
open PySem PySem.W PySem.Spec PyProof.Rows
def CM (h:Heap) (d:Addr) (es:Array DictEntry) (ep:Nat):Prop:=∃o,h.get? d=some o/\o.ExactDict/\o.data=.dict es ep
theorem CM.at {h h':Heap} {d:Addr} {es:Array DictEntry} {ep:Nat} (x:CM h d es ep) (e:∀o,h.get? d=some o->h'.get? d=some o):CM h' d es ep:=let ⟨o,ho,r⟩:=x;⟨o,e _ ho,r⟩
theorem CM.lt {h:Heap} {d:Addr} {es:Array DictEntry} {ep:Nat} (x:CM h d es ep):d < h.objs.size:=let ⟨_,ho,_⟩:=x;Heap.lt_size ho
theorem CM.typeIs {s:Shared} {d:Addr} {es:Array DictEntry} {ep:Nat} (x:CM s.heap d es ep):s.TypeIs (.ref d) "dict":=let ⟨o,ho,hc,_⟩:=x;⟨o,ho,hc.1⟩
section
variable {prog:Program} {w:World} {A:Around} {E:Value->Shared->Prop} {s:Shared} {d:Addr} {es:Array DictEntry} {ep:Nat}
theorem N4 {Q:Value->Shared->Prop} (hd:(d == sysModules)=false) (hm:CM s.heap d es ep)
 (hQ:Q (.ref s.heap.objs.size) { s with heap:=s.heap.push { cls:=.type "dict_keyiterator",data:=.fields #[.ref d,.int 0 0,.int es.size 0,.int ep 0] } }):wpAny (model prog w) A (pyIter (.ref d)) Q E s:=by
 have hT:=hm.typeIs
 obtain ⟨o,ho,hc,hdat⟩:=id hm
 refine wpAny_pyIter_slot hT F.slot_dict_iter (wpAny_call_entry F.slot_dict_iter hT F.entry_dict_iter ?_ (F.args_dict_iter_1 _))
 unfold Builtin.«dict.__iter__»
 refine wpAny_bind ?_
 unfold Builtin.Dict.dictSlotNone
 refine wpAny_bind (wpAny_notOrdered_dict hT ?_)
 show wpAny _ _ (pure (Value.ref d)) _ _ s
 refine wpAny_pure ?_
 show wpAny _ _ (Builtin.Dict.showsAll d >>= _) _ _ s
 unfold Builtin.Dict.showsAll
 rw [if_neg (by rw [hd];exact Bool.false_ne_true)]
 refine wpAny_bind (wpAny_pure ?_)
 refine wpAny_bind (wpAny_dictEntries ho hdat ?_)
 refine wpAny_bind (wpAny_dictEpoch ho hdat ?_)
 refine wpAny_bind (wpAny_newObj_type (wpAny_pure ⟨_,rfl,"dict_keyiterator",_,⟨_,Heap.get?_push_size _ rfl,rfl⟩,F.slot_dict_keyiterator_next.lookup,?_⟩))
 simpa [rawInt] using hQ
theorem Mj {it:Addr} {i:Nat} {e:DictEntry} {Q:Option Value->Shared->Prop} (hit:s.heap.IsKeyIter it d i es.size ep) (hm:CM s.heap d es ep) (hx:es[i]?=some e)
 (hQ:∀h',h'.IsKeyIter it d (i+1) es.size ep->Heap.SameBut it s.heap h'->Q (some e.key) { s with heap:=h' }):wpAny (model prog w) A (pyNext (.ref it)) Q E s:=by
 obtain ⟨o,ho,hc,hd⟩:=id hit
 obtain ⟨od,hod,hcd,hdd⟩:=id hm
 unfold pyNext
 refine wpAny_bind (wpAny_attempt (wpAny_callSpecial?_slot (name:=Str.ofString "__next__") hit.typeIs F.slot_dict_keyiterator_next
  (wpAny_call_entry F.slot_dict_keyiterator_next hit.typeIs F.entry_dict_keyiterator_next ?_ (F.args_dict_keyiterator_next_1 _))))
 refine wpAny_bind (wpAny_pure ?_)
 refine wpAny_bind ?_
 refine wpAny_bind ?_
 first | refine wpAny_bind (wpAny_typeNameOfWhole_keyiter hit.typeIs (wpAny_pure ?_)) | refine wpAny_bind (wpAny_typeNameOf_keyiter hit.typeIs (wpAny_pure ?_))
 refine wpAny_bind (wpAny_fieldsOf ho hd ?_)
 have hown:Builtin.Dict_items.ownsTuple "dict_keyiterator"=false:=by decide
 simp only [hown,Bool.false_eq_true,if_false]
 show wpAny _ _ (if (Value.ref d == Value.none)=true then _ else _) _ _ s
 rw [if_neg (show ¬ ((Value.ref d == Value.none)=true) from Bool.false_ne_true)]
 refine wpAny_bind (wpAny_pure ?_)
 refine wpAny_bind (wpAny_dictEntries hod hdd ?_)
 rw [if_neg (by simp)]
 refine wpAny_bind (wpAny_pure ?_)
 refine wpAny_bind (wpAny_dictEpoch hod hdd ?_)
 rw [if_neg (by simp)]
 refine wpAny_pure ?_
 simp only [show ¬ ((i:Int) < 0) from by omega,if_false,Int.toNat_natCast,hx]
 refine wpAny_bind ?_
 first | refine wpAny_bind (wpAny_typeNameOfWhole_keyiter hit.typeIs (wpAny_pure ?_)) | refine wpAny_bind (wpAny_typeNameOf_keyiter hit.typeIs (wpAny_pure ?_))
 refine wpAny_bind (wpAny_isOneOf_keyiter hit.typeIs ?_)
 show wpAny _ _ (setField (.ref it) 1 (rawInt ((i:Int)+1)) >>= _) _ _ s
 refine wpAny_bind (wpAny_setField ho hd (by simp) ?_)
 have hit':(s.heap.update it (Obj.mapFields (·.setIfInBounds 1 (rawInt ((i:Int)+1))))).IsKeyIter it d (i+1) es.size ep :=
  ⟨_,Heap.get?_update_self _ ho (Obj.isFreed_of_fields (Obj.data_mapFields hd _)),(Obj.cls_mapFields ..).trans hc,by rw [Obj.data_mapFields hd];simp [rawInt]⟩
 refine wpAny_bind (wpAny_holding ?_)
 refine wpAny_bind (wpAny_isOneOf_keyiter (s:={ s with heap:=s.heap.update it (Obj.mapFields (·.setIfInBounds 1 (rawInt ((i:Int)+1)))) }) hit'.typeIs ?_)
 show wpAny _ _ (pure e.key) _ _ _
 exact wpAny_pure (wpAny_pure ⟨_,rfl,wpAny_pure (hQ _ hit' (Heap.SameBut.update ..))⟩)
theorem O9 {it:Addr} {i:Nat} {Q:Option Value->Shared->Prop} (hh:A.handled=none) (hit:s.heap.IsKeyIter it d i es.size ep) (hm:CM s.heap d es ep) (hx:es.size<=i)
 (hQ:∀h',Heap.ExtBut it s.heap h'->Q none { s with heap:=h' }):wpAny (model prog w) A (pyNext (.ref it)) Q E s:=by
 obtain ⟨o,ho,hc,hd⟩:=id hit
 obtain ⟨od,hod,hcd,hdd⟩:=id hm
 unfold pyNext
 refine wpAny_bind (wpAny_attempt (wpAny_callSpecial?_slot (name:=Str.ofString "__next__") hit.typeIs F.slot_dict_keyiterator_next
  (wpAny_call_entry F.slot_dict_keyiterator_next hit.typeIs F.entry_dict_keyiterator_next ?_ (F.args_dict_keyiterator_next_1 _))))
 refine wpAny_bind (wpAny_pure ?_)
 refine wpAny_bind ?_
 refine wpAny_bind ?_
 first | refine wpAny_bind (wpAny_typeNameOfWhole_keyiter hit.typeIs (wpAny_pure ?_)) | refine wpAny_bind (wpAny_typeNameOf_keyiter hit.typeIs (wpAny_pure ?_))
 refine wpAny_bind (wpAny_fieldsOf ho hd ?_)
 have hown:Builtin.Dict_items.ownsTuple "dict_keyiterator"=false:=by decide
 simp only [hown,Bool.false_eq_true,if_false]
 show wpAny _ _ (if (Value.ref d == Value.none)=true then _ else _) _ _ s
 rw [if_neg (show ¬ ((Value.ref d == Value.none)=true) from Bool.false_ne_true)]
 refine wpAny_bind (wpAny_pure ?_)
 refine wpAny_bind (wpAny_dictEntries hod hdd ?_)
 rw [if_neg (by simp)]
 refine wpAny_bind (wpAny_pure ?_)
 refine wpAny_bind (wpAny_dictEpoch hod hdd ?_)
 rw [if_neg (by simp)]
 refine wpAny_pure ?_
 simp only [show ¬ ((i:Int) < 0) from by omega,if_false,Int.toNat_natCast,Array.getElem?_eq_none hx]
 refine wpAny_bind ?_
 first | refine wpAny_bind (wpAny_typeNameOfWhole_keyiter hit.typeIs (wpAny_pure ?_)) | refine wpAny_bind (wpAny_typeNameOf_keyiter hit.typeIs (wpAny_pure ?_))
 show wpAny _ _ (setField (.ref it) 0 .none >>= _) _ _ s
 refine wpAny_bind (wpAny_setField ho hd (by simp) ?_)
 show wpAny _ _ (newExc (.type "StopIteration") [] >>= _) _ _ _
 refine wpAny_bind ?_
 simp only [newExc,newTuple]
 refine wpAny_bind (wpAny_newObj_type ?_ (by size_fits))
 refine wpAny_bind (m:=firstArgMember _ _) (wpAny_of_eq (a:=Value.none) (by first | rfl | (simp only [firstArgMember];rfl)) ?_)
 refine wpAny_newObj_type ?_ (by size_fits)
 simp only [raiseNew]
 refine wpAny_bind (wpAny_handled ?_)
 rw [show A.in1.handled=none from hh]
 refine wpAny_bind (wpAny_pure (wpAny_throw ?_))
 refine wpAny_bind (wpAny_isInstance (T:="StopIteration") (b:=true) ⟨_,Heap.get?_push_size _ rfl,rfl⟩ isSubtype_stop ?_)
 exact wpAny_pure (hQ _ (((Heap.SameBut.update ..).extBut.push _).push _))
theorem LG (hh:A.handled=none) (I:Addr) (hne:d≠I):Walks prog w A I [I,d] [I] es.size (fun i v=>∃e,es[i]?=some e/\v=e.key) (fun i h=>h.IsKeyIter I d i es.size ep/\CM h d es ep) where
 sub:=fun b hb=>by simp at hb;simp [hb]
 frame:=fun _ _ _ st hk=>⟨st.1.at fun o e=>hk I (by simp) o e,st.2.at fun o e=>hk d (by simp) o e⟩
 item:=fun i s Q E hi st hQ=>by
  obtain ⟨e,hx⟩:∃e,es[i]?=some e:=⟨es[i],by simp [hi]⟩
  refine Mj st.1 st.2 hx fun h' hit' hs'=>?_
  exact hQ e.key h' s.toks ⟨e,hx,rfl⟩ ⟨hit',st.2.at fun o q=>hs'.extBut d o hne q⟩ fun b o hb q=>hs'.extBut b o (fun h=>hb (by simp [h])) q
 done:=fun s Q E st hQ=>O9 hh st.1 st.2 (Nat.le_refl _) fun h' he'=>hQ h' s.toks fun b o hb q=>he' b o (fun h=>hb (by simp [h])) q
 self:=fun _ _ _ _ st hQ=>wpAny_pyIter_keyiter st.1 hQ
theorem O8 (lo:(d == sysModules)=false):KdlSrc prog w "dict" d d es.size (fun i v=>∃e,es[i]?=some e/\v=e.key) (fun h=>CM h d es ep) where
 type:=fun _ hm=>hm.typeIs
 there:=fun _ hm=>⟨hm.lt,hm.lt⟩
 keep:=fun _ _ hm hk=>hm.at fun o e=>hk d (.inl rfl) o e
 notList:=by decide
 notTuple:=by decide
 hint:=fun _ _ _ _ hm hq=>kdl_hint_dict hm.typeIs hq
 iter:=fun _ s hh hm=>⟨_,_,(fun _ _ hq=>N4 lo hm hq),LG hh _ (Nat.ne_of_lt hm.lt),⟨⟨_,Heap.get?_push_size _ rfl,rfl,rfl⟩,hm.at fun o e=>Heap.get?_push_of_some _ e⟩⟩
theorem Np {acc:Array Value} (h:ItemsOf (fun i v=>∃e,es[i]?=some e/\v=e.key) acc es.size):acc=es.map (·.key):=by
 obtain ⟨h1,h2⟩:=h
 apply Array.ext
 ·simpa using h1
 ·intro i hi hj
  obtain ⟨e,he,hk⟩:=h2 i acc[i] (by simp [hi])
  have hi':i < es.size:=by omega
  rw [Array.getElem?_eq_getElem hi'] at he
  rw [hk,Array.getElem_map,Option.some.inj he]
theorem IZ {R:List Value->Shared->Prop} (lo:(d == sysModules)=false) (hm:CM s.heap d es ep) (hh:A.handled=none) (hn:es.size<=sizeLine)
 (h:∀(h':Heap) (tk:Nat),(∀b o,s.heap.get? b=some o->h'.get? b=some o)->s.heap.objs.size < h'.objs.size->R (es.toList.map (·.key)) { s with heap:=h',toks:=tk }) :
 wpAny (model prog w) A (collect (.ref d)) R E s:=by
 have hlt:=hm.lt
 unfold collect
 refine wpAny_bind (wpAny_runValue (codeAny_builtin entry_proto_collect' ?_))
 rw [Around.under_plainId PySem.F.plain_proto_collect _]
 show wpAny _ A.in1 (newList [] >>= fun l=>again (.builtin "list.__iadd__" ⟨[l,.ref d],[]⟩)) _ _ s
 refine wpAny_bind (wpAny_newObj_type ?_)
 refine wpAny_pure ⟨plainId_quiet PySem.F.plain_list_iadd _,codeAny_builtin entry_list_iadd' ?_⟩
 rw [Around.under_plainId PySem.F.plain_list_iadd _]
 have hS₁:(s.heap.push { cls:=.type "list",data:=.seq ([]:List Value).toArray }).get? s.heap.objs.size=some { cls:=.type "list",data:=.seq #[] }:=Heap.get?_push_size _ rfl
 show wpAny _ A.in1 (Builtin.List.listExtendWith (.ref s.heap.objs.size) (.ref d) (.ref s.heap.objs.size)) _ _ _
 have key:=kdl_extend (A:=A) (s:={ s with heap:=s.heap.push { cls:=.type "list",data:=.seq ([]:List Value).toArray } })
  (R:=fun (q:Result) (s':Shared)=>∃(h':Heap) (tk c':Nat),q=.ok (.ret (.ref s.heap.objs.size))/\s'={ s with heap:=h',toks:=tk } /\
   (∀b o,s.heap.get? b=some o->h'.get? b=some o)/\h'.get? s.heap.objs.size=some { cls:=.type "list",dict:=none,data:=.seq (es.map (·.key)) c',slots:=#[] })
  (O8 (prog:=prog) (w:=w) (es:=es) (ep:=ep) lo) hh (hm.at fun o e=>Heap.get?_push_of_some _ e) s.heap.objs.size (Nat.ne_of_gt hlt) (Nat.ne_of_gt hlt) (.ref s.heap.objs.size) 0 hS₁
  (fun h' tk acc' c' hk hS' hacc=>⟨h',tk,c',rfl,rfl,fun b o e=>hk b o (Nat.ne_of_lt (Heap.lt_size e)) (Heap.get?_push_of_some _ e),by rw [<- Np hacc];exact hS'⟩) hn
 refine wpAny_mono key (fun fin s' x=>?_) fun e s' x=>?_
 ·cases fin with
  | done f =>
    obtain ⟨h',tk,c',e,rfl,hk,hS'⟩:=x
    cases e
    show wpAny _ A (load s.heap.objs.size >>= _) _ _ _
    refine wpAny_bind (wpAny_load hS' ?_)
    have:=h h' tk hk (Heap.lt_size hS')
    rw [<- Array.toList_map] at this
    exact wpAny_pure this
  | again c₁ =>
    refine ⟨x.1,codeAny_mono x.2 fun q s₂ y=>?_⟩
    obtain ⟨h',tk,c',rfl,rfl,hk,hS'⟩:=y
    show wpAny _ A (load s.heap.objs.size >>= _) _ _ _
    refine wpAny_bind (wpAny_load hS' ?_)
    have:=h h' tk hk (Heap.lt_size hS')
    rw [<- Array.toList_map] at this
    exact wpAny_pure this
 ·obtain ⟨_,_,_,e',_⟩:=x
  cases e'
theorem IK {vs:List Value} (lo:(d == sysModules)=false) (hm:CM s.heap d es ep) (hz:es.size < 64) (hh:A.handled=none) (hv:es.toList.map (·.key)=vs) {R:Value->Shared->Prop}
 (h:∀(h':Heap) (tk:Nat) (a:Addr),(∀b o,s.heap.get? b=some o->h'.get? b=some o/\b≠a)->s.heap.objs.size<=a->h'.get? a=some (seqObj "list" vs.toArray 0) ->
  wpAny (model prog w) A.in1.in1 (Builtin.«list.sort» ⟨[.ref a],[]⟩) (fun fin s'=>∃v,fin=.done (.ret v)/\R (.ref a) s') E { s with heap:=h',toks:=tk }) :
 wpAny (model prog w) A (call (.builtin "sorted") [.ref d]) R E s:=by
 refine Calls.call_function_entry kind_sorted plain_sorted entry_sorted (args_sorted1 _) ?_
 unfold Builtin.«sorted»
 refine wpAny_bind (m:=checkCount "sorted" 1 1 _) (wpAny_pure ?_)
 refine wpAny_bind (IZ (A:=A.in1) lo hm hh (by rw [sizeLine_eq];omega) fun h' tk hk ge=>?_)
 rw [hv]
 have hl:vs.length < 64:=by rw [<- hv,List.length_map,Array.length_toList];exact hz
 refine wpAny_bind (wpAny_newList ?_ (by rw [sizeLine_eq];omega))
 have ho:(h'.push (seqObj "list" vs.toArray 0)).get? h'.objs.size=some (seqObj "list" vs.toArray 0):=Heap.get?_push_size _ rfl
 refine wpAny_bind (wpAny_holding (wpAny_call_entry slot_list_sort ⟨_,ho,rfl⟩ entry_list_sort ?_ (args_list_sort _)))
 refine wpAny_mono (h _ tk h'.objs.size (fun b o e=>⟨Heap.get?_push_of_some _ (hk b o e),Nat.ne_of_lt (Heap.lt_size (hk b o e))⟩) (Nat.le_of_lt ge) ho) (fun fin s' x=>?_) fun _ _ x=>x
 obtain ⟨v,rfl,q⟩:=x
 exact ⟨_,rfl,wpAny_pure ⟨_,rfl,q⟩⟩
end
section
variable {X:Cx}
theorem On {H:Hp}:∀{kvs:List (List Key × V)} {xs:List (List Key × Addr × Value)} {ks:List (List Int)},KT H kvs xs->kvs.map (·.1)=ks.map (List.map Sum.inl) ->
 ∃qs:List (Addr × List Int),xs.map (fun x=>Value.ref x.2.1)=(qs.map (·.1)).map Value.ref/\qs.map (·.2)=ks/\∀q∈qs,H q.1=some (.tup (q.2.map V.int)):=by
 intro kvs xs ks r
 induction r generalizing ks with
 | nil =>
   intro e
   cases ks with
   | nil=>exact ⟨[],rfl,rfl,fun _ m=>nomatch m⟩
   | cons _ _=>cases e
 | @cons p q ps qr hq t ih =>
   intro e
   cases ks with
   | nil=>cases e
   | cons k ks =>
     injection e with e1 e2
     obtain ⟨qs,a1,a2,a3⟩:=ih e2
     refine ⟨(q.2.1,k) :: qs,?_,?_,fun x m=>?_⟩
     ·rw [List.map_cons,a1]
      rfl
     ·rw [List.map_cons,a2]
     ·rcases List.mem_cons.mp m with m | m
      ·subst m
       have h:=hq.2.1
       have e1':p.1=k.map Sum.inl:=e1
       rw [e1',List.map_map] at h
       exact h
      ·exact a3 x m
theorem Ge (hc:X.calm=true) (hu:X.A.units+64 < cLine):Cy X (.builtin "sorted") (fun xs H Q=>∃(d:Addr) (kvs:List (List Key × V)) (ks:List (List Int)),xs=[.ref d]/\Rd H d (.dT kvs)/\kvs.map (·.1)=ks.map (List.map Sum.inl)/\ks.length < 64 /\
 ∀(l:Addr) (rs:List (Addr × List Int)),(∀q∈rs,H q.1=some (.tup (q.2.map V.int)))->(rs.map (·.2)).Perm ks->rs.Pairwise (fun x y=>HT.lexLt y.2 x.2=false)->H l=none->Q (.ref l) (upd H l (.lst (rs.map fun q=>V.ref q.1)))):=by
 intro pins s σ H xs us Q I r h
 obtain ⟨d,kvs,ks,rfl,hd,hks,h64,q⟩:=h
 obtain ⟨u,rfl,rx⟩:=DF r
 cases rx
 obtain ⟨_,lo,xs,kt,o,es,ep,h1,h2,h3,h4,_,_⟩:=GC I.hok hd
 obtain ⟨qs,b1,b2,b3⟩:=On kt hks
 have hv:es.toList.map (·.key)=(qs.map (·.1)).map Value.ref:=by
  rw [h4,List.map_map,<- b1]
  rfl
 have hql:qs.length=ks.length:=by rw [<- b2,List.length_map]
 have hes:es.size=qs.length:=by
  have:=congrArg List.length hv
  simpa using this
 have hp:Paired (Dw s.heap) ((qs.map (·.1)).map Value.ref) (qs.map (·.2)):=by
  clear hv hql hes b1 b2
  induction qs with
  | nil=>exact .nil
  | cons q0 qr ih =>
    refine .cons ?_ (ih fun q m=>b3 q (List.mem_cons_of_mem _ m))
    obtain ⟨jts,rj,tj,_⟩:=I.tuple (SqT.of (b3 q0 (List.mem_cons_self ..)))
    exact ⟨q0.1,jts.toArray,rfl,tj,by simpa using Cp rj⟩
 refine IK lo ⟨o,h1,h2,h3⟩ (by omega) (I.ok.hd hc) hv fun h' tk a kp ge ho=>?_
 have hp':Paired (Dw h') ((qs.map (·.1)).map Value.ref) (qs.map (·.2)):=Paired.mapP hp fun v ns x=>x.keep fun b o _ e=>(kp b o e).1
 have ll:((qs.map (·.1)).map Value.ref).length=qs.length:=by rw [List.length_map,List.length_map]
 refine Mh (s:={ s with heap:=h',toks:=tk }) ho hp' (by omega) (by show X.A.units+1+1 < cLine;omega) fun p a1 a2=>⟨_,rfl,?_⟩
 obtain ⟨e,he⟩:=sortedHeap_at (out:=List.toArray (p.toList.map fun i=>((qs.map (·.1)).map Value.ref).getD i Value.none)) ho
 have hfr:H a=none:=I.hok.fresh ge
 have hps:=a1.size
 have lt:∀i∈p.toList,i < qs.length:=fun i m=>by
  have:=List.mem_range.mp (a1.mem_iff.mp m)
  omega
 let rs:=p.toList.map fun i=>qs.getD i (0,[])
 have eo:(p.toList.map fun i=>((qs.map (·.1)).map Value.ref).getD i Value.none)=(rs.map (·.1)).map Value.ref:=by
  show _=((p.toList.map fun i=>qs.getD i (0,[])).map (·.1)).map Value.ref
  simp only [List.map_map]
  refine List.map_congr_left fun i m=>?_
  have hi:=lt i m
  simp [hi]
 rw [eo] at he ⊢
 have pm:rs.Perm qs:=by
  have e1:(List.range ((qs.map (·.1)).map Value.ref).length).map (fun i=>qs.getD i ((0:Addr),([]:List Int)))=qs:=by
   rw [ll]
   apply List.ext_getElem
   ·simp
   ·intro i h1 h2
    simp [h2]
  have:=List.Perm.map (fun i=>qs.getD i ((0:Addr),([]:List Int))) a1
  rw [e1] at this
  exact this
 refine ⟨.ref _,_,I.laid (t':=tk) (fun b o hb=>?_) ge (show AI X.prog X.w _ _ _ (.lst (rs.map fun q=>V.ref q.1)) from ⟨?_,(rs.map (·.1)).map Value.ref,e,?_,he⟩),rfl,q _ rs (fun q m=>b3 q (pm.mem_iff.mp m)) (by rw [<- b2];exact pm.map _) ?_ hfr⟩
 ·obtain ⟨k1,k2⟩:=kp b o hb
  rw [sortedHeap_old k2 (Heap.lt_size k1)]
  exact k1
 ·rw [List.length_map,pm.length_eq,sizeLine_eq]
  omega
 ·have:=GT (rs.map (·.1))
  rw [List.map_map] at this
  exact this
 ·rw [List.pairwise_iff_getElem]
  intro i j hi hj hij
  have hi':i < p.size:=by simpa [rs] using hi
  have hj':j < p.size:=by simpa [rs] using hj
  have g:=a2 i j (by omega) (by omega)
  have gi:(qs.map (·.2)).getD (p.getD i 0) []=(rs[i]).2:=by
   have l1:=lt p[i] (by simp)
   simp [rs,Array.getD,hi',l1]
  have gj:(qs.map (·.2)).getD (p.getD j 0) []=(rs[j]).2:=by
   have l1:=lt p[j] (by simp)
   simp [rs,Array.getD,hj',l1]
  have g2:HT.lexLt ((qs.map (·.2)).getD (p.getD j 0) []) ((qs.map (·.2)).getD (p.getD i 0) [])=false:=g
  rw [gi,gj] at g2
  exact g2
end
end L2
namespace L2
open PySem
def Ris (xs:Array Nat):Prop:=∀i j,i < j->j < xs.size->xs.getD i 0 < xs.getD j 0
theorem Jb {xs:Array Nat} {i:Nat} (h:i < xs.size) (a b:Nat):xs.getD i a=xs.getD i b:=by
 simp [Array.getD,h]
theorem Fo {xs:Array Nat} (hr:Ris xs) (j:Nat):∀(f lo hi:Nat),lo<=hi->hi<=xs.size->hi - lo<=f->(∀i,i < lo->xs.getD i 0 < j)->(∀i,hi<=i->i < xs.size->j<=xs.getD i 0) ->
 SetTable.below.go xs j f lo hi<=xs.size/\(∀i,i < SetTable.below.go xs j f lo hi->xs.getD i 0 < j)/\∀i,SetTable.below.go xs j f lo hi<=i->i < xs.size->j<=xs.getD i 0
 | 0,lo,hi,h1,h2,h3,h4,h5=>by
   have:lo=hi:=by omega
   subst this
   exact ⟨h2,h4,h5⟩
 | f+1,lo,hi,h1,h2,h3,h4,h5=>by
   unfold SetTable.below.go
   by_cases c:lo < hi
   ·rw [if_pos c]
    dsimp only
    have hm:(lo+hi) / 2 < xs.size:=by omega
    by_cases c2:xs.getD ((lo+hi) / 2) j < j
    ·rw [if_pos c2]
     refine Fo hr j f _ hi (by omega) h2 (by omega) (fun i hi'=>?_) h5
     rw [Jb hm j 0] at c2
     by_cases e:i=(lo+hi) / 2
     ·rw [e];exact c2
     ·exact Nat.lt_trans (hr i ((lo+hi) / 2) (by omega) hm) c2
    ·rw [if_neg c2]
     refine Fo hr j f lo _ (by omega) (by omega) (by omega) h4 (fun i a b=>?_)
     rw [Jb hm j 0] at c2
     by_cases e:i=(lo+hi) / 2
     ·rw [e];omega
     ·have:=hr ((lo+hi) / 2) i (by omega) b
      omega
   ·rw [if_neg c]
    have:lo=hi:=by omega
    subst this
    exact ⟨h2,h4,h5⟩
theorem Fq {xs:Array Nat} (hr:Ris xs) (j:Nat):SetTable.below xs j<=xs.size/\(∀i,i < SetTable.below xs j->xs.getD i 0 < j)/\∀i,SetTable.below xs j<=i->i < xs.size->j<=xs.getD i 0 :=
 Fo hr j xs.size 0 xs.size (Nat.zero_le _) (Nat.le_refl _) (by omega) (fun i h=>absurd h (Nat.not_lt_zero _)) (fun i a b=>absurd a (by omega))
theorem FC {xs:Array Nat} (hr:Ris xs):SetTable.below xs 0=0:=by
 obtain ⟨_,h,_⟩:=Fq hr 0
 cases e:SetTable.below xs 0 with
 | zero=>rfl
 | succ n=>exact absurd (h n (by omega)) (Nat.not_lt_zero _)
theorem Fv {xs:Array Nat} (hr:Ris xs) {i:Nat} (hi:i < xs.size):SetTable.below xs (xs.getD i 0+1)=i+1:=by
 obtain ⟨h0,h1,h2⟩:=Fq hr (xs.getD i 0+1)
 have a:¬ SetTable.below xs (xs.getD i 0+1)<=i:=fun c=>by
  have:=h2 i c hi
  omega
 have b:¬ i+1 < SetTable.below xs (xs.getD i 0+1):=fun c=>by
  have p:=h1 (i+1) c
  have q:=hr i (i+1) (by omega) (by omega)
  omega
 omega
theorem IJ {α:Type} {xs:Array α} {p:Nat} (hp:p<=xs.size) (x:α):(SetTable.insertAt xs p x).size=xs.size+1:=by
 unfold SetTable.insertAt
 simp
 omega
theorem EW {xs:Array Nat} {p:Nat} (hp:p<=xs.size) (x i:Nat):(SetTable.insertAt xs p x).getD i 0=if i < p then xs.getD i 0 else if i=p then x else xs.getD (i - 1) 0:=by
 unfold SetTable.insertAt
 rw [Array.getD_eq_getD_getElem?,Array.getElem?_append]
 by_cases c:i < p
 ·rw [if_pos c,if_pos (by simp;omega),Array.getElem?_push]
  rw [if_neg (by simp;omega),Array.getElem?_extract]
  rw [if_pos (by omega),Array.getD_eq_getD_getElem?]
  simp
 ·rw [if_neg c]
  by_cases c2:i=p
  ·subst c2
   rw [if_pos rfl,if_pos (by simp;omega),Array.getElem?_push,if_pos (by simp;omega)]
   rfl
  ·rw [if_neg c2,if_neg (by simp;omega),Array.getElem?_extract,Array.getD_eq_getD_getElem?]
   have e:((xs.extract 0 p).push x).size=p+1:=by simp;omega
   rw [e]
   by_cases c3:i - (p+1) < min xs.size xs.size - p
   ·rw [if_pos c3]
    congr 2
    omega
   ·rw [if_neg c3,Array.getElem?_eq_none (by omega)]
theorem Ris.put {xs:Array Nat} (hr:Ris xs) {j:Nat} (hj:xs[SetTable.below xs j]?≠some j):Ris (SetTable.insertAt xs (SetTable.below xs j) j):=by
 obtain ⟨h0,h1,h2⟩:=Fq hr j
 intro a b hab hb
 rw [IJ h0] at hb
 rw [EW h0,EW h0]
 generalize hp:SetTable.below xs j=p at *
 have gt:∀i,p<=i->i < xs.size->j < xs.getD i 0:=fun i a b=>by
  have l:=h2 i a b
  by_cases e:i=p
  ·subst e
   have:xs.getD i 0≠j:=fun z=>hj (by simp [Array.getD,b] at z;simp [b,z])
   omega
  ·have:=h2 p (Nat.le_refl _) (by omega)
   have:=hr p i (by omega) b
   omega
 by_cases ca:a < p
 ·rw [if_pos ca]
  by_cases cb:b < p
  ·rw [if_pos cb]
   exact hr a b hab (by omega)
  ·rw [if_neg cb]
   by_cases cb2:b=p
   ·rw [if_pos cb2]
    exact h1 a ca
   ·rw [if_neg cb2]
    exact hr a (b - 1) (by omega) (by omega)
 ·rw [if_neg ca]
  by_cases ca2:a=p
  ·rw [if_pos ca2,if_neg (show ¬ b < p by omega),if_neg (show ¬ b=p by omega)]
   exact gt (b - 1) (by omega) (by omega)
  ·rw [if_neg ca2,if_neg (show ¬ b < p by omega),if_neg (show ¬ b=p by omega)]
   exact hr (a - 1) (b - 1) (by omega) (by omega)
theorem LO (n:Nat):Ris (Array.range n):=fun i j hij hj=>by
 have hj':j < n:=by simpa using hj
 have hi':i < n:=by omega
 simp [Array.getD,hj',hi']
 exact hij
theorem Fh {l:List Nat} (h:l.Pairwise (· < ·)):Ris l.toArray:=fun i j hij hj=>by
 have hj':j < l.length:=by simpa using hj
 have hi':i < l.length:=by omega
 have:=List.pairwise_iff_getElem.mp h i j hi' hj' hij
 simpa [Array.getD,hj',hi'] using this
theorem IT {owner:Array (Option Nat)} (n:Nat):(((List.range n).filterMap fun j=>(owner.getD j none).map (j,·)).map (·.1)).Pairwise (· < ·):=by
 rw [List.pairwise_map,List.pairwise_filterMap]
 refine List.Pairwise.imp ?_ List.pairwise_lt_range
 intro a b hab x hx y hy
 cases e1:owner.getD a none with
 | none=>rw [e1] at hx;cases hx
 | some u =>
   cases e2:owner.getD b none with
   | none=>rw [e2] at hy;cases hy
   | some v =>
     rw [e1] at hx
     rw [e2] at hy
     cases hx
     cases hy
     exact hab
theorem OA {mask finger moves:Nat} {led plain:Bool} {hashes:Array Int} {t:SetTable} {order:Array Nat} (h:SetTable.laid mask finger moves led plain hashes=some (t,order)):Ris t.place/\t.led=led:=by
 unfold SetTable.laid at h
 cases e:SetTable.layClean mask hashes with
 | none=>rw [e] at h;cases h
 | some owner =>
   rw [e] at h
   cases h
   exact ⟨Fh (IT _),rfl⟩
theorem Ei {t:SetTable} {f:Nat->Int} {hv:Int}:∀(n:Nat) (p:SetTable.Probe) {j:Nat} {du:Option Nat},(∀d,p.dummy=some d->t.place[SetTable.below t.place d]?≠some d) ->
 SetTable.probe.go t f hv n p=some (.empty j du)->(∀d,du=some d->t.place[SetTable.below t.place d]?≠some d)/\t.place[SetTable.below t.place j]?≠some j
 | 0,p,j,du,hd,e=>by cases e
 | n+1,p,j,du,hd,e=>by
   unfold SetTable.probe.go at e
   by_cases c:t.place[SetTable.below t.place p.j]?=some p.j
   ·have es:t.slot p.j=.live (SetTable.below t.place p.j):=by
     unfold SetTable.slot
     simp [c]
    rw [es] at e
    dsimp only at e
    by_cases c2:(f (SetTable.below t.place p.j) == hv)=true
    ·rw [if_pos c2] at e;cases e
    ·rw [if_neg c2] at e
     refine Ei n _ ?_ e
     unfold SetTable.advance
     by_cases c3:p.more > 0
     ·rw [if_pos c3];exact hd
     ·rw [if_neg c3];exact hd
   ·by_cases c4:SetTable.has t.dummies p.j=true
    ·have es:t.slot p.j=.dummy:=by
      unfold SetTable.slot
      simp [c,c4]
     rw [es] at e
     dsimp only at e
     refine Ei n _ ?_ e
     have k:∀d,some p.j=some d->t.place[SetTable.below t.place d]?≠some d:=fun d z=>by
      cases z
      exact c
     unfold SetTable.advance
     by_cases c3:p.more > 0
     ·rw [if_pos c3];exact k
     ·rw [if_neg c3];exact k
    ·have es:t.slot p.j=.empty:=by
      unfold SetTable.slot
      simp [c,c4]
     rw [es] at e
     cases e
     exact ⟨hd,c⟩
theorem Oy {t:SetTable} {hv:Int} {slot:Nat} {b:Bool} (h:t.freeSlot hv=some (slot,b)):t.place[SetTable.below t.place slot]?≠some slot:=by
 unfold SetTable.freeSlot SetTable.probe at h
 cases e:SetTable.probe.go t (fun _=>hv+1) hv (10*SetTable.turns t.mask) (t.probeStart hv) with
 | none=>rw [e] at h;cases h
 | some m =>
   rw [e] at h
   cases m with
   | candidate j i nx=>cases h
   | empty j du =>
     obtain ⟨a,b'⟩:=Ei _ _ (fun d z=>by cases z) e
     cases du with
     | none =>
       cases h
       exact b'
     | some d =>
       cases h
       exact a d rfl
def CP (t:SetTable):Prop:=Ris t.place/\t.led=true
theorem CP.standIn {t:SetTable} (h:CP t) (n:Nat):CP (t.standIn n):=⟨LO n,h.2⟩
theorem CP.orStandIn {t:SetTable} (h:CP t) (n:Nat):CP (t.orStandIn n):=by
 unfold SetTable.orStandIn
 split
 ·exact h
 ·exact h.standIn n
theorem CP.lay {t:SetTable} (h:CP t) (es:Array (Int × Value)) (hv:Int) (x:Value):CP (layNew t es hv x).2.1:=by
 unfold layNew
 cases e:t.freeSlot hv with
 | none=>exact h.standIn _
 | some q =>
   obtain ⟨slot,b⟩:=q
   have w:CP (t.put slot).1:=⟨h.1.put (Oy e),h.2⟩
   exact w.orStandIn _
theorem CP.relay {t:SetTable} (h:CP t) (es:Array (Int × Value)) (n:Nat):CP (relayAll t es n).2.1:=by
 unfold relayAll SetTable.relaid
 cases e:SetTable.laid (SetTable.sizeAbove n - 1) t.finger (t.movedTo (SetTable.sizeAbove n - 1)) t.led t.plain (es.map (·.1)) with
 | none=>exact h.standIn _
 | some q =>
   obtain ⟨t',order⟩:=q
   obtain ⟨a,b⟩:=OA e
   dsimp only
   split
   ·exact ⟨a,b.trans h.2⟩
   ·exact h.standIn _
end L2
namespace L2
open PySem PySem.W PySem.Spec PyProof.Rows
def BO (w:World):Bool:=w.params.followText "set-order"
def E1 (prog:Program) (w:World) (h:Heap) (a:Addr) (l:List Int):Prop :=
 ∃o es ep t ms,h.get? a=some o/\o.ExactSet/\o.data=.set es ep t/\ElemsOf (intKind prog w) es.toList/\IntsAre (es.toList.map (·.2)) ms/\ms.Perm l/\es.size < scanBound/\t.fits es.size=true/\(BO w=true\/CP t)
theorem E5 {vs vs':List Value} (p:vs'.Perm vs):∀{ns:List Int},IntsAre vs ns->∃ns',IntsAre vs' ns'/\ns'.Perm ns:=by
 induction p with
 | nil=>intro ns h;cases h;exact ⟨[],.nil,.refl _⟩
 | cons x _ ih =>
   intro ns h
   cases h with
   | cons n t h =>
     obtain ⟨ns',a,b⟩:=ih h
     exact ⟨n :: ns',.cons n t a,b.cons n⟩
 | swap x y l =>
   intro ns h
   cases h with
   | cons n t h =>
     cases h with
     | cons m u h=>exact ⟨m :: n :: _,.cons m u (.cons n t h),.swap _ _ _⟩
 | trans _ _ ih1 ih2 =>
   intro ns h
   obtain ⟨n1,a1,b1⟩:=ih2 h
   obtain ⟨n2,a2,b2⟩:=ih1 a1
   exact ⟨n2,a2,b2.trans b1⟩
theorem EL:∀{vs us:List Value} {ns ms:List Int},IntsAre vs ns->IntsAre us ms->IntsAre (vs++us) (ns++ms)
 | _,_,_,_,.nil,h=>h
 | _,_,_,_,.cons n t a,h=>.cons n t (EL a h)
theorem Ex:∀{vs:List Value} {ns:List Int},IntsAre vs ns->∀{n:Int},n∈ns↔∃t,Value.int n t∈vs
 | _,_,.nil,n=>⟨(fun h=>by cases h),(fun ⟨_,h⟩=>by cases h)⟩
 | _,_,.cons m u a,n=>by
   constructor
   ·intro h
    rcases List.mem_cons.mp h with e | h
    ·subst e
     exact ⟨u,List.mem_cons_self ..⟩
    ·obtain ⟨t,ht⟩:=(Ex a).mp h
     exact ⟨t,List.mem_cons_of_mem _ ht⟩
   ·rintro ⟨t,h⟩
    rcases List.mem_cons.mp h with e | h
    ·cases e
     exact List.mem_cons_self ..
    ·exact List.mem_cons_of_mem _ ((Ex a).mpr ⟨t,h⟩)
section
variable {prog:Program} {w:World} {A:Around} {E:Value->Shared->Prop} {s:Shared}
theorem GA {h:Heap} {a:Addr} {o:Obj} {es:Array (Int × Value)} {ep:Nat} {t:SetTable} (ho:h.get? a=some o) (hd:o.data=.set es ep t) (es':Array (Int × Value)) (t':SetTable) :
 (h.update a (Obj.putSet es' t')).get? a=some { o with data:=.set es' (ep+1) t' }:=by
 have:=Heap.get?_update_self (Obj.putSet es' t') ho (by rw [putSet_of es' t' hd];rfl)
 rw [putSet_of es' t' hd] at this
 exact this
theorem Ji {g:Bool->Sem Unit} (hg:∀(b:Bool) (s₁:Shared) (Q':Unit->Shared->Prop),Q' () s₁->wpAny (model prog w) A (g b) Q' E s₁)
 {a:Addr} {o:Obj} {es:Array (Int × Value)} {ep:Nat} {t:SetTable} (ho:s.heap.get? a=some o) (hex:o.ExactSet) (hd:o.data=.set es ep t)
 {es1:Array (Int × Value)} {t2:SetTable} {ms l:List Int} (hel1:ElemsOf (intKind prog w) es1.toList) (hi:IntsAre (es1.toList.map (·.2)) ms) (hp:ms.Perm l)
 (hb1:es1.size < scanBound) (hf2:t2.fits es1.size=true) (hw:BO w=true\/CP t2) {wasDummy:Bool} {R:Option Bool->Shared->Prop}
 (h:∀h',Heap.SameBut a s.heap h'->E1 prog w h' a l->R (some true) { s with heap:=h' }) :
 wpAny (model prog w) A (do
  storeSet a es1 t2
  if (!wasDummy && t2.tooFull)=true then do
      g (relayAll t2 es1 (SetTable.grown es1.size)).2.2
      storeSet a (relayAll t2 es1 (SetTable.grown es1.size)).1 (relayAll t2 es1 (SetTable.grown es1.size)).2.1
      pure (some true)
   else pure (some true)) R E s:=by
 refine wpAny_bind (wpAny_storeSet_of ho hd ?_ (fits_of_scanBound hb1))
 have ho1:=GA ho hd es1 t2
 have hsb1:=Heap.SameBut.update s.heap a (Obj.putSet es1 t2)
 split
 ·have pr:=relayAll_perm t2 es1 (SetTable.grown es1.size)
  have fr:=relayAll_fits t2 es1 (SetTable.grown es1.size)
  have wr:BO w=true\/CP (relayAll t2 es1 (SetTable.grown es1.size)).2.1:=hw.imp id fun x=>x.relay _ _
  generalize relayAll t2 es1 (SetTable.grown es1.size)=Rl at pr fr wr ⊢
  obtain ⟨es2,t3,gave2⟩:=Rl
  dsimp only at pr fr wr ⊢
  have hsz:es2.size=es1.size:=by rw [<- Array.length_toList,pr.length_eq,Array.length_toList]
  obtain ⟨ms2,i2,p2⟩:=E5 (pr.map (·.2)) hi
  refine wpAny_bind (hg _ _ _ ?_)
  refine wpAny_bind (wpAny_storeSet_of ho1 rfl ?_ (fits_of_scanBound (by rw [hsz];exact hb1)))
  exact wpAny_pure (h _ (hsb1.trans (Heap.SameBut.update _ a _)) ⟨_,es2,_,t3,ms2,GA ho1 rfl es2 t3,hex,rfl,hel1.perm pr,i2,p2.trans hp,by rw [hsz];exact hb1,fr,wr⟩)
 ·exact wpAny_pure (h _ hsb1 ⟨_,es1,_,t2,ms,ho1,hex,rfl,hel1,hi,hp,hb1,hf2,hw⟩)
theorem add_int {a:Addr} {l:List Int} {k:Int} {tk:Tok} {Q:Bool->Shared->Prop} (hS:E1 prog w s.heap a l) (hroom:l.length+1 < scanBound)
 (h:∀h' b,Heap.SameBut a s.heap h'->E1 prog w h' a (step_dedup l k)->Q b { s with heap:=h' }) :
 wpAny (model prog w) A (setAddHashed a (.int k tk) ((intKind prog w).hash k)) Q E s:=by
 obtain ⟨o,es,ep,t,ms,ho,hex,hd,hel,hi,hp,hb,hf,hw⟩:=hS
 have hkey:(intKind prog w).is k (.int k tk)=true:=intKind_is _ _ _ _
 have hsc:(Value.int k tk).scannable=true:=rfl
 have hlen:es.size=l.length:=by
  have:=hi.length
  rw [List.length_map,Array.length_toList] at this
  rw [this,hp.length_eq]
 unfold setAddHashed setAddHashedIn
 refine wpAny_holding (wpAny_bind (wpAny_setState_of ho hd hf ?_))
 dsimp only
 rw [byScan_of hsc hb hel]
 simp only [↓reduceIte]
 unfold setAddByScan
 refine wpAny_bind ?_
 refine wpAny_bind (wpAny_rule ?_)
 refine wpAny_bind (wpAny_setScan_of hkey ho hd hf hel ?_)
 cases hr:List.findIdx? (fun e=>(intKind prog w).is k e.2) es.toList with
 | some j =>
   dsimp only
   obtain ⟨hj,hpj,_⟩:=List.findIdx?_eq_some_iff_getElem.mp hr
   have mem:k∈l:=by
    refine hp.mem_iff.mp ((Ex hi).mpr ?_)
    obtain ⟨t',e⟩:=Value.isInt_shape (show Value.isInt k es.toList[j].2=true from hpj)
    exact ⟨t',List.mem_map.mpr ⟨_,List.getElem_mem hj,e⟩⟩
   have es':step_dedup l k=l:=by
    unfold step_dedup
    rw [if_pos (List.any_eq_true.mpr ⟨k,mem,by simp⟩)]
   refine wpAny_pure (wpAny_pure ?_)
   exact h s.heap _ (Heap.SameBut.refl a s.heap) ⟨o,es,ep,t,ms,ho,hex,hd,hel,hi,by rw [es'];exact hp,hb,hf,hw⟩
 | none =>
   dsimp only
   have nmem:¬ k∈l:=fun m=>by
    obtain ⟨t',ht⟩:=(Ex hi).mp (hp.mem_iff.mpr m)
    obtain ⟨e,he,hv⟩:=List.mem_map.mp ht
    have:=List.findIdx?_eq_none_iff.mp hr e he
    rw [hv,intKind_is] at this
    exact Bool.noConfusion this
   have es':step_dedup l k=l++[k]:=by
    unfold step_dedup
    rw [if_neg (by
     intro z
     obtain ⟨y,hy,ey⟩:=List.any_eq_true.mp z
     have:y=k:=by simpa using ey
     exact nmem (this ▸ hy))]
   have hgw:∀(b:Bool) {s₁:Shared} {Q':Unit->Shared->Prop},Q' () s₁->wpAny (model prog w) A (match b with | true=>rule "set.scan.the-table-gave-way" | false=>pure ()) Q' E s₁ :=
    fun b s₁ Q' hq=>by cases b <;> first | exact wpAny_pure hq | exact wpAny_rule hq
   have pr:=layNew_perm t es ((intKind prog w).hash k) (.int k tk)
   have fr:=layNew_fits t es ((intKind prog w).hash k) (.int k tk)
   have wr:BO w=true\/CP (layNew t es ((intKind prog w).hash k) (.int k tk)).2.1:=hw.imp id fun x=>x.lay _ _ _
   generalize layNew t es ((intKind prog w).hash k) (.int k tk)=L at pr fr wr ⊢
   obtain ⟨es1,t1,wasDummy,gave⟩:=L
   dsimp only at pr fr wr ⊢
   rw [Array.toList_push] at pr
   have hel1:ElemsOf (intKind prog w) es1.toList:=(hel.push hkey hsc).perm pr
   have hi0:IntsAre ((es.toList++[((intKind prog w).hash k,Value.int k tk)]).map (·.2)) (ms++[k]):=by
    rw [List.map_append]
    exact EL hi (.cons k tk .nil)
   obtain ⟨ms1,i1,p1⟩:=E5 (pr.map (·.2)) hi0
   have hp1:ms1.Perm (step_dedup l k):=by rw [es'];exact p1.trans (hp.append_right [k])
   have hb1:es1.size < scanBound:=by rw [<- Array.length_toList,pr.length_eq,List.length_append,Array.length_toList,hlen];simpa using hroom
   refine wpAny_bind (hgw _ ?_)
   split
   ·refine wpAny_bind ?_
    rw [hashByValue_scannable 8 hsc]
    refine wpAny_pure ?_
    refine Ji ?_ ho hex hd hel1 i1 hp1 hb1 ?_ ?_ ?_
    ·intro b s₁ Q' hq;cases b <;> first | exact wpAny_pure hq | exact wpAny_rule hq
    ·split
     ·exact fr
     ·exact SetTable.fits_plain_off fr
    ·split
     ·exact wr
     ·exact wr
    ·intro h' hsb hS';dsimp only;exact wpAny_pure (h h' _ hsb hS')
   ·refine wpAny_bind (wpAny_pure ?_)
    simp only [↓reduceIte]
    refine Ji ?_ ho hex hd hel1 i1 hp1 hb1 fr wr ?_
    ·intro b s₁ Q' hq;cases b <;> first | exact wpAny_pure hq | exact wpAny_rule hq
    ·intro h' hsb hS';dsimp only;exact wpAny_pure (h h' _ hsb hS')
theorem E1.at {h h':Heap} {a:Addr} {l:List Int} (x:E1 prog w h a l) (e:∀o,h.get? a=some o->h'.get? a=some o):E1 prog w h' a l:=by
 obtain ⟨o,es,ep,t,ms,ho,r⟩:=x
 exact ⟨o,es,ep,t,ms,e o ho,r⟩
end
section
variable {prog:Program} {w:World} {A:Around} {R:Result->Shared->Prop} {I:Addr} {fp wr:List Addr} {G:Array GenState->Array GenState->Prop} {n:Nat} {P:Nat->Value->Prop} {St:Nat->Shared->Prop}
theorem MB (W:WalksS prog w A.in1 I fp wr G n P St) (S:Addr) (hSf:S ∉ fp) (val:Nat->Int) (hval:∀i v,P i v->∃t,v=.int (val i) t) (hb:n+1 < scanBound) :
 ∀(k i:Nat) (s:Shared),n - i=k->i<=n->St i s->E1 prog w s.heap S (firstMet val i)->(∀s',Moved (S :: wr) G s s'->E1 prog w s'.heap S (firstMet val n)->R (.ok (.ret .none)) s') ->
  codeAny (model prog w) A (.builtin "set.update.loop" ⟨[.ref S,.ref I],[]⟩) R s:=by
 have hSw:S ∉ wr:=fun h=>hSf (W.sub _ h)
 have hsub:∀b∈wr,b∈S :: wr:=fun b hb=>List.mem_cons_of_mem _ hb
 intro k
 induction k with
 | zero =>
   intro i s hk hi hst hS hR
   have hin:i=n:=by omega
   subst hin
   refine codeAny_builtin F.entry_set_update_loop ?_
   rw [Around.under_plainId F.plain_set_update_loop _]
   show wpAny _ A.in1 (pyNext (.ref I) >>= _) _ _ s
   refine wpAny_bind (W.done s _ _ hst fun s' hm=>?_)
   show wpAny _ A.in1 (ret Value.none) _ _ s'
   exact wpAny_pure (hR s' (hm.mono hsub) (hS.at fun o e=>hm.heap S o hSw e))
 | succ k ih =>
   intro i s hk hi hst hS hR
   have hlt:i < n:=by omega
   refine codeAny_builtin F.entry_set_update_loop ?_
   rw [Around.under_plainId F.plain_set_update_loop _]
   show wpAny _ A.in1 (pyNext (.ref I) >>= _) _ _ s
   refine wpAny_bind (W.item i s _ _ hlt hst fun v s' hP hst' hm=>?_)
   obtain ⟨t,rfl⟩:=hval i v hP
   have hS':=hS.at fun o e=>hm.heap S o hSw e
   show wpAny _ A.in1 (holding [Value.int (val i) t] (setAdd S (.int (val i) t)) >>= _) _ _ s'
   refine wpAny_bind (wpAny_holding ?_)
   unfold setAdd
   refine wpAny_holding ?_
   refine wpAny_bind ((intKind prog w).pyHash (k:=val i) (intKind_is _ _ _ _) ?_)
   have hroom:(firstMet val i).length+1 < scanBound:=by have:=firstMet_length_le val i;omega
   refine add_int (s:={ s' with toks:=s'.toks+1 }) hS' hroom fun h' b hsb hS2=>?_
   have hSi:E1 prog w h' S (firstMet val (i+1)):=by rw [firstMet_succ];exact hS2
   refine wpAny_pure ⟨plainId_quiet F.plain_set_update_loop _,ih (i+1) _ (by omega) hlt (W.frame _ s' _ _ hst' (Nat.le_succ _) fun b hb o e=>?_) hSi fun s'' hm'' hS''=>?_⟩
   ·rw [hsb.2 b (fun h:b=S=>hSf (by rw [<- h];exact hb))];exact e
   ·refine hR s'' (Moved.trans W.gtrans ((hm.mono hsub).then_heap (Nat.le_succ _) fun b o hb e=>?_) hm'') hS''
    rw [hsb.2 b (fun h:b=S=>hb (by rw [h];exact List.mem_cons_self))];exact e
end
section
variable {prog:Program} {w:World} {A:Around} {E:Value->Shared->Prop} {s:Shared}
abbrev Bo (w:World):Obj:={ cls:=.type "set",dict:=none,data:=.set #[] 0 (.fresh 0 0 (!BO w)) }
theorem Oe (a:Value) {Q₁:Value->Shared->Prop} (h:Q₁ (.ref s.heap.objs.size) { s with heap:=s.heap.push (Bo w) }) :
 codeAny (model prog w) A (.call (.builtin "set.__new__") ⟨[.type "set",a],[]⟩) (wants Q₁ E) s:=by
 refine codeAny_of_tree ?_
 show wpAny _ A.in1 (do checkBuiltinCall "set.__new__" ⟨[.type "set",a],[]⟩;again (.builtin "set.__new__" ⟨[.type "set",a],[]⟩)) _ _ s
 refine wpAny_bind (wpAny_of_eq (PySem.F.newCall_set_1 a) (wpAny_pure ⟨plainId_quiet PySem.F.plain_set_new _,codeAny_builtin PySem.F.entry_set_new ?_⟩))
 rw [Around.under_plainId PySem.F.plain_set_new _]
 unfold Builtin.«set.__new__» Builtin.Frozenset.newClass
 have hsub:=sub_set_self
 obtain ⟨hp,g,d,tk,os⟩:=s
 dsimp only
 wp_walk
 refine wpAny_askSetting (wpAny_pure ?_)
 dsimp only
 simp only [newObj]
 refine wpAny_bind (wpAny_alloc (wpAny_pure ?_))
 exact wpAny_pure h
theorem Li {h:Heap} {a:Addr} (ho:h.get? a=some (Bo w)):E1 prog w h a [] :=
 ⟨_,#[],0,_,[],ho,⟨rfl,rfl,rfl⟩,rfl,fun e he=>by simp at he,.nil,.refl _,by decide,rfl,by
  cases e:BO w with
  | true=>exact .inl rfl
  | false=>exact .inr ⟨fun i j _ hj=>absurd hj (by simp [SetTable.fresh]),by simp [SetTable.fresh]⟩⟩
set_option maxRecDepth 100000 in
set_option maxHeartbeats 3200000 in
theorem Jp {l:Addr} {items:Array Value} {ns:List Int} {Q:Value->Shared->Prop} (hh:A.handled=none) (hl:s.heap.IsList l items) (hi:IntsAre items.toList ns) (hb:items.size+1 < scanBound)
 (h:∀(h':Heap) (tk:Nat),E1 prog w h' s.heap.objs.size (firstMet (fun i=>ns.getD i 0) items.size)->(∀b o,b < s.heap.objs.size->s.heap.get? b=some o->h'.get? b=some o)->Q (.ref s.heap.objs.size) { s with heap:=h',toks:=tk }) :
 wpAny (model prog w) A (call (.type "set") [.ref l]) Q E s:=by
 obtain ⟨c,tl,hmro⟩:=PySem.F.called_set.mro
 have hmade:=PySem.F.called_set.made
 have hsub:=PySem.F.called_set.sub
 refine wpAny_call (codeAny_of_tree ?_)
 show wpAny _ _ (callAny (.type "set") _) _ _ _
 refine wpAny_pure ⟨Code.quiet_builtin _ (by decide +kernel),codeAny_builtin PySem.F.entry_type_call ?_⟩
 rw [Around.under_plain (weight_type_call_type "set" [.ref l] []) rfl]
 have h1:=PySem.F.called_set.notType
 have h2:=PySem.F.called_set.canCreate
 have hct:=PySem.F.typeCall_set_1 (.ref l)
 repeat (any_goals (first | assumption | wp_step))
 refine codeAny_mono (Oe (.ref l) (E:=E) (Q₁:=fun obj s₁=>obj=.ref s.heap.objs.size/\s₁={ s with heap:=s.heap.push (Bo w) }) ⟨rfl,rfl⟩) fun r s₁ hr=>?_
 cases r with
 | error e=>exact hr
 | ok fl =>
   cases fl with
   | ret obj =>
     obtain ⟨rfl,rfl⟩:=hr
     have hS:(s.heap.push (Bo w)).get? s.heap.objs.size=some (Bo w):=Heap.get?_push_size _ rfl
     have hT:Shared.TypeIs { s with heap:=s.heap.push (Bo w) } (.ref s.heap.objs.size) "set":=⟨_,hS,rfl⟩
     have hli:=PySem.F.called_set.init.lookup
     have hbi:=PySem.F.called_set.init.bind (.ref s.heap.objs.size)
     repeat (any_goals (first | assumption | wp_step))
     refine codeAny_mono (codeAny_call_builtin (R:=wants (fun r s₂=>r=.none/\∃h' tk,s₂={ s with heap:=h',toks:=tk }/\E1 prog w h' s.heap.objs.size (firstMet (fun i=>ns.getD i 0) items.size) /\
      (∀b o,b < s.heap.objs.size->s.heap.get? b=some o->h'.get? b=some o)) E) PySem.F.called_set.init.plain PySem.F.entry_set_init (check_set_init_1 hT ?_)) fun r₂ s₂ hr₂=>?_
     ·obtain ⟨ol,hol,hcl,nl,hdl⟩:=hl
      obtain ⟨ocls,odict,odata,oslots⟩:=ol
      simp only at hcl hdl
      subst hcl;subst hdl
      have hol':(s.heap.push (Bo w)).get? l=some { cls:=.type "list",dict:=odict,data:=.seq items nl,slots:=oslots }:=Heap.get?_push_of_some _ hol
      have hsls:=PySem.F.sub_list_set
      have hslf:=PySem.F.sub_list_frozenset
      have hne:(Value.type "list" == Value.type "dict")=false:=by decide
      have hl1:(s.heap.push (Bo w)).IsList l items:=⟨_,hol',rfl,nl,rfl⟩
      unfold Builtin.«set.__init__» noKeywords Builtin.Frozenset.updateFrom
      generalize hPI:pyIter=PI
      wp_walk
      subst hPI
      refine wpAny_pyIter_list hl1 ?_
      refine wpAny_bind (wpAny_runValue ?_)
      have hlS:l < s.heap.objs.size:=Heap.lt_size hol
      have hh3:A.in1.in1.in1.handled=none:=by simp [hh]
      have hneI:l≠(s.heap.push (Bo w)).objs.size:=by
       rw [Heap.size_push];exact Nat.ne_of_lt (Nat.lt_succ_of_lt hlS)
      have hSf:s.heap.objs.size ∉ [(s.heap.push (Bo w)).objs.size,l]:=by
       rw [Heap.size_push];simp only [List.mem_cons,List.mem_singleton,List.not_mem_nil,or_false,not_or]
       exact ⟨Nat.ne_of_lt (Nat.lt_succ_self _),Nat.ne_of_gt hlS⟩
      have hval:∀(i:Nat) (v:Value),items[i]?=some v->∃t,v=.int ((fun i=>ns.getD i 0) i) t:=fun i v hv =>
       IntsAre.int_at hi i v (by rw [Array.getElem?_toList];exact hv)
      refine MB ((Walks.list hh3 _ l hneI items).toS) s.heap.objs.size hSf (fun i=>ns.getD i 0) hval hb (items.size - 0) 0 _ (by omega) (Nat.zero_le _)
       ⟨⟨_,Heap.get?_push_size _ rfl,rfl,rfl⟩,(hl1.push _)⟩ (Li (Heap.get?_push_of_some _ hS)) ?_
      intro s' hm hS'
      obtain ⟨h',g',d',tk',os'⟩:=s'
      have eg:g'=s.gens:=hm.gens
      have ed:d'=s.drawn:=hm.drawn
      have eo:os'=s.os:=hm.os
      subst eg;subst ed;subst eo
      show wpAny _ _ _ _ _ _
      refine wpAny_pure ?_
      show wpAny _ _ (ret Value.none) _ _ _
      refine wpAny_pure ⟨rfl,h',tk',rfl,hS',fun b o hb e=>?_⟩
      have hb1:b≠s.heap.objs.size:=Nat.ne_of_lt hb
      have hb2:b≠(s.heap.push (Bo w)).objs.size:=by
       rw [Heap.size_push];exact Nat.ne_of_lt (Nat.lt_succ_of_lt hb)
      exact hm.heap b o (by simp only [List.mem_cons,List.mem_singleton,List.not_mem_nil,or_false,not_or];exact ⟨hb1,hb2⟩) (Heap.get?_push_of_some _ (Heap.get?_push_of_some _ e))
     ·cases r₂ with
      | error e=>exact hr₂
      | ok fl₂ =>
        cases fl₂ with
        | ret r =>
          obtain ⟨rfl,h',tk,rfl,hS',hk'⟩:=hr₂
          repeat (any_goals (first | assumption | wp_step))
          exact h _ _ hS' hk'
        | _=>exact hr₂.elim
   | _=>exact hr.elim
end
end L2
namespace L2
open PySem PySem.W PySem.Spec PyProof.Rows
theorem erase_perm {α:Type}:∀(xs:List α) (i:Nat) (hi:i < xs.length),(xs[i] :: xs.eraseIdx i).Perm xs
 | [],i,hi=>absurd hi (Nat.not_lt_zero _)
 | x :: xs,0,_=>.refl _
 | x :: xs,i+1,hi=>by
   have hi':i < xs.length:=by simpa using hi
   have ih:=erase_perm xs i hi'
   show (xs[i] :: x :: xs.eraseIdx i).Perm (x :: xs)
   exact (List.Perm.swap _ _ _).trans (ih.cons x)
section
variable {prog:Program} {w:World} {A:Around} {E:Value->Shared->Prop} {s:Shared}
theorem Kf {src:Source} {n:Nat} {Q:Nat->Shared->Prop} (hn:n≠0) (h:∀x d,x < n->Q x { s with drawn:=d }):wpAny (model prog w) A (choose src n) Q E s:=fun Γ p _=>by
 unfold choose
 rw [Sem.wp_choose]
 exact ⟨hn,h _ _ (Nat.mod_lt _ (Nat.pos_of_ne_zero hn))⟩
theorem Ik {α:Type}:∀(n:Nat) (xs:List α) (s:Shared) {Q:List α->Shared->Prop},xs.length=n->(∀ys d,ys.Perm xs->Q ys { s with drawn:=d })->wpAny (model prog w) A (drawOrder n xs) Q E s
 | 0,xs,s,Q,hl,h=>by
   have:xs=[]:=List.length_eq_zero_iff.mp hl
   subst this
   have:=h [] s.drawn (.refl _)
   exact wpAny_pure this
 | n+1,[],s,Q,hl,h=>by simp at hl
 | n+1,x :: xs,s,Q,hl,h=>by
   unfold drawOrder
   refine wpAny_bind (Kf (by simp) fun i d hi=>?_)
   have e:(x :: xs)[i]?=some (x :: xs)[i]:=by simp [hi]
   rw [e]
   dsimp only
   refine wpAny_bind (Ik n ((x :: xs).eraseIdx i) _ (by rw [List.length_eraseIdx,if_pos hi];simp at hl ⊢;omega) fun ys d' hp=>wpAny_pure ?_)
   refine h _ d' ?_
   exact (hp.cons _).trans (erase_perm _ _ hi)
end
theorem Kz {α:Type} (next:Nat->Nat):∀(f k:Nat) (left:List α) (out:Array α),left.length=f->(pickOrder.go next f k left out).toList.Perm (out.toList++left)
 | 0,k,left,out,hl=>by
   have:left=[]:=List.length_eq_zero_iff.mp hl
   subst this
   simp [pickOrder.go]
 | f+1,k,left,out,hl=>by
   unfold pickOrder.go
   have hi:next k % left.length < left.length:=Nat.mod_lt _ (by omega)
   have e:left[next k % left.length]?=some left[next k % left.length]:=by simp [hi]
   rw [e]
   dsimp only
   refine (Kz next f (k+1) (left.eraseIdx (next k % left.length)) _ (by rw [List.length_eraseIdx,if_pos hi];omega)).trans ?_
   rw [Array.toList_push,List.append_assoc]
   exact List.Perm.append_left _ (erase_perm _ _ hi)
theorem Gw {α:Type} (next:Nat->Nat) (xs:Array α):(pickOrder next xs).toList.Perm xs.toList:=by
 have:=Kz next xs.size 0 xs.toList #[] (by simp)
 simpa [pickOrder] using this
def Br (h:Heap) (a:Addr) (es:Array (Int × Value)) (ep:Nat) (t:SetTable):Prop:=∃o,h.get? a=some o/\o.ExactSet/\o.data=.set es ep t
theorem Br.at {h h':Heap} {a:Addr} {es:Array (Int × Value)} {ep:Nat} {t:SetTable} (x:Br h a es ep t) (e:∀o,h.get? a=some o->h'.get? a=some o):Br h' a es ep t:=let ⟨o,ho,r⟩:=x;⟨o,e o ho,r⟩
theorem Br.typeIs {s:Shared} {a:Addr} {es:Array (Int × Value)} {ep:Nat} {t:SetTable} (x:Br s.heap a es ep t):s.TypeIs (.ref a) "set":=let ⟨o,ho,hc,_⟩:=x;⟨o,ho,hc.1⟩
def DU (es:Array (Int × Value)) (t:SetTable):Bool:=!t.plain && decide (es.size > 1)
def FI (t:SetTable):Nat->Nat
 | 0=>0
 | i+1=>t.place.getD i 0+1
def SIt (w:World) (h:Heap) (I tp a:Addr) (es:Array (Int × Value)) (ep:Nat) (t:SetTable) (out:List Value) (i:Nat):Prop :=
 ∃first,(∃o,h.get? I=some o/\o.cls=.type "set_iterator"/\o.data=.fields #[first,rawInt i,.ref a,rawInt es.size,rawInt ep]) /\
  ((BO w=true/\first=rawInt 0/\out=(pickOrder (w.params.setOrder a ep) es).toList.map (·.2)) \/
   (BO w=false/\DU es t=true/\first=.ref tp/\∃ps:List Nat,(∃o n,h.get? tp=some o/\o.data=.seq (ps.map fun (p:Nat)=>rawInt p).toArray n)/\ps.Perm (List.range es.size)/\out=ps.map fun p=>(es.getD p (0,Value.none)).2) \/
   (BO w=false/\DU es t=false/\CP t/\first=rawInt (FI t i)/\out=es.toList.map (·.2)))
theorem SIt.perm {w:World} {h:Heap} {I tp a:Addr} {es:Array (Int × Value)} {ep:Nat} {t:SetTable} {out:List Value} {i:Nat} (x:SIt w h I tp a es ep t out i):out.Perm (es.toList.map (·.2)):=by
 obtain ⟨_,_,⟨_,_,e⟩ | ⟨_,_,_,ps,_,p,e⟩ | ⟨_,_,_,_,e⟩⟩:=x
 ·rw [e]
  exact (Gw _ _).map _
 ·rw [e]
  have q:=p.map fun p=>(es.getD p (0,Value.none)).2
  refine q.trans (.of_eq ?_)
  apply List.ext_getElem
  ·simp
  ·intro i h1 h2
   have hi:i < es.size:=by simpa using h1
   simp [Array.getD,hi]
 ·rw [e]
section
variable {prog:Program} {w:World} {A:Around} {E:Value->Shared->Prop} {s:Shared} {a:Addr} {es:Array (Int × Value)} {ep:Nat} {t:SetTable}
theorem Fu:entryFor table "set.__iter__"=some Builtin.«frozenset.__iter__» :=
 entryFor_alias (id':="frozenset.__iter__") (by kernel_rfl) (by first | rfl | decide +kernel | (unfold String.splitOn;simp +decide [String.splitOnAux])) (by decide +kernel) (by kernel_rfl)
theorem B1:Slot "set_iterator" "__next__" "set_iterator.__next__" :=
 .of (owner:="set_iterator") (n:="__next__") (by rw [typeLookup_type,builtinLookup_eq_fast];kernel_rfl) (by decide +kernel) (by decide +kernel) (by decide +kernel)
  (by first | exact .inl (by decide +kernel) | exact .inr (by decide +kernel)) (by rw [isSubtype_type];kernel_rfl)
theorem DA:entryFor table "set_iterator.__next__"=some Builtin.«set_iterator.__next__»:=entryFor_of_tree (by kernel_rfl)
theorem Ec (a:Value):argsOk "set_iterator.__next__" ⟨[a],[]⟩:=by
 unfold argsOk
 kernel_rfl
theorem Cf {Q:(Array (Int × Value) × Nat × SetTable)->Shared->Prop} (x:Br s.heap a es ep t) (hf:t.fits es.size=true) (h:Q (es,ep,t) s):wpAny (model prog w) A (setState a) Q E s:=by
 obtain ⟨o,ho,_,hd⟩:=x
 exact wpAny_setState_of ho hd hf h
theorem MI {Q:Value->Shared->Prop} (x:Br s.heap a es ep t) (hf:t.fits es.size=true) (hz:es.size<=sizeLine) (hw:BO w=true\/CP t)
 (h:∀(h':Heap) (d:Drawn) (I tp:Addr) (out:List Value),(∀b o,s.heap.get? b=some o->h'.get? b=some o)->s.heap.objs.size<=I->s.heap.objs.size<=tp->tp≠I->I < h'.objs.size->SIt w h' I tp a es ep t out 0->Q (.ref I) { s with heap:=h',drawn:=d }) :
 wpAny (model prog w) A (pyIter (.ref a)) Q E s:=by
 have hT:=x.typeIs
 refine wpAny_pyIter_slot hT PySem.F.slot_set_iter (wpAny_call_entry PySem.F.slot_set_iter hT Fu ?_ (PySem.F.args_set_iter_1 _))
 unfold Builtin.«frozenset.__iter__»
 refine wpAny_bind (m:=Builtin.Frozenset.slot0 "__iter__" ⟨[.ref a],[]⟩) (wpAny_of_eq (a:=a) rfl ?_)
 refine wpAny_bind ?_
 unfold Builtin.Frozenset.sizeOf
 refine wpAny_bind ?_
 unfold setEntries
 refine wpAny_bind (Cf x hf (wpAny_pure (wpAny_pure ?_)))
 dsimp only
 refine wpAny_bind ?_
 unfold setDrawn
 refine wpAny_bind (Cf x hf ?_)
 dsimp only
 refine wpAny_bind ?_
 unfold setsByText
 refine wpAny_bind (wpAny_askSetting (wpAny_pure ?_))
 refine wpAny_pure ?_
 show wpAny _ _ (if (!BO w && DU es t)=true then _ else _) _ _ s
 have fin:∀(s1:Shared) (first:Value),(∀b o,s.heap.get? b=some o->s1.heap.get? b=some o)->s.heap.objs.size<=s1.heap.objs.size->(∃d,s1={ s with heap:=s1.heap,drawn:=d }) ->
  (∀h',(∀b o,s1.heap.get? b=some o->h'.get? b=some o)->h'.get? s1.heap.objs.size=some { cls:=.type "set_iterator",data:=.fields #[first,rawInt 0,.ref a,rawInt es.size,rawInt ep] } ->
   ∃tp out,s.heap.objs.size<=tp/\tp≠s1.heap.objs.size/\SIt w h' s1.heap.objs.size tp a es ep t out 0) ->
  wpAny (model prog w) A.in1 (setEpoch a >>= fun e=>newFields "set_iterator" [first,rawInt 0,Value.ref a,rawInt es.size,rawInt e] >>= fun v=>ret v)
   (fun fin s'=>∃v,fin=Fin.done (Flow.ret v)/\∃T' r,s'.TypeIs v T'/\typeLookup (Value.type T') (Str.ofString "__next__")=pure (some r)/\Q v s') E s1:=by
  intro s1 first k1 k2 k3 k4
  obtain ⟨d,k3⟩:=k3
  have x1:Br s1.heap a es ep t:=x.at fun o e=>k1 a o e
  refine wpAny_bind ?_
  unfold setEpoch
  refine wpAny_bind (Cf x1 hf (wpAny_pure ?_))
  dsimp only
  refine wpAny_bind (m:=newFields "set_iterator" [first,rawInt 0,Value.ref a,rawInt es.size,rawInt ep]) ?_
  unfold newFields
  refine wpAny_newObj_type (wpAny_pure ⟨_,rfl,"set_iterator",_,⟨_,Heap.get?_push_size _ rfl,rfl⟩,B1.lookup,?_⟩)
  obtain ⟨tp,out,z1,z3,z2⟩:=k4 (s1.heap.push { cls:=.type "set_iterator",data:=.fields #[first,rawInt 0,.ref a,rawInt es.size,rawInt ep] }) (fun b o e=>Heap.get?_push_of_some _ e) (Heap.get?_push_size _ rfl)
  have:=h _ d s1.heap.objs.size tp out (fun b o e=>Heap.get?_push_of_some _ (k1 b o e)) k2 z1 z3 (by rw [size_push'];exact Nat.lt_succ_self _) z2
  rw [k3]
  exact this
 cases eb:BO w with
 | true =>
   rw [if_neg (by simp)]
   refine wpAny_bind (wpAny_pure ?_)
   refine fin s (rawInt 0) (fun b o e=>e) (Nat.le_refl _) ⟨s.drawn,rfl⟩ fun h' k e=>⟨s.heap.objs.size+1,_,Nat.le_succ _,Nat.succ_ne_self _,rawInt 0,⟨_,e,rfl,rfl⟩,.inl ⟨eb,rfl,rfl⟩⟩
 | false =>
   have wk:CP t:=hw.resolve_left (by rw [eb];decide)
   cases ed:DU es t with
   | false =>
     rw [if_neg (by decide)]
     refine wpAny_bind (wpAny_pure ?_)
     refine fin s (rawInt 0) (fun b o e=>e) (Nat.le_refl _) ⟨s.drawn,rfl⟩ fun h' k e=>⟨s.heap.objs.size+1,_,Nat.le_succ _,Nat.succ_ne_self _,rawInt 0,⟨_,e,rfl,rfl⟩,.inr (.inr ⟨eb,ed,wk,rfl,rfl⟩)⟩
   | true =>
     rw [if_pos (by decide)]
     refine wpAny_bind (Ik es.size (List.range es.size) s (by simp) fun ps d hp=>?_)
     refine wpAny_bind (wpAny_newTuple ?_ (by rw [List.length_map,hp.length_eq,List.length_range];exact hz))
     refine fin _ (.ref s.heap.objs.size) (fun b o e=>Heap.get?_push_of_some _ e) (by show s.heap.objs.size<=(s.heap.push _).objs.size;rw [size_push'];exact Nat.le_succ _) ⟨d,rfl⟩ fun h' k e=>⟨s.heap.objs.size,_,Nat.le_refl _,(by show s.heap.objs.size≠(s.heap.push _).objs.size;rw [size_push'];exact Nat.ne_of_lt (Nat.lt_succ_self _)),.ref s.heap.objs.size,⟨_,e,rfl,rfl⟩,.inr (.inl ⟨eb,ed,rfl,ps,⟨_,_,k _ _ (Heap.get?_push_size _ rfl),rfl⟩,hp,rfl⟩)⟩
theorem GH {slot i:Nat} {Q:Option (Value × Nat)->Shared->Prop} (b:BO w=true) (x:Br s.heap a es ep t) (hf:t.fits es.size=true)
 (h:Q (((pickOrder (w.params.setOrder a ep) es)[i]?).map fun e=>(e.2,slot)) s):wpAny (model prog w) A (setNext a slot i ep) Q E s:=by
 unfold setNext
 refine wpAny_bind (Cf x hf ?_)
 dsimp only
 refine wpAny_bind ?_
 unfold setsByText
 refine wpAny_bind (wpAny_askSetting (wpAny_pure ?_))
 refine wpAny_ite_split (fun _=>?_) (fun hab=>absurd b hab)
 refine wpAny_ite_split (fun hab=>absurd hab (by simp)) (fun _=>?_)
 refine wpAny_bind ?_
 unfold setWalk
 refine wpAny_bind (Cf x hf ?_)
 dsimp only
 refine wpAny_bind ?_
 unfold setsByText
 refine wpAny_bind (wpAny_askSetting (wpAny_pure ?_))
 refine wpAny_ite_split (fun _=>?_) (fun hab=>absurd b hab)
 refine wpAny_bind (wpAny_askSetting (wpAny_pure (wpAny_pure ?_)))
 exact h
theorem II {slot i:Nat} {Q:Option (Value × Nat)->Shared->Prop} (b:BO w=false) (d:DU es t=false) (wk:CP t) (x:Br s.heap a es ep t) (hf:t.fits es.size=true)
 (h:Q (match es[SetTable.below t.place slot]?,t.place[SetTable.below t.place slot]? with | some (_,x),some j=>some (x,j+1) | _,_=>none) s):wpAny (model prog w) A (setNext a slot i ep) Q E s:=by
 unfold setNext
 refine wpAny_bind (Cf x hf ?_)
 dsimp only
 refine wpAny_bind ?_
 unfold setsByText
 refine wpAny_bind (wpAny_askSetting (wpAny_pure ?_))
 refine wpAny_ite_split (fun hab=>absurd (show BO w=true from hab) (by rw [b];decide)) (fun _=>?_)
 refine wpAny_ite_split (fun hab=>absurd (show DU es t=true from hab) (by rw [d];decide)) (fun _=>?_)
 refine wpAny_bind ?_
 show wpAny _ _ (if (!t.led && !es.isEmpty)=true then _ else _) _ _ s
 rw [if_neg (by rw [wk.2];simp)]
 refine wpAny_pure ?_
 exact wpAny_pure h
theorem Ka {p:Nat} {Q:Value->Shared->Prop} (x:Br s.heap a es ep t) (hf:t.fits es.size=true) (hp:p < es.size) (h:Q (es.getD p (0,Value.none)).2 s):wpAny (model prog w) A (setNextDrawn a p ep) Q E s:=by
 unfold setNextDrawn
 refine wpAny_bind (Cf x hf ?_)
 dsimp only
 refine wpAny_ite_split (fun hab=>absurd hab (by simp)) (fun _=>?_)
 have e:es[p]?=some (es.getD p (0,Value.none)):=by simp [Array.getD,hp]
 rw [e]
 exact wpAny_pure h
theorem BJ {I:Addr} {o:Obj} {xs:Array Value} {k:Nat} {g:Value} {Q:Unit->Shared->Prop} (ho:s.heap.get? I=some o) (hd:o.data=.fields xs) (hk:k < xs.size)
 (h:∀h' o',h'.get? I=some o'->o'.cls=o.cls->o'.data=.fields (xs.setIfInBounds k g)->Heap.SameBut I s.heap h'->Q () { s with heap:=h' }):wpAny (model prog w) A (setField (.ref I) k g) Q E s:=by
 refine wpAny_setField ho hd hk ?_
 exact h _ _ (Heap.get?_update_self _ ho (Obj.isFreed_of_fields (Obj.data_mapFields hd _))) (Obj.cls_mapFields ..) (by rw [Obj.data_mapFields hd]) (Heap.SameBut.update ..)
theorem My {I tp:Addr} {out:List Value} {i:Nat} {v:Value} {Q:Option Value->Shared->Prop} (x:Br s.heap a es ep t) (hf:t.fits es.size=true) (y:SIt w s.heap I tp a es ep t out i) (hv:out[i]?=some v) (n1:a≠I) (n2:tp≠I)
 (h:∀h',SIt w h' I tp a es ep t out (i+1)->Heap.SameBut I s.heap h'->Q (some v) { s with heap:=h' }):wpAny (model prog w) A (pyNext (.ref I)) Q E s:=by
 have hp:=y.perm
 obtain ⟨first,⟨o,ho,hc,hd⟩,y⟩:=y
 have hT:s.TypeIs (.ref I) "set_iterator":=⟨o,ho,hc⟩
 unfold pyNext
 refine wpAny_bind (wpAny_attempt (wpAny_callSpecial?_slot (name:=Str.ofString "__next__") hT B1 (wpAny_call_entry B1 hT DA ?_ (Ec _))))
 unfold Builtin.«set_iterator.__next__»
 refine wpAny_bind (wpAny_of_eq (a:=(Value.ref I,[])) rfl ?_)
 refine wpAny_bind (wpAny_fieldsOf ho hd ?_)
 dsimp only [rawInt]
 refine wpAny_bind ?_
 unfold setEntries
 refine wpAny_bind (Cf x hf (wpAny_pure ?_))
 dsimp only
 rw [if_neg (by simp)]
 rcases y with ⟨b1,rfl,b2⟩ | ⟨b1,b2,rfl,ps,⟨ot,nt,hot,hdt⟩,pp,b3⟩ | ⟨b1,b2,b3,rfl,b4⟩
 ·have hi:(pickOrder (w.params.setOrder a ep) es)[i]?.map (·.2)=some v:=by
   rw [b2,List.getElem?_map,Array.getElem?_toList] at hv
   exact hv
  cases e:(pickOrder (w.params.setOrder a ep) es)[i]? with
  | none=>rw [e] at hi;cases hi
  | some q =>
    rw [e] at hi
    have hq:q.2=v:=Option.some.inj hi
    refine wpAny_bind (show wpAny _ _ (setNext a 0 i ep) _ _ s from GH b1 x hf ?_)
    rw [e]
    show wpAny _ _ (setField (Value.ref I) 0 (Value.int (0:Nat) 0) >>= fun _=>setField (Value.ref I) 1 (Value.int ((i:Int)+1) 0) >>= fun _=>ret q.2) _ _ s
    refine wpAny_bind (BJ ho hd (by simp) fun h1 o1 g1 g2 g3 s1=>?_)
    refine wpAny_bind (BJ (s:={ s with heap:=h1 }) g1 g3 (by simp) fun h2 o2 k1 k2 k3 s2=>?_)
    rw [hq]
    exact wpAny_pure ⟨_,rfl,wpAny_pure (h h2 ⟨rawInt 0,⟨o2,k1,k2.trans (g2.trans hc),by rw [k3];simp [rawInt]⟩,.inl ⟨b1,rfl,b2⟩⟩ (s1.trans s2))⟩
 ·have hl:ps.length=es.size:=by rw [pp.length_eq,List.length_range]
  have hi:i < ps.length:=by
   rw [b3,List.getElem?_map] at hv
   cases e:ps[i]? with
   | none=>rw [e] at hv;cases hv
   | some q=>exact (List.getElem?_eq_some_iff.mp e).1
  have hv':v=(es.getD ps[i] (0,Value.none)).2:=by
   rw [b3,List.getElem?_map,List.getElem?_eq_getElem hi] at hv
   exact (Option.some.inj hv).symm
  have hlt:ps[i] < es.size:=List.mem_range.mp (pp.mem_iff.mp (List.getElem_mem hi))
  refine wpAny_bind (m:=seqItems? (Value.ref tp)) (wpAny_seqItems hot hdt ?_)
  dsimp only
  have e:(List.toArray (ps.map fun (p:Nat)=>rawInt (p:Int)))[(i:Int).toNat]?=some (Value.int (ps[i]:Nat) 0):=by simp [hi,rawInt]
  rw [e]
  refine wpAny_bind (show wpAny _ _ (setNextDrawn a ps[i] ep) _ _ s from Ka x hf hlt ?_)
  refine wpAny_bind (BJ ho hd (by simp) fun h1 o1 g1 g2 g3 s1=>?_)
  rw [<- hv']
  refine wpAny_pure ⟨_,rfl,wpAny_pure ?_⟩
  exact h h1 ⟨.ref tp,⟨o1,g1,g2.trans hc,by rw [g3];simp [rawInt]⟩,.inr (.inl ⟨b1,b2,rfl,ps,⟨ot,nt,(s1.2 tp n2).trans hot,hdt⟩,pp,b3⟩)⟩ s1
 ·have hi:i < es.size:=by
   rw [b4,List.getElem?_map] at hv
   cases e:es.toList[i]? with
   | none=>rw [e] at hv;cases hv
   | some q =>
     have:=(List.getElem?_eq_some_iff.mp e).1
     simpa using this
  have hv':v=(es[i]).2:=by
   rw [b4,List.getElem?_map,List.getElem?_eq_getElem (by simpa using hi)] at hv
   simpa using (Option.some.inj hv).symm
  have hpl:t.place.size=es.size:=by
   unfold SetTable.fits at hf
   simp at hf
   exact hf.1
  have hb:SetTable.below t.place (FI t i)=i:=by
   cases i with
   | zero=>exact FC b3.1
   | succ i=>exact Fv b3.1 (by omega)
  refine wpAny_bind (show wpAny _ _ (setNext a (FI t i) i ep) _ _ s from II b1 b2 b3 x hf ?_)
  rw [hb,Array.getElem?_eq_getElem hi,Array.getElem?_eq_getElem (by omega)]
  show wpAny _ _ (setField (Value.ref I) 0 (Value.int ((t.place[i]'(by omega)+1:Nat)) 0) >>= fun _=>setField (Value.ref I) 1 (Value.int ((i:Int)+1) 0) >>= fun _=>ret (es[i]).2) _ _ s
  refine wpAny_bind (BJ ho hd (by simp) fun h1 o1 g1 g2 g3 s1=>?_)
  refine wpAny_bind (BJ (s:={ s with heap:=h1 }) g1 g3 (by simp) fun h2 o2 k1 k2 k3 s2=>?_)
  rw [<- hv']
  have es':FI t (i+1)=t.place[i]'(by omega)+1:=by
   show t.place.getD i 0+1=_
   rw [Array.getD_eq_getD_getElem?,Array.getElem?_eq_getElem (by omega)]
   rfl
  refine wpAny_pure ⟨_,rfl,wpAny_pure (h h2 ⟨rawInt (FI t (i+1)),⟨o2,k1,k2.trans (g2.trans hc),?_⟩,.inr (.inr ⟨b1,b2,b3,rfl,b4⟩)⟩ (s1.trans s2))⟩
  rw [k3,es']
  simp [rawInt]
theorem EH {Q:Option Value->Shared->Prop} {I:Addr} {h0:Heap} (hh:A.handled=none) (ex:Heap.ExtBut I h0 s.heap) (h:∀h',Heap.ExtBut I h0 h'->Q none { s with heap:=h' }) :
 wpAny (model prog w) A.in1 (newExc (.type "StopIteration") [] >>= fun e=>(raiseNew e:Sem PySem.Fin)) (fun fin s'=>∃v,fin=Fin.done (Flow.ret v)/\wpAny (model prog w) A (pure (some v)) Q E s')
  (fun e s'=>wpAny (model prog w) A (isInstance e (.type "StopIteration") >>= fun b=>if b=true then pure none else throw e) Q E s') s:=by
 refine wpAny_bind ?_
 simp only [newExc,newTuple]
 refine wpAny_bind (wpAny_newObj_type ?_ (by size_fits))
 refine wpAny_bind (m:=firstArgMember _ _) (wpAny_of_eq (a:=Value.none) (by first | rfl | (simp only [firstArgMember];rfl)) ?_)
 refine wpAny_newObj_type ?_ (by size_fits)
 simp only [raiseNew]
 refine wpAny_bind (wpAny_handled ?_)
 rw [show A.in1.handled=none from hh]
 refine wpAny_bind (wpAny_pure (wpAny_throw ?_))
 refine wpAny_bind (wpAny_isInstance (T:="StopIteration") (b:=true) ⟨_,Heap.get?_push_size _ rfl,rfl⟩ isSubtype_stop ?_)
 exact wpAny_pure (h _ ((ex.push _).push _))
theorem OK {I tp:Addr} {out:List Value} {Q:Option Value->Shared->Prop} (hh:A.handled=none) (x:Br s.heap a es ep t) (hf:t.fits es.size=true) (y:SIt w s.heap I tp a es ep t out es.size)
 (h:∀h',Heap.ExtBut I s.heap h'->Q none { s with heap:=h' }):wpAny (model prog w) A (pyNext (.ref I)) Q E s:=by
 obtain ⟨first,⟨o,ho,hc,hd⟩,y⟩:=y
 have hT:s.TypeIs (.ref I) "set_iterator":=⟨o,ho,hc⟩
 unfold pyNext
 refine wpAny_bind (wpAny_attempt (wpAny_callSpecial?_slot (name:=Str.ofString "__next__") hT B1 (wpAny_call_entry B1 hT DA ?_ (Ec _))))
 unfold Builtin.«set_iterator.__next__»
 refine wpAny_bind (wpAny_of_eq (a:=(Value.ref I,[])) rfl ?_)
 refine wpAny_bind (wpAny_fieldsOf ho hd ?_)
 dsimp only [rawInt]
 refine wpAny_bind ?_
 unfold setEntries
 refine wpAny_bind (Cf x hf (wpAny_pure ?_))
 dsimp only
 rw [if_neg (by simp)]
 rcases y with ⟨b1,rfl,b2⟩ | ⟨b1,b2,rfl,ps,⟨ot,nt,hot,hdt⟩,pp,b3⟩ | ⟨b1,b2,b3,rfl,b4⟩
 ·have hz:(pickOrder (w.params.setOrder a ep) es).size=es.size:=by
   have:=(Gw (w.params.setOrder a ep) es).length_eq
   simpa using this
  refine wpAny_bind (show wpAny _ _ (setNext a 0 es.size ep) _ _ s from GH b1 x hf ?_)
  rw [Array.getElem?_eq_none (by omega)]
  show wpAny _ _ (setField (Value.ref I) 2 Value.none >>= fun _=>newExc (.type "StopIteration") [] >>= fun e=>raiseNew e) _ _ s
  refine wpAny_bind (BJ ho hd (by simp) fun h1 o1 g1 g2 g3 s1=>?_)
  exact EH (s:={ s with heap:=h1 }) hh s1.extBut fun h' e=>h h' e
 ·have hl:ps.length=es.size:=by rw [pp.length_eq,List.length_range]
  refine wpAny_bind (m:=seqItems? (Value.ref tp)) (wpAny_seqItems hot hdt ?_)
  dsimp only
  have e:(List.toArray (ps.map fun (p:Nat)=>rawInt (p:Int)))[(es.size:Int).toNat]?=none:=by simp [hl]
  rw [e]
  refine wpAny_bind (BJ ho hd (by simp) fun h1 o1 g1 g2 g3 s1=>?_)
  refine wpAny_bind (BJ (s:={ s with heap:=h1 }) g1 g3 (by simp) fun h2 o2 k1 k2 k3 s2=>?_)
  exact EH (s:={ s with heap:=h2 }) hh (s1.trans s2).extBut fun h' e=>h h' e
 ·have hpl:t.place.size=es.size:=by
   unfold SetTable.fits at hf
   simp at hf
   exact hf.1
  have hb:SetTable.below t.place (FI t es.size)=es.size:=by
   cases e:es.size with
   | zero=>exact FC b3.1
   | succ i=>exact Fv b3.1 (by omega)
  refine wpAny_bind (show wpAny _ _ (setNext a (FI t es.size) es.size ep) _ _ s from II b1 b2 b3 x hf ?_)
  rw [hb,Array.getElem?_eq_none (Nat.le_refl _)]
  show wpAny _ _ (setField (Value.ref I) 2 Value.none >>= fun _=>newExc (.type "StopIteration") [] >>= fun e=>raiseNew e) _ _ s
  refine wpAny_bind (BJ ho hd (by simp) fun h1 o1 g1 g2 g3 s1=>?_)
  exact EH (s:={ s with heap:=h1 }) hh s1.extBut fun h' e=>h h' e
theorem SIt.at {h h':Heap} {I tp:Addr} {out:List Value} {i:Nat} (x:SIt w h I tp a es ep t out i) (e1:∀o,h.get? I=some o->h'.get? I=some o) (e2:∀o,h.get? tp=some o->h'.get? tp=some o):SIt w h' I tp a es ep t out i:=by
 obtain ⟨f,⟨o,ho,hc⟩,⟨b1,b2⟩ | ⟨b1,b2,b3,ps,⟨ot,nt,hot,hdt⟩,b4⟩ | ⟨b1,b2⟩⟩:=x
 ·exact ⟨f,⟨o,e1 o ho,hc⟩,.inl ⟨b1,b2⟩⟩
 ·exact ⟨f,⟨o,e1 o ho,hc⟩,.inr (.inl ⟨b1,b2,b3,ps,⟨ot,nt,e2 ot hot,hdt⟩,b4⟩)⟩
 ·exact ⟨f,⟨o,e1 o ho,hc⟩,.inr (.inr ⟨b1,b2⟩)⟩
theorem SIt.typeIs {s:Shared} {I tp:Addr} {out:List Value} {i:Nat} (x:SIt w s.heap I tp a es ep t out i):s.TypeIs (.ref I) "set_iterator":=by
 obtain ⟨f,⟨o,ho,hc,_⟩,_⟩:=x
 exact ⟨o,ho,hc⟩
theorem DD:Slot "set_iterator" "__iter__" "set_iterator.__iter__" :=
 .of (owner:="set_iterator") (n:="__iter__") (by rw [typeLookup_type,builtinLookup_eq_fast];kernel_rfl) (by decide +kernel) (by decide +kernel) (by decide +kernel)
  (by first | exact .inl (by decide +kernel) | exact .inr (by decide +kernel)) (by rw [isSubtype_type];kernel_rfl)
theorem Fe:entryFor table "set_iterator.__iter__"=some Builtin.«dict_keyiterator.__iter__» :=
 entryFor_alias (id':="dict_keyiterator.__iter__") (by kernel_rfl) (by first | rfl | decide +kernel | (unfold String.splitOn;simp +decide [String.splitOnAux])) (by decide +kernel) (by kernel_rfl)
theorem FG (a:Value):argsOk "set_iterator.__iter__" ⟨[a],[]⟩:=by
 unfold argsOk
 kernel_rfl
theorem Lw {I tp:Addr} {out:List Value} (hh:A.handled=none) (hf:t.fits es.size=true) (n1:a≠I) (n2:tp≠I) :
 Walks prog w A I [I,a,tp] [I] es.size (fun i v=>out[i]?=some v) (fun i h=>SIt w h I tp a es ep t out i/\Br h a es ep t) where
 sub:=fun b hb=>by simp at hb;simp [hb]
 frame:=fun _ _ _ st hk=>⟨st.1.at (fun o e=>hk I (by simp) o e) (fun o e=>hk tp (by simp) o e),st.2.at fun o e=>hk a (by simp) o e⟩
 item:=fun i s Q E hi st hQ=>by
  have hl:out.length=es.size:=by rw [st.1.perm.length_eq];simp
  refine My (v:=out[i]) st.2 hf st.1 (by simp [hl,hi]) n1 n2 fun h' it' hs'=>?_
  exact hQ _ h' s.toks (by simp [hl,hi]) ⟨it',st.2.at fun o q=>hs'.extBut a o n1 q⟩ fun b o hb q=>hs'.extBut b o (fun h=>hb (by simp [h])) q
 done:=fun s Q E st hQ=>OK hh st.2 hf st.1 fun h' he'=>hQ h' s.toks fun b o hb q=>he' b o (fun h=>hb (by simp [h])) q
 self:=fun i s Q E st hQ=>by
  refine wpAny_pyIter_slot st.1.typeIs DD (wpAny_call_entry DD st.1.typeIs Fe ?_ (FG _))
  show wpAny _ _ (ret (.ref I)) _ _ s
  exact wpAny_pure ⟨_,rfl,"set_iterator",_,st.1.typeIs,B1.lookup,hQ⟩
theorem NG {r:Addr} {Q:Bool->Shared->Prop} (hT:s.TypeIs (.ref r) "set") (h:Q false s):wpAny (model prog w) A (Builtin.List.listLengthHint (.ref r)) Q E s:=by
 unfold Builtin.List.listLengthHint
 refine wpAny_bind (wpAny_specialOf hT PySem.F.slot_set_len.lookup ?_)
 generalize hid:("set.__len__":String)=id0
 wp_delta
 rw [show splitId id0=some ("set","__len__") from by subst hid;decide +kernel]
 subst hid
 refine wpAny_bind (wpAny_isInstance (T:="set") (b:=true) hT (by rw [isSubtype_type];kernel_rfl) ?_)
 refine wpAny_ite_split (fun hab=>absurd hab (by decide)) (fun _=>?_)
 refine wpAny_ite_split (fun _=>?_) (fun hab=>absurd (by decide +kernel) hab)
 refine wpAny_bind (wpAny_typeOf hT ?_)
 exact wpAny_pure h
theorem Ly {out:List Value} {acc:Array Value} (hl:out.length=es.size) (h:ItemsOf (fun i v=>out[i]?=some v) acc es.size):acc.toList=out:=by
 obtain ⟨h1,h2⟩:=h
 apply List.ext_getElem?
 intro i
 by_cases hi:i < acc.size
 ·have:=h2 i acc[i] (by simp [hi])
  rw [this]
  simp [hi]
 ·rw [List.getElem?_eq_none (by simpa using Nat.le_of_not_lt hi),List.getElem?_eq_none (by omega)]
theorem Ii {l:List Int} {R:List Value->Shared->Prop} (x:E1 prog w s.heap a l) (hh:A.handled=none)
 (h:∀(h':Heap) (tk:Nat) (d:Drawn) (vs:List Value) (ms:List Int),IntsAre vs ms->ms.Perm l->(∀b o,s.heap.get? b=some o->h'.get? b=some o)->s.heap.objs.size < h'.objs.size->R vs { s with heap:=h',toks:=tk,drawn:=d }) :
 wpAny (model prog w) A (collect (.ref a)) R E s:=by
 obtain ⟨o,es,ep,t,ms,ho,hex,hd,hel,hi,hp,hb,hf,hw⟩:=x
 have raw:Br s.heap a es ep t:=⟨o,ho,hex,hd⟩
 have hz:=fits_of_scanBound hb
 have hlt:a < s.heap.objs.size:=Heap.lt_size ho
 unfold collect
 refine wpAny_bind (wpAny_runValue (codeAny_builtin entry_proto_collect' ?_))
 rw [Around.under_plainId PySem.F.plain_proto_collect _]
 show wpAny _ A.in1 (newList [] >>= fun l=>again (.builtin "list.__iadd__" ⟨[l,.ref a],[]⟩)) _ _ s
 refine wpAny_bind (wpAny_newObj_type ?_)
 refine wpAny_pure ⟨plainId_quiet PySem.F.plain_list_iadd _,codeAny_builtin entry_list_iadd' ?_⟩
 rw [Around.under_plainId PySem.F.plain_list_iadd _]
 have hS₁:(s.heap.push { cls:=.type "list",data:=.seq ([]:List Value).toArray }).get? s.heap.objs.size=some { cls:=.type "list",data:=.seq #[] }:=Heap.get?_push_size _ rfl
 show wpAny _ A.in1 (Builtin.List.listExtendWith (.ref s.heap.objs.size) (.ref a) (.ref s.heap.objs.size)) _ _ _
 have raw1:Br (s.heap.push { cls:=.type "list",data:=.seq ([]:List Value).toArray }) a es ep t:=raw.at fun o e=>Heap.get?_push_of_some _ e
 unfold Builtin.List.listExtendWith
 refine wpAny_bind (wpAny_typeOf (T:="set") (Br.typeIs (s:={ s with heap:=s.heap.push { cls:=.type "list",data:=.seq ([]:List Value).toArray } }) raw1) ?_)
 have h1:Builtin.List.listSameRef (.ref s.heap.objs.size) (.ref a)=false:=by simp [Builtin.List.listSameRef,Nat.ne_of_gt hlt]
 simp only [h1,show (Value.type "set" == Value.type "list")=false by decide,show (Value.type "set" == Value.type "tuple")=false by decide,Bool.or_false,Bool.false_eq_true,if_false]
 refine wpAny_bind (MI (s:={ s with heap:=s.heap.push { cls:=.type "list",data:=.seq ([]:List Value).toArray } }) raw1 hf hz hw fun h2 d I tp out k2 gI gtp n2 ltI it=>?_)
 have sz1:(s.heap.push { cls:=.type "list",data:=.seq ([]:List Value).toArray }).objs.size=s.heap.objs.size+1:=size_push' _ _
 have gI':s.heap.objs.size+1<=I:=by rw [<- sz1];exact gI
 have gtp':s.heap.objs.size+1<=tp:=by rw [<- sz1];exact gtp
 have raw2:Br h2 a es ep t:=raw1.at fun o e=>k2 a o e
 have hS₂:=k2 _ _ hS₁
 have hSf:s.heap.objs.size ∉ [I,a,tp]:=by
  simp only [List.mem_cons,List.not_mem_nil,or_false,not_or]
  exact ⟨Nat.ne_of_lt (Nat.lt_of_lt_of_le (Nat.lt_succ_self _) gI'),Nat.ne_of_gt hlt,Nat.ne_of_lt (Nat.lt_of_lt_of_le (Nat.lt_succ_self _) gtp')⟩
 have n1:a≠I:=Nat.ne_of_lt (Nat.lt_of_lt_of_le (Nat.lt_succ_of_lt hlt) gI')
 have hl:out.length=es.size:=by rw [it.perm.length_eq];simp
 obtain ⟨ms',i',p'⟩:=E5 it.perm hi
 have W:=(Lw (prog:=prog) (w:=w) (A:=A.in1) (out:=out) (ep:=ep) hh hf n1 n2).toS
 have key:∀(h3:Heap) (c₁ tk:Nat),SIt w h3 I tp a es ep t out 0->Br h3 a es ep t->(∀b o,b≠s.heap.objs.size->h2.get? b=some o->h3.get? b=some o)->h3.get? s.heap.objs.size=some { cls:=.type "list",data:=.seq #[] c₁ } ->
  codeAny (model prog w) A (.builtin "list.extend.loop" ⟨[.ref s.heap.objs.size,.ref I,.ref s.heap.objs.size],[]⟩)
   (wants (fun v s'=>v=.ref s.heap.objs.size/\∃h' tk' c',s'={ s with heap:=h',toks:=tk',drawn:=d }/\(∀b o,s.heap.get? b=some o->h'.get? b=some o)/\h'.get? s.heap.objs.size=some { cls:=.type "list",dict:=none,data:=.seq out.toArray c',slots:=#[] }) (fun _ _=>False))
   { s with heap:=h3,toks:=tk,drawn:=d }:=by
  intro h3 c₁ tk it3 raw3 k3 hS₃
  refine codeAny_extend_loopS W hz _ hSf _ es.size 0 _ #[] c₁ rfl (Nat.zero_le _) ⟨it3,raw3⟩ hS₃ (ItemsOf.nil _) fun s' acc' c' hm hS' hacc=>?_
  have ea:acc'=out.toArray:=by rw [<- Ly hl hacc]
  refine ⟨rfl,s'.heap,s'.toks,c',?_,fun b o e=>?_,by rw [<- ea];exact hS'⟩
  ·have:=Moved.eq_with (wr:=s.heap.objs.size :: [I]) hm
   rw [this]
  ·have lb:b < s.heap.objs.size:=Heap.lt_size e
   refine hm.heap b o ?_ (k3 b o (Nat.ne_of_lt lb) (k2 b o (Heap.get?_push_of_some _ e)))
   simp only [List.mem_cons,List.not_mem_nil,or_false,not_or]
   exact ⟨Nat.ne_of_lt lb,Nat.ne_of_lt (Nat.lt_of_lt_of_le (Nat.lt_succ_of_lt lb) gI')⟩
 refine wpAny_bind (wpAny_holding (NG (Br.typeIs (s:={ s with heap:=h2,drawn:=d }) raw2) ?_))
 have oth:∀(h3:Heap) (g:Obj->Obj) b o,b≠s.heap.objs.size->h3.get? b=some o->(h3.update s.heap.objs.size g).get? b=some o:=fun h3 g b o hb e=>(Heap.get?_update_other _ _ (Ne.symm hb)).trans e
 refine wpAny_ite_split (fun _=>?_) (fun _=>wpAny_pure ⟨plainId_quiet PySem.F.plain_extend_loop _,codeAny_mono (key h2 0 _ it raw2 (fun b o _ e=>e) hS₂) ?_⟩)
 ·refine wpAny_bind (wpAny_rule ?_)
  refine wpAny_bind ?_
  show wpAny _ _ (updateSeq s.heap.objs.size (·.push .none) >>= fun _=>updateSeq s.heap.objs.size (·.pop)) _ _ _
  refine wpAny_bind (wpAny_updateSeq hS₂ rfl ?_)
  have hS₃:=Heap.get?_update_self (Obj.mapSeq (·.push Value.none)) hS₂ rfl
  refine wpAny_updateSeq (hz:=by seq_fits) hS₃ rfl ?_
  have hS₄:=Heap.get?_update_self (Obj.mapSeq (·.pop)) hS₃ rfl
  have k4:∀b o,b≠s.heap.objs.size->h2.get? b=some o->((h2.update s.heap.objs.size (Obj.mapSeq (·.push Value.none))).update s.heap.objs.size (Obj.mapSeq (·.pop))).get? b=some o:=fun b o hb e=>oth _ _ b o hb (oth _ _ b o hb e)
  have nI:I≠s.heap.objs.size:=Nat.ne_of_gt (Nat.lt_of_lt_of_le (Nat.lt_succ_self _) gI')
  have ntp:tp≠s.heap.objs.size:=Nat.ne_of_gt (Nat.lt_of_lt_of_le (Nat.lt_succ_self _) gtp')
  refine wpAny_pure ⟨plainId_quiet PySem.F.plain_extend_loop _,codeAny_mono (key _ _ _ (it.at (fun o e=>k4 I o nI e) (fun o e=>k4 tp o ntp e)) (raw2.at fun o e=>k4 a o (Nat.ne_of_lt hlt) e) k4 hS₄) ?_⟩
  intro q s₂ y
  cases q with
  | error e=>exact y.elim
  | ok fl =>
    cases fl with
    | ret v =>
      obtain ⟨rfl,h',tk',c',rfl,hk,hS'⟩:=y
      show wpAny _ A (load s.heap.objs.size >>= _) _ _ _
      refine wpAny_bind (wpAny_load hS' ?_)
      exact wpAny_pure (h h' tk' d out ms' i' (p'.trans hp) hk (Heap.lt_size hS'))
    | _=>exact y.elim
 ·intro q s₂ y
  cases q with
  | error e=>exact y.elim
  | ok fl =>
    cases fl with
    | ret v =>
      obtain ⟨rfl,h',tk',c',rfl,hk,hS'⟩:=y
      show wpAny _ A (load s.heap.objs.size >>= _) _ _ _
      refine wpAny_bind (wpAny_load hS' ?_)
      exact wpAny_pure (h h' tk' d out ms' i' (p'.trans hp) hk (Heap.lt_size hS'))
    | _=>exact y.elim
theorem Jx {l:List Int} {R:Value->Shared->Prop} (x:E1 prog w s.heap a l) (hh:A.handled=none) (h64:l.length < 64)
 (h:∀(h':Heap) (tk:Nat) (d:Drawn) (L:Addr) (c:Nat) (out:Array Value) (ns:List Int),IntsAre out.toList ns->ns.Perm l->ns.Pairwise (·<=·)->(∀b o,s.heap.get? b=some o->h'.get? b=some o)->s.heap.objs.size<=L ->
  h'.get? L=some (seqObj "list" out c)->R (.ref L) { s with heap:=h',toks:=tk,drawn:=d }) :
 wpAny (model prog w) A (call (.builtin "sorted") [.ref a]) R E s:=by
 refine Calls.call_function_entry kind_sorted plain_sorted entry_sorted (args_sorted1 _) ?_
 unfold Builtin.«sorted»
 refine wpAny_bind (m:=checkCount "sorted" 1 1 _) (wpAny_pure ?_)
 refine wpAny_bind (Ii (A:=A.in1) x hh fun h' tk d vs ms iv pm hk ge=>?_)
 have hl:vs.length < 64:=by rw [iv.length,pm.length_eq];exact h64
 refine wpAny_bind (wpAny_newList ?_ (by rw [sizeLine_eq];omega))
 have ho:(h'.push (seqObj "list" vs.toArray 0)).get? h'.objs.size=some (seqObj "list" vs.toArray 0):=Heap.get?_push_size _ rfl
 refine wpAny_bind (wpAny_holding (wpAny_call_entry slot_list_sort ⟨_,ho,rfl⟩ entry_list_sort (list_sort_tree (s:={ s with heap:=h'.push (seqObj "list" vs.toArray 0),toks:=tk,drawn:=d }) ho iv hl fun out ns i1 i2 i3=>⟨_,rfl,?_⟩) (args_list_sort _)))
 obtain ⟨e,he⟩:=sortedHeap_at (out:=out) ho
 refine wpAny_pure ⟨_,rfl,h _ tk d _ e out ns i1 (i2.trans pm) i3 (fun b o q=>?_) (Nat.le_of_lt ge) he⟩
 have k1:(h'.push (seqObj "list" vs.toArray 0)).get? b=some o:=Heap.get?_push_of_some _ (hk b o q)
 rw [sortedHeap_old (Nat.ne_of_lt (Heap.lt_size (hk b o q))) (Heap.lt_size k1)]
 exact k1
end
end L2
namespace L2
open PySem PySem.W PySem.Spec PyProof.Rows
theorem IF (val:Nat->Int):∀i,(firstMet val i).Nodup
 | 0=>by rw [firstMet_zero];exact List.nodup_nil
 | i+1=>by
   rw [firstMet_succ]
   unfold step_dedup
   have ih:=IF val i
   split
   ·exact ih
   ·rename_i c
    refine List.nodup_append.mpr ⟨ih,by simp,fun a ha b hb e=>?_⟩
    have:b=val i:=by simpa using hb
    subst this
    exact c (List.any_eq_true.mpr ⟨a,ha,by simp [e]⟩)
theorem JY (ns:List Int):(List.range ns.length).map (fun i=>ns.getD i 0)=ns:=by
 apply List.ext_getElem
 ·simp
 ·intro i h1 h2
  simp [h2]
theorem Po {ns:List Int} {z:Int}:z∈firstMet (fun i=>ns.getD i 0) ns.length↔z∈ns:=by
 have e:=firstMet_any (fun i=>ns.getD i 0) ns.length z
 rw [JY] at e
 constructor
 ·intro h
  have a:(firstMet (fun i=>ns.getD i 0) ns.length).any (· == z)=true:=List.any_eq_true.mpr ⟨z,h,by simp⟩
  rw [e] at a
  obtain ⟨y,hy,ey⟩:=List.any_eq_true.mp a
  have:y=z:=by simpa using ey
  exact this ▸ hy
 ·intro h
  have a:ns.any (· == z)=true:=List.any_eq_true.mpr ⟨z,h,by simp⟩
  rw [<- e] at a
  obtain ⟨y,hy,ey⟩:=List.any_eq_true.mp a
  have:y=z:=by simpa using ey
  exact this ▸ hy
theorem D0:∀{l:List Int},l.Pairwise (·<=·)->l.Nodup->l.Pairwise (· < ·)
 | [],_,_=>.nil
 | x :: l,h,n=>by
   rw [List.pairwise_cons] at h ⊢
   rw [List.nodup_cons] at n
   exact ⟨fun y hy=>by
    have a:=h.1 y hy
    have b:x≠y:=fun e=>n.1 (e ▸ hy)
    omega,D0 h.2 n.2⟩
section
variable {X:Cx} {e:Expr} {te:TE} {p p2 pos pos2:Pos}
theorem Inv.draw {pins:List (Addr × Obj)} {σ:St} {H:Hp} {s:Shared} (I:Inv X pins σ H s) (d:Drawn):Inv X pins σ H { s with drawn:=d } :=
 ⟨I.ok,I.os,I.bare,I.base,I.loc,I.cell,I.free,I.freeC,I.pin,I.hok,I.len⟩
def Kd (K:PySem.W.Frag) (te:TE):TE:=fun σ H Q=>te σ H fun x H1=>∃(a:Addr) (ns:List Int),x=.ref a/\SqL K H1 a (ns.map V.int)/\ns.length < 64 /\
 ∀(l:Addr) (ms:List Int),ms.Pairwise (· < ·)->(∀z,z∈ms↔z∈ns)->H1 l=none->Q (.ref l) (upd H1 l (.lst (ms.map V.int)))
theorem HG (hc:X.calm=true) (hg:Gl X "sorted") (hm:X.mg "sorted"=none) (hg2:Gl X "set") (hm2:X.mg "set"=none) (he:PE X e te)
 (hs:starEach [e] X.env=[(false,eval e X.env)]:=by rfl)
 (hs2:starEach [(.Call (.Name "set" p2) [e] [] pos2:Expr)] X.env=[(false,eval (.Call (.Name "set" p2) [e] [] pos2) X.env)]:=by rfl) :
 PE X (.Call (.Name "sorted" p) [.Call (.Name "set" p2) [e] [] pos2] [] pos) (Kd X.K te):=by
 intro pins s σ H Q I h
 refine wpAny_Call_Name_kw (CH I hg hm boot_sorted ?_ (by decide) (by decide))
 refine callWith_builtin1 ?_ hs2 rfl
 rw [hs2]
 refine Calls.spliced_cons ?_
 refine wpAny_Call_Name_kw (CH I hg2 hm2 boot_set ?_ (by decide) (by decide))
 refine callWith_type1 ?_ hs rfl
 rw [hs]
 refine Calls.spliced_cons (thn (he pins s σ H _ I h) fun u s1 ⟨x,H1,I1,r1,a,ns,hx,hq,h64,q⟩=>?_)
 subst hx
 cases r1
 refine Calls.spliced_nil ?_
 obtain ⟨its,rv,pl,hz⟩:=I1.list hq
 have hi:=Cp rv
 have hlen:its.length=ns.length:=hi.length
 refine Jp (items:=its.toArray) (ns:=ns) (I1.ok.hd hc) pl.isList (by simpa using hi) (by rw [List.size_toArray,hlen];unfold scanBound;omega) fun h2 tk2 hS k2=>?_
 refine Calls.spliced_nil ?_
 have ez:its.toArray.size=ns.length:=by rw [List.size_toArray];exact hlen
 rw [ez] at hS
 have l64:(firstMet (fun i=>ns.getD i 0) ns.length).length < 64:=by
  have:=firstMet_length_le (fun i=>ns.getD i 0) ns.length
  omega
 have lt2:s1.heap.objs.size < h2.objs.size:=by
  obtain ⟨o,_,_,_,_,ho,_⟩:=hS
  exact Heap.lt_size ho
 refine Jx (s:={ s1 with heap:=h2,toks:=tk2 }) hS (I1.ok.hd hc) l64 fun h3 tk3 d L c out ms i1 i2 i3 k3 gL hL=>?_
 have kp:∀b o,s1.heap.get? b=some o->h3.get? b=some o:=fun b o q=>k3 b o (k2 b o (Heap.lt_size q) q)
 have ge:s1.heap.objs.size<=L:=Nat.le_trans (Nat.le_of_lt lt2) gL
 refine ⟨.ref L,_,(I1.laid (t':=tk3) kp ge (show AI X.prog X.w _ h3 _ (.lst (ms.map V.int)) from ⟨?_,out.toList,c,DR i1,hL⟩)).draw d,rfl,q L ms (D0 i3 (i2.nodup_iff.mpr (IF _ _))) (fun z=>i2.mem_iff.trans Po) (I1.hok.fresh ge)⟩
 rw [List.length_map,i2.length_eq,sizeLine_eq]
 omega
end
end L2
namespace L2
open PySem PySem.Spec PyProof.Rows
section
variable {X:Cx} {pins:List (Addr × Obj)} {σ:St} {H:Hp} {s:Shared} {h':Heap}
theorem Inv.laidTurned {t':Nat} {fp:List Addr} {a:Addr} {o:HO} (I:Inv X pins σ H s) (k:∀b u,b ∉ fp->s.heap.get? b=some u->h'.get? b=some u) (hf:∀b∈fp,E3 X pins H b) (hp:s.heap.objs.size<=a)
 (new:AI X.prog X.w (upd H a o) h' a o):Inv X pins σ (upd H a o) { s with heap:=h',toks:=t' }:=by
 have nin:∀b u,H b=some u->b ∉ fp:=fun b u e z=>by rw [(hf b z).1] at e;cases e
 have hn:H a=none:=I.hok.fresh hp
 refine I.step (g':=s.gens) (d':=s.drawn) (ch:=fp) (fun b hb=>?_) (fun b o _ _ hc e _=>k b o hc e) (fun b o _ _ hc e _=>⟨o.slots,k b o hc e⟩)
  (fun b u _ q n=>by rw [Ai (Nat.ne_of_lt (Nat.lt_of_lt_of_le (Heap.lt_size q) hp))];exact n)
  (fun b o hc e=>⟨o,k b o hc e⟩) (fun b xs q=>by rw [Ai (AF q hn)];exact q) (fun b u xs q=>by rw [Ai (AF q hn)];exact q) (fun b ps q=>⟨#[],by rw [Ai (AF q hn),q];simp⟩) (fun m hm=>?_) (fun b u e=>?_) I.bare
 ·obtain ⟨_,f1,_,f3,f4,f5⟩:=hf b hb
  exact ⟨f3,f1,f4,f5⟩
 ·obtain ⟨o,es,ep,ho,r⟩:=hm
  exact ⟨o,es,ep,k _ o (fun z=>(hf _ z).2.1 rfl) ho,r⟩
 ·by_cases hb:b=a
  ·subst hb;rw [Ab] at e;cases e;exact new
  ·rw [Ai hb] at e
   refine (I.hok b u e).stay (fun c v hc q=>k c v ?_ q) (fun c q=>by rw [Ai (AF q hn)];exact q) fun c xs q=>by rw [Ai (AF q hn)];exact q
   rcases hc with z | z
   ·rw [z];exact nin b u e
   ·exact nin c _ z
end
def Ite (K:PySem.W.Frag) (a:Addr):It :=
 ⟨fun i H=>∃xs x,SqL K H a xs/\xs[i]?=some x,fun i H x H'=>∃T y,x=.ref T/\H T=none/\H'=upd H T (.tup [.int (i:Int),y])/\∀xs,SqL K H a xs->xs[i]?=some y,fun i H=>∃xs,SqL K H a xs/\xs.length<=i⟩
theorem KU {P:Program} {w:World} {K:PySem.W.Frag} {es:List Expr} {k:Nat} {pos:Pos} (a e it:Addr) (hne:e≠it) :
 Io P w K (.Tuple es k pos) (Ite K a) [e,it] e (fun i h=>(∃old,IsEnum h e it (i:Nat) old)/\h.IsListIter it a i) where
 mem:=by simp
 obj:=fun i h st b hb=>by
  obtain ⟨⟨old,he⟩,o,e1,c,d⟩:=st
  rcases List.mem_cons.mp hb with z | z
  ·subst z
   exact ⟨_,he,fun v z=>by cases (show Data.fields _=Data.cell v from z)⟩
  ·have z':b=it:=by simpa using z
   subst z'
   exact ⟨o,e1,fun v z=>by rw [d] at z;cases z⟩
 keep:=fun i h h' st kk=>by
  obtain ⟨⟨old,he⟩,st⟩:=st
  exact ⟨⟨old,kk e (by simp) _ he⟩,st.at fun o q=>kk it (by simp) o q⟩
 item:=by
  intro X hP hw hK hc i pins s σ H E I hf st hg
  subst hP hw hK
  obtain ⟨xs,x,hq,hx⟩:=hg
  obtain ⟨its,rv,p,hz⟩:=I.list hq
  obtain ⟨u,hu,ru⟩:=rv.get hx
  obtain ⟨⟨old,he⟩,hit⟩:=st
  refine wpAny_pyNext_enum_item he hit p.isList (x:=u) (by simpa using hu) hne fun h1 ho hit1 hT hsz hk=>⟨_,rfl,?_⟩
  refine wpAny_letOwnedTupleGo_enum ho fun h2 he2 sb=>?_
  have fr:H s.heap.objs.size=none:=I.hok.fresh (Nat.le_refl _)
  have lte:e < s.heap.objs.size:=Heap.lt_size he
  have lti:it < s.heap.objs.size:=by obtain ⟨o,q,_⟩:=id hit;exact Heap.lt_size q
  refine ⟨.ref s.heap.objs.size,upd H s.heap.objs.size (.tup [.int (i:Int),x]),?_,rfl,⟨_,x,rfl,fr,rfl,fun ys hy=>by rw [I.list_inj hy hq];exact hx⟩,⟨⟨_,by simpa using he2⟩,hit1.at fun o q=>(sb.2 it (Ne.symm hne)).trans q⟩,fun b hb=>?_⟩
  ·refine I.laidTurned (fp:=[e,it]) (t':=s.toks+1) (fun b o hb q=>(sb.2 b (fun z=>hb (by simp [z]))).trans (hk b o (fun z=>hb (by simp [z])) (fun z=>hb (by simp [z])) q)) hf (Nat.le_refl _) ?_
   refine ⟨by show 2<=sizeLine;decide,[.int i s.toks,u],.cons ⟨_,rfl⟩ (.cons ru .nil),⟨_,(sb.2 _ (Nat.ne_of_gt lte)).trans hT,rfl,_,rfl⟩⟩
  ·rw [Ai (fun z=>?_)]
   ·exact (hf b hb).1
   ·rcases List.mem_cons.mp hb with q | q
    ·rw [q] at z;exact absurd lte (by rw [z];exact Nat.lt_irrefl _)
    ·have q':b=it:=by simpa using q
     rw [q'] at z;exact absurd lti (by rw [z];exact Nat.lt_irrefl _)
 done:=by
  intro X hP hw hK hc i pins s σ H E I hf st hg
  subst hP hw hK
  obtain ⟨xs,hq,hx⟩:=hg
  obtain ⟨its,rv,p,hz⟩:=I.list hq
  obtain ⟨f0,f1,f2,f3,f4,f5⟩:=hf it (by simp)
  obtain ⟨⟨old,he⟩,hit⟩:=st
  have hl:=rv.length
  exact wpAny_pyNext_enum_end (I.ok.hd hc) he hit p.isList (by simp;omega) fun h' eb=>⟨rfl,I.turned (t':=s.toks) (fun b o hb e=>eb b o hb e) f0 f1 f3 f4 f5⟩
 self:=fun _ _ _ _ _ st h=>by
  obtain ⟨⟨old,he⟩,_⟩:=st
  exact wpAny_pyIter_enum he h
section
variable {X:Cx}
def Q1 (K:PySem.W.Frag) (ta:TA):TI:=fun σ H R=>ta σ H fun vs H1=>∃a,vs=[.ref a]/\(∃xs,SqL K H1 a xs)/\R (Ite K a) H1
theorem Oz {l:Expr} {ta:TA} {p pos pt:Pos} {es:List Expr} {k:Nat} (hg:Gl X "enumerate") (hm:X.mg "enumerate"=none) (ha:PA X [l] ta) (hs:starEach [l] X.env=[(false,eval l X.env)]:=by rfl) :
 PI X (.Tuple es k pt) (.Call (.Name "enumerate" p) [l] [] pos) (Q1 X.K ta):=by
 intro pins s σ H R I h
 refine Call_ (CH I hg hm boot_enumerate (PyProof.Rows.callWith_type1 (thn (ha pos pins s σ H _ I h) fun us s1 ⟨vs,H1,I1,r1,q1⟩=>?_) hs rfl))
 obtain ⟨a,e,⟨xs,hq⟩,q⟩:=q1
 subst e
 cases r1 with
 | cons r rr =>
   cases rr
   cases r
   obtain ⟨its,rv,pl,hz⟩:=I1.list hq
   refine call_enumerate_list pl.isList fun h' he hit hsz hk=>?_
   refine wpAny_pyIter_enum (s:={ s1 with heap:=h' }) he ?_
   refine ⟨s1.heap.objs.size+1,[s1.heap.objs.size+1,s1.heap.objs.size],_,_,H1,rfl,I1.kept (t':=s1.toks) hk,KU a _ _ (Nat.succ_ne_self _),⟨⟨_,he⟩,hit⟩,fun b hb=>?_,q⟩
   have ge:s1.heap.objs.size<=b:=by
    rcases List.mem_cons.mp hb with z | z
    ·rw [z];exact Nat.le_succ _
    ·have z':b=s1.heap.objs.size:=by simpa using z
     rw [z'];exact Nat.le_refl _
   exact I1.fpOk ge (I1.hok.fresh ge)
end
theorem Nv {K:PySem.W.Frag} {a:Addr} {xs:List V} {g:TG} {tb:TS} {D:Fg} {σ:St} {H:Hp} (Pv:Nat->St->Hp->Prop) (h0:Pv 0 σ H) (hl:∀i σ H,i<=xs.length->Pv i σ H->SqL K H a xs)
 (hs:∀i x T σ H,xs[i]?=some x->Pv i σ H->H T=none->g (.ref T) σ (upd H T (.tup [.int (i:Int),x])) fun σ2 H2=>tb { D with nx:=Pv (i+1),ct:=Pv (i+1),bk:=D.nx } σ2 H2) (hd:∀σ H,Pv xs.length σ H->D.nx σ H) :
 ∃W:Nat->Nat->St->Hp->Prop,(∃m,W 0 m σ H)/\∀i m σ H,W i m σ H ->
  ((Ite K a).stop i H/\D.nx σ H)\/((Ite K a).go i H/\∃N:St->Hp->Prop,(∀σ' H',N σ' H'->∃m',m' < m/\W (i+1) m' σ' H')/\∀x H',(Ite K a).yld i H x H'->g x σ H' fun σ2 H2=>tb { D with nx:=N,ct:=N,bk:=D.nx } σ2 H2):=by
 refine ⟨fun i m σ H=>m=xs.length - i/\i<=xs.length/\Pv i σ H,⟨xs.length,by simp,Nat.zero_le _,h0⟩,?_⟩
 rintro i m σ H ⟨rfl,hi,p⟩
 have q:=hl i σ H hi p
 by_cases hlt:i < xs.length
 ·refine .inr ⟨⟨xs,xs[i],q,by simp [hlt]⟩,Pv (i+1),fun σ' H' p'=>⟨xs.length - (i+1),by omega,rfl,hlt,p'⟩,fun x H' y=>?_⟩
  obtain ⟨T,y,rfl,hT,rfl,hy⟩:=y
  exact hs i y T σ H (hy xs q) p hT
 ·have e:i=xs.length:=by omega
  subst e
  exact .inl ⟨⟨xs,q,Nat.le_refl _⟩,hd σ H p⟩
section
variable {X:Cx}
theorem Eh:∀{bs:List Bool} {us:List Value},Aw (bs.map V.bl) us->us=bs.map Value.bool
 | [],_,.nil=>rfl
 | _ :: _,_,.cons r rr=>by
   cases r
   rw [Eh rr]
   rfl
theorem LU (bs:List Bool):(List.range bs.length).all (fun i=>bs.getD i false)=bs.all id:=by
 rw [Bool.eq_iff_iff,List.all_eq_true,List.all_eq_true]
 constructor
 ·intro h b hb
  obtain ⟨i,hi,rfl⟩:=List.mem_iff_getElem.mp hb
  have:=h i (List.mem_range.mpr hi)
  simpa [List.getD_eq_getElem?_getD,hi] using this
 ·intro h i hi
  have hi':=List.mem_range.mp hi
  have:=h _ (List.getElem_mem hi')
  simpa [List.getD_eq_getElem?_getD,hi'] using this
theorem LE (bs:List Bool):(List.range bs.length).any (fun i=>bs.getD i false)=bs.any id:=by
 rw [Bool.eq_iff_iff,List.any_eq_true,List.any_eq_true]
 constructor
 ·rintro ⟨i,hi,h⟩
  have hi':=List.mem_range.mp hi
  exact ⟨_,List.getElem_mem hi',by simpa [List.getD_eq_getElem?_getD,hi'] using h⟩
 ·rintro ⟨b,hb,h⟩
  obtain ⟨i,hi,rfl⟩:=List.mem_iff_getElem.mp hb
  exact ⟨i,List.mem_range.mpr hi,by simpa [List.getD_eq_getElem?_getD,hi] using h⟩
theorem ET {P:Program} {w:World} {A:Around} {bs:List Bool}:TruthOf P w A (fun i v=>(bs.map Value.bool).toArray[i]?=some v) (fun i=>bs.getD i false):=by
 intro i v s Q E hP hQ
 have hP':(bs.map Value.bool)[i]?=some v:=by simpa using hP
 rw [List.getElem?_map] at hP'
 cases e:bs[i]? with
 | none=>rw [e] at hP';cases hP'
 | some b =>
   rw [e] at hP'
   have:Value.bool b=v:=Option.some.inj hP'
   subst this
   refine wpAny_truthy_bool ?_
   have e2:bs.getD i false=b:=by rw [List.getD_eq_getElem?_getD,e];rfl
   dsimp only at hQ
   rw [e2] at hQ
   exact hQ
theorem Jm (hc:X.calm=true) {K:PySem.W.Frag} (hK:X.K=K:=by rfl):Cy X (.builtin "all") (fun xs H Q=>∃(a:Addr) (bs:List Bool),xs=[.ref a]/\SqL K H a (bs.map V.bl)/\Q (.bl (bs.all id)) H):=by
 subst hK
 intro pins s σ H xs us Q I r h
 obtain ⟨a,bs,rfl,hq,q⟩:=h
 obtain ⟨u,rfl,rx⟩:=DF r
 cases rx
 obtain ⟨its,rv,pl,hz⟩:=I.list hq
 have ei:=Eh rv
 subst ei
 have lt:a < s.heap.objs.size:=by obtain ⟨o,q,_⟩:=pl.isList;exact Heap.lt_size q
 refine call_all_walk (wpAny_pyIter_list pl.isList ?_)
 refine ⟨_,_,_,_,_,_,_,rfl,Walks.list (A:=X.A.in1) (I.ok.hd hc) s.heap.objs.size a (Nat.ne_of_lt lt) (bs.map Value.bool).toArray,⟨⟨_,Heap.get?_push_size _ rfl,rfl,rfl⟩,pl.isList.at fun o q=>Heap.get?_push_of_some _ q⟩,ET,fun h' tk hk=>?_⟩
 rw [List.size_toArray,List.length_map,LU]
 exact ⟨.bl _,H,I.kept (t':=tk) fun b o q=>hk b o (by simpa using Nat.ne_of_lt (Heap.lt_size q)) (Heap.get?_push_of_some _ q),rfl,q⟩
theorem NB (hc:X.calm=true) {K:PySem.W.Frag} (hK:X.K=K:=by rfl):Cy X (.builtin "any") (fun xs H Q=>∃(a:Addr) (bs:List Bool),xs=[.ref a]/\SqL K H a (bs.map V.bl)/\Q (.bl (bs.any id)) H):=by
 subst hK
 intro pins s σ H xs us Q I r h
 obtain ⟨a,bs,rfl,hq,q⟩:=h
 obtain ⟨u,rfl,rx⟩:=DF r
 cases rx
 obtain ⟨its,rv,pl,hz⟩:=I.list hq
 have ei:=Eh rv
 subst ei
 have lt:a < s.heap.objs.size:=by obtain ⟨o,q,_⟩:=pl.isList;exact Heap.lt_size q
 refine call_any_walk (wpAny_pyIter_list pl.isList ?_)
 refine ⟨_,_,_,_,_,_,_,rfl,Walks.list (A:=X.A.in1) (I.ok.hd hc) s.heap.objs.size a (Nat.ne_of_lt lt) (bs.map Value.bool).toArray,⟨⟨_,Heap.get?_push_size _ rfl,rfl,rfl⟩,pl.isList.at fun o q=>Heap.get?_push_of_some _ q⟩,ET,fun h' tk hk=>?_⟩
 rw [List.size_toArray,List.length_map,LE]
 exact ⟨.bl _,H,I.kept (t':=tk) fun b o q=>hk b o (by simpa using Nat.ne_of_lt (Heap.lt_size q)) (Heap.get?_push_of_some _ q),rfl,q⟩
end
end L2
namespace L2
open PySem PySem.Spec PyProof.Rows
def M4 (n:Nat) (wi:TI) (g:TG) (tt:TT) (te:TE):TE:=fun σ H Q=>wi σ H fun J H1=>∀D,H1 D=none->∃W:Nat->Nat->List V->Hp->Prop,(∃m,W 0 m [] (upd H1 D (.lst [])))/\∀i m ys H2,W i m ys H2 ->
 H2 D=some (.lst ys)/\((J.stop i H2/\Q (.ref D) H2)\/(J.go i H2/\ys.length < sizeLine/\∀x H3,J.yld i H2 x H3->∀os:St,os.length=n->g x (σ++os) H3 fun σ4 H4=>(∃os':St,σ4=σ++os'/\os'.length=n)/\tt σ4 H4 fun b H5=>if b=true then te σ4 H5 fun y H6=>H6 D=some (.lst ys)/\∃m',m' < m/\W (i+1) m' (ys++[y]) (upd H6 D (.lst (ys++[y])))
  else ∃m',m' < m/\W (i+1) m' ys H5))
structure Ee (N Nc:List Str) (xs:List Str) (sc fsc:Scope):Prop where
 kind:sc.kind=.function
 cell:∀y∈sc.names,y.2≠.cell
 nm:∀y∈sc.names,y.2=.local->sc.names.lookup y.1=some .local
 own:∀x∈xs,sc.names.lookup x=some .local
 fr:∀y∈sc.names,y.2=.free->fsc.names.lookup y.1=some .cell\/fsc.names.lookup y.1=some .free
 len:Nc.length=N.length+xs.length
 nd:Nc.Nodup
 last:Nc.drop N.length=xs
 slot:((List.range N.length).all fun i=>match Nc[i]? with
  | some y=>(match sc.names.lookup y with | some .free=>N[i]? == some y | some .local=>false | some .cell=>false | _=>true)
  | none=>true)=true
theorem Ee.at {N Nc:List Str} {xs:List Str} {sc fsc:Scope} (C:Ee N Nc xs sc fsc) {i:Nat} {y:Str} (hi:i < N.length) (h:Nc[i]?=some y):sc.names.lookup y≠some .local/\sc.names.lookup y≠some .cell/\(sc.names.lookup y=some .free->N[i]?=some y):=by
 have q:=List.all_eq_true.mp C.slot i (List.mem_range.mpr hi)
 rw [h] at q
 dsimp only at q
 cases e:sc.names.lookup y with
 | none=>exact ⟨fun z=>(nomatch z),fun z=>(nomatch z),fun z=>(nomatch z)⟩
 | some k =>
   rw [e] at q
   cases k with
   | «local»=>exact absurd (show false=true from q) Bool.false_ne_true
   | cell=>exact absurd (show false=true from q) Bool.false_ne_true
   | free=>exact ⟨fun z=>(nomatch z),fun z=>(nomatch z),fun _=>by simpa using q⟩
   | _=>exact ⟨fun z=>(nomatch z),fun z=>(nomatch z),fun z=>(nomatch z)⟩
theorem HW {X:Cx} {N Nc xs:List Str} {sc fsc:Scope} {cl:List (Str × Addr)} {s:Shared} {H:Hp} {ex:List Addr} {x:Str} {px:Pos} {j n:Nat} (cn:Ee N Nc xs sc fsc) (hj:xs[j]?=some x) (hn:n=N.length+j):PG (X.inComp Nc sc cl s H ex) (.Name x px) (D1 n):=by
 have own:(relabel sc X.env).names.lookup x=some .local:=by
  have e:=B9 X.env sc.names x
  rw [cn.own x (List.mem_of_getElem? hj)] at e
  exact e
 refine AC (X:=X.inComp Nc sc cl s H ex) cn.nd ?_ (.inl own) (.inr own)
 show Nc[n]?=some x
 rw [hn,<- List.getElem?_drop,cn.last]
 exact hj
theorem Q5 {prog:Program} {w:World} {A:Around} {R:Result->Shared->Prop} {s:Shared} {elt tg iter:Expr} {ifs:List Expr} {scope:Scope} {pos:Pos} {it acc:Value} {env:Env} (I:Nat->Shared->Prop)
 (turn:∀n s,I n s->wpAny (model prog w) A (pyNext it) (fun r s₁=>match r with
  | none=>R (.ok .next) s₁
  | some v=>wpAny (model prog w) A (letOwnedTupleGo tg it v) (fun _ z=>wpAny (model prog w) A (assign tg env v) (fun _ s₂ =>
   wpAny (model prog w) A (forIn ifs true fun c r=>if r=true then do let ok <- isTrue c env (eval c env);pure (ForInStep.yield ok) else pure (ForInStep.yield r)) (fun ok s₃ =>
    if ok=true then wpAny (model prog w) A (eval elt env) (fun x s₄=>wpAny (model prog w) A (call (.builtin "list.append") [acc,x]) (fun _ s₅=>∃m,m < n/\I m s₅) (fun _ _=>False) s₄) (fun _ _=>False) s₃
    else ∃m,m < n/\I m s₃) (fun _ _=>False) s₂) (fun _ _=>False) z) (fun _ _=>False) s₁) (fun _ _=>False) s)
 (n:Nat) (h:I n s):codeAny (model prog w) A (.compLoop (.ListComp elt [⟨tg,iter,ifs,0⟩] scope pos) 0 it acc env) R s:=by
 refine codeAny_loop rfl I (fun k z y=>?_) n h
 show wpAny _ A ((compTurn (.ListComp elt [⟨tg,iter,ifs,0⟩] scope pos) 0 it acc env).onRaise fun x=>do noteFrame x env;theTreesLotGoes x) _ _ z
 refine wpAny_noted ?_
 rw [compTurn_list]
 refine wpAny_bind (wpAny_standAt (wpAny_bind (Dq (turn k z y) fun r s₁ q1=>?_)))
 cases r with
 | none=>exact wpAny_pure q1
 | some v =>
   refine wpAny_bind (Dq q1 fun _ z q2=>wpAny_bind (Dq q2 fun _ s₂ q3=>wpAny_bind (Dq q3 fun ok s₃ q4=>?_)))
   cases ok with
   | false=>exact wpAny_pure ⟨rfl,q4⟩
   | true=>exact wpAny_bind (wpAny_bind (Dq q4 fun x s₄ q5=>wpAny_bind (Dq q5 fun _ s₅ q6=>wpAny_pure (wpAny_pure ⟨rfl,q6⟩))))
section
variable {X:Cx} {elt iter:Expr} {xs:List Str} {tg:Expr} {g:TG} {pos:Pos} {ifs:List Expr} {sc fsc:Scope} {N Nc:List Str} {wi:TI} {tt:TT} {te:TE}
theorem JW (hE:X.env.scope=fsc) (hXN:X.N=N) (cn:Ee N Nc xs sc fsc) (hc:X.calm=true)
 (hg:∀cl s H ex,PG (X.inComp Nc sc cl s H ex) tg g) (ht:∀cl s H ex,Fc (X.inComp Nc sc cl s H ex) ifs tt) (he:∀cl s H ex,PE (X.inComp Nc sc cl s H ex) elt te)
 {cl:List (Str × Addr)} (clS:∀y c,cl.lookup y=some c->X.env.cells.lookup y=some c) (clH:∀y∈sc.names,y.2=.free->∃c,cl.lookup y.1=some c)
 {pins:List (Addr × Obj)} {σ:St} {H2:Hp} {s2:Shared} {it:Addr} {fp:List Addr} {tn:Nat->Heap->Prop} {J:It} {Q:VK} {E:Value->Shared->Prop}
 (I2:Inv X pins σ H2 s2) (T:Io X.prog X.w X.K tg J fp it tn) (st2:tn 0 s2.heap) (f2:∀b∈fp,E3 X pins H2 b)
 (h2:∀D,H2 D=none->∃W:Nat->Nat->List V->Hp->Prop,(∃m,W 0 m [] (upd H2 D (.lst [])))/\∀i m ys H2,W i m ys H2 ->
  H2 D=some (.lst ys)/\((J.stop i H2/\Q (.ref D) H2)\/(J.go i H2/\ys.length < sizeLine/\∀x H3,J.yld i H2 x H3->∀os:St,os.length=xs.length->g x (σ++os) H3 fun σ4 H4=>(∃os':St,σ4=σ++os'/\os'.length=xs.length)/\tt σ4 H4 fun b H5=>if b=true then te σ4 H5 fun y H6=>H6 D=some (.lst ys)/\∃m',m' < m/\W (i+1) m' (ys++[y]) (upd H6 D (.lst (ys++[y])))
   else ∃m',m' < m/\W (i+1) m' ys H5))) :
 wpAny (model X.prog X.w) X.A (newList []) (fun acc s₃=>wpAny (model X.prog X.w) X.A (newFunctionEnv sc X.env.globals cl [] X.env.qual none .none (some X.env)) (fun cenv s₄ =>
  codeAny (model X.prog X.w) X.A (.compStart (.ListComp elt [⟨tg,iter,ifs,0⟩] sc pos) 0 (.ref it) acc { cenv with scope:=relabel sc X.env })
   (fun r s'=>r=.ok .next/\∃D H',acc=.ref D/\Inv X pins σ H' s'/\Q (.ref D) H'/\CU X pins H' cenv.locals/\∃m,s'.heap.Ns cenv.locals m) s₄) E s₃) E s2:=by
 refine wpAny_newObj_type (wpAny_newFunctionEnv cn.cell (by intro y hy;simp at hy) (fun h₁ hns₁ hsb₁=>?_) cn.kind)
 dsimp only at hns₁ hsb₁ ⊢
 have hD:H2 s2.heap.objs.size=none:=I2.hok.fresh (Nat.le_refl _)
 obtain ⟨W,⟨m0,w0⟩,turn⟩:=h2 s2.heap.objs.size hD
 have I3:Inv X pins σ (upd H2 s2.heap.objs.size (.lst [])) { s2 with heap:=s2.heap.push { cls:=.type "list",dict:=none,data:=.seq ([]:List Value).toArray } } :=
  I2.laid (t':=s2.toks) (fun b u e=>Heap.get?_push_of_some _ e) (Nat.le_refl _) ⟨Nat.zero_le _,[],0,.nil,Heap.get?_push_size _ rfl⟩
 generalize hs3:({ s2 with heap:=s2.heap.push { cls:=.type "list",dict:=none,data:=.seq ([]:List Value).toArray } }:Shared)=s3 at I3
 have eh:s3.heap=s2.heap.push { cls:=.type "list",dict:=none,data:=.seq ([]:List Value).toArray }:=by rw [<- hs3]
 have e2:({ s2 with heap:=h₁,toks:=s2.toks+([]:List (Str × Value)).length }:Shared)={ s3 with heap:=h₁,toks:=s3.toks }:=by rw [<- hs3];rfl
 generalize hH3:upd H2 s2.heap.objs.size (.lst [])=H3 at I3 w0
 rw [<- eh] at hns₁ hsb₁ ⊢
 rw [e2]
 have below2:∀b,b∈fp->b < s3.heap.objs.size:=fun b hb=>by
  obtain ⟨o,e,_⟩:=T.obj _ _ st2 b hb
  have:s2.heap.objs.size<=s3.heap.objs.size:=by rw [eh,Heap.size_push];exact Nat.le_succ _
  exact Nat.lt_of_lt_of_le (Heap.lt_size e) this
 have old:∀b o,s3.heap.get? b=some o->h₁.get? b=some o:=fun b o e=>(hsb₁.2 b (Nat.ne_of_lt (Heap.lt_size e))).trans (Heap.get?_push_of_some _ e)
 have old2:∀b o,s2.heap.get? b=some o->s3.heap.get? b=some o:=fun b o e=>by rw [eh];exact Heap.get?_push_of_some _ e
 have hsz3:s2.heap.objs.size < s3.heap.objs.size:=by rw [eh,Heap.size_push];exact Nat.lt_succ_self _
 have fpFree:∀b∈fp,H3 b=none:=fun b hb=>by
  rw [<- hH3,Ai (fun z=>?_)]
  ·exact (f2 b hb).1
  ·obtain ⟨o,e,_⟩:=T.obj _ _ st2 b hb
   have:=Heap.lt_size e
   rw [z] at this
   exact Nat.lt_irrefl _ this
 have rl:∀y,(relabel sc X.env).names.lookup y=(sc.names.lookup y).map fun k=>if (k == NameKind.free && X.env.scope.kind == .function && X.env.kindOf y == some .cell) then NameKind.cell else k:=fun y=>B9 X.env sc.names y
 have freeOf:∀y,sc.names.lookup y=some .free->∃c,cl.lookup y=some c:=fun y e=>clH (y,.free) (PySem.mem_of_lookup e) rfl
 have noCell:∀y,sc.names.lookup y≠some .cell:=fun y e=>cn.cell (y,.cell) (PySem.mem_of_lookup e) rfl
 have isFree:∀y,((relabel sc X.env).names.lookup y=some .cell\/(relabel sc X.env).names.lookup y=some .free)->sc.names.lookup y=some .free:=fun y h=>by
  rw [rl y] at h
  cases e:sc.names.lookup y with
  | none=>rw [e] at h;rcases h with z | z <;> exact absurd z (by simp)
  | some k =>
    rw [e] at h
    cases k with
    | free=>rfl
    | cell=>exact absurd e (noCell y)
    | «local»=>rcases h with z | z <;> exact absurd z (by simp)
    | _=>rcases h with z | z <;> exact absurd z (by simp)
 have exOk:∀b∈fp,b≠s3.heap.objs.size/\(∀y c,X.env.cells.lookup y=some c->c≠b)/\b ∉ frs X.stack:=fun b hb=>by
  obtain ⟨g0,g1,g2,g3,g4,g5⟩:=f2 b hb
  refine ⟨Nat.ne_of_lt (below2 b hb),g4,fun z=>?_⟩
  rcases List.mem_cons.mp (I2.stkSub b z) with z | z
  ·exact g1 z
  ·exact g2 z
 have hCnew:X.s₀.heap.objs.size<=s3.heap.objs.size:=I3.sz
 have hCcell:∀y c,X.env.cells.lookup y=some c->c≠s3.heap.objs.size:=fun y c e z=>by
  obtain ⟨v,q⟩:=I3.cell y c e
  have:=q.lt
  rw [z] at this
  exact Nat.lt_irrefl _ this
 have hCpin:∀p∈X.pn++pins,p.1≠s3.heap.objs.size:=fun p hp z=>by
  have:=Heap.lt_size (I3.pin p hp).1
  rw [z] at this
  exact Nat.lt_irrefl _ this
 have okc:(X.inComp Nc sc cl s3 H3 fp).Ok:=by
  refine ⟨I3.ok.mod,cn.kind,I3.ok.glob,I3.ok.blt,Nat.le_refl _,fun y z c h1 h2=>I3.ok.inj y z c (clS y c h1) (clS z c h2),fun y hy=>freeOf y (isFree y hy),fun y c hf=>absurd (show false=true from hf) Bool.false_ne_true,I3.ok.hd,I3.ok.frames,.inl rfl,
   fun b hb=>⟨(exOk b hb).1,fun y c e=>(exOk b hb).2.1 y c (clS y c e)⟩,fun b o e=>I3.bs b o e,Nat.le_trans I3.ok.bsz I3.sz,fun b o e hb=>?_,fun b hb=>(exOk b hb).2.2,I3.stack,I3.stkFree⟩
  obtain ⟨g0,g1,g2,g3,g4,g5⟩:=f2 b hb
  rcases g3 with z | z
  ·exact I3.ok.noex b o e z
  ·exact absurd (Heap.lt_size (I3.ok.bs b o e).1) (Nat.not_lt.mpr z)
 have hlen:σ.length=N.length:=by rw [I3.len,hXN]
 have Ic:Inv (X.inComp Nc sc cl s3 H3 fp) [] (σ++List.replicate xs.length none) H3 { s3 with heap:=h₁,toks:=s3.toks }:=by
  refine ⟨okc,rfl,I3.bare,Un.kept old,⟨_,hns₁,fun i y v h1 h2 h3=>?_⟩,fun y c e=>?_,I3.hok.fresh (Nat.le_refl _),fun y c e=>I3.freeC y c (clS y c e),fun p hp=>absurd (show p∈([]:List (Addr × Obj)) from hp) (by simp),I3.hok.kept old,?_⟩
  ·have hi:i < σ.length:=by
    by_cases hi:i < σ.length
    ·exact hi
    ·rw [List.getElem?_append_right (Nat.not_lt.mp hi)] at h2
     rw [List.getElem?_replicate] at h2
     split at h2 <;> cases h2
   rw [List.getElem?_append_left hi] at h2
   have hi':i < N.length:=by rw [<- hlen];exact hi
   obtain ⟨n1,n2,n3⟩:=cn.at hi' h1
   have hf:sc.names.lookup y=some .free:=by
    rcases h3 with z | z
    ·exfalso
     have z':(relabel sc X.env).names.lookup y=some .local:=z
     rw [rl y] at z'
     cases e:sc.names.lookup y with
     | none=>rw [e] at z';simp at z'
     | some k =>
       rw [e] at z'
       cases k with
       | «local»=>exact n1 e
       | cell=>exact n2 e
       | free =>
         simp only [Option.map_some,Option.some.injEq] at z'
         split at z' <;> cases z'
       | _=>simp at z'
    ·exact isFree y z
   have hN:X.N[i]?=some y:=by rw [hXN];exact n3 hf
   obtain ⟨m,hn,hl⟩:=I3.loc
   have hv:fsc.names.lookup y=some .cell\/fsc.names.lookup y=some .free:=cn.fr (y,.free) (PySem.mem_of_lookup hf) rfl
   have hv':X.env.scope.names.lookup y=some .cell\/X.env.scope.names.lookup y=some .free:=by rw [hE];exact hv
   obtain ⟨u,ru,lk⟩:=hl i y v hN h2 (.inr hv')
   refine ⟨u,ru,.inr ⟨?_,?_⟩⟩
   ·show (relabel sc X.env).names.lookup y=some .cell\/(relabel sc X.env).names.lookup y=some .free
    rw [rl y,hf]
    simp only [Option.map_some,Option.some.injEq]
    split
    ·exact .inl rfl
    ·exact .inr rfl
   ·rcases lk with ⟨kl,_⟩ | ⟨_,c,hc,hcell⟩
    ·exfalso
     have kl':X.env.scope.names.lookup y=some .local:=kl
     rw [kl'] at hv'
     rcases hv' with z | z <;> cases z
    ·obtain ⟨d,hd⟩:=freeOf y hf
     have ed:=clS y d hd
     rw [hc] at ed
     cases ed
     exact ⟨c,hd,hcell.keeps old⟩
  ·obtain ⟨v,q⟩:=I3.cell y c (clS y c e)
   exact ⟨v,q.keeps old⟩
  ·show (σ++List.replicate xs.length none).length=Nc.length
   rw [List.length_append,hlen,cn.len,List.length_replicate]
 have stc:tn 0 ({ s3 with heap:=h₁,toks:=s3.toks }:Shared).heap:=T.keep _ _ _ st2 fun b _ o e=>old b o (old2 b o e)
 have hDf:s2.heap.objs.size ∉ fp:=fun hm=>by
  obtain ⟨o,e,_⟩:=T.obj _ _ st2 _ hm
  exact Nat.lt_irrefl _ (Heap.lt_size e)
 have fpc:∀{pins':List (Addr × Obj)} {H':Hp},pins'=[]->(∀b∈fp,H' b=none)->∀b∈fp,E3 (X.inComp Nc sc cl s3 H3 fp) pins' H' b:=fun {pins' H'} hp hn b hb=>by
  subst hp
  exact ⟨hn b hb,(exOk b hb).1,(exOk b hb).2.2,.inl hb,fun y c e=>(exOk b hb).2.1 y c (clS y c e),fun p hp=>absurd (show p∈([]:List (Addr × Obj)) from hp) (by simp)⟩
 have loop:∀s₄:Shared,s₄={ s3 with heap:=h₁,toks:=s3.toks } ->
  codeAny (model X.prog X.w) X.A (.compLoop (.ListComp elt [⟨tg,iter,ifs,0⟩] sc pos) 0 (.ref it) (.ref s2.heap.objs.size) (compEnvC sc cl s3.heap.objs.size X.env))
   (fun r s'=>r=.ok .next/\∃D H',(Value.ref s2.heap.objs.size)=.ref D/\Inv X pins σ H' s'/\Q (.ref D) H'/\CU X pins H' s3.heap.objs.size/\∃m,s'.heap.Ns s3.heap.objs.size m) s₄:=by
  rintro s₄ rfl
  refine Q5 (fun n s'=>∃(i:Nat) (o:St) (H':Hp) (ys:List V),o.length=xs.length/\Inv (X.inComp Nc sc cl s3 H3 fp) [] (σ++o) H' s'/\tn i s'.heap/\(∀b∈fp,H' b=none)/\W i n ys H') ?_ m0 ⟨0,_,H3,[],List.length_replicate ..,Ic,stc,fpFree,w0⟩
  rintro n s' ⟨i,o,H',ys,lo,I',st',fr',w'⟩
  obtain ⟨hDl,tw⟩:=turn i n ys H' w'
  rcases tw with ⟨stop,q⟩ | ⟨go,hz,step⟩
  ·
   refine thn (T.done (X.inComp Nc sc cl s3 H3 fp) rfl rfl rfl hc i [] s' _ H' _ I' (fpc rfl fr') st' stop) fun r s5 ⟨hr,I5⟩=>?_
   subst hr
   have Ix:Inv X pins σ H' s5:=I3.call' (ch:=fp) I5.os I5.base I5.hok I5.bare fun b hb=>by
    obtain ⟨g0,g1,g2,g3,g4,g5⟩:=f2 b hb
    exact ⟨g3,g1,g4,g5⟩
   have hCf:H' s3.heap.objs.size=none:=I5.free
   obtain ⟨m,hn,_⟩:=I5.loc
   exact ⟨rfl,s2.heap.objs.size,H',rfl,Ix,q,⟨hCf,fun z=>Nat.lt_irrefl _ (by have:=I3.lt;rw [<- z] at this;exact this),hCnew,hCcell,hCpin⟩,m,hn⟩
  ·
   refine thn (T.item (X.inComp Nc sc cl s3 H3 fp) rfl rfl rfl hc i [] s' _ H' _ I' (fpc rfl fr') st' go) fun r s5 ⟨u,hr,h4⟩=>?_
   subst hr
   dsimp only
   refine Dq h4 fun _ s6 ⟨xv,H5,I5,r5,y5,st5,fr5⟩=>?_
   have I5':=I5.pinned (fpc rfl fr5) (T.obj _ _ st5)
   have again:∀{o':St} {H7:Hp} {s7:Shared} {m':Nat} {ys':List V},o'.length=xs.length->Inv (X.inComp Nc sc cl s3 H3 fp) ([]++Ej fp s6.heap) (σ++o') H7 s7->m' < n->W (i+1) m' ys' H7 ->
    ∃m,m < n/\∃(i:Nat) (o:St) (H':Hp) (ys:List V),o.length=xs.length/\Inv (X.inComp Nc sc cl s3 H3 fp) [] (σ++o) H' s7/\tn i s7.heap/\(∀b∈fp,H' b=none)/\W i m ys H':=fun {o' H7 s7 m' ys'} lo' I7 hm w7=>by
    refine ⟨m',hm,i+1,o',H7,ys',lo',I7.unpinned,T.keep _ _ _ st5 fun b hb o e=>(I7.pin (b,o) (List.mem_append_right _ (List.mem_append_right _ (BE hb e)))).1,fun b hb=>?_,w7⟩
    obtain ⟨o',e,d⟩:=T.obj _ _ st5 b hb
    exact (I7.pin (b,o') (List.mem_append_right _ (List.mem_append_right _ (BE hb e)))).2.1
   refine Dq (hg cl s3 H3 fp _ s6 _ H5 xv u _ I5' r5 (step xv _ y5 o lo)) fun _ s7 ⟨σ7,H7,I7,⟨o7,e7,lo7⟩,q7⟩=>?_
   subst e7
   refine Dq (ht cl s3 H3 fp _ s7 _ _ _ I7 q7) fun b s8 ⟨H8,I8,q8⟩=>?_
   cases b with
   | false =>
     rw [if_neg Bool.false_ne_true] at q8 ⊢
     obtain ⟨m',hm,w8⟩:=q8
     exact again lo7 I8 hm w8
   | true =>
     rw [if_pos rfl] at q8 ⊢
     refine Dq (he cl s3 H3 fp _ s8 _ H8 _ I8 q8) fun y s9 ⟨yv,H9,I9,r9,hD9,m',hm,w9⟩=>?_
     refine Dq (BH _ s9 _ H9 (.ref s2.heap.objs.size) [yv] (.ref s2.heap.objs.size) [y] (fun v H=>v=.non/\H=upd H9 s2.heap.objs.size (.lst (ys++[yv]))) I9 rfl (.cons r9 .nil) ⟨_,ys,yv,rfl,rfl,hD9,hz,rfl,rfl⟩) fun _ s10 ⟨v10,H10,I10,r10,e10,e11⟩=>?_
     subst e11
     exact again lo7 I10 hm w9
 exact codeAny_compStart_list (loop _ rfl) (T.self _ 0 _ _ _ stc (loop _ rfl))
theorem KW (I:∀y,(X.env.kindOf y=some .cell\/X.env.kindOf y=some .free)->∃c,X.env.cells.lookup y=some c) (hE:X.env.scope=fsc) (cn:Ee N Nc xs sc fsc):∀y∈sc.names,y.2=.free->∃c,X.env.cells.lookup y.1=some c:=fun y hy hf=>by
 refine I y.1 ?_
 show X.env.scope.names.lookup y.1=some .cell\/X.env.scope.names.lookup y.1=some .free
 rw [hE]
 exact cn.fr y hy hf
theorem MV (hE:X.env.scope=fsc) (hXN:X.N=N) (cn:Ee N Nc xs sc fsc) (hc:X.calm=true) (hi:PI X tg iter wi)
 (hg:∀cl s H ex,PG (X.inComp Nc sc cl s H ex) tg g) (ht:∀cl s H ex,Fc (X.inComp Nc sc cl s H ex) ifs tt) (he:∀cl s H ex,PE (X.inComp Nc sc cl s H ex) elt te)
 (hs:∀v,foldedSetIterable iter X.env v=pure v:=by intro _;rfl):PE X (.ListComp elt [⟨tg,iter,ifs,0⟩] sc pos) (M4 xs.length wi g tt te):=by
 intro pins s σ H Q I h
 obtain ⟨cl,hcl,clS,clH⟩:=CF (env:=X.env) (sc:=sc) (KW I.ok.has hE cn)
 rw [eval_ListComp]
 refine wpAny_comprehension_free (use:=none) rfl hs hcl cn.kind cn.nm (thn (hi pins s σ H _ I h) fun v s1 h1=>thn h1 fun itv s2 h2=>?_)
 obtain ⟨it,fp,tn,J,H2,rfl,I2,T,st2,f2,h2⟩:=h2
 refine thn (JW (pos:=pos) (iter:=iter) hE hXN cn hc hg ht he clS clH I2 T st2 f2 h2) fun acc s3 h3=>thn h3 fun cenv s4 h4=>codeAny_mono h4 fun r s' h5=>?_
 obtain ⟨rfl,D,H',rfl,I',q,cloc,m,hn⟩:=h5
 exact ⟨m,hn,fun h' k=>⟨.ref D,H',I'.sameBut cloc k,rfl,q⟩⟩
end
theorem JJ {K:PySem.W.Frag} {a:Addr} {zs:List V} {tt:TT} {te:TE} {σ:St} {H1:Hp} {Q:Addr->Hp->Prop} {n m:Nat} (hn:n=σ.length) (hm:m=σ.length+1) (hz:zs.length<=sizeLine) (Pv:Addr->Nat->List V->Hp->Prop)
 (h0:∀D,H1 D=none->Pv D 0 [] (upd H1 D (.lst []))) (hD:∀D i ys H,Pv D i ys H->H D=some (.lst ys)/\ys.length<=i) (hl:∀D i ys H,H1 D=none->Pv D i ys H->SqL K H a zs)
 (hs:∀D i x ys H (K1:VK) (K2:Hp->Prop),H1 D=none->zs[i]?=some x->Pv D i ys H->(∀y H5,H5 D=some (.lst ys)->Pv D (i+1) (ys++[y]) (upd H5 D (.lst (ys++[y])))->K1 y H5)->(∀H4,Pv D (i+1) ys H4->K2 H4) ->
  ∃t v w,x=.ref t/\SqT K H t [v,w]/\tt (σ++[some v,some w]) H fun b H4=>if b=true then te (σ++[some v,some w]) H4 K1 else K2 H4)
 (hd:∀D ys H,H1 D=none->Pv D zs.length ys H->Q D H) :
 ∀D,H1 D=none->∃W:Nat->Nat->List V->Hp->Prop,(∃m,W 0 m [] (upd H1 D (.lst [])))/\∀i k ys H2,W i k ys H2 ->
  H2 D=some (.lst ys)/\(((Itl K a).stop i H2/\Q D H2)\/((Itl K a).go i H2/\ys.length < sizeLine/\∀x H3,(Itl K a).yld i H2 x H3->∀os:St,os.length=2->PF K 2 (IP (D1 n) (IP (D1 m) PP)) x (σ++os) H3 fun σ4 H4=>(∃os':St,σ4=σ++os'/\os'.length=2)/\tt σ4 H4 fun b H5=>if b=true then te σ4 H5 fun y H6=>H6 D=some (.lst ys)/\∃m',m' < k/\W (i+1) m' (ys++[y]) (upd H6 D (.lst (ys++[y])))
   else ∃m',m' < k/\W (i+1) m' ys H5)):=by
 intro D hDn
 subst hn hm
 refine ⟨fun i m ys H=>m=zs.length - i/\i<=zs.length/\Pv D i ys H,⟨zs.length,rfl,Nat.zero_le _,h0 D hDn⟩,?_⟩
 rintro i m ys H2 ⟨rfl,hi,p⟩
 obtain ⟨e,l⟩:=hD D i ys H2 p
 have q:=hl D i ys H2 hDn p
 refine ⟨e,?_⟩
 by_cases hlt:i < zs.length
 ·refine .inr ⟨⟨zs,zs[i],q,by simp [hlt]⟩,Nat.lt_of_le_of_lt l (Nat.lt_of_lt_of_le hlt hz),fun x H3 y os ho=>?_⟩
  obtain ⟨e1,y⟩:=y
  subst e1
  obtain ⟨t,v,w,rfl,ht,q5⟩:=hs D i x ys _ (fun y H6=>H6 D=some (.lst ys)/\∃m',m' < zs.length - i/\m'=zs.length - (i+1)/\i+1<=zs.length/\Pv D (i+1) (ys++[y]) (upd H6 D (.lst (ys++[y])))) (fun H5=>∃m',m' < zs.length - i/\m'=zs.length - (i+1)/\i+1<=zs.length/\Pv D (i+1) ys H5) hDn (y zs q) p (fun y H5 h5 p5=>⟨h5,zs.length - (i+1),by omega,rfl,hlt,p5⟩) fun H4 p4=>⟨zs.length - (i+1),by omega,rfl,hlt,p4⟩
  match os,ho with
  | [o1,o2],_ =>
    have e2:((σ++[o1,o2]).set σ.length (some v)).set (σ.length+1) (some w)=σ++[some v,some w]:=by
     rw [List.set_append_right _ _ (Nat.le_refl _),Nat.sub_self,List.set_append_right _ _ (Nat.le_succ _)]
     rw [show (List.length σ+1) - List.length σ=1 by omega]
     rfl
    refine ⟨t,[v,w],rfl,ht,rfl,v,[w],rfl,w,[],rfl,rfl,?_⟩
    refine ⟨⟨[some v,some w],e2,rfl⟩,?_⟩
    rw [e2]
    exact q5
 ·have ei:i=zs.length:=by omega
  subst ei
  exact .inl ⟨⟨zs,q,Nat.le_refl _⟩,hd D ys H2 hDn p⟩
section
variable {X:Cx} {elt iter:Expr} {x1 x2 x3:Str} {p1 p2 p3 pt pos:Pos} {k:Nat} {ifs:List Expr} {sc fsc:Scope} {N Nc:List Str} {wi:TI} {tt:TT} {te:TE}
theorem N7 (hE:X.env.scope=fsc) (hXN:X.N=N) (cn:Ee N Nc [x1,x2] sc fsc) (hc:X.calm=true) (hi:PI X (.Tuple [.Name x1 p1,.Name x2 p2] k pt) iter wi)
 (ht:∀cl s H ex,Fc (X.inComp Nc sc cl s H ex) ifs tt) (he:∀cl s H ex,PE (X.inComp Nc sc cl s H ex) elt te) (hs:∀v,foldedSetIterable iter X.env v=pure v:=by intro _;rfl) :
 PE X (.ListComp elt [⟨.Tuple [.Name x1 p1,.Name x2 p2] k pt,iter,ifs,0⟩] sc pos) (M4 2 wi (PF X.K 2 (IP (D1 N.length) (IP (D1 (N.length+1)) PP))) tt te) :=
 MV hE hXN cn hc hi (fun cl s H ex=>Ga (X:=X.inComp Nc sc cl s H ex) hc (Bj (HW (j:=0) cn rfl rfl) (Bj (HW (j:=1) cn rfl rfl) DK))) ht he hs
end
end L2
namespace L2
open PySem PySem.Spec PyProof.Rows
section
variable {X:Cx}
end
section
variable {X:Cx}
theorem HP {K:PySem.W.Frag} (hK:X.K=K:=by rfl):MtR X "list.index" (fun x vs H Q=>∃(a:Addr) (ns:List Int) (k:Int),x=.ref a/\vs=[.int k]/\SqL K H a (ns.map V.int)/\k∈ns/\Q (.int (ns.idxOf k:Nat)) H):=by
 subst hK
 intro pins s σ H x vs v us Q I rx rv h
 obtain ⟨a,ns,k,rfl,rfl,hq,hk,q⟩:=h
 cases rx
 obtain ⟨u,rfl,t,rfl⟩:=DF rv
 obtain ⟨its,rv,pl,hz⟩:=I.list hq
 have hi:=Cp rv
 have hl:=hi.length
 have hj:ns.idxOf k < ns.length:=List.idxOf_lt_length_iff.mpr hk
 have hb:ns.length<=sizeLine:=by rw [List.length_map] at hz;exact hz
 rw [sizeLine_eq] at hb
 obtain ⟨⟨cls,dd,data,sl⟩,ho,hc,n,hd⟩:=pl.isList
 replace hc:cls=.type "list":=hc
 replace hd:data=.seq its.toArray n:=hd
 subst hc hd
 refine call_meets PySem.F.slot_list_index ⟨_,ho,rfl⟩ PySem.F.entry_list_index (PySem.F.args_list_index_2 _ _) (PySem.SeqAt.list_indexAt a its.toArray n dd sl (.int k t) (isInt k) (ns.idxOf k) (by rw [List.size_toArray];omega) (by omega) ?_ ?_) ⟨ho,fun y hy=>(eq_isInt k t hi y (by simpa using hy)).at _ _,?_⟩
 ·have:isInt k its[ns.idxOf k]=true:=by rw [isInt_at k hi _ (by omega) hj];simpa using List.getElem_idxOf hj
  exact this
 ·intro j hjs hlt
  have:isInt k its[j]=false:=by rw [isInt_at k hi j (by simpa using hjs) (by omega)];exact ne_of_lt_idxOf hlt _
  exact this
 ·exact ⟨.int _,H,I.tok _,⟨_,rfl⟩,q⟩
end
theorem Cz:∀ns ms:List Int,PyData.eqvAll (ns.map .int) (ms.map .int)=decide (ns=ms)
 | [],[]=>rfl
 | [],_ :: _=>rfl
 | _ :: _,[]=>rfl
 | n :: ns,m :: ms=>by
   show ((n == m) && PyData.eqvAll (ns.map .int) (ms.map .int))=_
   rw [Cz ns ms]
   by_cases h:n=m
   ·by_cases k:ns=ms
    ·subst h;subst k;simp
    ·simp [h,k]
   ·simp [h]
theorem IQ:∀ns:List Int,PyData.canLayAll0 (ns.map .int)=true/\PyData.depthAll (ns.map .int)<=0
 | []=>⟨rfl,Nat.le_refl _⟩
 | n :: ns=>by
   obtain ⟨h1,h2⟩:=IQ ns
   refine ⟨?_,?_⟩
   ·show (true && PyData.canLayAll0 (ns.map .int))=true
    rw [h1];rfl
   ·show max 0 (PyData.depthAll (ns.map .int))<=0
    omega
theorem At (ns:List Int):SeqAt.shaped (.tuple (ns.map .int))=true/\SeqAt.shaped (.list (ns.map .int))=true:=by
 obtain ⟨h1,h2⟩:=IQ ns
 constructor
 ·unfold SeqAt.shaped
  rw [Bool.and_eq_true]
  refine ⟨h1,decide_eq_true ?_⟩
  show PyData.depthAll (ns.map .int)+1<=64
  omega
 ·unfold SeqAt.shaped
  rw [Bool.and_eq_true]
  refine ⟨h1,decide_eq_true ?_⟩
  show PyData.depthAll (ns.map .int)+1<=64
  omega
section
variable {X:Cx}
end
end L2
namespace L2
open PySem PySem.Spec PyProof.Rows
namespace CutT
open HT
section
variable {prog:Program} {w:World} {A:Around} {E:Value->Shared->Prop} {s:Shared}
end
end CutT
end L2
namespace L2
open PySem PySem.Spec PyProof.Rows
section
variable {prog:Program} {w:World} {A:Around} {E:Value->Shared->Prop} {s:Shared}
end
section
variable {M:Model} {A:Around} {E:Value->Shared->Prop} {s:Shared} {env:Env}
end
section
variable {X:Cx}
end
end L2
namespace L2
open PySem PySem.Spec PyProof.Rows
theorem map_erase {α β:Type} (f:α->β):∀(xs:List α) (j:Nat),(xs.map f).eraseIdx j=(xs.eraseIdx j).map f
 | [],_=>rfl
 | _ :: _,0=>rfl
 | x :: xs,j+1=>congrArg (f x :: ·) (map_erase f xs j)
section
variable {X:Cx}
def Oc:V->List V->Hp->VK->Prop:=fun x vs H Q=>∃(l:Addr) (ns:List Int) (k:Int),x=.ref l/\vs=[.int k]/\H l=some (.lst (ns.map V.int))/\k∈ns/\Q .non (upd H l (.lst ((ns.eraseIdx (ns.idxOf k)).map V.int)))
theorem Gy:MtM X "list.remove" Oc:=by
 intro pins s σ H x vs v us Q I rx rv h
 obtain ⟨l,ns,k,rfl,rfl,hH,hk,q⟩:=h
 cases rx
 obtain ⟨u,rfl,ru⟩:=rv.one
 obtain ⟨t,rfl⟩:=ru
 obtain ⟨z,its,n,r,hl,e⟩:=I.lstM hH
 have hi:=Cp r
 have hn:=hi.length
 have hj:ns.idxOf k < ns.length:=List.idxOf_lt_length_iff.mpr hk
 have ml:(ns.map V.int).length=ns.length:=List.length_map ..
 refine call_meets PySem.F.slot_list_remove ⟨_,e,rfl⟩ PySem.F.entry_list_remove (PySem.F.args_list_remove_2 _ _) (MeetsSeq.list_remove l its.toArray n (.int k t) (isInt k) (fun y hy=>eq_isInt k t hi y (by simpa using hy)) (ns.idxOf k) (by rw [List.size_toArray];omega) ?_ ?_ (by rw [List.size_toArray];omega)) ⟨e,?_⟩
 ·have:isInt k its[ns.idxOf k]=true:=by rw [isInt_at k hi _ (by omega) hj];simpa using List.getElem_idxOf hj
  exact this
 ·intro j hjs hlt
  have:isInt k its[j]=false:=by rw [isInt_at k hi j (by simpa using hjs) (by omega)];exact ne_of_lt_idxOf hlt _
  exact this
 ·rw [<- map_erase] at q
  refine ⟨.non,_,I.lset (its':=its.eraseIdx (ns.idxOf k)) hH e ?_ (r.eraseIdx (ns.idxOf k)) ?_,rfl,q⟩
  ·show its.toArray.eraseIdxIfInBounds (ns.idxOf k)=(its.eraseIdx (ns.idxOf k)).toArray
   rw [List.eraseIdxIfInBounds_toArray]
  ·have:=E9 (ns.map V.int) (ns.idxOf k)
   omega
end
theorem HX:∀{xs:List V} {us:List Value},xs.length=us.length->(∀(i:Nat) x u,xs[i]?=some x->us[i]?=some u->Av x u)->Aw xs us
 | [],[],_,_=>.nil
 | [],_ :: _,h,_=>by cases h
 | _ :: _,[],h,_=>by cases h
 | x :: xs,u :: us,h,k=>.cons (k 0 x u rfl rfl) (HX (Nat.succ.inj h) fun i y v h1 h2=>k (i+1) y v h1 h2)
section
variable {X:Cx} {e:Expr} {te:TE} {p p2 pos pos2:Pos}
def O4 (te:TE):TE:=fun σ H Q=>te σ H fun x H1=>∃n:Nat,x=.int (n:Int)/\n < 1000/\∀l,H1 l=none->Q (.ref l) (upd H1 l (.lst ((List.range n).map fun i:Nat=>V.int (i:Int))))
theorem Bv (hc:X.calm=true) (hg:Gl X "list") (hm:X.mg "list"=none) (hg2:Gl X "range") (hm2:X.mg "range"=none) (he:PE X e te)
 (hs:starEach [e] X.env=[(false,eval e X.env)]:=by rfl)
 (hs2:starEach [(.Call (.Name "range" p2) [e] [] pos2:Expr)] X.env=[(false,eval (.Call (.Name "range" p2) [e] [] pos2) X.env)]:=by rfl) :
 PE X (.Call (.Name "list" p) [.Call (.Name "range" p2) [e] [] pos2] [] pos) (O4 te):=by
 intro pins s σ H Q I h
 refine wpAny_Call_Name_kw (CH I hg hm boot_list ?_ (by decide) (by decide))
 refine callWith_type1 ?_ hs2 rfl
 rw [hs2]
 refine Calls.spliced_cons ?_
 refine wpAny_Call_Name_kw (CH I hg2 hm2 boot_range ?_ (by decide) (by decide))
 refine callWith_type1 ?_ hs rfl
 rw [hs]
 refine Calls.spliced_cons (thn (he pins s σ H _ I h) fun u s1 ⟨x,H1,I1,r1,n,hx,hn,q⟩=>?_)
 subst hx
 obtain ⟨t,rfl⟩:=r1
 refine Calls.spliced_nil ?_
 refine call_range_1 ?_
 refine Calls.spliced_nil ?_
 refine call_list_range (n:=n) (I1.ok.hd hc) (IsRange.new ..) (small_one (by omega) (by omega) (by omega) (by omega)) (by rw [rangeSize_one];split <;> omega) (by omega) fun h' tk acc c' kp eS it=>?_
 have kp':∀b o,s1.heap.get? b=some o->h'.get? b=some o:=fun b o e=>kp b o (Heap.get?_push_of_some _ e)
 have hp:s1.heap.objs.size<=(s1.heap.push { cls:=.type "range",data:=.fields #[.int 0 s1.toks,.int (n:Int) t,.int 1 (s1.toks+1)] }).objs.size:=by simp [Heap.push]
 have rv:Aw ((List.range n).map fun i:Nat=>V.int (i:Int)) acc.toList:=by
  refine HX (by simp [it.1]) fun i x u hx hu=>?_
  rw [List.getElem?_map] at hx
  obtain ⟨t',e⟩:=it.2 i u (by simpa using hu)
  have hi:i < n:=by
   have:=(List.getElem?_eq_some_iff.mp hu).1
   rw [Array.length_toList,it.1] at this
   exact this
  rw [List.getElem?_range hi] at hx
  have hx':x=V.int (i:Int):=(Option.some.inj hx).symm
  subst hx'
  exact ⟨t',by rw [e];simp⟩
 have hz:((List.range n).map fun i:Nat=>V.int (i:Int)).length<=sizeLine:=by rw [List.length_map,List.length_range];exact Nat.le_of_lt (Bq (by omega))
 exact ⟨.ref _,_,I1.laid (t':=tk) kp' hp (show AI X.prog X.w _ h' _ (.lst ((List.range n).map fun i:Nat=>V.int (i:Int))) from ⟨hz,acc.toList,c',rv,by simpa using eS⟩),rfl,q _ (I1.hok.fresh hp)⟩
end
section
variable {prog:Program} {w:World} {A:Around} {E:Value->Shared->Prop} {s:Shared}
end
section
variable {X:Cx}
end
end L2
namespace L2
open PySem PySem.Spec PyProof.Rows
section
variable {P:Program} {w:World} {K:PySem.W.Frag} {mg:Str->Option Value} {base:Heap}
end
section
variable {X:Cx} {k:Nat} {f:Addr} {fd:FuncData} {ps:List Str} {sp:Sp} {x:Str} {p pos:Pos} {e:Expr} {es:List Expr} {t:TA}
end
section
variable {X:Cx}
end
end L2
namespace L2
open PySem PySem.Spec PyProof.Rows
section
variable {prog:Program} {w:World} {A:Around} {E:Value->Shared->Prop} {s:Shared}
end
section
variable {X:Cx}
end
end L2
namespace L2
open PySem PySem.Spec PyProof.Rows
structure Ol (K:PySem.W.Frag) (x qual:Str) (st:Stmt) (f:Addr) (fd:FuncData):Prop where
 ex:∃(oc:Value) (od:Option Addr) (dV kV doc pm:Value) (an:Option Addr) (cdv ct:Value) (osl:Array (Option Value)),
  fd=PySem.W.fnOf x qual (Al st) (Ak st) (Ae st) dV kV doc pm an cdv ct/\K.lookup f=some ⟨oc,od,.func fd,osl⟩/\PySem.W.codeIn K cdv qual=true
 kp:PySem.W.keepIn K (.ref f)=true
section
variable {P:Program} {w:World} {K:PySem.W.Frag} {mg:Str->Option Value} {base:Heap}
theorem Ol.okX {x qual:Str} {st:Stmt} {f:Addr} {fd:FuncData} {N ps:List Str} {k:Nat} {sp:Sp} (F:Ol K x qual st f fd) (S:Ar N ps (Ae st)) (len:∀vs H Q E,sp vs H Q E->vs.length=ps.length)
 (hbody:∀(cdv:Value) (A:Around) (outer:List Env) (s:Shared) (H:Hp) (vs:List V) (Q:VK) (E:XK),Cj k (A.deeper (envOfC qual (Ae st) s.heap.objs.size f cdv))->sp vs H Q E ->
  ∃t,PSs ((FA (CX1 P w) P w K mg base N qual (Ae st) f cdv A outer s H E).wants fun _=>E) (Ak st) t/\t { nx:=fun _ H'=>Q .non H',rt:=Q } (start N vs) H):AT P w K mg base (CX1 P w) (k+1) f fd ps sp:=by
 obtain ⟨oc,od,dV,kV,doc,pm,an,cdv,ct,osl,rfl,lk,hcd⟩:=F.ex
 refine Mm lk hcd S len fun A outer s H vs Q E hr hsp=>?_
 obtain ⟨t,h,q⟩:=hbody cdv A outer s H vs Q E hr hsp
 refine ⟨t,fun pins s1 σ H1 D I hw=>?_,q⟩
 exact wpAny_mono (h pins s1 σ H1 D (I.wish _) hw) (fun _ _ z=>z.unwish) fun ev s2 z=>Pz z
theorem OH {x qual:Str} {st:Stmt} {f:Addr} {oc:Value} {od an:Option Addr} {osl:Array (Option Value)} {dV kV doc pm cdv ct:Value} (l:K.lookup f=some ⟨oc,od,.func (PySem.W.fnOf x qual (Al st) (Ak st) (Ae st) dV kV doc pm an cdv ct),osl⟩)
 (c:PySem.W.codeIn K cdv qual=true) (k:PySem.W.keepIn K (.ref f)=true):Ol K x qual st f (PySem.W.fnOf x qual (Al st) (Ak st) (Ae st) dV kV doc pm an cdv ct):=⟨⟨oc,od,dV,kV,doc,pm,an,cdv,ct,osl,rfl,l,c⟩,k⟩
end
section
variable {X:Cx} {CX:CXT} {W:St->XK} {k:Nat} {f C:Addr} {fd:FuncData} {ps:List Str} {sp:Sp} {dvs:List V} {ds:List Value} {E:XK} {x m:Str} {p pos apos:Pos} {e o:Expr} {es:List Expr} {ta:TE} {t:TA}
end
end L2
namespace L2
open PySem PySem.Spec PyProof.Rows
def Cx.inCompC (X:Cx) (Nc:List Str) (sc:Scope) (x:Str) (cl:List (Str × Addr)) (s:Shared) (H:Hp) (ex:List Addr):Cx :=
 { X with N:=Nc,s₀:=s,H₀:=H,env:=compEnvC sc ((x,s.heap.objs.size+1) :: cl) s.heap.objs.size X.env,outer:=X.stack,stack:=X.stack,ex:=ex,fn:=fun y=>decide (y=x),pn:=[],xe:=fun _ _=>False }
structure Fx (N Nc:List Str) (x:Str) (sc fsc:Scope):Prop where
 kind:sc.kind=.function
 one:(sc.names.filter fun y=>y.2 == .cell)=[(x,.cell)]
 nm:∀y∈sc.names,y.2=.local->sc.names.lookup y.1=some .local
 own:sc.names.lookup x=some .cell
 fr:∀y∈sc.names,y.2=.free->fsc.names.lookup y.1=some .cell\/fsc.names.lookup y.1=some .free
 len:Nc.length=N.length+1
 nd:Nc.Nodup
 last:Nc[N.length]?=some x
 slot:((List.range N.length).all fun i=>match Nc[i]? with
  | some y=>(match sc.names.lookup y with | some .free=>N[i]? == some y | some .local=>false | some .cell=>false | _=>true)
  | none=>true)=true
theorem Fx.at {N Nc:List Str} {x:Str} {sc fsc:Scope} (C:Fx N Nc x sc fsc) {i:Nat} {y:Str} (hi:i < N.length) (h:Nc[i]?=some y):sc.names.lookup y≠some .local/\sc.names.lookup y≠some .cell/\(sc.names.lookup y=some .free->N[i]?=some y):=by
 have q:=List.all_eq_true.mp C.slot i (List.mem_range.mpr hi)
 rw [h] at q
 dsimp only at q
 cases e:sc.names.lookup y with
 | none=>exact ⟨fun z=>(nomatch z),fun z=>(nomatch z),fun z=>(nomatch z)⟩
 | some k =>
   rw [e] at q
   cases k with
   | «local»=>exact absurd (show false=true from q) Bool.false_ne_true
   | cell=>exact absurd (show false=true from q) Bool.false_ne_true
   | free=>exact ⟨fun z=>(nomatch z),fun z=>(nomatch z),fun _=>by simpa using q⟩
   | _=>exact ⟨fun z=>(nomatch z),fun z=>(nomatch z),fun z=>(nomatch z)⟩
theorem Cs:∀(names:List (Str × NameKind)) (n:Nat) (acc:List (Str × Addr)),cellsFrom n names acc=cellsFrom n (names.filter fun y=>y.2 == .cell) acc
 | [],_,_=>rfl
 | (y,k) :: r,n,acc=>by
   rw [List.filter_cons]
   cases e:k == NameKind.cell with
   | true=>simp only [if_true,cellsFrom,e];exact Cs r _ _
   | false=>simp only [Bool.false_eq_true,if_false,cellsFrom,e];exact Cs r _ _
theorem Ck:∀(names:List (Str × NameKind)) (h:Heap),pushCells h names=pushCells h (names.filter fun y=>y.2 == .cell)
 | [],_=>rfl
 | (y,k) :: r,h=>by
   rw [List.filter_cons]
   cases e:k == NameKind.cell with
   | true=>simp only [if_true,pushCells,e];exact Ck r _
   | false=>simp only [Bool.false_eq_true,if_false,pushCells,e];exact Ck r _
theorem Gi {M:Model} {A:Around} {E:Value->Shared->Prop} {s:Shared} {scope:Scope} {globals:Addr} {closure:List (Str × Addr)} {qual:Str} {outer:Env} {x:Str} {Q:Env->Shared->Prop}
 (one:(scope.names.filter fun y=>y.2 == .cell)=[(x,.cell)])
 (hQ:Q (newEnv scope s.heap.objs.size globals ((x,s.heap.objs.size+1) :: closure) qual none .none (some outer) builtinsNs) { s with heap:=(s.heap.push { cls:=.type "dict",data:=.dict #[] }).push { cls:=.type "cell",data:=.cell none } }) :
 wpAny M A (newFunctionEnv scope globals closure [] qual none .none (some outer)) Q E s:=by
 simp only [newFunctionEnv,Option.isSome_some,if_true]
 refine wpAny_bind (wpAny_alloc ?_)
 refine wpAny_bind (wpAny_layCells _ (fun name kind cells=>by cases hkc:kind == NameKind.cell <;> simp [hkc]) _ _ _ _ ?_)
 rw [Cs,Ck,one]
 rw [show ({ s with heap:=s.heap.push { cls:=.type "dict",data:=.dict #[] } }:Shared).heap.objs.size=s.heap.objs.size+1 from Heap.size_push ..]
 rw [List.forIn_nil]
 exact wpAny_bind (wpAny_pure (wpAny_pure hQ))
section
variable {X:Cx} {elt iter:Expr} {x:Str} {px pos:Pos} {ifs:List Expr} {sc fsc:Scope} {N Nc:List Str} {wi:TI} {tt:TT} {te:TE}
theorem J8 (hE:X.env.scope=fsc) (hXN:X.N=N) (cn:Fx N Nc x sc fsc) (hc:X.calm=true)
 (ht:∀cl s H ex,Fc (X.inCompC Nc sc x cl s H ex) ifs tt) (he:∀cl s H ex,PE (X.inCompC Nc sc x cl s H ex) elt te)
 {cl:List (Str × Addr)} (clS:∀y c,cl.lookup y=some c->X.env.cells.lookup y=some c) (clH:∀y∈sc.names,y.2=.free->∃c,cl.lookup y.1=some c)
 {pins:List (Addr × Obj)} {σ:St} {H2:Hp} {s2:Shared} {it:Addr} {fp:List Addr} {tn:Nat->Heap->Prop} {J:It} {Q:VK} {E:Value->Shared->Prop}
 (I2:Inv X pins σ H2 s2) (T:Io X.prog X.w X.K (.Name x px) J fp it tn) (st2:tn 0 s2.heap) (f2:∀b∈fp,E3 X pins H2 b)
 (h2:∀D,H2 D=none->∃W:Nat->Nat->List V->Hp->Prop,(∃m,W 0 m [] (upd H2 D (.lst [])))/\∀i m ys H2,W i m ys H2 ->
  H2 D=some (.lst ys)/\((J.stop i H2/\Q (.ref D) H2)\/(J.go i H2/\ys.length < sizeLine/\∀x H3,J.yld i H2 x H3->tt (σ++[some x]) H3 fun b H4=>if b=true then te (σ++[some x]) H4 fun y H5=>H5 D=some (.lst ys)/\∃m',m' < m/\W (i+1) m' (ys++[y]) (upd H5 D (.lst (ys++[y])))
   else ∃m',m' < m/\W (i+1) m' ys H4))) :
 wpAny (model X.prog X.w) X.A (newList []) (fun acc s₃=>wpAny (model X.prog X.w) X.A (newFunctionEnv sc X.env.globals cl [] X.env.qual none .none (some X.env)) (fun cenv s₄ =>
  codeAny (model X.prog X.w) X.A (.compStart (.ListComp elt [⟨.Name x px,iter,ifs,0⟩] sc pos) 0 (.ref it) acc { cenv with scope:=relabel sc X.env })
   (fun r s'=>r=.ok .next/\∃D H',acc=.ref D/\Inv X pins σ H' s'/\Q (.ref D) H'/\CU X pins H' cenv.locals/\∃m,s'.heap.Ns cenv.locals m) s₄) E s₃) E s2:=by
 refine wpAny_newObj_type (Gi cn.one ?_)
 dsimp only
 have hD:H2 s2.heap.objs.size=none:=I2.hok.fresh (Nat.le_refl _)
 obtain ⟨W,⟨m0,w0⟩,turn⟩:=h2 s2.heap.objs.size hD
 have I3:Inv X pins σ (upd H2 s2.heap.objs.size (.lst [])) { s2 with heap:=s2.heap.push { cls:=.type "list",dict:=none,data:=.seq ([]:List Value).toArray } } :=
  I2.laid (t':=s2.toks) (fun b u e=>Heap.get?_push_of_some _ e) (Nat.le_refl _) ⟨Nat.zero_le _,[],0,.nil,Heap.get?_push_size _ rfl⟩
 generalize hs3:({ s2 with heap:=s2.heap.push { cls:=.type "list",dict:=none,data:=.seq ([]:List Value).toArray } }:Shared)=s3 at I3
 have eh:s3.heap=s2.heap.push { cls:=.type "list",dict:=none,data:=.seq ([]:List Value).toArray }:=by rw [<- hs3]
 generalize hH3:upd H2 s2.heap.objs.size (.lst [])=H3 at I3 w0
 rw [<- eh]
 have hns₁:((s3.heap.push { cls:=.type "dict",data:=.dict #[] }).push { cls:=.type "cell",data:=.cell none }).Ns s3.heap.objs.size (fun _=>none):=(Heap.Ns.new s3.heap (.type "dict")).keeps fun b o e=>Heap.get?_push_of_some _ e
 have hcell₁:((s3.heap.push { cls:=.type "dict",data:=.dict #[] }).push { cls:=.type "cell",data:=.cell none }).IsCell (s3.heap.objs.size+1) none:=by
  refine ⟨{ cls:=.type "cell",data:=.cell none },?_,rfl⟩
  have:=Heap.get?_push_size (s3.heap.push { cls:=.type "dict",data:=.dict #[] }) (o:={ cls:=.type "cell",data:=.cell none }) rfl
  rw [Heap.size_push] at this
  exact this
 have old:∀b o,s3.heap.get? b=some o->((s3.heap.push { cls:=.type "dict",data:=.dict #[] }).push { cls:=.type "cell",data:=.cell none }).get? b=some o:=fun b o e=>Heap.get?_push_of_some _ (Heap.get?_push_of_some _ e)
 have e2:({ s2 with heap:=(s3.heap.push { cls:=.type "dict",data:=.dict #[] }).push { cls:=.type "cell",data:=.cell none } }:Shared)={ s3 with heap:=(s3.heap.push { cls:=.type "dict",data:=.dict #[] }).push { cls:=.type "cell",data:=.cell none },toks:=s3.toks }:=by rw [<- hs3]
 rw [e2]
 generalize (s3.heap.push { cls:=.type "dict",data:=.dict #[] }).push { cls:=.type "cell",data:=.cell none }=h₁ at hns₁ hcell₁ old ⊢
 have below2:∀b,b∈fp->b < s3.heap.objs.size:=fun b hb=>by
  obtain ⟨o,e,_⟩:=T.obj _ _ st2 b hb
  have:s2.heap.objs.size<=s3.heap.objs.size:=by rw [eh,Heap.size_push];exact Nat.le_succ _
  exact Nat.lt_of_lt_of_le (Heap.lt_size e) this
 have old2:∀b o,s2.heap.get? b=some o->s3.heap.get? b=some o:=fun b o e=>by rw [eh];exact Heap.get?_push_of_some _ e
 have hsz3:s2.heap.objs.size < s3.heap.objs.size:=by rw [eh,Heap.size_push];exact Nat.lt_succ_self _
 have fpFree:∀b∈fp,H3 b=none:=fun b hb=>by
  rw [<- hH3,Ai (fun z=>?_)]
  ·exact (f2 b hb).1
  ·obtain ⟨o,e,_⟩:=T.obj _ _ st2 b hb
   have:=Heap.lt_size e
   rw [z] at this
   exact Nat.lt_irrefl _ this
 have rl:∀y,(relabel sc X.env).names.lookup y=(sc.names.lookup y).map fun k=>if (k == NameKind.free && X.env.scope.kind == .function && X.env.kindOf y == some .cell) then NameKind.cell else k:=fun y=>B9 X.env sc.names y
 have freeOf:∀y,sc.names.lookup y=some .free->∃c,cl.lookup y=some c:=fun y e=>clH (y,.free) (PySem.mem_of_lookup e) rfl
 have onlyX:∀y,sc.names.lookup y=some .cell->y=x:=fun y e=>by
  have m:(y,NameKind.cell)∈sc.names.filter fun y=>y.2 == .cell:=List.mem_filter.mpr ⟨PySem.mem_of_lookup e,rfl⟩
  rw [cn.one] at m
  exact (Prod.mk.inj (List.mem_singleton.mp m)).1
 have clD:∀y c,((x,s3.heap.objs.size+1) :: cl).lookup y=some c->(y=x/\c=s3.heap.objs.size+1)\/(y≠x/\cl.lookup y=some c):=fun y c e=>by
  rw [List.lookup_cons] at e
  cases hb:y == x with
  | true=>rw [hb] at e;exact .inl ⟨by simpa using hb,(Option.some.inj e).symm⟩
  | false=>rw [hb] at e;exact .inr ⟨by simpa using hb,e⟩
 have clN:∀y c,y≠x->cl.lookup y=some c->((x,s3.heap.objs.size+1) :: cl).lookup y=some c:=fun y c n e=>by
  rw [List.lookup_cons,show (y == x)=false by simpa using n]
  exact e
 have clX:((x,s3.heap.objs.size+1) :: cl).lookup x=some (s3.heap.objs.size+1):=by rw [List.lookup_cons,show (x == x)=true by simp]
 have isFree:∀y,((relabel sc X.env).names.lookup y=some .cell\/(relabel sc X.env).names.lookup y=some .free)->(sc.names.lookup y=some .free\/y=x):=fun y h=>by
  rw [rl y] at h
  cases e:sc.names.lookup y with
  | none=>rw [e] at h;rcases h with z | z <;> exact absurd z (by simp)
  | some k =>
    rw [e] at h
    cases k with
    | free=>exact .inl rfl
    | cell=>exact .inr (onlyX y e)
    | «local»=>rcases h with z | z <;> exact absurd z (by simp)
    | _=>rcases h with z | z <;> exact absurd z (by simp)
 have ownC:(relabel sc X.env).names.lookup x=some .cell:=by rw [rl x,cn.own];rfl
 have exOk:∀b∈fp,b≠s3.heap.objs.size/\(∀y c,X.env.cells.lookup y=some c->c≠b)/\b ∉ frs X.stack:=fun b hb=>by
  obtain ⟨g0,g1,g2,g3,g4,g5⟩:=f2 b hb
  refine ⟨Nat.ne_of_lt (below2 b hb),g4,fun z=>?_⟩
  rcases List.mem_cons.mp (I2.stkSub b z) with z | z
  ·exact g1 z
  ·exact g2 z
 have hCnew:X.s₀.heap.objs.size<=s3.heap.objs.size:=I3.sz
 have hCcell:∀y c,X.env.cells.lookup y=some c->c≠s3.heap.objs.size:=fun y c e z=>by
  obtain ⟨v,q⟩:=I3.cell y c e
  have:=q.lt
  rw [z] at this
  exact Nat.lt_irrefl _ this
 have hCpin:∀p∈X.pn++pins,p.1≠s3.heap.objs.size:=fun p hp z=>by
  have:=Heap.lt_size (I3.pin p hp).1
  rw [z] at this
  exact Nat.lt_irrefl _ this
 have ltC:∀y c,X.env.cells.lookup y=some c->c < s3.heap.objs.size:=fun y c e=>by
  obtain ⟨v,q⟩:=I3.cell y c e
  exact q.lt
 have injC:∀y z c,((x,s3.heap.objs.size+1) :: cl).lookup y=some c->((x,s3.heap.objs.size+1) :: cl).lookup z=some c->y=z:=fun y z c h1 h2=>by
  rcases clD y c h1 with ⟨e1,e2⟩ | ⟨_,e2⟩ <;> rcases clD z c h2 with ⟨f1,f2'⟩ | ⟨_,f2'⟩
  ·rw [e1,f1]
  ·exact absurd (ltC z c (clS z c f2')) (by rw [e2];exact Nat.not_lt.mpr (Nat.le_succ _))
  ·exact absurd (ltC y c (clS y c e2)) (by rw [f2'];exact Nat.not_lt.mpr (Nat.le_succ _))
  ·exact I3.ok.inj y z c (clS y c e2) (clS z c f2')
 have hasC:∀y,((relabel sc X.env).names.lookup y=some .cell\/(relabel sc X.env).names.lookup y=some .free)->∃c,((x,s3.heap.objs.size+1) :: cl).lookup y=some c:=fun y hy=>by
  by_cases e:y=x
  ·exact ⟨_,by rw [e];exact clX⟩
  ·rcases isFree y hy with f | f
   ·obtain ⟨c,hc⟩:=freeOf y f
    exact ⟨c,clN y c e hc⟩
   ·exact absurd f e
 have exC:∀b∈fp,∀y c,((x,s3.heap.objs.size+1) :: cl).lookup y=some c->c≠b:=fun b hb y c h=>by
  rcases clD y c h with ⟨_,e2⟩ | ⟨_,e2⟩
  ·exact fun z=>absurd (below2 b hb) (by rw [<- z,e2];exact Nat.not_lt.mpr (Nat.le_succ _))
  ·exact (exOk b hb).2.1 y c (clS y c e2)
 have okc:(X.inCompC Nc sc x cl s3 H3 fp).Ok:=by
  refine ⟨I3.ok.mod,cn.kind,I3.ok.glob,I3.ok.blt,Nat.le_refl _,injC,hasC,fun y c hf e=>?_,I3.ok.hd,I3.ok.frames,.inl rfl,
   fun b hb=>⟨(exOk b hb).1,exC b hb⟩,fun b o e=>I3.bs b o e,Nat.le_trans I3.ok.bsz I3.sz,fun b o e hb=>?_,fun b hb=>(exOk b hb).2.2,I3.stack,I3.stkFree⟩
  ·have ey:y=x:=of_decide_eq_true hf
   rcases clD y c e with ⟨_,e2⟩ | ⟨n,_⟩
   ·show s3.heap.objs.size<=c
    omega
   ·exact absurd ey n
  obtain ⟨g0,g1,g2,g3,g4,g5⟩:=f2 b hb
  rcases g3 with z | z
  ·exact I3.ok.noex b o e z
  ·exact absurd (Heap.lt_size (I3.ok.bs b o e).1) (Nat.not_lt.mpr z)
 have hlen:σ.length=N.length:=by rw [I3.len,hXN]
 have Ic:Inv (X.inCompC Nc sc x cl s3 H3 fp) [] (σ++[none]) H3 { s3 with heap:=h₁,toks:=s3.toks }:=by
  refine ⟨okc,rfl,I3.bare,Un.kept old,⟨_,hns₁,fun i y v h1 h2 h3=>?_⟩,fun y c e=>?_,I3.hok.fresh (Nat.le_refl _),fun y c e=>?_,fun p hp=>absurd (show p∈([]:List (Addr × Obj)) from hp) (by simp),I3.hok.kept old,?_⟩
  ·have hi:i < σ.length:=by
    by_cases hi:i < σ.length
    ·exact hi
    ·rw [List.getElem?_append_right (Nat.not_lt.mp hi)] at h2
     cases e:i - σ.length with
     | zero=>rw [e] at h2;cases h2
     | succ k=>rw [e] at h2;simp at h2
   rw [List.getElem?_append_left hi] at h2
   have hi':i < N.length:=by rw [<- hlen];exact hi
   obtain ⟨n1,n2,n3⟩:=cn.at hi' h1
   have hf:sc.names.lookup y=some .free:=by
    rcases h3 with z | z
    ·exfalso
     have z':(relabel sc X.env).names.lookup y=some .local:=z
     rw [rl y] at z'
     cases e:sc.names.lookup y with
     | none=>rw [e] at z';simp at z'
     | some k =>
       rw [e] at z'
       cases k with
       | «local»=>exact n1 e
       | cell=>exact n2 e
       | free =>
         simp only [Option.map_some,Option.some.injEq] at z'
         split at z' <;> cases z'
       | _=>simp at z'
    ·rcases isFree y z with f | f
     ·exact f
     ·exact absurd (by rw [f];exact cn.own) n2
   have hN:X.N[i]?=some y:=by rw [hXN];exact n3 hf
   obtain ⟨m,hn,hl⟩:=I3.loc
   have hv:fsc.names.lookup y=some .cell\/fsc.names.lookup y=some .free:=cn.fr (y,.free) (PySem.mem_of_lookup hf) rfl
   have hv':X.env.scope.names.lookup y=some .cell\/X.env.scope.names.lookup y=some .free:=by rw [hE];exact hv
   obtain ⟨u,ru,lk⟩:=hl i y v hN h2 (.inr hv')
   refine ⟨u,ru,.inr ⟨?_,?_⟩⟩
   ·show (relabel sc X.env).names.lookup y=some .cell\/(relabel sc X.env).names.lookup y=some .free
    rw [rl y,hf]
    simp only [Option.map_some,Option.some.injEq]
    split
    ·exact .inl rfl
    ·exact .inr rfl
   ·rcases lk with ⟨kl,_⟩ | ⟨_,c,hc,hcell⟩
    ·exfalso
     have kl':X.env.scope.names.lookup y=some .local:=kl
     rw [kl'] at hv'
     rcases hv' with z | z <;> cases z
    ·obtain ⟨d,hd⟩:=freeOf y hf
     have ed:=clS y d hd
     rw [hc] at ed
     cases ed
     exact ⟨c,clN y c (fun z=>n2 (by rw [z];exact cn.own)) hd,hcell.keeps old⟩
  ·rcases clD y c e with ⟨_,e2⟩ | ⟨_,e2⟩
   ·exact ⟨none,by rw [e2];exact hcell₁⟩
   ·obtain ⟨v,q⟩:=I3.cell y c (clS y c e2)
    exact ⟨v,q.keeps old⟩
  ·rcases clD y c e with ⟨_,e2⟩ | ⟨_,e2⟩
   ·exact I3.hok.fresh (by omega)
   ·exact I3.freeC y c (clS y c e2)
  ·show (σ++[none]).length=Nc.length
   rw [List.length_append,hlen,cn.len]
   rfl
 have stc:tn 0 ({ s3 with heap:=h₁,toks:=s3.toks }:Shared).heap:=T.keep _ _ _ st2 fun b _ o e=>old b o (old2 b o e)
 have hDf:s2.heap.objs.size ∉ fp:=fun hm=>by
  obtain ⟨o,e,_⟩:=T.obj _ _ st2 _ hm
  exact Nat.lt_irrefl _ (Heap.lt_size e)
 have fpc:∀{pins':List (Addr × Obj)} {H':Hp},pins'=[]->(∀b∈fp,H' b=none)->∀b∈fp,E3 (X.inCompC Nc sc x cl s3 H3 fp) pins' H' b:=fun {pins' H'} hp hn b hb=>by
  subst hp
  exact ⟨hn b hb,(exOk b hb).1,(exOk b hb).2.2,.inl hb,exC b hb,fun p hp=>absurd (show p∈([]:List (Addr × Obj)) from hp) (by simp)⟩
 have hg:PG (X.inCompC Nc sc x cl s3 H3 fp) (.Name x px) (D1 σ.length):=AC (X:=X.inCompC Nc sc x cl s3 H3 fp) cn.nd (by show Nc[σ.length]?=some x;rw [hlen];exact cn.last) (.inr ownC) (.inl (decide_eq_true rfl))
 have loop:∀s₄:Shared,s₄={ s3 with heap:=h₁,toks:=s3.toks } ->
  codeAny (model X.prog X.w) X.A (.compLoop (.ListComp elt [⟨.Name x px,iter,ifs,0⟩] sc pos) 0 (.ref it) (.ref s2.heap.objs.size) (compEnvC sc ((x,s3.heap.objs.size+1) :: cl) s3.heap.objs.size X.env))
   (fun r s'=>r=.ok .next/\∃D H',(Value.ref s2.heap.objs.size)=.ref D/\Inv X pins σ H' s'/\Q (.ref D) H'/\CU X pins H' s3.heap.objs.size/\∃m,s'.heap.Ns s3.heap.objs.size m) s₄:=by
  rintro s₄ rfl
  refine codeAny_compLoop_tests (fun n s'=>∃(i:Nat) (o:Option V) (H':Hp) (ys:List V),Inv (X.inCompC Nc sc x cl s3 H3 fp) [] (σ++[o]) H' s'/\tn i s'.heap/\(∀b∈fp,H' b=none)/\W i n ys H') ?_ m0 ⟨0,none,H3,[],Ic,stc,fpFree,w0⟩
  rintro n s' ⟨i,o,H',ys,I',st',fr',w'⟩
  obtain ⟨hDl,tw⟩:=turn i n ys H' w'
  rcases tw with ⟨stop,q⟩ | ⟨go,hz,step⟩
  ·
   refine thn (T.done (X.inCompC Nc sc x cl s3 H3 fp) rfl rfl rfl hc i [] s' _ H' _ I' (fpc rfl fr') st' stop) fun r s5 ⟨hr,I5⟩=>?_
   subst hr
   have Ix:Inv X pins σ H' s5:=I3.call' (ch:=fp) I5.os I5.base I5.hok I5.bare fun b hb=>by
    obtain ⟨g0,g1,g2,g3,g4,g5⟩:=f2 b hb
    exact ⟨g3,g1,g4,g5⟩
   have hCf:H' s3.heap.objs.size=none:=I5.free
   obtain ⟨m,hn,_⟩:=I5.loc
   exact ⟨rfl,s2.heap.objs.size,H',rfl,Ix,q,⟨hCf,fun z=>Nat.lt_irrefl _ (by have:=I3.lt;rw [<- z] at this;exact this),hCnew,hCcell,hCpin⟩,m,hn⟩
  ·
   refine thn (T.item (X.inCompC Nc sc x cl s3 H3 fp) rfl rfl rfl hc i [] s' _ H' _ I' (fpc rfl fr') st' go) fun r s5 ⟨u,hr,h4⟩=>?_
   subst hr
   dsimp only
   have e0:letOwnedTupleGo (.Name x px) (.ref it) u=pure ():=rfl
   have e1:(letOwnedTupleGo (.Name x px) (.ref it) u >>= fun _=>assign (.Name x px) (compEnvC sc ((x,s3.heap.objs.size+1) :: cl) s3.heap.objs.size X.env) u)=assign (.Name x px) (compEnvC sc ((x,s3.heap.objs.size+1) :: cl) s3.heap.objs.size X.env) u:=by rw [e0,pure_bind]
   rw [<- e1]
   refine wpAny_bind (thn h4 fun _ s6 ⟨xv,H5,I5,r5,y5,st5,fr5⟩=>?_)
   have I5':=I5.pinned (fpc rfl fr5) (T.obj _ _ st5)
   have again:∀{H7:Hp} {s7:Shared} {m':Nat} {ys':List V},Inv (X.inCompC Nc sc x cl s3 H3 fp) ([]++Ej fp s6.heap) (σ++[some xv]) H7 s7->m' < n->W (i+1) m' ys' H7 ->
    ∃m,m < n/\∃(i:Nat) (o:Option V) (H':Hp) (ys:List V),Inv (X.inCompC Nc sc x cl s3 H3 fp) [] (σ++[o]) H' s7/\tn i s7.heap/\(∀b∈fp,H' b=none)/\W i m ys H':=fun {H7 s7 m' ys'} I7 hm w7=>by
    refine ⟨m',hm,i+1,some xv,H7,ys',I7.unpinned,T.keep _ _ _ st5 fun b hb o e=>(I7.pin (b,o) (List.mem_append_right _ (List.mem_append_right _ (BE hb e)))).1,fun b hb=>?_,w7⟩
    obtain ⟨o',e,d⟩:=T.obj _ _ st5 b hb
    exact (I7.pin (b,o') (List.mem_append_right _ (List.mem_append_right _ (BE hb e)))).2.1
   refine Dq (hg _ s6 _ H5 xv u (fun σ' H''=>σ'=σ++[some xv]/\H''=H5) I5' r5 ⟨IX,rfl⟩) fun _ s7 ⟨σ7,H7,I7,e7,e7'⟩=>?_
   subst e7
   subst e7'
   refine Dq (ht cl s3 H3 fp _ s7 _ _ _ I7 (step xv _ y5)) fun b s8 ⟨H8,I8,q8⟩=>?_
   cases b with
   | false =>
     rw [if_neg Bool.false_ne_true] at q8 ⊢
     obtain ⟨m',hm,w8⟩:=q8
     exact again I8 hm w8
   | true =>
     rw [if_pos rfl] at q8 ⊢
     refine Dq (he cl s3 H3 fp _ s8 _ H8 _ I8 q8) fun y s9 ⟨yv,H9,I9,r9,hD9,m',hm,w9⟩=>?_
     refine Dq (BH _ s9 _ H9 (.ref s2.heap.objs.size) [yv] (.ref s2.heap.objs.size) [y] (fun v H=>v=.non/\H=upd H9 s2.heap.objs.size (.lst (ys++[yv]))) I9 rfl (.cons r9 .nil) ⟨_,ys,yv,rfl,rfl,hD9,hz,rfl,rfl⟩) fun _ s10 ⟨v10,H10,I10,r10,e10,e11⟩=>?_
     subst e11
     exact again I10 hm w9
 exact codeAny_compStart_list (loop _ rfl) (T.self _ 0 _ _ _ stc (loop _ rfl))
theorem LM (I:∀y,(X.env.kindOf y=some .cell\/X.env.kindOf y=some .free)->∃c,X.env.cells.lookup y=some c) (hE:X.env.scope=fsc) (cn:Fx N Nc x sc fsc):∀y∈sc.names,y.2=.free->∃c,X.env.cells.lookup y.1=some c:=fun y hy hf=>by
 refine I y.1 ?_
 show X.env.scope.names.lookup y.1=some .cell\/X.env.scope.names.lookup y.1=some .free
 rw [hE]
 exact cn.fr y hy hf
theorem ME (hE:X.env.scope=fsc) (hXN:X.N=N) (cn:Fx N Nc x sc fsc) (hc:X.calm=true) (hi:PI X (.Name x px) iter wi)
 (ht:∀cl s H ex,Fc (X.inCompC Nc sc x cl s H ex) ifs tt) (he:∀cl s H ex,PE (X.inCompC Nc sc x cl s H ex) elt te)
 (hs:∀v,foldedSetIterable iter X.env v=pure v:=by intro _;rfl):PE X (.ListComp elt [⟨.Name x px,iter,ifs,0⟩] sc pos) (Je wi tt te):=by
 intro pins s σ H Q I h
 obtain ⟨cl,hcl,clS,clH⟩:=CF (env:=X.env) (sc:=sc) (LM I.ok.has hE cn)
 rw [eval_ListComp]
 refine wpAny_comprehension_free (use:=none) rfl hs hcl cn.kind cn.nm (thn (hi pins s σ H _ I h) fun v s1 h1=>thn h1 fun itv s2 h2=>?_)
 obtain ⟨it,fp,tn,J,H2,rfl,I2,T,st2,f2,h2⟩:=h2
 refine thn (J8 (pos:=pos) (iter:=iter) hE hXN cn hc ht he clS clH I2 T st2 f2 h2) fun acc s3 h3=>thn h3 fun cenv s4 h4=>codeAny_mono h4 fun r s' h5=>?_
 obtain ⟨rfl,D,H',rfl,I',q,cloc,m,hn⟩:=h5
 exact ⟨m,hn,fun h' k=>⟨.ref D,H',I'.sameBut cloc k,rfl,q⟩⟩
end
def Jf (sc fsc:Scope):Scope:={ sc with names:=sc.names.map fun (n,k)=>if (k == .free && fsc.kind == .function && fsc.names.lookup n == some .cell) then (n,.cell) else (n,k) }
theorem Jd {X:Cx} {sc fsc:Scope} (h:X.env.scope=fsc):relabel sc X.env=Jf sc fsc:=by
 subst h
 rfl
section
variable {X:Cx} {elt iter:Expr} {x y:Str} {py pos:Pos} {ifs:List Expr} {sc sc2 fsc:Scope} {Nc Nd:List Str} {wi:TI} {tt:TT} {te:TE} {cl:List (Str × Addr)} {s:Shared} {H:Hp} {ex:List Addr}
theorem LS (hE:X.env.scope=fsc) (cn:DB Nc Nd y sc2 (Jf sc fsc)) (hc:X.calm=true) (hi:PI (X.inCompC Nc sc x cl s H ex) (.Name y py) iter wi)
 (ht:∀cl' s' H' ex',Fc ((X.inCompC Nc sc x cl s H ex).inComp Nd sc2 cl' s' H' ex') ifs tt) (he:∀cl' s' H' ex',PE ((X.inCompC Nc sc x cl s H ex).inComp Nd sc2 cl' s' H' ex') elt te)
 (hs:∀v,foldedSetIterable iter (X.inCompC Nc sc x cl s H ex).env v=pure v:=by intro _;rfl):PE (X.inCompC Nc sc x cl s H ex) (.ListComp elt [⟨.Name y py,iter,ifs,0⟩] sc2 pos) (Je wi tt te) :=
 Bl (X:=X.inCompC Nc sc x cl s H ex) (fsc:=Jf sc fsc) (N:=Nc) (Jd hE) rfl cn hc hi ht he hs
theorem J9 (hE:X.env.scope=fsc) (cn:DB Nc Nd y sc2 (Jf sc fsc)) (hc:X.calm=true) (hi:PI (X.inComp Nc sc cl s H ex) (.Name y py) iter wi)
 (ht:∀cl' s' H' ex',Fc ((X.inComp Nc sc cl s H ex).inComp Nd sc2 cl' s' H' ex') ifs tt) (he:∀cl' s' H' ex',PE ((X.inComp Nc sc cl s H ex).inComp Nd sc2 cl' s' H' ex') elt te)
 (hs:∀v,foldedSetIterable iter (X.inComp Nc sc cl s H ex).env v=pure v:=by intro _;rfl):PE (X.inComp Nc sc cl s H ex) (.ListComp elt [⟨.Name y py,iter,ifs,0⟩] sc2 pos) (Je wi tt te) :=
 Bl (X:=X.inComp Nc sc cl s H ex) (fsc:=Jf sc fsc) (N:=Nc) (Jd hE) rfl cn hc hi ht he hs
end
theorem MR {X:Cx} {tg e:Expr} {te:TE} (K:PySem.W.Frag) (he:PE X e te) (h:X.K=K:=by rfl):PI X tg e (OP K te):=by
 subst h
 exact AO he
end L2
namespace L2
open PySem PySem.W PySem.Spec PyProof.Rows
def FT (c:Addr) (q:Str):HO:=.ext fun h=>h.CodeRec (.ref c) q
structure Ft (base:Heap) (mg:Str->Option Value) (c P:Addr):Prop where
 hd:CodeHd base c P
 bm:∃bm ob,mg "__builtins__"=some (.ref bm)/\bm≠builtinsNs/\base.get? bm=some ob/\ob.cls=.type "module"/\ob.dict=some builtinsNs/\ob.data=.plain
 out:base.get? P=none
def DV (P:Addr) (pos:Pos) (q:Str) (H:Hp):Prop:=∃c,H P=some (.tbl #[rawInt pos.line,rawInt pos.col,.ref c])/\H c=some (FT c q)
def FL (P:Addr) (pos:Pos) (q:Str) (H:Hp):Prop:=H P=some (.tbl #[])\/DV P pos q H
def SmL (P:Addr) (H H':Hp):Prop:=∀b u,b≠P->H b=some u->H' b=some u
theorem DV.same {P:Addr} {pos:Pos} {q:Str} {H H':Hp} (x:DV P pos q H) (e:Ao H H'):DV P pos q H':=let ⟨c,h1,h2⟩:=x;⟨c,e _ _ h1,e _ _ h2⟩
theorem DV.put {P l:Addr} {pos:Pos} {q:Str} {H:Hp} {xs:List V} {o:HO} (t:DV P pos q H) (e:H l=some (.lst xs)):DV P pos q (upd H l o):=by
 obtain ⟨c,h1,h2⟩:=t
 exact ⟨c,by rw [Ai (fun z=>by rw [z,e] at h1;cases h1)];exact h1,by rw [Ai (fun z=>by rw [z,e] at h2;cases h2)];exact h2⟩
theorem FL.put {P l:Addr} {pos:Pos} {q:Str} {H:Hp} {xs:List V} {o:HO} (t:FL P pos q H) (e:H l=some (.lst xs)):FL P pos q (upd H l o):=by
 rcases t with t | t
 ·exact .inl (by rw [Ai (fun z=>by rw [z,e] at t;cases t)];exact t)
 ·exact .inr (t.put e)
theorem FL.same {P:Addr} {pos:Pos} {q:Str} {H H':Hp} (t:FL P pos q H) (s:Ao H H'):FL P pos q H':=t.elim (fun t=>.inl (s _ _ t)) fun t=>.inr (t.same s)
theorem LF (pos:Pos):codeAmong pos (#[]:Array Value).toList=none:=rfl
theorem Lx (pos:Pos) (c:Addr):codeAmong pos (#[rawInt pos.line,rawInt pos.col,.ref c]:Array Value).toList=some (.ref c):=by
 simp [codeAmong,rawInt]
theorem M1 {P:Program} {w:World} {H:Hp} {h:Heap} {c:Addr} {q:Str} (x:h.CodeRec (.ref c) q):AI P w H h c (FT c q):=by
 refine ⟨x,?_,fun h1 h2 y k=>?_⟩
 ·obtain ⟨c',o,vs,t,e,g,_⟩:=x
  cases e
  exact ⟨o,g⟩
 ·obtain ⟨c',o,vs,t,e,g,r⟩:=y
  cases e
  exact ⟨c,o,vs,t,rfl,k o g,r⟩
theorem LW {P:Program} {w:World} {H:Hp} {h:Heap} {c:Addr} {q:Str} (x:AI P w H h c (FT c q)):h.CodeRec (.ref c) q:=x.1
section
variable {X:Cx} {pins:List (Addr × Obj)} {σ:St} {H:Hp} {s:Shared} {c P:Addr} {pos:Pos} {params:Arguments} {body:Expr} {sc:Scope} {cl:List (Str × Addr)} {q:Str} {M:Model} {A:Around} {E:Value->Shared->Prop} {Q:Value->Shared->Prop}
theorem Ft.at (LB:Ft X.base X.mg c P) (I:Inv X pins σ H s) (hp:∃ps,H P=some (.tbl ps)):s.heap.Ns mainGlobals X.mg/\CodeHd s.heap c P/\mainGlobals≠P/\s.heap.BuiltinsAt X.mg P:=by
 have G:s.heap.Ns mainGlobals X.mg:=I.mod.glob.keeps I.bk
 have gP:mainGlobals≠P:=fun z=>by
  obtain ⟨o,_,_,e,_⟩:=I.mod.glob
  rw [z,LB.out] at e;cases e
 obtain ⟨bm,ob,b1,b2,b3,b4,b5,b6⟩:=LB.bm
 refine ⟨G,LB.hd.keeps I.bk,gP,bm,ob,b1,b2,fun z=>?_,fun z=>?_,I.bk _ _ b3,b4,b5,b6⟩
 ·obtain ⟨o,es,ep,e,hd,_⟩:=I.mod.glob
  rw [<- z,b3] at e;cases e;rw [b6] at hd;cases hd
 ·rw [z,LB.out] at b3;cases b3
theorem Inv.pin1 {f:Addr} {o:Obj} (I:Inv X pins σ H s) (c:CU X pins H f) (e:s.heap.get? f=some o) (hf:f ∉ X.fs) (d:∀v,o.data≠.cell v):Inv X ((f,o) :: pins) σ H s :=
 I.pins_of fun p hp=>by
  rcases List.mem_cons.mp hp with rfl | hp
  ·exact ⟨e,c.free,c.ne,hf,d⟩
  ·exact I.pin p (List.mem_append_right _ hp)
theorem Inv.cloc {f:Addr} (I:Inv X pins σ H s) (h:s.heap.objs.size<=f):CU X pins H f:=by
 obtain ⟨g0,g1,g2,g3,g4,g5⟩:=I.fpOk h (I.hok.fresh h)
 exact ⟨g0,g1,Nat.le_trans I.sz h,g4,g5⟩
theorem M3 (LB:Ft X.base X.mg c P) (hcode:X.env.code=.ref c) (hcl:closureFor sc X.env=pure cl) (I:Inv X pins σ H s) (t:FL P pos q H)
 (h:∀(f c':Addr) (pm ctv:Value) (H':Hp) (s':Shared),Inv X ((f,kla_obj "<lambda>" q params body sc cl pm c' ctv) :: pins) σ H' s'->H' c'=some (FT c' q)->CU X pins H' f->DV P pos q H'->SmL P H H'->(DV P pos q H->H=H')->(∀b,H' b=none->H b=none)->Q (.ref f) s') :
 wpAny M A (makeFunction "<lambda>" q params (.expr body) sc X.env [] [] [] pos pos.line) Q E s:=by
 rcases t with t | ⟨c',t1,t2⟩
 ·obtain ⟨G,C,gP,B⟩:=LB.at I ⟨_,t⟩
  have hP:s.heap.get? P=some (tabObj #[]):=I.hok P _ t
  refine kla_makeFunction (mg:=X.mg) hcl I.ok.glob G hcode C hP trivial (LF pos) gP B fun c' ctv h' tk hx hge hlt hrec htb=>?_
  have hc':H c'=none:=I.hok.fresh hge
  have cP:c'≠P:=fun z=>by rw [z,t] at hc';cases hc'
  have nP:∀{b:Addr},H b=none->b≠P:=fun e z=>by rw [z,t] at e;cases e
  have htb':h'.get? P=some (tabObj (#[]++#[rawInt pos.line,rawInt pos.col,.ref c'])):=htb
  have ht0:((#[]:Array Value)++#[rawInt pos.line,rawInt pos.col,.ref c'])=#[rawInt pos.line,rawInt pos.col,.ref c']:=rfl
  generalize eH:upd (upd H P (.tbl #[rawInt pos.line,rawInt pos.col,.ref c'])) c' (FT c' q)=H'
  have hb:∀{b:Addr},b≠P->b≠c'->H' b=H b:=fun n1 n2=>by rw [<- eH,Ai n2,Ai n1]
  have hPH:H' P=some (.tbl #[rawInt pos.line,rawInt pos.col,.ref c']):=by rw [<- eH,Ai (Ne.symm cP),Ab]
  have hcH:H' c'=some (FT c' q):=by rw [<- eH,Ab]
  have ne':∀{b:Addr} {o:Obj},s.heap.get? b=some o->b≠c':=fun e=>Nat.ne_of_lt (Nat.lt_of_lt_of_le (Heap.lt_size e) hge)
  have neH:∀{b:Addr} {u:HO},H b=some u->b≠c':=fun e z=>by rw [z,hc'] at e;cases e
  have U:Un X.fs [] H H' s.heap h':=⟨fun b o e n _ _=>hx b o (nP n) e,fun b o e n _ _=>⟨o.slots,hx b o (nP n) e⟩,fun b o e n _=>by rw [hb (nP n) (ne' e)];exact n,fun b o e _=>by
   by_cases z:b=P
   ·rw [z];exact ⟨_,htb⟩
   ·exact ⟨o,hx b o z e⟩,fun b xs e=>by
   rw [hb (fun z=>by rw [z,t] at e;cases e) (neH e)];exact e,fun b o u e=>by
   rw [hb (fun z=>by rw [z,t] at e;cases e) (neH e)];exact e,fun b ps e=>by
   by_cases z:b=P
   ·rw [z,t] at e
    cases e
    exact ⟨#[rawInt pos.line,rawInt pos.col,.ref c'],by rw [z,hPH];rfl⟩
   ·exact ⟨#[],by rw [hb z (neH e),e];simp⟩⟩
  have hok:HOk X.prog X.w H' h':=fun a o e=>by
   by_cases z:a=P
   ·subst z
    rw [hPH] at e
    cases e
    exact htb
   ·by_cases z2:a=c'
    ·subst z2
     rw [hcH] at e
     cases e
     exact M1 hrec
    ·rw [hb z z2] at e
     refine (I.hok a o e).stay (fun b u hbu g=>?_) (fun b g=>?_) fun b xs g=>?_
     ·refine hx b u (fun y=>?_) g
      rcases hbu with rfl | hbu
      ·exact z y
      ·rw [y,t] at hbu;cases hbu
     ·rw [hb (fun y=>by rw [y,t] at g;cases g) (neH g)];exact g
     ·rw [hb (fun y=>by rw [y,t] at g;cases g) (neH g)];exact g
  have I1:Inv X pins σ H' { s with heap:=h',toks:=tk }:=I.un U hok
  have I2:=I1.kept (t':=tk) (h':=h'.push (kla_obj "<lambda>" q params body sc cl ((X.mg "__name__").getD .none) c' ctv)) fun b u e=>Heap.get?_push_of_some _ e
  have cf:CU X pins H' h'.objs.size:=I1.cloc (Nat.le_refl _)
  refine h _ c' _ ctv H' _ (I2.pin1 cf (Heap.get?_push_size _ rfl) (I1.nofs (Nat.le_refl _)) (fun v z=>by cases z)) hcH cf ⟨c',hPH,hcH⟩ (fun b u n e=>by rw [hb n (neH e)];exact e) (fun ⟨_,y,_⟩=>by rw [t] at y;cases y) fun b e=>?_
  rw [hb (fun z=>by rw [z,hPH] at e;cases e) (fun z=>by rw [z,hcH] at e;cases e)] at e
  exact e
 ·obtain ⟨G,C,gP,B⟩:=LB.at I ⟨_,t1⟩
  have hP:s.heap.get? P=some (tabObj #[rawInt pos.line,rawInt pos.col,.ref c']):=I.hok P _ t1
  refine kla_makeFunctionHit (mg:=X.mg) hcl I.ok.glob G hcode C hP trivial (Lx pos c') B fun ctv h' tk hk hsz=>?_
  have I1:Inv X pins σ H { s with heap:=h',toks:=tk }:=I.kept hk
  have I2:=I1.kept (t':=tk) (h':=h'.push (kla_obj "<lambda>" q params body sc cl ((X.mg "__name__").getD .none) c' ctv)) fun b u e=>Heap.get?_push_of_some _ e
  have cf:CU X pins H h'.objs.size:=I1.cloc (Nat.le_refl _)
  exact h _ c' _ ctv H _ (I2.pin1 cf (Heap.get?_push_size _ rfl) (I1.nofs (Nat.le_refl _)) (fun v z=>by cases z)) t2 cf ⟨c',t1,t2⟩ (fun _ _ _ e=>e) (fun _=>rfl) fun _ e=>e
end
def Cx.inLam (X:Cx) (A:Around) (Nc:List Str) (q:Str) (sc:Scope) (cl:List (Str × Addr)) (f c':Addr) (s:Shared) (H:Hp):Cx :=
 { X with A:=A.deeper (envX q sc s.heap.objs.size f (.ref c') cl),N:=Nc,s₀:=s,H₀:=H,env:=envX q sc s.heap.objs.size f (.ref c') cl,outer:=X.stack,stack:=envX q sc s.heap.objs.size f (.ref c') cl :: X.stack,ex:=[],fn:=fun _=>false,calm:=true,pn:=[],xe:=fun _ _=>False }
section
variable {X:Cx} {pins:List (Addr × Obj)} {σ:St} {H:Hp} {s:Shared} {params:Arguments} {body:Expr} {sc fsc:Scope} {cl:List (Str × Addr)} {q x:Str} {A:Around} {N Nc:List Str} {f c':Addr} {te:TE} {E:Value->Shared->Prop}
theorem Oh (hE:X.env.scope=fsc) (hXN:X.N=N) (cn:DB N Nc x sc fsc)
 (clS:∀y c,cl.lookup y=some c->X.env.cells.lookup y=some c) (clH:∀y∈sc.names,y.2=.free->∃c,cl.lookup y.1=some c) (hA:A.frames=X.A.frames) (hh:A.handled=none)
 (I:Inv X pins σ H s) {v:V} {u:Value} (rv:Av v u) {h₁:Heap} {tk:Nat} (hns:h₁.Ns s.heap.objs.size fun y=>[(x,u)].reverse.lookup y) (old:∀b o,s.heap.get? b=some o->h₁.get? b=some o) :
 Inv (X.inLam A Nc q sc cl f c' s H) [] (σ++[some v]) H { s with heap:=h₁,toks:=tk }:=by
 have hlen:σ.length=N.length:=by rw [I.len,hXN]
 have noE:∀b:Addr,b ∉ (X.inLam A Nc q sc cl f c' s H).ex:=fun b z=>absurd (show b∈([]:List Addr) from z) (by simp)
 have freeOf:∀y,sc.names.lookup y=some .free->∃c,cl.lookup y=some c:=fun y e=>clH (y,.free) (PySem.mem_of_lookup e) rfl
 have noCell:∀y,sc.names.lookup y≠some .cell:=fun y e=>cn.cell (y,.cell) (PySem.mem_of_lookup e) rfl
 refine ⟨⟨I.ok.mod,cn.kind,rfl,rfl,Nat.le_refl _,fun y z c e1 e2=>I.ok.inj y z c (clS _ _ e1) (clS _ _ e2),fun y hy=>?_,fun y c z=>absurd (show false=true from z) Bool.false_ne_true,fun _=>hh,Around.frames_deeper (hA.trans I.ok.frames),.inr ⟨rfl,rfl⟩,fun b z=>absurd z (noE b),I.bs,Nat.le_trans I.ok.bsz I.sz,fun b _ _=>noE b,fun b z=>absurd z (noE b),I.stack,I.stkFree⟩,
  rfl,I.bare,Un.kept old,⟨_,hns,fun i y v' h1 h2 h3=>?_⟩,fun y c e=>?_,I.hok.fresh (Nat.le_refl _),fun y c e=>I.freeC y c (clS y c e),fun p hp=>absurd (show p∈([]:List (Addr × Obj)) from hp) (by simp),I.hok.kept old,?_⟩
 ·have hy:sc.names.lookup y=some .cell\/sc.names.lookup y=some .free:=hy
  rcases hy with hy | hy
  ·exact absurd hy (noCell y)
  ·exact freeOf y hy
 ·have h1:Nc[i]?=some y:=h1
  have h3:sc.names.lookup y=some .local\/sc.names.lookup y=some .cell\/sc.names.lookup y=some .free:=h3
  by_cases hi:i < N.length
  ·obtain ⟨n1,n2,n3⟩:=cn.at hi h1
   have hf:sc.names.lookup y=some .free:=by
    rcases h3 with z | z | z
    ·exact absurd z n1
    ·exact absurd z n2
    ·exact z
   rw [List.getElem?_append_left (by omega)] at h2
   have hN:X.N[i]?=some y:=by rw [hXN];exact n3 hf
   obtain ⟨m,hn,hl⟩:=I.loc
   have hv:fsc.names.lookup y=some .cell\/fsc.names.lookup y=some .free:=cn.fr (y,.free) (PySem.mem_of_lookup hf) rfl
   have hv':X.env.scope.names.lookup y=some .cell\/X.env.scope.names.lookup y=some .free:=by rw [hE];exact hv
   obtain ⟨u',ru,lk⟩:=hl i y v' hN h2 (.inr hv')
   refine ⟨u',ru,.inr ⟨.inr hf,?_⟩⟩
   rcases lk with ⟨kl,_⟩ | ⟨_,c,hc,hcell⟩
   ·exfalso
    have kl':X.env.scope.names.lookup y=some .local:=kl
    rw [kl'] at hv'
    rcases hv' with z | z <;> cases z
   ·obtain ⟨d,hd⟩:=freeOf y hf
    have ed:=clS y d hd
    rw [hc] at ed
    cases ed
    exact ⟨c,hd,hcell.keeps old⟩
  ·have hi':i < (σ++[some v]).length:=(List.getElem?_eq_some_iff.mp h2).1
   rw [List.length_append,List.length_singleton] at hi'
   have ei:i=N.length:=by omega
   subst ei
   rw [cn.last] at h1
   cases h1
   rw [List.getElem?_append_right (by omega),hlen,Nat.sub_self] at h2
   cases h2
   exact ⟨u,rv,.inl ⟨cn.own,by simp⟩⟩
 ·obtain ⟨w,z⟩:=I.cell y c (clS y c e)
  exact ⟨w,z.keeps old⟩
 ·show (σ++[some v]).length=Nc.length
  rw [List.length_append,hlen,cn.len]
  rfl
theorem ND (hE:X.env.scope=fsc) (hXN:X.N=N) (cn:DB N Nc x sc fsc) (hco:sc.isCoroutine=false) (hgen:sc.isGenerator=false)
 (clS:∀y c,cl.lookup y=some c->X.env.cells.lookup y=some c) (clH:∀y∈sc.names,y.2=.free->∃c,cl.lookup y.1=some c) (hA:A.frames=X.A.frames) (hh:A.handled=none) (hroom:A.depth < recursionLimit)
 (he:∀s H,PE (X.inLam A Nc q sc cl f c' s H) body te)
 (hbind:∀pm ctv u,bindArgs (kla_fn "<lambda>" q params body sc cl pm (.ref c') ctv) ⟨[u],[]⟩=pure [(x,u)])
 (I:Inv X pins σ H s) {pm ctv:Value} (hf:(f,kla_obj "<lambda>" q params body sc cl pm c' ctv)∈pins) (hc:H c'=some (FT c' q)) {v:V} {u:Value} (rv:Av v u) {R:VK} (h:te (σ++[some v]) H R) :
 wpAny (model X.prog X.w) A (call (.ref f) [u]) (fun u' s'=>∃y H',Inv X pins σ H' s'/\Av y u'/\R y H') E s:=by
 have lim:s.heap.NoLimit:=I.nolimit
 refine wpAny_call (kla_callFunE hroom (I.pin _ (List.mem_append_right _ hf)).1 rfl hco hgen rfl (LW (I.hok _ _ hc)) ?_)
 rw [hbind]
 refine wpAny_pure (wpAny_newFunctionEnv cn.cell (fun y hy=>?_) (fun h₁ hns hsb=>⟨lim.fresh _ hsb,?_⟩) cn.kind)
 ·rw [List.mem_singleton.mp hy]
  exact cn.own
 ·show codeAny _ _ (.expr body (envX q sc s.heap.objs.size f (.ref c') cl)) _ _
  have old:∀b o,s.heap.get? b=some o->h₁.get? b=some o:=fun b o e=>hsb.extBut b o (Nat.ne_of_lt (Heap.lt_size e)) (Heap.get?_push_of_some _ e)
  have Ic:=Oh (q:=q) (f:=f) (c':=c') (tk:=s.toks+[(x,u)].length) hE hXN cn clS clH hA hh I rv hns old
  refine kla_codeExpr (wpAny_mono (he s H [] _ (σ++[some v]) H R Ic h) (fun u' s' ⟨y,H',I',r',q'⟩=>?_) fun _ _ z=>z.elim)
  exact ⟨y,H',I.call' (ch:=[]) I'.os I'.base I'.hok I'.bare (fun b hb=>absurd hb (by simp)),r',q'⟩
end
section
variable {X:Cx} {pins:List (Addr × Obj)} {σ:St} {H:Hp}
theorem Inv.sub {ps:List (Addr × Obj)} {s:Shared} (I:Inv X pins σ H s) (h:∀p∈ps,p∈pins):Inv X ps σ H s:=I.pins_of fun p hp=>I.pin p (List.mem_append_right _ (h p hp))
theorem CU.cons {C S:Addr} {o:Obj} (c:CU X pins H C) (n:S≠C):CU X ((S,o) :: pins) H C:=⟨c.free,c.ne,c.new,c.cells,fun p hp=>by
 rcases List.mem_append.mp hp with hp | hp
 ·exact c.pins p (List.mem_append_left _ hp)
 ·rcases List.mem_cons.mp hp with rfl | hp
  ·exact n
  ·exact c.pins p (List.mem_append_right _ hp)⟩
theorem Inv.repin {s:Shared} {C:Addr} {o o':Obj} {h':Heap} {t':Nat} (I:Inv X ((C,o) :: pins) σ H s) (c:CU X pins H C) (k:∀b u,b≠C->s.heap.get? b=some u->h'.get? b=some u) (e:h'.get? C=some o') (d:∀v,o'.data≠.cell v) :
 Inv X ((C,o') :: pins) σ H { s with heap:=h',toks:=t' }:=by
 obtain ⟨_,_,_,nf,_⟩:=I.pin (C,o) (List.mem_append_right _ (List.mem_cons_self ..))
 have I0:Inv X pins σ H s:=I.sub fun p hp=>List.mem_cons_of_mem _ hp
 exact (I0.turned (t':=t') k c.free c.ne (.inr c.new) c.cells c.pins).pin1 c e nf d
variable {xs:List V} {l f I S:Addr}
theorem Mp (hc:X.calm=true) (kf:Nat->Int) {R:Result->Shared->Prop} (hq:SqL X.K H l xs) (hlI:l≠I) (hSI:S≠I) (cI:CU X pins H I) (cS:CU X pins H S)
 (turn:∀(i:Nat) (x:V) (u:Value) (ps:List (Addr × Obj)) (s:Shared),xs[i]?=some x->Av x u->(∀p∈pins,p∈ps)->Inv X ps σ H s->wpAny (model X.prog X.w) X.A.in1 (call (.ref f) [u]) (fun v s'=>Inv X ps σ H s'/\∃t,v=.int (kf i) t) (fun _ _=>False) s)
 (hR:∀(i:Nat) (x:V) (v:Value) (s:Shared),xs[i]?=some x->Av x v->(∀j,j < xs.length->kf j<=kf i/\(j < i->kf j < kf i))->Inv X pins σ H s->R (.ok (.ret v)) s) :
 ∀(r j i:Nat) (s:Shared) (vb:Value) (x:V) (tb:Tok) (c:Nat) (oI:Obj),xs.length - (j+1)=r->j+1<=xs.length->Inv X ((S,seqObj "list" #[vb,.int (kf i) tb] c) :: (I,oI) :: pins) σ H s->s.heap.IsListIter I l (j+1)->xs[i]?=some x->Av x vb->i<=j ->
  (∀j',j'<=j->kf j'<=kf i/\(j' < i->kf j' < kf i))->codeAny (model X.prog X.w) X.A (.builtin "max.loop" ⟨[.ref I,.ref f,.ref S],[]⟩) R s:=by
 have hname:(toString "max"++toString ".loop":String)="max.loop":=by decide
 intro r
 induction r with
 | zero =>
   intro j i s vb x tb c oI hr hj Iv hit hx rx hij hbest
   obtain ⟨its,rv,pl,hz⟩:=Iv.list hq
   have hlen:xs.length=its.length:=rv.length
   have W:=Walks.list (prog:=X.prog) (w:=X.w) (A:=X.A.in1) (Iv.ok.hd hc) I l hlI its.toArray
   have hsz:its.toArray.size=its.length:=List.size_toArray ..
   have hin:j+1=its.length:=by omega
   have gS:=(Iv.pin _ (List.mem_append_right _ (List.mem_cons_self ..))).1
   refine codeAny_builtin PySem.F.entry_max_loop ?_
   rw [Around.under_plainId PySem.F.plain_max_loop _]
   show wpAny _ X.A.in1 (seqItems? (.ref S) >>= _) _ _ _
   refine wpAny_bind (wpAny_seqItems gS rfl ?_)
   show wpAny _ X.A.in1 (tryCatch (pyNext (.ref I)) _ >>= _) _ _ _
   refine wpAny_bind (wpAny_tryCatch (W.done _ _ _ ⟨by rw [hsz,<- hin];exact hit,pl.isList⟩ fun h' tk' hk'=>?_))
   have I0:Inv X pins σ H s:=Iv.sub fun p hp=>List.mem_cons_of_mem _ (List.mem_cons_of_mem _ hp)
   have I1:=I0.turned (t':=tk') (it:=I) (h':=h') (fun b o n e=>hk' b o (by simpa using n) e) cI.free cI.ne (.inr cI.new) cI.cells cI.pins
   have hS':=hk' S _ (by simpa using hSI) gS
   have s1:=Heap.SameBut.update h' S (Obj.mapSeq fun _=>(#[]:Array Value))
   show wpAny _ X.A.in1 (updateSeq S (fun _=>#[]) >>= _) _ _ _
   refine wpAny_bind ?_
   refine wpAny_updateSeq hS' rfl (wpAny_bind (wpAny_letGo (wpAny_pure ?_)))
   exact hR i x vb _ hx rx (fun j' hj'=>hbest j' (by omega)) (I1.turned (t':=tk') (it:=S) (fun b o n e=>(s1.2 b n).trans e) cS.free cS.ne (.inr cS.new) cS.cells cS.pins)
 | succ r ih =>
   intro j i s vb x tb c oI hr hj Iv hit hx rx hij hbest
   obtain ⟨its,rv,pl,hz⟩:=Iv.list hq
   have hlen:xs.length=its.length:=rv.length
   have W:=Walks.list (prog:=X.prog) (w:=X.w) (A:=X.A.in1) (Iv.ok.hd hc) I l hlI its.toArray
   have hsz:its.toArray.size=its.length:=List.size_toArray ..
   have hlt:j+1 < its.length:=by omega
   have gS:=(Iv.pin _ (List.mem_append_right _ (List.mem_cons_self ..))).1
   refine codeAny_builtin PySem.F.entry_max_loop ?_
   rw [Around.under_plainId PySem.F.plain_max_loop _]
   show wpAny _ X.A.in1 (seqItems? (.ref S) >>= _) _ _ _
   refine wpAny_bind (wpAny_seqItems gS rfl ?_)
   show wpAny _ X.A.in1 (tryCatch (pyNext (.ref I)) _ >>= _) _ _ _
   refine wpAny_bind (wpAny_tryCatch (W.item (j+1) _ _ _ (by rw [hsz];exact hlt) ⟨hit,pl.isList⟩ fun v h' tk' hP hst' hk'=>?_))
   have hv:its[j+1]?=some v:=by simpa using hP
   obtain ⟨oI',hoI',hoc,hod⟩:=id hst'.1
   obtain ⟨x2,hx2⟩:∃x2,xs[j+1]?=some x2:=⟨_,List.getElem?_eq_getElem (by omega)⟩
   obtain ⟨v2,hv2,rx2⟩:=rv.get hx2
   rw [hv] at hv2
   cases hv2
   have Ia:Inv X ((I,oI) :: (S,seqObj "list" #[vb,.int (kf i) tb] c) :: pins) σ H s:=Iv.sub fun p hp=>by
    rcases List.mem_cons.mp hp with rfl | hp
    ·exact List.mem_cons_of_mem _ (List.mem_cons_self ..)
    ·rcases List.mem_cons.mp hp with rfl | hp
     ·exact List.mem_cons_self ..
     ·exact List.mem_cons_of_mem _ (List.mem_cons_of_mem _ hp)
   have I1:=Ia.repin (t':=tk') (h':=h') (o':=oI') (cI.cons hSI) (fun b o n e=>hk' b o (by simpa using n) e) hoI' (fun z y=>by rw [hod] at y;cases y)
   show wpAny _ X.A.in1 (tryCatch (holding [v] (call (.ref f) [v])) _ >>= _) _ _ _
   refine wpAny_bind (wpAny_tryCatch (wpAny_holding (wpAny_mono (turn (j+1) x2 v _ _ hx2 rx2 (fun p hp=>List.mem_cons_of_mem _ (List.mem_cons_of_mem _ hp)) I1) (fun y s2 he=>?_) fun _ _ hF=>hF.elim)))
   obtain ⟨I2,t2,rfl⟩:=he
   have gI2:=(I2.pin _ (List.mem_append_right _ (List.mem_cons_self ..))).1
   have gS2:=(I2.pin _ (List.mem_append_right _ (List.mem_cons_of_mem _ (List.mem_cons_self ..)))).1
   have hit2:s2.heap.IsListIter I l (j+1+1):=⟨oI',gI2,hoc,hod⟩
   have I2':Inv X ((S,seqObj "list" #[vb,.int (kf i) tb] c) :: (I,oI') :: pins) σ H s2:=I2.sub fun p hp=>by
    rcases List.mem_cons.mp hp with rfl | hp
    ·exact List.mem_cons_of_mem _ (List.mem_cons_self ..)
    ·rcases List.mem_cons.mp hp with rfl | hp
     ·exact List.mem_cons_self ..
     ·exact List.mem_cons_of_mem _ (List.mem_cons_of_mem _ hp)
   show wpAny _ X.A.in1 (tryCatch (holding [v,.int (kf (j+1)) t2] (richCompare .Gt (.int (kf (j+1)) t2) (.int (kf i) tb) >>= _)) _ >>= _) _ _ _
   refine wpAny_bind (wpAny_tryCatch (wpAny_holding (wpAny_bind (CmpOf.ints_gt (prog:=X.prog) (w:=X.w) (A:=X.A.in1) (P:=fun i v=>∃t,v=.int (kf i) t) kf (fun i v h=>h) (j+1) i _ _ _ _ _ ⟨t2,rfl⟩ ⟨tb,rfl⟩ ?_))))
   refine wpAny_bind (wpAny_holding (wpAny_truthy_bool ?_))
   refine wpAny_bind (wpAny_letGo (wpAny_pure ?_))
   by_cases hb':kf (j+1) > kf i
   ·have s1:=Heap.SameBut.update s2.heap S (Obj.mapSeq fun _=>#[v,.int (kf (j+1)) t2])
    obtain ⟨c2,hc2⟩:∃c2,(s2.heap.update S (Obj.mapSeq fun _=>#[v,.int (kf (j+1)) t2])).get? S=some (seqObj "list" #[v,.int (kf (j+1)) t2] c2):=⟨_,get?_update_seq gS2 fun _=>#[v,.int (kf (j+1)) t2]⟩
    simp only [hb',decide_true,if_true]
    refine wpAny_bind ?_
    refine wpAny_updateSeq gS2 rfl (wpAny_bind (wpAny_letGo ?_))
    rw [hname]
    have I3:=I2'.repin (t':=s2.toks) (o':=seqObj "list" #[v,.int (kf (j+1)) t2] c2) (cS.cons (Ne.symm hSI)) (fun b o n e=>(s1.2 b n).trans e) hc2 (fun z y=>by cases y)
    refine wpAny_pure ⟨plainId_quiet PySem.F.plain_max_loop _,ih (j+1) (j+1) _ v x2 t2 c2 oI' (by omega) (by omega) I3 ⟨oI',(s1.2 I hSI.symm).trans gI2,hoc,hod⟩ hx2 rx2 (Nat.le_refl _) fun j' hj'=>?_⟩
    by_cases e:j'=j+1
    ·subst e
     exact ⟨by omega,fun z=>by omega⟩
    ·have hb1:=(hbest j' (by omega)).1
     exact ⟨by omega,fun _=>by omega⟩
   ·simp only [hb',decide_false,Bool.false_eq_true,if_false]
    refine wpAny_bind (wpAny_letGo ?_)
    rw [hname]
    refine wpAny_pure ⟨plainId_quiet PySem.F.plain_max_loop _,ih (j+1) i _ vb x tb c oI' (by omega) (by omega) I2' hit2 hx rx (by omega) fun j' hj'=>?_⟩
    by_cases e:j'=j+1
    ·subst e
     exact ⟨by omega,fun z=>by omega⟩
    ·exact hbest j' (by omega)
theorem OF (hc:X.calm=true) (kf:Nat->Int) {s:Shared} {Q:Value->Shared->Prop} {E:Value->Shared->Prop} (hq:SqL X.K H l xs) (hne:0 < xs.length) (Iv:Inv X pins σ H s)
 (turn:∀(i:Nat) (x:V) (u:Value) (ps:List (Addr × Obj)) (s:Shared),xs[i]?=some x->Av x u->(∀p∈pins,p∈ps)->Inv X ps σ H s->wpAny (model X.prog X.w) X.A.in1 (call (.ref f) [u]) (fun v s'=>Inv X ps σ H s'/\∃t,v=.int (kf i) t) (fun _ _=>False) s)
 (hQ:∀(i:Nat) (x:V) (v:Value) (s:Shared),xs[i]?=some x->Av x v->(∀j,j < xs.length->kf j<=kf i/\(j < i->kf j < kf i))->Inv X pins σ H s->Q v s) :
 wpAny (model X.prog X.w) X.A (call (.builtin "max") [.ref l] [(Str.ofString "key",.ref f)]) Q E s:=by
 have hname:(toString "max"++toString ".loop":String)="max.loop":=by decide
 obtain ⟨its,rv,pl,hz⟩:=Iv.list hq
 have hlen:xs.length=its.length:=rv.length
 have hls:=pl.isList
 obtain ⟨ol,hol,_⟩:=id hls
 have hll:l < s.heap.objs.size:=Heap.lt_size hol
 refine kmk_tree PySem.F.kind_max PySem.F.plain_max PySem.F.entry_max (kmk_max_key _ _) ?_
 show wpAny _ X.A.in1 (Builtin.Builtins.bindParams "max" ["key","default"] 0 ⟨[],[(Str.ofString "key",.ref f)]⟩ >>= _) _ _ s
 refine wpAny_bind (wpAny_of_eq (show Builtin.Builtins.bindParams "max" ["key","default"] 0 ⟨[],[(Str.ofString "key",.ref f)]⟩=pure [some (.ref f),none] from rfl) ?_)
 refine wpAny_bind (wpAny_pure ?_)
 refine wpAny_bind (wpAny_pyIter_list hls ?_)
 refine wpAny_bind (wpAny_newList ?_ (Nat.zero_le _))
 rw [hname]
 have hS:(s.heap.push { cls:=.type "list_iterator",data:=.fields #[.ref l,.int 0 0] }).objs.size=s.heap.objs.size+1:=size_push' ..
 have hlI:l≠s.heap.objs.size:=Nat.ne_of_lt hll
 have hSI:(s.heap.push { cls:=.type "list_iterator",data:=.fields #[.ref l,.int 0 0] }).objs.size≠s.heap.objs.size:=by rw [hS];exact Nat.ne_of_gt (Nat.lt_succ_self _)
 have I1:=Iv.kept (t':=s.toks) (h':=s.heap.push { cls:=.type "list_iterator",data:=.fields #[.ref l,.int 0 0] }) fun b u e=>Heap.get?_push_of_some _ e
 have cI:CU X pins H s.heap.objs.size:=Iv.cloc (Nat.le_refl _)
 have cS:CU X pins H (s.heap.push { cls:=.type "list_iterator",data:=.fields #[.ref l,.int 0 0] }).objs.size:=I1.cloc (Nat.le_refl _)
 have nfI:=Iv.nofs (Nat.le_refl _)
 have nfS:=I1.nofs (Nat.le_refl _)
 have I2:=I1.kept (t':=s.toks) (h':=(s.heap.push { cls:=.type "list_iterator",data:=.fields #[.ref l,.int 0 0] }).push (seqObj "list" #[] 0)) fun b u e=>Heap.get?_push_of_some _ e
 have gI:((s.heap.push { cls:=.type "list_iterator",data:=.fields #[.ref l,.int 0 0] }).push (seqObj "list" #[] 0)).get? s.heap.objs.size=some { cls:=.type "list_iterator",data:=.fields #[.ref l,.int 0 0] } :=
  Heap.get?_push_of_some _ (Heap.get?_push_size _ rfl)
 have gS:((s.heap.push { cls:=.type "list_iterator",data:=.fields #[.ref l,.int 0 0] }).push (seqObj "list" #[] 0)).get? (s.heap.push { cls:=.type "list_iterator",data:=.fields #[.ref l,.int 0 0] }).objs.size=some (seqObj "list" #[] 0):=Heap.get?_push_size _ rfl
 generalize (s.heap.push { cls:=.type "list_iterator",data:=.fields #[.ref l,.int 0 0] }).objs.size=S at hSI cS nfS gS ⊢
 generalize hI:s.heap.objs.size=I at hSI cI nfI gI hlI ⊢
 have I3:=(I2.pin1 cS gS nfS (fun z y=>by cases y)).pin1 (cI.cons hSI) gI nfI (fun z y=>by cases y)
 refine wpAny_pure ⟨plainId_quiet PySem.F.plain_max_loop _,?_⟩
 obtain ⟨its,rv,pl,hz⟩:=I3.list hq
 have hlen:xs.length=its.length:=rv.length
 have W:=Walks.list (prog:=X.prog) (w:=X.w) (A:=X.A.in1) (I3.ok.hd hc) I l hlI its.toArray
 have hsz:its.toArray.size=its.length:=List.size_toArray ..
 refine codeAny_builtin PySem.F.entry_max_loop ?_
 rw [Around.under_plainId PySem.F.plain_max_loop _]
 show wpAny _ X.A.in1 (seqItems? (.ref _) >>= _) _ _ _
 refine wpAny_bind (wpAny_seqItems gS rfl ?_)
 show wpAny _ X.A.in1 (tryCatch (pyNext (.ref I)) _ >>= _) _ _ _
 refine wpAny_bind (wpAny_tryCatch (W.item 0 _ _ _ (by rw [hsz,<- hlen];exact hne) ⟨⟨_,gI,rfl,rfl⟩,pl.isList⟩ fun v h' tk' hP hst' hk'=>?_))
 have hv:its[0]?=some v:=by simpa using hP
 obtain ⟨oI',hoI',hoc,hod⟩:=id hst'.1
 obtain ⟨x2,hx2⟩:∃x2,xs[0]?=some x2:=⟨_,List.getElem?_eq_getElem hne⟩
 obtain ⟨v2,hv2,rx2⟩:=rv.get hx2
 rw [hv] at hv2
 cases hv2
 have I4:=I3.repin (t':=tk') (h':=h') (o':=oI') (cI.cons hSI) (fun b o n e=>hk' b o (by simpa using n) e) hoI' (fun z y=>by rw [hod] at y;cases y)
 show wpAny _ X.A.in1 (tryCatch (holding [v] (call (.ref f) [v])) _ >>= _) _ _ _
 refine wpAny_bind (wpAny_tryCatch (wpAny_holding (wpAny_mono (turn 0 x2 v _ _ hx2 rx2 (fun p hp=>List.mem_cons_of_mem _ (List.mem_cons_of_mem _ hp)) I4) (fun y s2 he=>?_) fun _ _ hF=>hF.elim)))
 obtain ⟨I5,t2,rfl⟩:=he
 have gI2:=(I5.pin _ (List.mem_append_right _ (List.mem_cons_self ..))).1
 have gS2:=(I5.pin _ (List.mem_append_right _ (List.mem_cons_of_mem _ (List.mem_cons_self ..)))).1
 have I5':Inv X ((S,seqObj "list" #[] 0) :: (I,oI') :: pins) σ H s2:=I5.sub fun p hp=>by
  rcases List.mem_cons.mp hp with rfl | hp
  ·exact List.mem_cons_of_mem _ (List.mem_cons_self ..)
  ·rcases List.mem_cons.mp hp with rfl | hp
   ·exact List.mem_cons_self ..
   ·exact List.mem_cons_of_mem _ (List.mem_cons_of_mem _ hp)
 have s1:=Heap.SameBut.update s2.heap S (Obj.mapSeq fun _=>#[v,.int (kf 0) t2])
 obtain ⟨c2,hc2⟩:∃c2,(s2.heap.update S (Obj.mapSeq fun _=>#[v,.int (kf 0) t2])).get? S=some (seqObj "list" #[v,.int (kf 0) t2] c2):=⟨_,get?_update_seq gS2 fun _=>#[v,.int (kf 0) t2]⟩
 show wpAny _ X.A.in1 (updateSeq S (fun _=>#[v,.int (kf 0) t2]) >>= _) _ _ _
 refine wpAny_bind ?_
 refine wpAny_updateSeq gS2 rfl ?_
 rw [hname]
 have I6:=I5'.repin (t':=s2.toks) (o':=seqObj "list" #[v,.int (kf 0) t2] c2) (cS.cons (Ne.symm hSI)) (fun b o n e=>(s1.2 b n).trans e) hc2 (fun z y=>by cases y)
 refine wpAny_pure ⟨plainId_quiet PySem.F.plain_max_loop _,Mp hc kf hq hlI hSI cI cS turn hQ _ 0 0 _ v x2 t2 c2 oI' rfl hne I6 ⟨oI',(s1.2 I hSI.symm).trans gI2,hoc,hod⟩ hx2 rx2 (Nat.le_refl _) fun j' hj'=>?_⟩
 have e:j'=0:=by omega
 subst e
 exact ⟨by omega,fun z=>absurd z (Nat.lt_irrefl _)⟩
end
theorem Fun.okC {P:Program} {w:World} {K:PySem.W.Frag} {mg:Str->Option Value} {base:Heap} {x qual:Str} {st:Stmt} {f:Addr} {fd:FuncData} {N ps:List Str} {k:Nat} {sp:Sp} (F:Fun K x qual st f fd) (S:Ar N ps (Ae st)) (len:∀vs H Q E,sp vs H Q E->vs.length=ps.length)
 (hbody:∀(cdv:Value),fd.code=cdv->∀(A:Around) (outer:List Env) (s:Shared) (H:Hp) (vs:List V) (Q:VK) (E:XK),Cj k (A.deeper (envOfC qual (Ae st) s.heap.objs.size f cdv))->sp vs H Q E ->
  ∃t,PSs (FA CX0 P w K mg base N qual (Ae st) f cdv A outer s H E).nox (Ak st) t/\t { nx:=fun _ H'=>Q .non H',rt:=Q } (start N vs) H):AT P w K mg base CX0 (k+1) f fd ps sp:=by
 obtain ⟨oc,od,kV,doc,pm,an,cdv,ct,osl,rfl,lk,hcd⟩:=F.ex
 refine Mm lk hcd S len fun A outer s H vs Q E hr hsp=>?_
 obtain ⟨t,h,q⟩:=hbody cdv rfl A outer s H vs Q E hr hsp
 exact ⟨t,h.nox,q⟩
section
variable {M:Model} {A:Around} {E:Value->Shared->Prop} {s:Shared} {env:Env}
theorem M5 {pos:Pos} {T:String} {e:Expr} {kws:List Keyword} {Q:Value->Shared->Prop}
 (h:wpAny M A (spliced (backTo pos (starEach [e] env))) (fun vs z=>wpAny M A (evalAll ((backToKw pos (keywordEach kws env)).map (·.2))) (fun us y=>wpAny M A (call (.builtin T) vs (((backToKw pos (keywordEach kws env)).filterMap (·.1)).zip us)) Q E y) E z) E s)
 (he:backTo pos (starEach [e] env)=(false,eval e env) :: backTo pos (starEach [] env)) (hp:(backTo pos (starEach [e] env)).any (·.1)=false)
 (ha:(backToKw pos (keywordEach kws env)).all (·.1.isSome)=true) (hk:(backToKw pos (keywordEach kws env)).any (·.1.isNone)=false) :
 wpAny M A (callWith pos (.builtin T) [] (backTo pos (starEach [e] env)) (backToKw pos (keywordEach kws env))) Q E s:=by
 unfold callWith
 have y:wpAny M A (evalArgs (.builtin T) true (backTo pos (starEach [e] env)) (backToKw pos (keywordEach kws env))) (fun a z=>wpAny M A (call (.builtin T) ([]++a.pos) a.kw) Q E z) E s:=by
  rw [he] at h ⊢
  exact evalArgs_kwB ha h
 refine wpAny_bind (wpAny_holding (wpAny_mono y (fun a z q=>wpAny_bind (wpAny_standAt ?_)) fun _ _ x=>x))
 simp only [hp,hk,Bool.or_false]
 refine wpAny_bind (wpAny_pure (wpAny_bind ?_))
 exact wpAny_mono q (fun r z hr=>wpAny_bind (wpAny_holding (wpAny_point (wpAny_pure hr)))) fun _ _ x=>x
end
def Oq (K:PySem.W.Frag) (P:Addr) (lpos:Pos) (q:Str) (tl tb:TE):TE:=fun σ H Q=>tl σ H fun x H1=>∃(a:Addr) (xs:List V) (kf:Nat->Int),x=.ref a/\0 < xs.length/\FL P lpos q H1 /\
 ∀H2,DV P lpos q H2->SmL P H1 H2->(DV P lpos q H1->H1=H2)->(∀b,H2 b=none->H1 b=none) ->
  SqL K H2 a xs/\(∀i x,xs[i]?=some x->tb (σ++[some x]) H2 fun y H3=>y=.int (kf i)/\H3=H2)/\∀i x,xs[i]?=some x->(∀j,j < xs.length->kf j<=kf i/\(j < i->kf j < kf i))->Q x H2
section
variable {X:Cx} {c P:Addr} {e body:Expr} {tl tb:TE} {sc fsc:Scope} {N Nc:List Str} {x:Str} {params:Arguments} {lpos kp p pos:Pos}
theorem Ma (hc:X.calm=true) (LB:Ft X.base X.mg c P) (hcode:X.env.code=.ref c) (hr:Cj 1 X.A) (hg:Gl X "max") (hm:X.mg "max"=none) (hE:X.env.scope=fsc) (hXN:X.N=N) (cn:DB N Nc x sc fsc) (hco:sc.isCoroutine=false) (hgen:sc.isGenerator=false) (he:PE X e tl)
 (hb:∀cl f c' s H,PE (X.inLam X.A.in1 Nc (X.env.qual++"<lambda>") sc cl f c' s H) body tb)
 (hbind:∀cl c' pm ctv u,bindArgs (kla_fn "<lambda>" (X.env.qual++"<lambda>") params body sc cl pm (.ref c') ctv) ⟨[u],[]⟩=pure [(x,u)]:=by intros;rfl) (hdef:defaultsOf params X.env=([],[]):=by rfl)
 (h1:backTo pos (starEach [e] X.env)=(false,eval e X.env) :: backTo pos (starEach [] X.env):=by rfl) (h2:(backTo pos (starEach [e] X.env)).any (·.1)=false:=by rfl)
 (h3:(backToKw pos (keywordEach [⟨some "key",.Lambda params body sc lpos,kp⟩] X.env)).all (·.1.isSome)=true:=by rfl) (h4:(backToKw pos (keywordEach [⟨some "key",.Lambda params body sc lpos,kp⟩] X.env)).any (·.1.isNone)=false:=by rfl)
 (h5:(backToKw pos (keywordEach [⟨some "key",.Lambda params body sc lpos,kp⟩] X.env)).filterMap (·.1)=[("key":Str)]:=by rfl) :
 PE X (.Call (.Name "max" p) [e] [⟨some "key",.Lambda params body sc lpos,kp⟩] pos) (Oq X.K P lpos (X.env.qual++"<lambda>") tl tb):=by
 intro pins s σ H Q I h
 obtain ⟨cl,hcl,clS,clH⟩:=CF (env:=X.env) (sc:=sc) (Fr I.ok.has hE cn)
 refine wpAny_Call_Name_kw (CH I hg hm boot_max ?_ (by decide) (by decide))
 refine M5 ?_ h1 h2 h3 h4
 rw [h1]
 refine Calls.spliced_cons (thn (he pins s σ H _ I h) fun u s1 ⟨y,H1,I1,r1,a,xs,kf,hx,hne,lt,q⟩=>?_)
 subst hx
 cases r1
 refine Calls.spliced_nil ?_
 refine kws_cons (kla_eval hdef (M3 LB hcode hcl I1 lt fun f c' pm ctv H2 s2 I2 hc2 cf l2 sm l12 fr=>kws_nil ?_))
 rw [h5]
 show wpAny (model X.prog X.w) X.A (call (.builtin "max") [.ref a] [(Str.ofString "key",.ref f)]) _ _ s2
 obtain ⟨hq,keys,fin⟩:=q H2 l2 sm l12 fr
 refine OF hc kf hq hne I2 (fun i z u ps s3 hz rz hps I3=>?_) fun i z v s3 hz rz best I3=>?_
 ·refine thn (ND hE hXN cn hco hgen clS clH (A:=X.A.in1) rfl hr.hd (by have:=hr.dp;show X.A.depth < _;omega) (fun s H=>hb cl f c' s H) (fun pm ctv u=>hbind cl c' pm ctv u) I3 (hps _ (List.mem_cons_self ..)) hc2 rz (keys i z hz)) fun v s4 ⟨y,H4,I4,r4,e1,e2⟩=>?_
  subst e1 e2
  exact ⟨I4,r4⟩
 ·exact ⟨z,H2,I3.sub fun p hp=>List.mem_cons_of_mem _ hp,rz,fin i z hz best⟩
end
def K5 (K:PySem.W.Frag):Bool:=K.all fun p=>match p.2.data with
 | .fields v=>!(v.isEmpty && p.2.cls == Value.none)
 | _=>true
theorem HZ {α:Type} {a:Addr} {v:α}:∀{l:List (Addr × α)},l.lookup a=some v->(a,v)∈l
 | (k,u) :: r,h=>by
   rw [List.lookup_cons] at h
   cases hx:(a == k) with
   | true =>
     rw [hx] at h
     have e:a=k:=by simpa using hx
     cases h
     rw [e]
     exact List.mem_cons_self ..
   | false =>
     rw [hx] at h
     exact List.mem_cons_of_mem _ (HZ h)
theorem Jv {K:PySem.W.Frag} (h:K5 K=true) {P:Addr}:K.lookup P≠some (tabObj #[]):=fun e=>by
 have:=List.all_eq_true.mp h _ (HZ e)
 exact absurd (show (!((#[]:Array Value).isEmpty && (Value.none == Value.none)))=true from this) (by decide)
theorem Ll {P:Program} {w:World} {K:PySem.W.Frag} {mg mb:Str->Option Value} {CX:CXT} {k:Nat} {fa a c Pt:Addr} {fd:FuncData} {x:Str} {sp:Sp} {s₁:Shared} {vs:List Value} {ns:List Int}
 (KX:K.In s₁.heap) (hnt:K5 K=true) (hns:s₁.heap.Ns mainGlobals mg) (hb:s₁.heap.Ns builtinsNs mb) (hbb:∀x:Str,x≠"__name__"->mb x=bootBuiltins x) (hlim:s₁.heap.NoLimit) (hg:s₁.gens=#[])
 (ha:s₁.heap.get? a=some { cls:=.type "list",data:=.seq vs.toArray }) (hi:IntsAre vs ns) (hl:ns.length<=sizeLine) (hr:Cj k callerA)
 (hco:s₁.heap.IsCode c Pt #[]) (hta:s₁.heap.TableAt c Pt #[]) (hbm:∃bm ob,mg "__builtins__"=some (.ref bm)/\bm≠builtinsNs/\s₁.heap.get? bm=some ob/\ob.cls=.type "module"/\ob.dict=some builtinsNs/\ob.data=.plain)
 (F:∀base:Heap,K.In base->base.Ns mainGlobals mg->Ft base mg c Pt->AT P w K mg base CX k fa fd [x] sp) (hbind:∀(s:Shared) (u:Value),BindsTo s fd ⟨[u],[]⟩ [(x,u)])
 (hsp:∀H:Hp,H Pt=some (.tbl #[])->SqL K H a (ns.map V.int)->sp [.ref a] H (fun v _=>v=.bl true) fun _ _ _=>False)
 (hCX:∀H e s',CX [] H s₁ (fun _ _ _=>False) e s'->False) :
 codeAny (model P w) callerA (.call (.ref fa) ⟨[.ref a],[]⟩) (fun r s'=>r=.ok (.ret (.bool true))/\OldK s₁.heap s'.heap/\s'.os=s₁.os/\AllBare s'.gens) s₁:=by
 have rv:=DR hi
 have lenV:=hi.length
 have hPt:s₁.heap.get? Pt=some (tabObj #[]):=hta.2
 have aP:a≠Pt:=fun z=>by rw [z,hPt] at ha;cases ha
 have kP:K.lookup Pt=none:=by
  cases e:K.lookup Pt with
  | none=>rfl
  | some o =>
    have:=KX _ _ e
    rw [hPt] at this
    rw [<- Option.some.inj this] at e
    exact absurd e (Jv hnt)
 have core:∀H:Hp,(∀b,H b=none\/(b=Pt/\H b=some (.tbl #[]))\/(b=a/\∃o xs,H b=some (.frz o (.lst xs))))->H Pt=some (.tbl #[])->SqL K H a (ns.map V.int)->HOk P w H s₁.heap->(H a≠none->K.lookup a=none) ->
  codeAny (model P w) callerA (.call (.ref fa) ⟨[.ref a],[]⟩) (fun r s'=>r=.ok (.ret (.bool true))/\OldK s₁.heap s'.heap/\s'.os=s₁.os/\AllBare s'.gens) s₁:=by
  intro H hO hP hS hok hK
  have base_of:∀{b:Addr} {o:Obj},s₁.heap.get? b=some o->H b=none->(Gc s₁.heap H).get? b=some o:=fun e n=>Mg e n
  have other:∀{b:Addr} {o:Obj},s₁.heap.get? b=some o->o.cls≠.type "list"->(o.cls≠.none\/∀v,o.data≠.fields v)->H b=none:=fun {b o} e n1 n2=>by
   rcases hO b with z | ⟨z,_⟩ | ⟨z,_⟩
   ·exact z
   ·subst z
    rw [hPt] at e;cases e
    rcases n2 with n2 | n2
    ·exact absurd rfl n2
    ·exact absurd rfl (n2 _)
   ·subst z
    rw [ha] at e;cases e
    exact absurd rfl n1
  have noA:∀{b:Addr} {o:Obj} {es:Array DictEntry} {ep:Nat},s₁.heap.get? b=some o->o.data=.dict es ep->H b=none:=fun {b o es ep} e d=>by
   rcases hO b with z | ⟨z,_⟩ | ⟨z,_⟩
   ·exact z
   ·subst z;rw [hPt] at e;cases e;cases d
   ·subst z;rw [ha] at e;cases e;cases d
  have nsK:∀{b:Addr} {m:Str->Option Value},s₁.heap.Ns b m->(Gc s₁.heap H).Ns b m:=fun {b m} ⟨o,es,ep,e,d,r⟩=>⟨o,es,ep,base_of e (noA e d),d,r⟩
  have hKb:K.In (Gc s₁.heap H):=fun b o e=>base_of (KX b o e) (by
   rcases hO b with z | ⟨z,_⟩ | ⟨z,y⟩
   ·exact z
   ·subst z;rw [kP] at e;cases e
   ·subst z
    cases q:H b with
    | none=>rfl
    | some u=>rw [hK (by rw [q];simp)] at e;cases e)
  have hM:Mod K mg (Gc s₁.heap H):=⟨hKb,nsK hns,⟨mb,nsK hb,hbb⟩,let ⟨mc,h1,h2⟩:=hlim;⟨mc,nsK h1,h2⟩⟩
  have LB:Ft (Gc s₁.heap H) mg c Pt:=by
   refine ⟨?_,?_,?_⟩
   ·obtain ⟨o,vs',file,tf,flags,tg,inF,text,tt,e,ec,r⟩:=CodeHd.of hco hta
    exact ⟨o,vs',file,tf,flags,tg,inF,text,tt,base_of e (other e (by rw [ec];decide) (.inl (by rw [ec];decide))),ec,r⟩
   ·obtain ⟨bm,ob,b1,b2,b3,b4,r⟩:=hbm
    exact ⟨bm,ob,b1,b2,base_of b3 (other b3 (by rw [b4];decide) (.inl (by rw [b4];decide))),b4,r⟩
   ·cases e:(Gc s₁.heap H).get? Pt with
    | none=>rfl
    | some o=>rw [(Ku e).2] at hP;cases hP
  have e0:JL P w K mg (Gc s₁.heap H) callerA [] s₁ H:=⟨rfl,hM,fun b o e=>Ku e,Nat.le_of_eq (LY _ _),trivial,fun b hb=>absurd (show b∈([]:List Addr) from hb) (by simp),hok,.of_eq hg⟩
  refine codeAny_mono ((F _ hKb (nsK hns) LB).run callerA [] s₁ H ⟨[.ref a],[]⟩ [.ref a] [.ref a] _ _ hr e0 (hbind s₁ (.ref a)) (.cons rfl .nil) (hsp H hP hS)) fun r s' h=>?_
  cases r with
  | error e=>exact (hCX H e s' h).elim
  | ok fl =>
    cases fl with
    | next=>exact False.elim h
    | brk=>exact False.elim h
    | cont=>exact False.elim h
    | ret u =>
      obtain ⟨v,H',os,bare,un,hok',r',q⟩:=h
      have q':v=.bl true:=q
      subst q'
      obtain rfl:u=Value.bool true:=r'
      refine ⟨rfl,⟨fun b o e=>?_,fun b o e=>un.there b o e (by simp)⟩,os,bare⟩
      rcases hO b with z | ⟨z,y⟩ | ⟨z,ob,xs,y⟩
      ·exact .inl (un.keep b o e z (by intro z;exact absurd (show b∈([]:List Addr) from z) (by simp)) (by simp))
      ·subst z
       rw [hPt] at e;cases e
       obtain ⟨more,z2⟩:=un.tbls b _ y
       exact .inr (.inl ⟨hta.isCodeTable,rfl,#[],more,rfl,hok' b _ z2⟩)
      ·have z2:=un.frzs b ob _ y
       obtain ⟨e1,_⟩:=hok b _ y
       obtain ⟨e2,_⟩:=hok' b _ z2
       rw [e] at e1;cases e1
       exact .inl e2
 cases hk:K.lookup a with
 | some o =>
   have e:=KX a o hk
   rw [ha] at e
   cases e
   refine core (fun b=>if b=Pt then some (.tbl #[]) else none) (fun b=>?_) (if_pos rfl) (.inr ⟨_,vs.toArray,_,hk,rfl,rfl,rfl,by rw [List.size_toArray,lenV];exact hl,by simpa using rv⟩) (fun b u z=>?_) fun z=>absurd (if_neg aP) z
   ·by_cases hb:b=Pt
    ·exact .inr (.inl ⟨hb,if_pos hb⟩)
    ·exact .inl (if_neg hb)
   ·by_cases hb:b=Pt
    ·have z':=(if_pos hb).symm.trans z
     cases z'
     subst hb
     exact hPt
    ·have z':=(if_neg hb).symm.trans z
     cases z'
 | none =>
   refine core (fun b=>if b=Pt then some (.tbl #[]) else if b=a then some (.frz { cls:=.type "list",data:=.seq vs.toArray } (.lst (ns.map V.int))) else none) (fun b=>?_) (if_pos rfl) (.inl (.inr ⟨{ cls:=.type "list",data:=.seq vs.toArray },(if_neg aP).trans (if_pos rfl)⟩)) (fun b u z=>?_) fun _=>hk
   ·by_cases hb:b=Pt
    ·exact .inr (.inl ⟨hb,if_pos hb⟩)
    ·by_cases hb2:b=a
     ·exact .inr (.inr ⟨hb2,_,_,(if_neg hb).trans (if_pos hb2)⟩)
     ·exact .inl ((if_neg hb).trans (if_neg hb2))
   ·by_cases hb:b=Pt
    ·have z':=(if_pos hb).symm.trans z
     cases z'
     subst hb
     exact hPt
    ·have z:=(if_neg hb).symm.trans z
     by_cases hb2:b=a
     ·have z':=(if_pos hb2).symm.trans z
      cases z'
      subst hb2
      exact ⟨ha,by rw [List.length_map];exact hl,vs,_,rv,ha⟩
     ·have z':=(if_neg hb2).symm.trans z
      cases z'
theorem walk_of1 {l:PySem.W.OpenLaw} {n k:Nat} {q:Program} {loose:List Str} {XP:(Str->Option Value)->Heap->Prop} {YP:World->Heap->Prop} {d dn:DefRec} {K:Params->PySem.W.Frag} {CX:World->CXT} {sp:World->Addr->Sp} {x:Str}
 (hn:l.most=some n) (hn2:n<=sizeLine) (hdf:d.params.defaults=[]) (hr:Cj k callerA)
 (hY:∀(w:World) (h:Heap),YP w h->(K w.params).In h) (hnt:∀p,K5 (K p)=true) (hdn:dn∈recsOf q)
 (F:∀(w:World) (mg:Str->Option Value) (fa f c Pt:Addr) (h:Heap),(K w.params).In h->h.Ns mainGlobals mg->mg d.name=some (.ref fa)->mg dn.name=some (.ref f)->(∃o fd,h.get? f=some o/\o.data=.func fd/\fd.code=.ref c) ->
  ∃fd:FuncData,(∀(s:Shared) (u:Value),BindsTo s fd ⟨[u],[]⟩ [(x,u)]) /\
   ∀base:Heap,(K w.params).In base->base.Ns mainGlobals mg->Ft base mg c Pt->AT l.prog w (K w.params) mg base (CX w) k fa fd [x] (sp w Pt))
 (hsp:∀(w:World) (Pt:Addr) (H:Hp) (a:Addr) (ns:List Int),ns.length<=n->H Pt=some (.tbl #[])->SqL (K w.params) H a (ns.map V.int)->sp w Pt [.ref a] H (fun v _=>v=.bl true) fun _ _ _=>False)
 (hCX:∀(w:World) (H:Hp) (s:Shared) (e:Value) (s':Shared),CX w [] H s (fun _ _ _=>False) e s'->False) :
 PySem.W.WalkO q loose XP YP l.row.toRowW d [] (fun f vs=>PySem.call f vs):=by
 refine Att.attach_call hn hdf fun w s₀ s₁ mg mb fa o pm cd doc a vs ns G Y ho hd hcd hmg hobj hints hlen hg=>?_
 have KX:=hY w _ Y
 obtain ⟨f,o',fd',c,Pt,t1,t2,t3,t4,t5,t6⟩:=G.T.tab dn hdn
 obtain ⟨fd,hb,hF⟩:=F w mg fa f c Pt _ KX G.T.g hmg t1 ⟨o',fd',t2,t3,t4⟩
 exact Ll KX (hnt _) G.T.g G.T.b G.T.builtins G.T.nolimit hg hobj hints (Nat.le_trans hlen hn2) hr t5 t6 G.T.bmain hF hb (fun H hP hS=>hsp w Pt H a ns hlen hP hS) fun H e s'=>hCX w H s₁ e s'
end L2
namespace L2
open PySem PySem.W PySem.Spec PyProof.Rows
section
variable {X:Cx}
def OL:V->List V->Hp->VK->Prop:=fun x vs H Q=>∃(l:Addr) (xs:List V) (k:Nat) (y:V),x=.ref l/\vs=[.int (k:Int),y]/\H l=some (.lst xs)/\k<=xs.length/\xs.length < sizeLine/\Q .non (upd H l (.lst (xs.take k++y :: xs.drop k)))
theorem LJ:MtM X "list.insert" OL:=by
 intro pins s σ H x vs v us Q I rx rv h
 obtain ⟨l,xs,k,y,rfl,rfl,hH,hk,hz1,q⟩:=h
 cases rx
 obtain ⟨u1,u2,rfl,ru1,ru2⟩:∃u1 u2,us=[u1,u2]/\Av (.int (k:Int)) u1/\Av y u2:=by
  cases rv with
  | cons r1 t=>cases t with
    | cons r2 t2=>cases t2;exact ⟨_,_,rfl,r1,r2⟩
 obtain ⟨t,rfl⟩:=ru1
 obtain ⟨z,its,n,r,hl,e⟩:=I.lstM hH
 have hs:sizeLine=16777216:=sizeLine_eq
 obtain ⟨i,hi⟩:∃i:Int,i=(k:Int):=⟨_,rfl⟩
 rw [<- hi]
 have fi:Builtin.List.listFitsIndex i=true:=fitsIndex_both (by omega) (by omega)
 have zi:its.toArray.size<=sizeLine:=by rw [List.size_toArray];omega
 refine call_meets PySem.F.slot_list_insert ⟨_,e,rfl⟩ PySem.F.entry_list_insert (PySem.F.args_list_insert_3 _ _ _) (PySem.AutoSeq1.list_insert_list_int_val_1 l its.toArray n i t u2 (by simp [fi]) zi) ⟨e,?_⟩
 refine ⟨.non,_,I.lset (its':=its.take k++u2 :: its.drop k) hH e ?_ ((r.take k).append (.cons ru2 (r.drop k))) ?_,rfl,q⟩
 ·have kk:(if i < 0 then (i+(its.toArray.size:Int)).toNat else min i.toNat its.toArray.size)=k:=by
   rw [if_neg (by omega),hi,Int.toNat_natCast,List.size_toArray]
   omega
  show (its.toArray.extract 0 (if i < 0 then (i+(its.toArray.size:Int)).toNat else min i.toNat its.toArray.size)).push u2++its.toArray.extract (if i < 0 then (i+(its.toArray.size:Int)).toNat else min i.toNat its.toArray.size)=_
  rw [kk]
  apply Array.ext'
  simp
  exact List.take_of_length_le (by rw [List.length_drop];exact Nat.le_refl _)
 ·rw [List.length_append,List.length_cons,List.length_take,List.length_drop]
  omega
end
section
variable {X:Cx} {e:Expr} {te:TE} {p p2 pos pos2:Pos}
end
end L2
namespace L2
open PySem PySem.W PySem.Spec PyProof.Rows
section
variable {prog:Program} {w:World} {A:Around} {E:Value->Shared->Prop} {s:Shared}
end
section
variable {prog:Program} {w:World} {A:Around} {E:Value->Shared->Prop} {s:Shared}
end
section
variable {X:Cx} {e e2:Expr} {te te2:TE} {p p2 p3 pos pos2 pos3 pos4:Pos}
end
end L2
namespace L2
open PySem PySem.Spec PyProof.Rows
def Pw (C:Addr) (sp:Sp) (dvs:List V) (W:St->XK) (t:TA):TE:=fun σ H Q=>t σ H fun vs H1=>∀x dx,H1 x=none->H1 dx=none->dx≠x ->
 sp (.ref x :: (vs++dvs)) (upd (upd H1 dx (.own x)) x (.ins C dx [])) (fun v H2=>v=.non/\Q (.ref x) H2) (W σ)
section
variable {X:Cx} {W:St->XK} {k:Nat} {f C:Addr} {fd:FuncData} {ps:List Str} {sp:Sp} {dvs:List V} {ds:List Value} {x m:Str} {p pos apos:Pos} {e o:Expr} {es:List Expr} {ta:TE} {t:TA}
theorem Ln {pins:List (Addr × Obj)} {σ:St} {H:Hp} {s:Shared} {Q:VK} {us:List Value} {vs:List V} (B:Gm X) (M:Mk X.K C f) (F:AT X.prog X.w X.K X.mg X.base (CX1 X.prog X.w) k f fd ps sp) (hr:Cj (k+1) X.A) (hb:A0 X.K fd ps ds) (hd:Aw dvs ds)
 (I:Inv (X.wants W) pins σ H s) (r:Aw vs us)
 (h:∀x dx,H x=none->H dx=none->dx≠x->sp (.ref x :: (vs++dvs)) (upd (upd H dx (.own x)) x (.ins C dx [])) (fun v H2=>v=.non/\Q (.ref x) H2) (W σ)) :
 wpAny (model X.prog X.w) X.A (call (.ref C) us) (EP (X.wants W) pins σ Q) (O0 X W) s:=by
 have hq:=h (s.heap.objs.size+1) s.heap.objs.size (I.hok.fresh (Nat.le_succ _)) (I.hok.fresh (Nat.le_refl _)) (Nat.ne_of_lt (Nat.lt_succ_self _))
 have I2:=Inv.made (C:=C) I
 have r2:Aw (V.ref (s.heap.objs.size+1) :: (vs++dvs)) (Value.ref (s.heap.objs.size+1) :: (us++ds)):=.cons rfl (r.append hd)
 have hl:(Value.ref (s.heap.objs.size+1) :: us++ds).length=ps.length:=by
  have e:=r2.length
  rw [F.len _ _ _ _ hq] at e
  exact e.symm
 refine wpAny_call (Jl (f:=f) I.kIn M.makes M.init (beq_iff_eq.mp M.fn) (codeAny_mono (F.run _ X.stack _ _ ⟨Value.ref (s.heap.objs.size+1) :: us,[]⟩ (Value.ref (s.heap.objs.size+1) :: (us++ds)) _ _ (W σ) (hr.make C us [])
  (I2.unwish.env0.make C us []) (hb _ (Value.ref (s.heap.objs.size+1) :: us) I2.kIn hl) r2 hq) fun r s' hq'=>?_))
 cases r with
 | error ev =>
   obtain ⟨e,cls,od,H',rfl,I',F',q⟩:=I2.unwish.flew B hq'
   exact ⟨σ,H',e,cls,od,rfl,I'.nopins,F'.less,q⟩
 | ok fl =>
   cases fl with
   | ret u =>
     obtain ⟨v,H',I3,rv,ev,q3⟩:=I2.after hq'
     subst ev
     exact ⟨rv,⟨V.ref (s.heap.objs.size+1),H',I3,rfl,q3⟩⟩
   | next=>exact False.elim hq'
   | brk=>exact False.elim hq'
   | cont=>exact False.elim hq'
theorem N3 (B:Gm X) (M:Mk X.K C f) (F:AT X.prog X.w X.K X.mg X.base (CX1 X.prog X.w) k f fd ps sp) (hr:Cj (k+1) X.A) (hg:Gl X x) (hm:X.mg x=some (.ref C)) (hb:A0 X.K fd ps ds) (hd:Aw dvs ds)
 (ha:PA (X.wants W) (e :: es) t) (hdb:(x == ("__debug__":Str))=false:=by decide) (he:starEach (e :: es) X.env=(false,eval e X.env) :: starEach es X.env:=by rfl) (hpl:(backTo pos (starEach es X.env)).any (·.1)=false:=by rfl) :
 PE (X.wants W) (.Call (.Name x p) (e :: es) [] pos) (Pw C sp dvs W t):=by
 intro pins s σ H Q I h
 refine wpAny_Call_Name_kw (DT I hg hm ?_ hdb)
 refine PySem.W.callWith_K (h₀:=X.base) I.ok.mod.kin M.kp (thn (ha pos pins s σ H _ I h) fun us s1 ⟨vs,H1,I1,r,q⟩=>⟨I1.kIn,?_⟩) he hpl
 exact Ln B M F hr hb hd I1 r q
structure OQ (K:PySem.W.Frag) (C B:Addr):Prop where
 ha:PySem.W.findIn K (.ref C) "__class__"=some (some (.builtin "object.__class__"))
 hn:PySem.W.specialIn K (.builtin "object.__class__") "__get__"=some (some (.builtin "getset_descriptor.__get__"))
 htk:PySem.W.takesIn K (.builtin "object.__class__")=some true
 hm:PySem.W.mroIn K C (.type "object")=some true
 kt:PySem.W.kitOne K (.ref C) (.ref B)=some true
theorem N2 {K:PySem.W.Frag} (hK:X.K=K:=by rfl):Cy X (.builtin "isinstance") (fun xs H Q=>∃a C dx fs B,xs=[.ref a,.ref B]/\H a=some (.ins C dx fs)/\Cls K C/\OQ K C B/\Q (.bl true) H):=by
 subst hK
 intro pins s σ H xs us Q I rv h
 obtain ⟨a,C,dx,fs,B,rfl,ha,cl,i,q⟩:=h
 obtain ⟨u,u',rfl,r1,r2⟩:=GN rv
 cases (show u'=Value.ref B from r2)
 exact GF I r1 (.ins ha cl i.ha i.hn i.htk i.hm) i.kt fun tk=>⟨.bl true,H,I.tok tk,rfl,q⟩
end
end L2
namespace L2
open PySem PySem.W PySem.Spec PyProof.Rows
section
variable {prog:Program} {w:World} {A:Around} {E:Value->Shared->Prop} {s:Shared} {Q:Bool->Shared->Prop}
end
section
variable {X:Cx}
end
end L2
namespace L2
open PySem PySem.Spec PyProof.Rows
section
variable {prog:Program} {w:World} {A:Around} {E:Value->Shared->Prop} {s:Shared} {d:Addr} {es:Array DictEntry} {ep:Nat}
end
section
variable {X:Cx}
end
section
variable {prog:Program} {w:World} {A:Around} {E:Value->Shared->Prop} {s:Shared}
end
section
variable {X:Cx}
end
end L2
namespace PySem
open Sem (wp)
section
variable {prog:Program} {w:World} {K:Type} [DecidableEq K] (knd:KeyKind prog w K)
variable {knd}
variable {A:Around} {E:Value->Shared->Prop} {s:Shared}
end
end PySem
namespace L2
open PySem PySem.Spec PyProof.Rows
section
variable {P:Program} {w:World} {H:Hp} {h:Heap} {a:Addr}
end
section
variable {X:Cx} {o i e value:Expr} {pos pos' tpos:Pos} {td ty tv:TE}
end
end L2
namespace L2
open PySem PySem.Spec PyProof.Rows
section
variable {X:Cx}
end
section
variable {prog:Program} {w:World} {A:Around} {E:Value->Shared->Prop} {s:Shared}
theorem Ib {it l:Addr} {items:Array Value} (hne:l≠it):∀(n i:Nat) (s:Shared) (Q:List Value->Shared->Prop),s.heap.IsListIter it l i->s.heap.IsList l items->i+n<=items.size ->
 (∀h',h'.IsListIter it l (i+n)->Heap.SameBut it s.heap h'->Q ((items.toList.drop i).take n) { s with heap:=h' })->wpAny (model prog w) A (draw (.ref it) n) Q E s
 | 0,i,s,Q,hit,_,_,hQ=>by
   show wpAny _ _ (pure []) Q E s
   exact wpAny_pure (by simpa using hQ s.heap hit (Heap.SameBut.refl ..))
 | n+1,i,s,Q,hit,ht,hle,hQ=>by
   have hlt:i < items.size:=by omega
   show wpAny _ _ (pyNext (.ref it) >>= _) Q E s
   refine wpAny_bind (wpAny_pyNext_list_item hit ht (x:=items[i]) (by simp [hlt]) fun h₁ hit₁ hs₁=>?_)
   refine wpAny_bind (wpAny_holding (Ib hne n (i+1) _ _ hit₁ (ht.at fun o e=>hs₁.extBut _ _ hne e) (by omega) fun h₂ hit₂ hs₂=>wpAny_pure ?_))
   have hd:items.toList.drop i=items[i] :: items.toList.drop (i+1):=by simp [List.drop_eq_getElem_cons,hlt]
   have:=hQ h₂ (by rw [show i+(n+1)=i+1+n by omega];exact hit₂) (hs₁.trans hs₂)
   rw [hd,List.take_succ_cons] at this
   exact this
theorem J1 {l:Addr} {items:Array Value} {Q:List Value->Shared->Prop} (hh:A.handled=none) (ht:s.heap.IsList l items)
 (hQ:∀h',Heap.ExtBut s.heap.objs.size s.heap h'->Q items.toList { s with heap:=h' }):wpAny (model prog w) A (unpackItems (.ref l) items.size none) Q E s:=by
 have hlt:l≠s.heap.objs.size:=by obtain ⟨o,ho,_⟩:=id ht;exact Nat.ne_of_lt (Heap.lt_size ho)
 unfold unpackItems
 refine wpAny_bind ?_
 unfold notIterableAtAll
 refine wpAny_bind (wpAny_specialOf ht.typeIs F.slot_list_iter.lookup ?_)
 refine wpAny_pure ?_
 simp only [Bool.false_eq_true,if_false]
 refine wpAny_bind (wpAny_holding (wpAny_pyIter_list ht ?_))
 refine wpAny_bind (wpAny_holding (Ib hlt items.size 0 _ _ ⟨_,Heap.get?_push_size _ rfl,rfl,rfl⟩ (ht.at fun o e=>Heap.get?_push_of_some _ e) (by omega) fun h₁ hit₁ hs₁=>?_))
 have hall:List.take items.size (List.drop 0 items.toList)=items.toList:=by
  rw [List.drop_zero];exact List.take_of_length_le (by simp)
 rw [hall]
 rw [if_neg (by simp)]
 have ht₁:h₁.IsList l items:=(ht.at fun o e=>Heap.get?_push_of_some _ e).at fun o e=>hs₁.extBut _ _ hlt e
 refine wpAny_bind (wpAny_holding (wpAny_pyNext_list_end hh hit₁ ht₁ (by simp) fun h₂ he₂=>?_))
 simp only [Option.isSome_none,Bool.false_eq_true,if_false]
 refine wpAny_pure (hQ h₂ fun b o hb e=>he₂ b o hb (hs₁.extBut b o hb (Heap.get?_push_of_some _ e)))
end
def QB (K:PySem.W.Frag) (n:Nat) (t:TGs):TG:=fun v σ H Q=>∃a xs,v=.ref a/\SqL K H a xs/\xs.length=n/\t xs σ H Q
theorem NW {X:Cx} {pos:Pos} {es:List Expr} {k:Nat} {t:TGs} {n:Nat} (hc:X.calm=true) (h:PGs X es t)
 (hn:(assignEach es X.env).length=n:=by rfl) (hst:(assignEach es X.env).findIdx? (·.1)=none:=by rfl):PG X (.Tuple es k pos) (QB X.K n t):=by
 intro pins s σ H v u Q I r hw
 obtain ⟨a,xs,e1,hq,hl,hw⟩:=hw
 subst e1
 cases r
 obtain ⟨its,rv,p,hz⟩:=I.list hq
 rw [arm_assign_Tuple]
 refine wpAny_bind (wpAny_standAt ?_)
 unfold unpack
 rw [show (assignEach es X.env).length=its.toArray.size from by simp [hn,<- hl,rv.length],hst]
 refine wpAny_bind (wpAny_holding (J1 (I.ok.hd hc) p.isList fun h' hx=>?_))
 have I1:Inv X pins σ H { s with heap:=h' }:=I.kept (t':=s.toks) fun b o e=>hx b o (Nat.ne_of_lt (Heap.lt_size e)) e
 exact h pins _ σ H xs _ Q I1 (by simpa using rv) hw
end L2
set_option maxHeartbeats 4000000
namespace Law
open PySem L2
def KH (K:PySem.W.Frag) (P:Addr):Sp:=fun vs H Q _=>∃(p:Addr) (ns:List Int),vs=[.ref p]/\SqL K H p (ns.map V.int)/\ns.length<=63/\H P=some (.tbl #[])/\∀H',Q (.bl true) H'
def OB:Sp:=fun vs H Q _=>∃c:Int,vs=[.int c]/\Q (.bl true) H
theorem Ad {H:Hp} {p:Addr} (h:H p=none) (o:HO):Ao H (upd H p o):=fun b u q=>by rw [Ai (AF q h)];exact q
theorem Be (x:Int) {y:Int} (h:0 < y):0<=x.fmod y/\x.fmod y < y:=⟨Int.fmod_nonneg_of_pos x h,Int.fmod_lt_of_pos x h⟩
theorem Oi (x:Int) {y:Int} {n:Nat} (h:0 < y) (k:Sz n y):Sz n (x.fmod y):=by
 have e:=Be x h
 unfold Sz at k ⊢
 omega
def Nt:Pos:=⟨33,32,33,55⟩
def Qf:Str:=("reached_from":Str)++".<locals>."++"<lambda>"
theorem N6 {xs:List V} {j:Nat}:He xs (some (j:Int)) none=xs.drop j:=by
 unfold He
 rw [HT.sIx_none,HT.sIx_nat]
 by_cases h:j<=xs.length
 ·rw [Nat.min_eq_left h]
  exact List.take_of_length_le (by rw [List.length_drop];exact Nat.le_refl _)
 ·rw [Nat.min_eq_right (by omega),List.drop_of_length_le (Nat.le_refl _),List.drop_of_length_le (by omega)]
  exact List.take_nil
def bit (m:Int) (i:Nat):Bool:=decide (m / 2 ^ i % 2=1)
def AD:Nat->(Nat->Bool)->Int
 | 0,_=>0
 | n+1,f=>(if f 0=true then 1 else 0)+2*AD n (fun i=>f (i+1))
theorem Ey (s:Int) (i:Nat):bit (s / 2) i=bit s (i+1):=by
 unfold bit
 rw [Int.ediv_ediv_of_nonneg (by decide:(0:Int)<=2)]
 have e:(2:Int)*2 ^ i=2 ^ (i+1):=by rw [Int.pow_succ,Int.mul_comm]
 rw [e]
theorem Ep (s:Int):bit s 0=decide (s % 2=1):=by
 unfold bit
 rw [Int.pow_zero,Int.ediv_one]
theorem D6:∀n f,0<=AD n f
 | 0,_=>Int.le_refl _
 | n+1,f=>by
   have:=D6 n (fun i=>f (i+1))
   show 0<=(if f 0=true then (1:Int) else 0)+2*AD n (fun i=>f (i+1))
   split <;> omega
theorem Kj:∀n f,AD n f < 2 ^ n
 | 0,_=>by show (0:Int) < 1;decide
 | n+1,f=>by
   have:=Kj n (fun i=>f (i+1))
   show (if f 0=true then (1:Int) else 0)+2*AD n (fun i=>f (i+1)) < 2 ^ (n+1)
   rw [Int.pow_succ]
   split <;> omega
theorem Gx (n f):AD (n+1) f / 2=AD n (fun i=>f (i+1)):=by
 show ((if f 0=true then (1:Int) else 0)+2*AD n (fun i=>f (i+1))) / 2=_
 split <;> omega
theorem Gb (n f):(AD (n+1) f % 2=1)↔f 0=true:=by
 show (((if f 0=true then (1:Int) else 0)+2*AD n (fun i=>f (i+1))) % 2=1)↔_
 split <;> rename_i h
 ·exact ⟨fun _=>h,fun _=>by omega⟩
 ·exact ⟨fun e=>by omega,fun e=>absurd e h⟩
theorem AY:∀n {f g:Nat->Bool},(∀i,i < n->f i=g i)->AD n f=AD n g
 | 0,_,_,_=>rfl
 | n+1,f,g,h=>by
   show (if f 0=true then (1:Int) else 0)+2*AD n (fun i=>f (i+1))=(if g 0=true then (1:Int) else 0)+2*AD n (fun i=>g (i+1))
   rw [h 0 (by omega),AY n (f:=fun i=>f (i+1)) (g:=fun i=>g (i+1)) fun i hi=>h (i+1) (by omega)]
theorem CA:∀n f,AD (n+1) f=AD n f+(if f n=true then 2 ^ n else 0)
 | 0,f=>by
   show (if f 0=true then (1:Int) else 0)+2*0=0+(if f 0=true then (1:Int) else 0)
   split <;> decide
 | n+1,f=>by
   show (if f 0=true then (1:Int) else 0)+2*AD (n+1) (fun i=>f (i+1))=(if f 0=true then (1:Int) else 0)+2*AD n (fun i=>f (i+1))+(if f (n+1)=true then 2 ^ (n+1) else 0)
   rw [CA n (fun i=>f (i+1)),Int.pow_succ]
   split <;> split <;> omega
theorem C0:∀n f i,bit (AD n f) i=(decide (i < n) && f i)
 | 0,f,i=>by
   unfold bit
   show decide ((0:Int) / 2 ^ i % 2=1)=_
   rw [Int.zero_ediv]
   rfl
 | n+1,f,0=>by
   rw [Ep]
   by_cases h:f 0=true
   ·rw [decide_eq_true ((Gb n f).mpr h),h];rfl
   ·rw [decide_eq_false (fun e=>h ((Gb n f).mp e)),Bool.eq_false_iff.mpr h];rfl
 | n+1,f,i+1=>by
   rw [<- Ey,Gx,C0 n]
   have:decide (i < n)=decide (i+1 < n+1):=by
    by_cases h:i < n
    ·rw [decide_eq_true h,decide_eq_true (by omega)]
    ·rw [decide_eq_false h,decide_eq_false (by omega)]
   rw [this]
theorem IG:∀n f s,Builtin.bitAnd (AD n f) s=AD n (fun i=>f i && bit s i)
 | 0,f,s=>by
   show Builtin.bitAnd 0 s=0
   rw [PyProof.Rows.bitAnd_comm,PyProof.Rows.bitAnd_zero]
 | n+1,f,s=>by
   rw [PySem.W.kbt_halves,Gx,IG n]
   show _=(if (f 0 && bit s 0)=true then (1:Int) else 0)+2*AD n (fun i=>f (i+1) && bit s (i+1))
   have e:AD n (fun i=>f (i+1) && bit (s / 2) i)=AD n (fun i=>f (i+1) && bit s (i+1)):=AY n fun i _=>by rw [Ey]
   rw [e]
   have c:(AD (n+1) f % 2=1/\s % 2=1)↔(f 0 && bit s 0)=true:=by
    rw [Bool.and_eq_true,Gb,Ep,decide_eq_true_eq]
   by_cases h:(f 0 && bit s 0)=true
   ·rw [if_pos h,if_pos (c.mpr h)];omega
   ·rw [if_neg h,if_neg (fun z=>h (c.mp z))];omega
theorem GS {n:Nat} {f:Nat->Bool} (h:∀i,i < n->f i=false):AD n f=0:=by
 induction n with
 | zero=>rfl
 | succ n ih =>
   rw [CA,h n (by omega),ih fun i hi=>h i (by omega)]
   rfl
theorem Ow {n:Nat} {f:Nat->Bool} {i:Nat} (hi:i < n) (h:f i=true):AD n f≠0:=by
 intro e
 have:=C0 n f i
 rw [e,h,decide_eq_true hi] at this
 unfold bit at this
 rw [Int.zero_ediv] at this
 exact absurd this (by decide)
def hands (n:Nat) (f:Nat->Bool):List Int:=((List.range n).filter f).map fun i:Nat=>(i:Int)
theorem Do (n:Nat) (f:Nat->Bool):hands (n+1) f=if f n=true then hands n f++[(n:Int)] else hands n f:=by
 unfold hands
 rw [List.range_succ,List.filter_append,List.map_append]
 by_cases h:f n=true
 ·rw [if_pos h];simp [h]
 ·rw [if_neg h]
  have h':f n=false:=by simpa using h
  simp [h']
theorem GU (n:Nat) (f:Nat->Bool):(hands n f).length<=n:=by
 unfold hands
 rw [List.length_map]
 exact Nat.le_trans (List.length_filter_le _ _) (by simp)
theorem Md {n:Nat} {f:Nat->Bool} {z:Int}:z∈hands n f↔∃i:Nat,i < n/\f i=true/\z=(i:Int):=by
 unfold hands
 rw [List.mem_map]
 constructor
 ·rintro ⟨i,hi,rfl⟩
  obtain ⟨h1,h2⟩:=List.mem_filter.mp hi
  exact ⟨i,List.mem_range.mp h1,h2,rfl⟩
 ·rintro ⟨i,h1,h2,rfl⟩
  exact ⟨i,List.mem_filter.mpr ⟨List.mem_range.mpr h1,h2⟩,rfl⟩
def P7 (hs:List Int):Int:=(hs.map fun h=>(1:Int)*2 ^ h.toNat).sum
theorem Eg:∀n f,P7 (hands n f)=AD n f
 | 0,f=>rfl
 | n+1,f=>by
   rw [Do,CA]
   by_cases h:f n=true
   ·rw [if_pos h,if_pos h]
    unfold P7
    rw [List.map_append,List.sum_append]
    have:=Eg n f
    unfold P7 at this
    rw [this]
    simp
   ·rw [if_neg h,if_neg h,Eg n f]
    omega
def ins (x:Int):List Int->List Int
 | []=>[x]
 | y :: r=>if x < y then x :: y :: r else if x=y then y :: r else y :: ins x r
def Cw:List Int->List Int
 | []=>[]
 | x :: r=>ins x (Cw r)
theorem Hz {x z:Int}:∀{l:List Int},z∈ins x l↔z=x\/z∈l
 | []=>by unfold ins;simp
 | y :: r=>by
   unfold ins
   split
   ·simp
   ·split
    ·rename_i h;subst h;simp
    ·rw [List.mem_cons,Hz (l:=r),List.mem_cons]
     constructor
     ·rintro (h | h | h)
      ·exact .inr (.inl h)
      ·exact .inl h
      ·exact .inr (.inr h)
     ·rintro (h | h | h)
      ·exact .inr (.inl h)
      ·exact .inl h
      ·exact .inr (.inr h)
theorem Jh {x:Int}:∀{l:List Int},l.Pairwise (· < ·)->(ins x l).Pairwise (· < ·)
 | [],_=>by unfold ins;simp
 | y :: r,h=>by
   unfold ins
   rw [List.pairwise_cons] at h
   split
   ·rename_i c
    rw [List.pairwise_cons]
    refine ⟨fun z hz=>?_,List.pairwise_cons.mpr h⟩
    rcases List.mem_cons.mp hz with e | e
    ·omega
    ·have:=h.1 z e;omega
   ·split
    ·exact List.pairwise_cons.mpr h
    ·rename_i c d
     rw [List.pairwise_cons]
     refine ⟨fun z hz=>?_,Jh h.2⟩
     rcases Hz.mp hz with e | e
     ·omega
     ·exact h.1 z e
theorem En {z:Int}:∀{l:List Int},z∈Cw l↔z∈l
 | []=>Iff.rfl
 | x :: r=>by
   show z∈ins x (Cw r)↔_
   rw [Hz,En,List.mem_cons]
theorem EG:∀l:List Int,(Cw l).Pairwise (· < ·)
 | []=>.nil
 | x :: r=>Jh (EG r)
theorem GG:∀{a b:List Int},a.Pairwise (· < ·)->b.Pairwise (· < ·)->(∀z,z∈a↔z∈b)->a=b
 | [],[],_,_,_=>rfl
 | [],y :: b,_,_,h=>nomatch (h y).mpr (List.mem_cons_self ..)
 | x :: a,[],_,_,h=>nomatch (h x).mp (List.mem_cons_self ..)
 | x :: a,y :: b,ha,hb,h=>by
   rw [List.pairwise_cons] at ha hb
   have e:x=y:=by
    rcases List.mem_cons.mp ((h x).mp (List.mem_cons_self ..)) with e | e
    ·exact e
    ·rcases List.mem_cons.mp ((h y).mpr (List.mem_cons_self ..)) with f | f
     ·exact f.symm
     ·have:=ha.1 y f
      have:=hb.1 x e
      omega
   subst e
   rw [GG ha.2 hb.2 fun z=>?_]
   constructor
   ·intro hz
    rcases List.mem_cons.mp ((h z).mp (List.mem_cons_of_mem _ hz)) with e | e
    ·have:=ha.1 z hz;omega
    ·exact e
   ·intro hz
    rcases List.mem_cons.mp ((h z).mpr (List.mem_cons_of_mem _ hz)) with e | e
    ·have:=hb.1 z hz;omega
    ·exact e
theorem NS {ms ns:List Int} (h:ms.Pairwise (· < ·)) (m:∀z,z∈ms↔z∈ns):ms=Cw ns:=GG h (EG ns) fun z=>(m z).trans En.symm
theorem IH:∀l:List Int,(Cw l).length<=l.length
 | []=>Nat.le_refl _
 | x :: r=>by
   have ih:=IH r
   have:∀l:List Int,(ins x l).length<=l.length+1:=by
    intro l
    induction l with
    | nil=>exact Nat.le_refl _
    | cons y l ihl =>
      unfold ins
      split
      ·exact Nat.le_refl _
      ·split
       ·exact Nat.le_succ _
       ·exact Nat.succ_le_succ ihl
   exact Nat.le_trans (this (Cw r)) (Nat.succ_le_succ ih)
def isR (rs:List Int) (r:Int) (i:Nat):Bool:=decide (rs[i]?=some r)
def C6 (rs:List Int) (r:Int):Int:=AD rs.length (isR rs r)
def BF (rs:List Int):List Int:=((Cw rs).filter fun r=>decide (0 < r)).map (C6 rs)
def QL (K:PySem.W.Frag):Sp:=fun vs H Q _=>∃(p:Addr) (ns:List Int) (k:Int),vs=[.ref p,.int k]/\SqL K H p (ns.map V.int)/\ns.length<=63/\0<=k/\k<=1000/\∀z:Int,0<=z->z < 10 ^ 40->Q (.int z) H
def OM:Sp:=fun vs H Q _=>∃c b:Int,vs=[.int c,.int b]/\Sz 200 c/\Sz 64 b/\∀z:Int,0<=z->z < 10 ^ 18->Q (.int z) H
theorem O2 {c:Int} (h0:0<=c) (h:c < 10 ^ 40):Sz 200 c:=EU (by omega) (by omega)
theorem Qv {c:Int} (h0:0<=c) (h:c < 10 ^ 18):Sz 64 c:=EU (by omega) (by omega)
theorem Ky (x:Int):0<=(x.fmod ((10:Int) ^ (18:Int).toNat+3)).fdiv 7/\(x.fmod ((10:Int) ^ (18:Int).toNat+3)).fdiv 7 < 10 ^ 18:=by
 have h:=Be x (show (0:Int) < (10:Int) ^ (18:Int).toNat+3 by decide)
 generalize x.fmod ((10:Int) ^ (18:Int).toNat+3)=y at h ⊢
 rw [Int.fdiv_eq_ediv_of_nonneg y (by decide)]
 have e:(10:Int) ^ (18:Int).toNat=1000000000000000000:=by decide
 rw [e] at h
 omega
theorem A9 {H H':Hp} {l:Addr} {o:HO} (s:Ao H H') (n:H l=none):Ao H (upd H' l o):=fun b u e=>by
 rw [Ai (AF e n)]
 exact s b u e
theorem ifT {c:Bool} {A B:Prop} (e:c=true) (h:A):if c=true then A else B:=by rw [if_pos e];exact h
theorem ifF {c:Bool} {A B:Prop} (e:c=false) (h:B):if c=true then A else B:=by rw [if_neg (by rw [e];decide)];exact h
theorem Pr {a b:Int} (h:a≠b):(!decide (V.int a=V.int b))=true:=by rw [decide_eq_false (fun e=>h (V.int.inj e))];rfl
theorem JE {a b:Int} (h:a=b):(!decide (V.int a=V.int b))=false:=by rw [h,decide_eq_true rfl];rfl
theorem QZ {a b:Int} (h:a=b):decide (V.int a=V.int b)=true:=by rw [h];exact decide_eq_true rfl
theorem Rb {a b:Int} (h:a≠b):decide (V.int a=V.int b)=false:=decide_eq_false fun e=>h (V.int.inj e)
theorem int_at {ns:List Int} {i:Nat} {x:V} (h:(ns.map V.int)[i]?=some x):∃z,ns[i]?=some z/\x=.int z:=by
 rw [List.getElem?_map] at h
 cases e:ns[i]? with
 | none=>rw [e] at h;cases h
 | some z=>rw [e] at h;exact ⟨z,rfl,(Option.some.inj h).symm⟩
theorem atN {ns:List Int} {i:Nat} {z:Int} (h:ns[i]?=some z):atI (ns.map V.int) (i:Int)=some (.int z):=E2 (by rw [List.getElem?_map,h];rfl)
theorem LC {h:Nat} (hh:h < 64):MX 1 (h:Int):=⟨by omega,by omega,by decide⟩
theorem Rp (x:Int):Builtin.bitAnd x 1=x % 2:=PySem.W.kbt_mask x 1
theorem LQ (m:Int) (h:Int):decide (V.int (Builtin.bitAnd (m / 2 ^ h.toNat) 1)=V.int 1)=bit m h.toNat:=by
 unfold bit
 rw [Rp]
 by_cases c:m / 2 ^ h.toNat % 2=1
 ·rw [decide_eq_true c,decide_eq_true (congrArg V.int c)]
 ·rw [decide_eq_false c,decide_eq_false fun e=>c (V.int.inj e)]
theorem Od (m:Int) (i:Nat):m / 2 ^ i % 2=if bit m i=true then 1 else 0:=by
 have e:m / 2 ^ i % 2=0\/m / 2 ^ i % 2=1:=by omega
 unfold bit
 rcases e with e | e
 ·rw [e];rfl
 ·rw [e];rfl
theorem NN (m:Int) (h:Nat):Builtin.bitOr m (1*2 ^ h)=m+2 ^ h*(if (!bit m h)=true then 1 else 0):=by
 rw [Int.one_mul,PyProof.Rows.bitOr_and,PySem.W.kbt_bit,Od]
 cases bit m h <;> simp
def QM:Sp:=fun vs H Q _=>∃h:Int,vs=[.int h]/\0<=h/\h<=12/\Q (.int (1*2 ^ h.toNat - 1)) H
def P0:Sp:=fun vs H Q _=>∃m h:Int,vs=[.int m,.int h]/\0<=h/\h < 12/\Q (.int (Builtin.bitOr m (1*2 ^ h.toNat))) H
def Mc:Sp:=fun vs H Q _=>∃m:Int,vs=[.int m]/\0<=m/\m < 4096/\∀(p:Addr) (H':Hp),H p=none->Ao H H'->H' p=some (.lst ((hands 12 (bit m)).map V.int))->Q (.ref p) H'
abbrev Tb:=List (Addr × List Int)
def vtb (t:Tb):List V:=t.map fun r=>.ref r.1
def Qx (H:Hp) (t:Tb) (h:Nat):Prop:=t.length=h/\∀r∈t,H r.1=some (.lst (r.2.map V.int))/\r.2.length=h
def ups (n:Nat):List Int:=(List.range n).map fun i:Nat=>(i:Int)
def Mb:Sp:=fun vs H Q _=>∃(a:Addr) (t:Tb) (h:Nat),vs=[.ref a]/\H a=some (.lst (vtb t))/\t.length=h/\h<=12/\∀(l:Addr) (H':Hp),H l=none->Ao H H'->H' l=some (.lst ((ups h).map V.int))->Q (.ref l) H'
theorem atG {xs:List Int} {n:Nat} (h:n < xs.length):atI (xs.map V.int) (n:Int)=some (.int (xs.getD n 0)):=by
 refine atN ?_
 rw [List.getD_eq_getElem?_getD,List.getElem?_eq_getElem h]
 rfl
theorem Jr {n i:Nat} {z:Int} (h:(ups n)[i]?=some z):z=(i:Int)/\i < n:=by
 unfold ups at h
 rw [List.getElem?_map] at h
 obtain ⟨j,hj,rfl⟩:=Option.map_eq_some_iff.mp h
 have hi:i < n:=by
  have:=(List.getElem?_eq_some_iff.mp hj).1
  rwa [List.length_range] at this
 rw [List.getElem?_range hi] at hj
 exact ⟨by rw [<- Option.some.inj hj],hi⟩
theorem Bc (n:Nat):(ups n).length=n:=by unfold ups;rw [List.length_map,List.length_range]
def Bs (rs:List Int) (i:Nat):Int:=if rs.getD i 0=0 then 1000000000 else rs.getD i 0
abbrev Vo:=List (Addr × Addr × List Int × Int)
def vvo (vo:Vo):List V:=vo.map fun q=>.ref q.1
def EJ (h:Nat) (H:Hp) (vo:Vo):Prop:=∀q∈vo,H q.1=some (.tup [.ref q.2.1,.int q.2.2.2])/\H q.2.1=some (.lst (q.2.2.1.map V.int))/\q.2.2.1.length=h
theorem EJ.same {h:Nat} {H H':Hp} {vo:Vo} (s:Ao H H') (g:EJ h H vo):EJ h H' vo:=fun q m=>⟨s _ _ (g q m).1,s _ _ (g q m).2.1,(g q m).2.2⟩
theorem Kv {vo:Vo} {i:Nat} {x:V} (h:(vvo vo)[i]?=some x):∃q,vo[i]?=some q/\x=.ref q.1/\q∈vo/\vo.take (i+1)=vo.take i++[q]:=by
 unfold vvo at h
 rw [List.getElem?_map] at h
 obtain ⟨q,hq,rfl⟩:=Option.map_eq_some_iff.mp h
 exact ⟨q,hq,rfl,List.mem_of_getElem? hq,by rw [List.take_add_one,hq];rfl⟩
theorem Es (vo:Vo):(vvo vo).length=vo.length:=List.length_map ..
def Gh (f:List Int->Bool) (vo:Vo):Int:=(vo.map fun q=>if f q.2.2.1=true then q.2.2.2 else 0).sum
theorem LH (f:List Int->Bool) (a:Vo) (q:Addr × Addr × List Int × Int):Gh f (a++[q])=Gh f a+if f q.2.2.1=true then q.2.2.2 else 0:=by
 unfold Gh
 rw [List.map_append,List.sum_append]
 show _+(_+0)=_
 rw [Int.add_zero]
theorem Ql {n j:Nat} (h:j < n):seqIndex? (j:Int) n=some j:=(Hi (i:=(j:Int)) (by unfold ixN;rw [if_pos (by omega)];simp [h])).1
theorem map_erase {α β:Type} (f:α->β):∀(l:List α) (k:Nat),(l.map f).eraseIdx k=(l.eraseIdx k).map f
 | [],_=>rfl
 | _ :: _,0=>rfl
 | x :: l,k+1=>by
   show f x :: (l.map f).eraseIdx k=f x :: (l.eraseIdx k).map f
   rw [map_erase f l k]
theorem IR:∀{b:List Int} {k:Nat} {y:Int},b[k]?=some y->(y :: b.eraseIdx k).Perm b
 | x :: b,0,y,h=>by
   have:x=y:=Option.some.inj h
   rw [this]
   exact List.Perm.refl _
 | x :: b,k+1,y,h=>by
   show (y :: x :: b.eraseIdx k).Perm (x :: b)
   exact (List.Perm.swap x y _).trans ((IR (b:=b) (k:=k) h).cons x)
theorem none_of {H H':Hp} {a:Addr} (s:Ao H H') (h:H' a=none):H a=none:=by
 cases e:H a with
 | none=>rfl
 | some u=>rw [s _ _ e] at h;cases h
theorem erase_perm {a b c:List Int} {k:Nat} {y:Int} (h:b[k]?=some y) (p:(a++b).Perm c):(a++[y]++b.eraseIdx k).Perm c:=by
 rw [List.append_assoc]
 exact (List.Perm.append_left a (IR h)).trans p
theorem Mn {z d:Int} (z0:0<=z) (h:1<=d) (z1:z < 10 ^ 18):0<=z.fdiv d/\z.fdiv d < 10 ^ 18:=by
 have l:=Int.fmod_def z d
 have m:=Be z (show 0 < d by omega)
 have a:0<=z.fdiv d:=by
  rcases (by omega:0<=z.fdiv d\/z.fdiv d<=-1) with c | c
  ·exact c
  ·have:=Int.mul_le_mul_of_nonneg_left c (show 0<=d by omega)
   omega
 refine ⟨a,?_⟩
 have:=Int.mul_le_mul_of_nonneg_right h a
 omega
theorem KF {z d:Int} (z0:0<=z) (d1:1<=d) (z1:z < 10 ^ 40):0<=z.fdiv d/\z.fdiv d < 10 ^ 40:=by
 rw [Int.fdiv_eq_ediv_of_nonneg _ (by omega)]
 exact ⟨Int.ediv_nonneg z0 (by omega),Int.lt_of_le_of_lt (Int.ediv_le_self _ z0) z1⟩
def Le:Sp:=fun vs H Q _=>∃c h:Int,vs=[.int c,.int h]/\0<=c/\c < 10 ^ 40/\1<=h/\h<=12/\∀(l:Addr) (ns:List Int) (H':Hp),Ao H H'->H' l=some (.lst (ns.map V.int))->ns.Perm (ups h.toNat)->Q (.ref l) H'
theorem u1 {n:Nat} (h:n+64 < cLine):n+1 < cLine:=by omega
theorem Nf {m:Int} {i:Nat} (h0:0<=m) (h:m < 2 ^ i):bit m i=false:=by
 unfold bit
 rw [Int.ediv_eq_zero_of_lt h0 h]
 decide
theorem FS {m:Int} {k:Nat} (h0:0<=m) (h:m < 2 ^ k):∀d:Nat,hands (k+d) (bit m)=hands k (bit m)
 | 0=>rfl
 | d+1=>by
   have p:(2:Int) ^ k<=2 ^ (k+d):=by
    have q:2 ^ k<=2 ^ (k+d):=Nat.pow_le_pow_right (by decide) (by omega)
    have e1:((2 ^ k:Nat):Int)=(2:Int) ^ k:=by simp
    have e2:((2 ^ (k+d):Nat):Int)=(2:Int) ^ (k+d):=by simp
    omega
   show hands ((k+d)+1) (bit m)=hands k (bit m)
   rw [Do,Nf h0 (by omega),if_neg (by decide),FS h0 h d]
theorem Nu {m:Int} (h0:0<=m) (h:m < 4096):hands (Builtin.Int.intBits m) (bit m)=hands 12 (bit m):=by
 have b:Builtin.Int.intBits m<=12:=intBits_le_iff.mpr (by show m.natAbs < 4096;omega)
 have l:m.natAbs < 2 ^ Builtin.Int.intBits m:=intBits_le_iff.mp (Nat.le_refl _)
 have l':m < (2:Int) ^ Builtin.Int.intBits m:=by
  have e:((2 ^ Builtin.Int.intBits m:Nat):Int)=(2:Int) ^ Builtin.Int.intBits m:=by simp
  omega
 obtain ⟨d,hd⟩:∃d,12=Builtin.Int.intBits m+d:=⟨12 - Builtin.Int.intBits m,by omega⟩
 rw [hd,FS h0 l' d]
abbrev Ls:=List (Addr × Addr × List Int × Int)
def vls (ls:Ls):List V:=ls.map fun q=>.ref q.1
def Fb (h:Nat) (ts:List Int):Prop:=∃rs:List Int,rs.length=h/\(∀r∈rs,0<=r/\r<=12)/\ts=BF rs
def DZ (h:Nat) (H:Hp) (ls:Ls):Prop:=∀q∈ls,H q.1=some (.tup [.ref q.2.1,.int q.2.2.2])/\H q.2.1=some (.tup (q.2.2.1.map V.int))/\Fb h q.2.2.1
theorem DZ.same {h:Nat} {H H':Hp} {ls:Ls} (s:Ao H H') (g:DZ h H ls):DZ h H' ls:=fun q m=>⟨s _ _ (g q m).1,s _ _ (g q m).2.1,(g q m).2.2⟩
theorem O7 {ls:Ls} {i:Nat} {x:V} (h:(vls ls)[i]?=some x):∃q,ls[i]?=some q/\x=.ref q.1/\q∈ls/\ls.take (i+1)=ls.take i++[q]:=by
 unfold vls at h
 rw [List.getElem?_map] at h
 cases e:ls[i]? with
 | none=>rw [e] at h;cases h
 | some q =>
   rw [e] at h
   refine ⟨q,rfl,(Option.some.inj h).symm,List.mem_of_getElem? e,?_⟩
   rw [List.take_succ,e]
   rfl
theorem Ks (ls:Ls):(vls ls).length=ls.length:=List.length_map ..
def P2 (K:PySem.W.Frag):Sp:=fun vs H Q _=>∃(p:Addr) (rs:List Int),vs=[.ref p]/\SqL K H p (rs.map V.int)/\rs.length<=12 /\
 ∀(t:Addr) (H':Hp),H t=none->Ao H H'->H' t=some (.tup ((BF rs).map V.int))->Q (.ref t) H'
def InR (h:Int) (rs:List Int):Prop:=(rs.length:Int)=h/\∀r∈rs,0<=r/\r<=12
def Lb:Sp:=fun vs H Q _=>∃c h:Int,vs=[.int c,.int h]/\0<=c/\c < 10 ^ 18/\1<=h/\h<=12/\∀(l:Addr) (rs:List Int) (H':Hp),H l=none->Ao H H'->H' l=some (.lst (rs.map V.int))->InR h rs->Q (.ref l) H'
theorem MD {rs:List Int} {r:Int} (m:r∈rs):0 < C6 rs r:=by
 obtain ⟨i,hi⟩:=List.getElem?_of_mem m
 have:=Ow (f:=isR rs r) (List.getElem?_eq_some_iff.mp hi).1 (by unfold isR;exact decide_eq_true hi)
 have:=D6 rs.length (isR rs r)
 unfold C6
 omega
def Gp (rs:List Int) (us:List Int):List Int:=us.map fun r=>if 0 < r then C6 rs r else 0
theorem FR {rs:List Int}:∀us:List Int,(∀u∈us,u∈rs)->(Gp rs us).filter (fun t=>decide (0 < t))=(us.filter fun r=>decide (0 < r)).map (C6 rs)
 | [],_=>rfl
 | u :: us,h=>by
   have ih:=FR us fun x m=>h x (List.mem_cons_of_mem _ m)
   show ((if 0 < u then C6 rs u else 0) :: Gp rs us).filter _=_
   by_cases c:0 < u
   ·rw [if_pos c,List.filter_cons_of_pos (p:=fun t=>decide (0 < t)) (decide_eq_true (MD (h u (List.mem_cons_self ..)))),List.filter_cons_of_pos (p:=fun r=>decide (0 < r)) (decide_eq_true c),List.map_cons,ih]
   ·rw [if_neg c,List.filter_cons_of_neg (p:=fun t=>decide (0 < t)) (by decide),List.filter_cons_of_neg (p:=fun r=>decide (0 < r)) (by show ¬ decide (0 < u)=true;rw [decide_eq_false c];decide),ih]
def Mo (vo:Vo):Prop:=∀q∈vo,1<=q.2.2.2/\q.2.2.2<=1000000000/\∀r∈q.2.2.1,0<=r/\r<=12
def LV (K:PySem.W.Frag):Sp:=fun vs H Q _=>∃(p:Addr) (ns:List Int) (a m h:Int),vs=[.ref p,.int a,.int m,.int h]/\SqL K H p (ns.map V.int)/\ns.length<=63/\a=2/\m=16/\1<=h/\h<=12 /\
 ∀(l:Addr) (vo:Vo) (H':Hp),Ao H H'->H' l=some (.lst (vvo vo))->vo.length<=16->EJ h.toNat H' vo->Mo vo->Q (.ref l) H'
def Gv (h:Nat) (kvs:List (List Key × V)):Prop:=∀q∈kvs,∃(ts:List Int) (n:Int),q=(ts.map Sum.inl,.int n)/\Fb h ts
theorem Nk (ts:List Int):(ts.map Sum.inl:List Key).map kV=ts.map V.int:=by rw [List.map_map];rfl
theorem Lf {h:Nat} {kvs:List (List Key × V)} {ts:List Int} {n:Int} (g:Gv h kvs) (f:Fb h ts):Gv h (C9 kvs (ts.map Sum.inl) (.int n)):=by
 intro q m
 unfold C9 at m
 split at m
 ·obtain ⟨p,pm,rfl⟩:=List.mem_map.mp m
  split
  ·rename_i e
   exact ⟨ts,n,by rw [e],f⟩
  ·exact g p pm
 ·rcases List.mem_append.mp m with m | m
  ·exact g q m
  ·rw [List.mem_singleton.mp m];exact ⟨ts,n,rfl,f⟩
theorem NC {κ:Type} [DecidableEq κ] (kvs:List (κ × V)) (k:κ) (v:V):(C9 kvs k v).length<=kvs.length+1:=by
 unfold C9
 split
 ·rw [List.length_map];omega
 ·rw [List.length_append];exact Nat.le_refl _
theorem GM {h:Nat} {kvs:List (List Key × V)} {k:List Key} {v:V} (g:Gv h kvs) (e:C2 kvs k=some v):∃n:Int,v=.int n:=by
 unfold C2 at e
 cases c:kvs.find? fun kv=>decide (kv.1=k) with
 | none=>rw [c] at e;cases e
 | some q =>
   rw [c] at e
   obtain ⟨ts,n,rfl,_⟩:=g q (List.mem_of_find?_eq_some c)
   exact ⟨n,(Option.some.inj e).symm⟩
theorem Kg {h:Nat}:∀{kvs:List (List Key × V)},Gv h kvs->∃ks:List (List Int),kvs.map (·.1)=ks.map (List.map Sum.inl)/\ks.length=kvs.length/\∀ts∈ks,Fb h ts/\∃n:Int,C2 kvs (ts.map Sum.inl)=some (.int n)
 | kvs,g=>by
   have key:∀{l:List (List Key × V)},(∀q∈l,q∈kvs)->∃ks:List (List Int),l.map (·.1)=ks.map (List.map Sum.inl)/\ks.length=l.length/\∀ts∈ks,Fb h ts/\(ts.map Sum.inl:List Key)∈kvs.map (·.1):=by
    intro l
    induction l with
    | nil=>intro _;exact ⟨[],rfl,rfl,fun _ m=>nomatch m⟩
    | cons q r ih =>
      intro sub
      obtain ⟨ks,e1,e2,e3⟩:=ih fun p m=>sub p (List.mem_cons_of_mem _ m)
      obtain ⟨ts,n,eq,f⟩:=g q (sub q (List.mem_cons_self ..))
      refine ⟨ts :: ks,by rw [List.map_cons,List.map_cons,e1,eq],by rw [List.length_cons,List.length_cons,e2],fun us m=>?_⟩
      rcases List.mem_cons.mp m with z | z
      ·subst z
       exact ⟨f,List.mem_map.mpr ⟨q,sub q (List.mem_cons_self ..),by rw [eq]⟩⟩
      ·exact e3 us z
   obtain ⟨ks,e1,e2,e3⟩:=key fun q m=>m
   refine ⟨ks,e1,e2,fun ts m=>⟨(e3 ts m).1,?_⟩⟩
   cases c:C2 kvs (ts.map Sum.inl:List Key) with
   | none=>exact absurd (e3 ts m).2 (NA c)
   | some v =>
     obtain ⟨n,rfl⟩:=GM g c
     exact ⟨n,rfl⟩
def JP (B:Int) (kvs:List (List Key × V)):Prop:=∀q∈kvs,∀n:Int,q.2=.int n->0<=n/\n<=B
theorem JP.put {B B':Int} {kvs:List (List Key × V)} {k:List Key} {n:Int} (g:JP B kvs) (h:B<=B') (n0:0<=n) (n1:n<=B'):JP B' (C9 kvs k (.int n)):=by
 intro q m z e
 unfold C9 at m
 split at m
 ·obtain ⟨p,pm,rfl⟩:=List.mem_map.mp m
  split at e
  ·cases e;exact ⟨n0,n1⟩
  ·have:=g p pm z e
   omega
 ·rcases List.mem_append.mp m with m | m
  ·have:=g q m z e
   omega
  ·rw [List.mem_singleton.mp m] at e
   cases e
   exact ⟨n0,n1⟩
theorem JP.val {B:Int} {kvs:List (List Key × V)} {k:List Key} {n:Int} (g:JP B kvs) (e:C2 kvs k=some (.int n)):0<=n/\n<=B:=by
 unfold C2 at e
 obtain ⟨q,hq,e⟩:=Option.map_eq_some_iff.mp e
 exact g q (List.mem_of_find?_eq_some hq) n e
def BK (f:List Int->Bool) (ds:List (List Int × Int)):Int:=(ds.map fun q=>if f q.1 then q.2 else 0).sum
def dsL (ls:Ls):List (List Int × Int):=ls.map fun q=>(q.2.2.1,q.2.2.2)
theorem CB (f:List Int->Bool) (q:List Int × Int) (r:List (List Int × Int)):BK f (q :: r)=(if f q.1 then q.2 else 0)+BK f r:=by unfold BK;rw [List.map_cons,List.sum_cons]
theorem NI {a b:List Int} (p:a.Perm b):a.sum=b.sum:=by
 induction p with
 | nil=>rfl
 | cons x _ ih=>rw [List.sum_cons,List.sum_cons,ih]
 | swap x y l=>rw [List.sum_cons,List.sum_cons,List.sum_cons,List.sum_cons];omega
 | trans _ _ i j=>rw [i,j]
def hv:V->Int
 | .int n=>n
 | _=>0
def toI:Key->Int
 | .inl z=>z
 | .inr _=>0
theorem Hl (ts:List Int):(ts.map Sum.inl:List Key).map toI=ts:=by rw [List.map_map];exact List.map_id _
def dsK (kvs:List (List Key × V)):List (List Int × Int):=kvs.map fun q=>(q.1.map toI,hv q.2)
theorem ER (f:List Int->Bool) (a b:List (List Int × Int)):BK f (a++b)=BK f a+BK f b:=by
 unfold BK;rw [List.map_append,List.sum_append]
theorem Ov {kvs:List (List Key × V)} {ts:List Int} {n:Int} (f:List Int->Bool) (e:C2 kvs (ts.map Sum.inl:List Key)=none):BK f (dsK (C9 kvs (ts.map Sum.inl) (.int n)))=BK f (dsK kvs)+if f ts then n else 0:=by
 unfold C9
 rw [DH,e,if_neg (by decide)]
 unfold dsK
 rw [List.map_append,ER]
 show _+BK f [((ts.map Sum.inl:List Key).map toI,n)]=_
 rw [Hl,CB]
 show _+((if f ts then n else 0)+0)=_
 rw [Int.add_zero]
theorem Kp {k:List Key} {w:Int} (f:List Int->Bool):∀{kvs:List (List Key × V)},k ∉ kvs.map (·.1)->kvs.map (fun kv=>if kv.1=k then (kv.1,V.int w) else kv)=kvs
 | [],_=>rfl
 | q :: r,m=>by
   rw [List.map_cons,Kp f (fun z=>m (List.mem_cons_of_mem _ z)),if_neg (fun z=>m (List.mem_cons.mpr (.inl z.symm)))]
theorem K4 {ts:List Int} {m n:Int} (f:List Int->Bool):∀{kvs:List (List Key × V)},(kvs.map (·.1)).Nodup->C2 kvs (ts.map Sum.inl:List Key)=some (.int m) ->
 BK f (dsK (kvs.map fun kv=>if kv.1=(ts.map Sum.inl:List Key) then (kv.1,V.int (m+n)) else kv))=BK f (dsK kvs)+if f ts then n else 0
 | [],_,e=>by cases e
 | q :: r,nd,e=>by
   rw [List.map_cons,List.nodup_cons] at nd
   unfold C2 at e
   rw [List.find?_cons] at e
   by_cases c:q.1=(ts.map Sum.inl:List Key)
   ·rw [decide_eq_true c] at e
    have eq:q.2=.int m:=Option.some.inj e
    rw [List.map_cons,Kp f (c ▸ nd.1),if_pos c]
    show BK f ((q.1.map toI,m+n) :: dsK r)=BK f ((q.1.map toI,hv q.2) :: dsK r)+_
    rw [CB,CB,c,Hl,eq]
    show (if f ts then m+n else 0)+_=(if f ts then m else 0)+_+_
    cases f ts
    ·simp
    ·simp;omega
   ·rw [decide_eq_false c] at e
    rw [List.map_cons,if_neg c]
    show BK f ((q.1.map toI,hv q.2) :: dsK _)=BK f ((q.1.map toI,hv q.2) :: dsK r)+_
    rw [CB,CB,K4 f nd.2 e]
    omega
theorem Ou {kvs:List (List Key × V)} {ts:List Int} {m n:Int} (f:List Int->Bool) (nd:(kvs.map (·.1)).Nodup) (e:C2 kvs (ts.map Sum.inl:List Key)=some (.int m)):BK f (dsK (C9 kvs (ts.map Sum.inl) (.int (m+n))))=BK f (dsK kvs)+if f ts then n else 0:=by
 unfold C9
 rw [DH,e,if_pos (show (some (V.int m)).isSome=true from rfl)]
 exact K4 f nd e
theorem Ph {kvs:List (List Key × V)} {k:List Key} {v:V} (nd:(kvs.map (·.1)).Nodup):((C9 kvs k v).map (·.1)).Nodup:=by
 unfold C9
 split
 ·rw [List.map_map,show ((fun x:List Key × V=>x.1) ∘ fun kv=>if kv.1=k then (kv.1,v) else kv)=(·.1) from funext fun q=>by show (if q.1=k then (q.1,v) else q).1=q.1;split <;> rfl]
  exact nd
 ·rename_i c
  rw [List.map_append,List.nodup_append]
  refine ⟨nd,by simp,fun a ha b hb e=>c ?_⟩
  have:b=k:=by simpa using hb
  subst this
  subst e
  obtain ⟨q,qm,eq⟩:=List.mem_map.mp ha
  exact List.any_eq_true.mpr ⟨q,qm,decide_eq_true eq⟩
theorem PU {kvs:List (List Key × V)} (nd:(kvs.map (·.1)).Nodup) {q:List Key × V} (m:q∈kvs):C2 kvs q.1=some q.2:=by
 induction kvs with
 | nil=>cases m
 | cons p r ih =>
   rw [List.map_cons,List.nodup_cons] at nd
   unfold C2
   rw [List.find?_cons]
   rcases List.mem_cons.mp m with rfl | m
   ·rw [decide_eq_true rfl];rfl
   ·rw [decide_eq_false (show ¬ p.1=q.1 from fun z=>nd.1 (z ▸ List.mem_map.mpr ⟨q,m,rfl⟩))]
    exact ih nd.2 m
def nvK (kvs:List (List Key × V)) (ts:List Int):Int:=match C2 kvs (ts.map Sum.inl:List Key) with
 | some (.int n)=>n
 | _=>0
theorem Jy {kvs:List (List Key × V)} {ks:List (List Int)} (nd:(kvs.map (·.1)).Nodup) (e:kvs.map (·.1)=ks.map (List.map Sum.inl)) {us:List (List Int)} (p:us.Perm ks) (f:List Int->Bool) :
 BK f (us.map fun ts=>(ts,nvK kvs ts))=BK f (dsK kvs):=by
 have e2:dsK kvs=ks.map fun ts=>(ts,nvK kvs ts):=by
  have key:∀{l:List (List Key × V)} {js:List (List Int)},(∀q∈l,q∈kvs)->l.map (·.1)=js.map (List.map Sum.inl)->dsK l=js.map fun ts=>(ts,nvK kvs ts):=by
   intro l
   induction l with
   | nil=>intro js _ z;cases js with
     | nil=>rfl
     | cons a b=>cases z
   | cons q r ih =>
     intro js sub z
     cases js with
     | nil=>cases z
     | cons a b =>
       rw [List.map_cons,List.map_cons] at z
       injection z with z1 z2
       show (q.1.map toI,hv q.2) :: dsK r=_
       rw [ih (fun q m=>sub q (List.mem_cons_of_mem _ m)) z2,List.map_cons,z1,Hl]
       have v:=PU nd (sub q (List.mem_cons_self ..))
       rw [z1] at v
       unfold nvK
       rw [v]
       cases q.2 <;> rfl
  exact key (fun _ m=>m) e
 rw [e2]
 unfold BK
 exact NI ((p.map _).map _)
def Qj (ls:Ls):Prop:=∀q∈ls,0<=q.2.2.2/\q.2.2.2<=1000000000000
def Lo:Sp:=fun vs H Q _=>∃(l:Addr) (vo:Vo) (h:Nat),vs=[.ref l]/\H l=some (.lst (vvo vo))/\EJ h H vo/\vo.length<=24/\Mo vo/\h<=12 /\
 ∀(b:Addr) (ls:Ls) (H':Hp),Ao H H'->H' b=some (.lst (vls ls))->DZ h H' ls->ls.length<=60->Qj ls->(∀f,BK f (dsL ls)=Gh (fun rs=>f (BF rs)) vo)->Q (.ref b) H'
theorem NR (t:Int):∀i:Nat,bit (Builtin.bitNot t) i=!bit t i:=by
 have key:∀(i:Nat) (t:Int),bit (-t - 1) i=!bit t i:=by
  intro i
  induction i with
  | zero =>
    intro t
    rw [Ep,Ep]
    by_cases c:t % 2=1
    ·rw [decide_eq_true c,decide_eq_false (by omega)];rfl
    ·rw [decide_eq_false c,decide_eq_true (by omega)];rfl
  | succ i ih =>
    intro t
    rw [<- Ey,<- Ey,show (-t - 1) / 2=-(t / 2) - 1 from by omega]
    exact ih _
 intro i
 rw [show Builtin.bitNot t=-t - 1 from by unfold Builtin.bitNot;omega]
 exact key i t
theorem GK:∀h:Nat,(1:Int)*2 ^ h - 1=AD h fun _=>true
 | 0=>rfl
 | h+1=>by
   rw [CA,<- GK h,if_pos rfl,Int.pow_succ]
   omega
theorem Gq {h:Nat} (h12:h<=12) (f:Nat->Bool):0<=AD h f/\AD h f < 4096:=by
 have a:=D6 h f
 have b:=Kj h f
 have q:2 ^ h<=2 ^ 12:=Nat.pow_le_pow_right (by decide) h12
 have e1:((2 ^ h:Nat):Int)=(2:Int) ^ h:=by simp
 omega
def stp (s:(Nat->Bool) × (Nat->Nat->Int)) (t:Int):(Nat->Bool) × (Nat->Nat->Int):=(fun y=>s.1 y && !bit t y,fun x y=>s.2 x y+if (bit t x && (s.1 y && !bit t y))=true then 1 else 0)
def stT (ts:List Int):(Nat->Bool) × (Nat->Nat->Int):=ts.foldl stp (fun _=>true,fun _ _=>0)
theorem Nn (ts:List Int) (t:Int):stT (ts++[t])=stp (stT ts) t:=by unfold stT;rw [List.foldl_append];rfl
theorem Iw {rs:List Int} {i:Nat} {c u:Int} (h:rs[i]?=some c):bit (C6 rs u) i=decide (c=u):=by
 obtain ⟨hi,_⟩:=List.getElem?_eq_some_iff.mp h
 unfold C6
 rw [C0,decide_eq_true hi,Bool.true_and]
 unfold isR
 rw [h]
 by_cases e:c=u
 ·rw [decide_eq_true e,decide_eq_true (by rw [e])]
 ·rw [decide_eq_false e,decide_eq_false (fun z=>e (Option.some.inj z))]
theorem IB {rs:List Int} {x y:Nat} {a b:Int} (hx:rs[x]?=some a) (hy:rs[y]?=some b):∀(us:List Int) (s:(Nat->Bool) × (Nat->Nat->Int)),us.Pairwise (· < ·) ->
 ((us.map (C6 rs)).foldl stp s).2 x y=s.2 x y+if s.1 y=true/\a∈us/\¬ (b∈us/\b<=a) then 1 else 0
 | [],s,_=>by
   rw [if_neg (fun z=>nomatch z.2.1)]
   exact (Int.add_zero _).symm
 | u :: us,s,pw=>by
   rw [List.pairwise_cons] at pw
   rw [List.map_cons,List.foldl_cons,IB hx hy us _ pw.2]
   unfold stp
   simp only [Iw hx,Iw hy,List.mem_cons]
   cases s.1 y with
   | false=>simp
   | true =>
     by_cases c1:a=u
     ·have na:a ∉ us:=fun m=>by have:=pw.1 a m;omega
      by_cases c2:b=u
      ·subst c1;subst c2;simp
      ·have nb:¬ (b∈us/\b<=a):=fun m=>by have:=pw.1 b m.1;omega
       subst c1
       simp [c2,na]
       intro mb
       have:=pw.1 b mb
       omega
     ·by_cases c2:b=u
      ·subst c2
       by_cases m:a∈us
       ·have:=pw.1 a m
        simp [c1,m]
        omega
       ·simp [c1,m]
      ·simp [c1,c2]
theorem EV {rs:List Int} (hR:∀r∈rs,0<=r/\r<=12) {x y:Nat} (hx:x < rs.length) (hy:y < rs.length):(stT (BF rs)).2 x y=if Bs rs x < Bs rs y then 1 else 0:=by
 have ex:=List.getElem?_eq_getElem hx
 have ey:=List.getElem?_eq_getElem hy
 unfold stT BF Bs
 rw [IB ex ey _ _ ((EG rs).filter _),List.getD_eq_getElem?_getD,List.getD_eq_getElem?_getD,ex,ey]
 have ma:=List.getElem_mem hx
 have mb:=List.getElem_mem hy
 obtain ⟨a0,a1⟩:=hR _ ma
 obtain ⟨b0,b1⟩:=hR _ mb
 have e:∀{c:Int},c∈rs->(c∈(Cw rs).filter (fun r=>decide (0 < r))↔0 < c):=fun {c} m=>by
  rw [List.mem_filter,En,decide_eq_true_eq]
  exact ⟨fun z=>z.2,fun z=>⟨m,z⟩⟩
 simp only [e ma,e mb]
 show (0:Int)+_=_
 rw [Int.zero_add]
 show (if True/\0 < rs[x]/\¬ (0 < rs[y]/\rs[y]<=rs[x]) then (1:Int) else 0)=if (if rs[x]=0 then (1000000000:Int) else rs[x]) < (if rs[y]=0 then 1000000000 else rs[y]) then 1 else 0
 generalize rs[x]=a at *
 generalize rs[y]=b at *
 by_cases c1:a=0
 ·rw [if_pos c1,if_neg (by omega)]
  by_cases c2:b=0
  ·rw [if_pos c2,if_neg (by omega)]
  ·rw [if_neg c2,if_neg (by omega)]
 ·rw [if_neg c1]
  by_cases c2:b=0
  ·rw [if_pos c2,if_pos ⟨trivial,by omega,by omega⟩,if_pos (by omega)]
  ·rw [if_neg c2]
   by_cases c3:a < b
   ·rw [if_pos c3,if_pos ⟨trivial,by omega,by omega⟩]
   ·rw [if_neg c3,if_neg (fun z=>z.2.2 ⟨by omega,by omega⟩)]
def CQ (x y:Nat) (ts:List Int):Bool:=decide ((stT ts).2 x y=1)
theorem Lu {h x y:Nat} {ts:List Int} (f:Fb h ts) (hx:x < h) (hy:y < h) (n:Int):n*(stT ts).2 x y=if CQ x y ts=true then n else 0:=by
 obtain ⟨rs,rl,hR,rfl⟩:=f
 unfold CQ
 rw [EV hR (by omega) (by omega)]
 by_cases c:Bs rs x < Bs rs y
 ·rw [if_pos c,if_pos (by decide),Int.mul_one]
 ·rw [if_neg c,if_neg (by decide),Int.mul_zero]
def BB (H:Hp) (as:List Addr) (h:Nat) (F:Nat->Nat->Int):Prop:=as.length=h/\as.Nodup/\∀x a,as[x]?=some a->H a=some (.lst (((List.range h).map fun y=>F x y).map V.int))
def Hy (F:Nat->Nat->Int) (x y:Nat) (n:Int):Nat->Nat->Int:=fun x' y'=>F x' y'+if x'=x/\y'=y then n else 0
theorem BB.congr {H:Hp} {as:List Addr} {h:Nat} {F G:Nat->Nat->Int} (g:BB H as h F) (e:∀x y,x < h->y < h->F x y=G x y):BB H as h G:=by
 refine ⟨g.1,g.2.1,fun x a ha=>?_⟩
 have hx:x < h:=by have:=(List.getElem?_eq_some_iff.mp ha).1;have:=g.1;omega
 rw [g.2.2 x a ha,show ((List.range h).map fun y=>F x y)=(List.range h).map fun y=>G x y from List.map_congr_left fun y m=>e x y hx (List.mem_range.mp m)]
theorem BB.put {H:Hp} {as:List Addr} {h:Nat} {F:Nat->Nat->Int} (g:BB H as h F) {x y:Nat} {a:Addr} (ha:as[x]?=some a) (n:Int):BB (upd H a (.lst ((((List.range h).map fun y=>F x y).map V.int).set y (.int (F x y+n))))) as h (Hy F x y n):=by
 refine ⟨g.1,g.2.1,fun x' a' ha'=>?_⟩
 by_cases c:x'=x
 ·subst c
  rw [ha] at ha'
  cases Option.some.inj ha'
  rw [Ab]
  refine congrArg (fun z=>some (HO.lst z)) (List.ext_getElem? fun k=>?_)
  rw [List.getElem?_set,List.length_map,List.length_map,List.length_range,List.getElem?_map,List.getElem?_map,List.getElem?_map,List.getElem?_map]
  by_cases ck:k < h
  ·rw [List.getElem?_range ck]
   by_cases cy:y=k
   ·subst cy
    rw [if_pos rfl,if_pos ck]
    show some (V.int (F x' y+n))=some (V.int (Hy F x' y n x' y))
    unfold Hy
    rw [if_pos ⟨rfl,rfl⟩]
   ·rw [if_neg cy]
    show some (V.int (F x' k))=some (V.int (Hy F x' y n x' k))
    unfold Hy
    rw [if_neg (fun z=>cy z.2.symm),Int.add_zero]
  ·rw [List.getElem?_eq_none (l:=List.range h) (by rw [List.length_range];omega)]
   by_cases cy:y=k
   ·subst cy
    rw [if_pos rfl,if_neg ck];rfl
   ·rw [if_neg cy]
    rfl
 ·have ne:a'≠a:=fun z=>by
   subst z
   obtain ⟨l1,e1⟩:=List.getElem?_eq_some_iff.mp ha
   obtain ⟨l2,e2⟩:=List.getElem?_eq_some_iff.mp ha'
   exact c ((List.getElem_inj g.2.1).mp (e2.trans e1.symm))
  rw [Ai ne,g.2.2 x' a' ha',show ((List.range h).map fun y'=>Hy F x y n x' y')=(List.range h).map fun y'=>F x' y' from List.map_congr_left fun y' _=>by unfold Hy;rw [if_neg (fun z=>c z.1),Int.add_zero]]
def Keep (as:List Addr) (H H':Hp):Prop:=∀b o,b ∉ as->H b=some o->H' b=some o
theorem Keep.trans {as:List Addr} {H H' H2:Hp} (a:Keep as H H') (b:Keep as H' H2):Keep as H H2:=fun c o m e=>b c o m (a c o m e)
theorem Keep.of {as:List Addr} {H H':Hp} (s:Ao H H'):Keep as H H':=fun c o _ e=>s c o e
theorem Keep.put {as:List Addr} {H H':Hp} {a:Addr} {o:HO} (k:Keep as H H') (m:a∈as):Keep as H (upd H' a o):=fun c u n e=>by
 rw [Ai (show c≠a from fun z=>n (by rw [z];exact m))]
 exact k c u n e
theorem Keep.same {as:List Addr} {H H1 H':Hp} (k:Keep as H1 H') (s:Ao H H1) (n:∀a∈as,H a=none):Ao H H':=fun b o e=>k b o (fun m=>by rw [n b m] at e;cases e) (s b o e)
theorem BB.same {H H':Hp} {as:List Addr} {h:Nat} {F:Nat->Nat->Int} (g:BB H as h F) (s:Ao H H'):BB H' as h F:=⟨g.1,g.2.1,fun x a ha=>s _ _ (g.2.2 x a ha)⟩
theorem BB.row {H:Hp} {as:List Addr} {h:Nat} {F:Nat->Nat->Int} (g:BB H as h F) {x:Nat} (hx:x < h):∃a,as[x]?=some a/\a∈as/\atI (as.map V.ref) (x:Int)=some (.ref a)/\H a=some (.lst (((List.range h).map fun y=>F x y).map V.int)):=by
 have hl:x < as.length:=by rw [g.1];exact hx
 refine ⟨as[x],List.getElem?_eq_getElem hl,List.getElem_mem hl,E2 (by rw [List.getElem?_map,List.getElem?_eq_getElem hl];rfl),g.2.2 x _ (List.getElem?_eq_getElem hl)⟩
theorem Dj {h:Nat} (F:Nat->Int) {y:Nat} (hy:y < h):atI (((List.range h).map fun y=>F y).map V.int) (y:Int)=some (.int (F y)):=atN (by rw [List.getElem?_map,List.getElem?_range hy];rfl)
theorem Fz {h:Nat} (h12:h<=12) (f:Nat->Bool) {z:Int}:z∈hands 12 (bit (AD h f))↔∃i:Nat,i < h/\f i=true/\z=(i:Int):=by
 rw [Md]
 refine ⟨fun ⟨i,_,b,e⟩=>?_,fun ⟨i,a,b,e⟩=>⟨i,by omega,by rw [C0,decide_eq_true a,b];rfl,e⟩⟩
 rw [C0,Bool.and_eq_true,decide_eq_true_eq] at b
 exact ⟨i,b.1,b.2,e⟩
theorem EI (n:Nat) (f:Nat->Bool):(hands n f).Nodup:=by
 unfold hands
 exact List.Pairwise.map _ (fun a b (ne:a≠b) e=>ne (Int.ofNat.inj e)) (List.Pairwise.filter _ List.nodup_range)
theorem Ez {n i:Nat} (h:i < n):ixN n (i:Int)=some i:=by
 unfold ixN
 rw [if_pos (by omega)]
 simp [h]
theorem BB.not {H:Hp} {as:List Addr} {h:Nat} {F:Nat->Nat->Int} (g:BB H as h F) {a:Addr} (e:H a=none):a ∉ as:=fun m=>by
 obtain ⟨x,hx⟩:=List.getElem?_of_mem m
 rw [g.2.2 x a hx] at e
 cases e
theorem Hr {xs:List Int} (nd:xs.Nodup) {k:Nat} {z:Int} (hz:xs[k]?=some z):xs.take (k+1)=xs.take k++[z]/\z ∉ xs.take k:=by
 have e:xs.take (k+1)=xs.take k++[z]:=by rw [List.take_add_one,hz];rfl
 refine ⟨e,fun m=>?_⟩
 have n2:=(List.take_sublist (k+1) xs).nodup nd
 rw [e,List.nodup_append] at n2
 exact n2.2.2 z m z (List.mem_singleton.mpr rfl) rfl
theorem Lr (f:List Int->Bool) (a:Ls) (q:Addr × Addr × List Int × Int):BK f (dsL (a++[q]))=BK f (dsL a)+if f q.2.2.1=true then q.2.2.2 else 0:=by
 unfold dsL
 rw [List.map_append,ER]
 show _+BK f [(_,_)]=_
 rw [CB]
 show _+(_+0)=_
 rw [Int.add_zero]
theorem JR {h:Nat} {ts:List Int} {t:Int} (h12:h<=12) (f:Fb h ts) (m:t∈ts):∃g:Nat->Bool,t=AD h g:=by
 obtain ⟨rs,rl,_,rfl⟩:=f
 unfold BF at m
 obtain ⟨r,_,rfl⟩:=List.mem_map.mp m
 exact ⟨isR rs r,by unfold C6;rw [rl]⟩
theorem OO {p q r:Prop} [Decidable p] [Decidable q] [Decidable r] (n z:Int) (e:r↔p\/q) (d:¬ (p/\q)):z+(if p then n else 0)+(if q then n else 0)=z+if r then n else 0:=by
 by_cases c1:p
 ·rw [if_pos c1,if_neg (fun c2=>d ⟨c1,c2⟩),if_pos (e.mpr (.inl c1)),Int.add_zero]
 ·rw [if_neg c1,Int.add_zero]
  by_cases c2:q
  ·rw [if_pos c2,if_pos (e.mpr (.inr c2))]
  ·rw [if_neg c2,if_neg (fun c3=>(e.mp c3).elim c1 c2)]
theorem Jn {xs:List Int} {x x':Nat}:(x':Int)∈xs++[(x:Int)]↔(x':Int)∈xs\/x'=x:=by
 rw [List.mem_append,List.mem_singleton]
 exact or_congr Iff.rfl ⟨fun e=>Int.ofNat.inj e,fun e=>by rw [e]⟩
def KO:Sp:=fun vs H Q _=>∃(l:Addr) (ls:Ls) (h:Nat),vs=[.ref l,.int (h:Int)]/\H l=some (.lst (vls ls))/\DZ h H ls/\ls.length<=60/\1<=h/\h<=12/\∀(b:Addr) (as:List Addr) (H':Hp),H b=none->Ao H H'->b ∉ as->(∀a∈as,H a=none)->H' b=some (.lst (as.map V.ref))->BB H' as h (fun x y=>BK (CQ x y) (dsL ls))->Q (.ref b) H'
def duF (vo:Vo) (x y:Nat):Int:=Gh (fun rs=>decide (Bs rs x < Bs rs y)) vo
def ID (h:Nat) (F:Nat->Nat->Int):List (List Int):=(List.range h).map fun x=>(List.range h).map fun y=>F x y
theorem Ob {h x:Nat} {F:Nat->Nat->Int} (hx:x < h):(ID h F)[x]?=some ((List.range h).map fun y=>F x y):=by
 unfold ID
 rw [List.getElem?_map,List.getElem?_range hx]
 rfl
theorem HS (h:Nat) (F:Nat->Nat->Int):(ID h F).length=h:=by unfold ID;rw [List.length_map,List.length_range]
def Jq (as:List Addr) (h:Nat) (F:Nat->Nat->Int):Tb:=as.zip (ID h F)
theorem BB.vtb {H:Hp} {as:List Addr} {h:Nat} {F:Nat->Nat->Int} (g:BB H as h F):vtb (Jq as h F)=as.map V.ref:=by
 unfold Law.vtb Jq
 rw [show (fun r:Addr × List Int=>V.ref r.1)=V.ref ∘ Prod.fst from rfl,<- List.map_map,List.map_fst_zip (by rw [g.1,HS];exact Nat.le_refl _)]
theorem BB.good {H:Hp} {as:List Addr} {h:Nat} {F:Nat->Nat->Int} (g:BB H as h F):Qx H (Jq as h F) h:=by
 refine ⟨by unfold Jq;rw [List.length_zip,g.1,HS,Nat.min_self],fun r m=>?_⟩
 obtain ⟨i,hi⟩:=List.getElem?_of_mem m
 unfold Jq at hi
 rw [List.getElem?_zip_eq_some] at hi
 have hx:i < h:=by have:=(List.getElem?_eq_some_iff.mp hi.1).1;have:=g.1;omega
 rw [Ob hx] at hi
 rw [<- Option.some.inj hi.2]
 exact ⟨g.2.2 i _ hi.1,by rw [List.length_map,List.length_range]⟩
theorem FW {h x y:Nat} {H:Hp}:∀{vo:Vo},EJ h H vo->Mo vo->x < h->y < h->Gh (fun rs=>CQ x y (BF rs)) vo=duF vo x y
 | [],_,_,_,_=>rfl
 | q :: r,g,n,hx,hy=>by
   have ih:=FW (vo:=r) (fun z m=>g z (List.mem_cons_of_mem _ m)) (fun z m=>n z (List.mem_cons_of_mem _ m)) hx hy
   have gl:=(g q (List.mem_cons_self ..)).2.2
   have nr:=(n q (List.mem_cons_self ..)).2.2
   unfold duF Gh at ih ⊢
   simp only [List.map_cons,List.sum_cons] at ih ⊢
   rw [ih]
   refine congrArg (·+_) ?_
   have e:CQ x y (BF q.2.2.1)=decide (Bs q.2.2.1 x < Bs q.2.2.1 y):=by
    unfold CQ
    rw [EV nr (by omega) (by omega)]
    by_cases c:Bs q.2.2.1 x < Bs q.2.2.1 y
    ·rw [if_pos c,decide_eq_true c];rfl
    ·rw [if_neg c,decide_eq_false c];rfl
   show (if CQ x y (BF q.2.2.1)=true then q.2.2.2 else 0)=if decide (Bs q.2.2.1 x < Bs q.2.2.1 y)=true then q.2.2.2 else 0
   rw [e]
structure DE (h x:Nat) (L:Nat->Nat->Int) (be bf:List Int):Prop where
 lenb:be.length=h
 lenf:bf.length=h
 own:be.getD x 0=L x x
 low:∀y,y < h->y≠x->L x y<=be.getD y 0
 stab:∀d y,d < h->y < h->d≠x->y≠x->d≠y->min (be.getD d 0) (L d y)<=be.getD y 0
 par:∃rk:Nat->Nat,∀y,y < h->y≠x->∃p:Nat,p < h/\bf.getD y 0=(p:Int)/\rk p < rk y/\(p=x->be.getD y 0=L x y)/\(p≠x->be.getD y 0=min (be.getD p 0) (L p y))
structure Dij (h x:Nat) (L:Nat->Nat->Int) (be bf left:List Int) (rk:Nat->Nat):Prop where
 lenb:be.length=h
 lenf:bf.length=h
 nd:left.Nodup
 sub:∀z∈left,∃y:Nat,y < h/\y≠x/\z=(y:Int)
 own:be.getD x 0=L x x
 low:∀y,y < h->y≠x->L x y<=be.getD y 0
 ord:∀d y:Nat,d < h->d≠x->(d:Int) ∉ left->(y:Int)∈left->be.getD y 0<=be.getD d 0
 stab:∀d y:Nat,d < h->y < h->d≠x->y≠x->d≠y->(d:Int) ∉ left->min (be.getD d 0) (L d y)<=be.getD y 0
 rkc:∀d:Nat,d < h->(d:Int) ∉ left->rk d+left.length < h
 par:∀y,y < h->y≠x->∃p:Nat,p < h/\bf.getD y 0=(p:Int)/\(p:Int) ∉ left/\((y:Int) ∉ left->rk p < rk y)/\(p=x->be.getD y 0=L x y)/\(p≠x->be.getD y 0=min (be.getD p 0) (L p y))
theorem Dij.done {h x:Nat} {L:Nat->Nat->Int} {be bf:List Int} {rk:Nat->Nat} (g:Dij h x L be bf [] rk):DE h x L be bf :=
 ⟨g.lenb,g.lenf,g.own,g.low,fun d y h1 h2 h3 h4 h5=>g.stab d y h1 h2 h3 h4 h5 (by simp),rk,fun y h1 h2=>let ⟨p,a,b,_,c,d⟩:=g.par y h1 h2;⟨p,a,b,c (by simp),d⟩⟩
def Co (h x:Nat):List Int:=((List.range h).filter fun y=>decide (y≠x)).map fun y:Nat=>(y:Int)
theorem Da {h x:Nat} {z:Int}:z∈Co h x↔∃y:Nat,y < h/\y≠x/\z=(y:Int):=by
 unfold Co
 simp only [List.mem_map,List.mem_filter,List.mem_range,decide_eq_true_eq]
 exact ⟨fun ⟨y,⟨a,b⟩,e⟩=>⟨y,a,b,e.symm⟩,fun ⟨y,a,b,e⟩=>⟨y,⟨a,b⟩,e.symm⟩⟩
theorem KB (h x:Nat):(Co h x).Nodup:=by
 unfold Co
 exact List.Pairwise.map _ (fun a b (ne:a≠b) e=>ne (Int.ofNat.inj e)) (List.Pairwise.filter _ List.nodup_range)
theorem DN {xs ys:List Int} (n:xs.Nodup) (s:∀z∈xs,z∈ys):xs.length<=ys.length:=by
 induction xs generalizing ys with
 | nil=>exact Nat.zero_le _
 | cons a r ih =>
   rw [List.nodup_cons] at n
   have ma:=s a (List.mem_cons_self ..)
   have:=ih (ys:=ys.erase a) n.2 fun z mz=>(List.mem_erase_of_ne (fun e=>n.1 (by rw [<- e];exact mz))).mpr (s z (List.mem_cons_of_mem _ mz))
   rw [List.length_erase_of_mem ma] at this
   have:=List.length_pos_of_mem ma
   rw [List.length_cons]
   omega
theorem Iu {h x:Nat} (hx:x < h):(Co h x).length < h:=by
 have a:=DN (xs:=(x:Int) :: Co h x) (ys:=(List.range h).map fun y:Nat=>(y:Int)) (List.nodup_cons.mpr ⟨fun m=>by
  obtain ⟨y,_,n,e⟩:=Da.mp m
  exact n (Int.ofNat.inj e).symm,KB h x⟩) (fun z m=>by
  rcases List.mem_cons.mp m with m | m
  ·rw [m];exact List.mem_map.mpr ⟨x,List.mem_range.mpr hx,rfl⟩
  ·obtain ⟨y,a,_,e⟩:=Da.mp m
   rw [e];exact List.mem_map.mpr ⟨y,List.mem_range.mpr a,rfl⟩)
 rw [List.length_cons,List.length_map,List.length_range] at a
 omega
theorem Dij.start {h x:Nat} (hx:x < h) (L:Nat->Nat->Int):Dij h x L ((List.range h).map fun y=>L x y) (List.replicate h (x:Int)) (Co h x) fun _=>0:=by
 have g:∀y,y < h->((List.range h).map fun y=>L x y).getD y 0=L x y:=fun y hy=>by
  rw [List.getD_eq_getElem?_getD,List.getElem?_map,List.getElem?_range hy];rfl
 have inn:∀d:Nat,d < h->d≠x->(d:Int)∈Co h x:=fun d a b=>Da.mpr ⟨d,a,b,rfl⟩
 refine ⟨by simp,by simp,KB h x,fun z m=>Da.mp m,g x hx,fun y hy _=>by rw [g y hy];exact Int.le_refl _,fun d y a b c=>absurd (inn d a b) c,fun d y a _ b _ _ c=>absurd (inn d a b) c,fun d a _=>by have:=Iu hx;omega,fun y hy ny=>⟨x,hx,?_,fun m=>?_,fun c=>absurd (inn y hy ny) c,fun _=>g y hy,fun c=>absurd rfl c⟩⟩
 ·rw [List.getD_eq_getElem?_getD,List.getElem?_replicate,if_pos hy];rfl
 ·obtain ⟨y,_,n,e⟩:=Da.mp m
  exact n (Int.ofNat.inj e).symm
def Upd (h t:Nat) (L:Nat->Nat->Int) (be bf zs be' bf':List Int):Prop:=be'.length=h/\bf'.length=h/\∀y:Nat,y < h ->
 ((y:Int)∈zs/\be.getD y 0 < min (be.getD t 0) (L t y)->be'.getD y 0=min (be.getD t 0) (L t y)/\bf'.getD y 0=(t:Int)) /\
 (¬ ((y:Int)∈zs/\be.getD y 0 < min (be.getD t 0) (L t y))->be'.getD y 0=be.getD y 0/\bf'.getD y 0=bf.getD y 0)
theorem Dij.step {h x t:Nat} {L:Nat->Nat->Int} {be bf left be' bf':List Int} {rk:Nat->Nat} (g:Dij h x L be bf left rk) (hx:x < h) (ht:(t:Int)∈left) (best:∀y:Nat,(y:Int)∈left->be.getD y 0<=be.getD t 0)
 (u:Upd h t L be bf (left.erase (t:Int)) be' bf'):Dij h x L be' bf' (left.erase (t:Int)) fun y=>if y=t then h - left.length else rk y:=by
 obtain ⟨u1,u2,u3⟩:=u
 obtain ⟨t',th,tx,et⟩:=g.sub _ ht
 have ett:t=t':=Int.ofNat.inj et
 subst ett
 have mem:∀{z:Int},z∈left.erase (t:Int)↔z≠(t:Int)/\z∈left:=fun {z}=>g.nd.mem_erase_iff
 have ge:∀y,y < h->be.getD y 0<=be'.getD y 0:=fun y hy=>by
  by_cases c:(y:Int)∈left.erase (t:Int)/\be.getD y 0 < min (be.getD t 0) (L t y)
  ·rw [((u3 y hy).1 c).1];omega
  ·rw [((u3 y hy).2 c).1];exact Int.le_refl _
 have out:∀y:Nat,y < h->(y:Int) ∉ left.erase (t:Int)->be'.getD y 0=be.getD y 0/\bf'.getD y 0=bf.getD y 0:=fun y hy n=>(u3 y hy).2 fun c=>n c.1
 have nx:(x:Int) ∉ left:=fun m=>by
  obtain ⟨y,_,n,e⟩:=g.sub _ m
  exact n (Int.ofNat.inj e).symm
 have nt:(t:Int) ∉ left.erase (t:Int):=fun m=>(mem.mp m).1 rfl
 have cut:∀{d:Nat},(d:Int) ∉ left.erase (t:Int)->d=t\/(d:Int) ∉ left:=fun {d} n=>by
  by_cases c:d=t
  ·exact .inl c
  ·exact .inr fun m=>n (mem.mpr ⟨fun e=>c (Int.ofNat.inj e),m⟩)
 have hxlt:∀{y:Nat},(y:Int)∈left->y < h/\y≠x:=fun {y} m=>by
  obtain ⟨y',a,b,e⟩:=g.sub _ m
  rw [show y=y' from Int.ofNat.inj e];exact ⟨a,b⟩
 have len:(left.erase (t:Int)).length=left.length - 1:=List.length_erase_of_mem ht
 have pos:=List.length_pos_of_mem ht
 refine ⟨u1,u2,g.nd.erase _,fun z m=>g.sub z (mem.mp m).2,?_,fun y hy ny=>Int.le_trans (g.low y hy ny) (ge y hy),fun d y hd dx dn ym=>?_,fun d y hd hy dx yx dy dn=>?_,fun d hd dn=>?_,fun y hy yx=>?_⟩
 ·rw [(out x hx fun m=>nx (mem.mp m).2).1];exact g.own
 ·have ym':=mem.mp ym
  have yh:=hxlt ym'.2
  rw [(out d hd dn).1]
  have bd:be.getD t 0<=be.getD d 0:=by
   rcases cut dn with e | n
   ·rw [e];exact Int.le_refl _
   ·exact g.ord d t hd dx n ht
  have by':=best y ym'.2
  by_cases c:(y:Int)∈left.erase (t:Int)/\be.getD y 0 < min (be.getD t 0) (L t y)
  ·rw [((u3 y yh.1).1 c).1];omega
  ·rw [((u3 y yh.1).2 c).1];omega
 ·rw [(out d hd dn).1]
  have gy:=ge y hy
  rcases cut dn with e | n
  ·subst e
   by_cases c:(y:Int)∈left.erase (d:Int)
   ·by_cases c2:be.getD y 0 < min (be.getD d 0) (L d y)
    ·rw [((u3 y hy).1 ⟨c,c2⟩).1];exact Int.le_refl _
    ·omega
   ·rcases cut c with e | n
    ·exact absurd e.symm dy
    ·have:=g.ord y d hy yx n ht
     omega
  ·have:=g.stab d y hd hy dx yx dy n
   omega
 ·rw [len]
  rcases cut dn with e | n
  ·show (if d=t then h - left.length else rk d)+_ < h
   rw [if_pos e]
   have:=g.rkc x hx nx
   omega
  ·show (if d=t then h - left.length else rk d)+_ < h
   rw [if_neg (fun e=>n (by rw [e];exact ht))]
   have:=g.rkc d hd n
   omega
 ·obtain ⟨p,hp,p1,p2,p3,p4,p5⟩:=g.par y hy yx
  by_cases c:(y:Int)∈left.erase (t:Int)/\be.getD y 0 < min (be.getD t 0) (L t y)
  ·obtain ⟨c1,c2⟩:=(u3 y hy).1 c
   exact ⟨t,th,c2,nt,fun n=>absurd c.1 n,fun e=>absurd e tx,fun _=>by rw [c1,(out t th nt).1]⟩
  ·obtain ⟨c1,c2⟩:=(u3 y hy).2 c
   have pn:(p:Int) ∉ left.erase (t:Int):=fun m=>p2 (mem.mp m).2
   have pt:p≠t:=fun e=>p2 (by rw [e];exact ht)
   refine ⟨p,hp,by rw [c2,p1],pn,fun n=>?_,fun e=>by rw [c1];exact p4 e,fun e=>by rw [c1,(out p hp pn).1];exact p5 e⟩
   show (if p=t then h - left.length else rk p) < if y=t then h - left.length else rk y
   rw [if_neg pt]
   rcases cut n with e | n
   ·rw [if_pos e]
    have:=g.rkc p hp p2
    omega
   ·rw [if_neg (fun e=>n (by rw [e];exact ht))]
    exact p3 n
theorem DE.le {h x:Nat} {L:Nat->Nat->Int} {be bf be' bf':List Int} (g:DE h x L be bf) (g':DE h x L be' bf'):∀y,y < h->y≠x->be.getD y 0<=be'.getD y 0:=by
 obtain ⟨rk,par⟩:=g.par
 have key:∀n y,rk y<=n->y < h->y≠x->be.getD y 0<=be'.getD y 0:=by
  intro n
  induction n with
  | zero =>
    intro y r hy yx
    obtain ⟨p,_,_,p1,_⟩:=par y hy yx
    omega
  | succ n ih =>
    intro y r hy yx
    obtain ⟨p,hp,_,p1,p2,p3⟩:=par y hy yx
    by_cases c:p=x
    ·rw [p2 c];exact g'.low y hy yx
    ·rw [p3 c]
     have a:=ih p (by omega) hp c
     have b:=g'.stab p y hp hy c yx (fun e=>by rw [e] at p1;exact Nat.lt_irrefl _ p1)
     omega
 exact fun y=>key (rk y) y (Nat.le_refl _)
theorem DE.uniq {h x:Nat} {L:Nat->Nat->Int} {be bf be' bf':List Int} (g:DE h x L be bf) (g':DE h x L be' bf'):be=be':=by
 apply List.ext_getElem
 ·rw [g.lenb,g'.lenb]
 ·intro y h1 h2
  have e1:be[y]=be.getD y 0:=by rw [List.getD_eq_getElem?_getD,List.getElem?_eq_getElem h1];rfl
  have e2:be'[y]=be'.getD y 0:=by rw [List.getD_eq_getElem?_getD,List.getElem?_eq_getElem h2];rfl
  rw [e1,e2]
  by_cases c:y=x
  ·rw [c,g.own,g'.own]
  ·have hy:y < h:=by rw [<- g.lenb];exact h1
   exact Int.le_antisymm (g.le g' y hy c) (g'.le g y hy c)
def lk (L:Nat->Nat->Int) (ws:List Nat):List Int:=(List.range (ws.length - 1)).map fun k=>L (ws.getD k 0) (ws.getD (k+1) 0)
theorem HA (L:Nat->Nat->Int) (p w:Nat) (r:List Nat):lk L (p :: w :: r)=L p w :: lk L (w :: r):=by
 unfold lk
 rw [show (p :: w :: r).length - 1=((w :: r).length - 1)+1 from rfl,List.range_succ_eq_map,List.map_cons,List.map_map]
 rfl
structure Gg (h x y:Nat) (L:Nat->Nat->Int) (be:List Int) (rk:Nat->Nat) (w:Nat) (r:List Nat):Prop where
 all:∀z∈w :: r,z < h
 rise:(w :: r).Pairwise fun a b=>rk a < rk b
 last:(w :: r).getLast?=some y
 above:∀l∈lk L (w :: r),be.getD y 0<=l
 mid:w≠x->be.getD y 0<=be.getD w 0/\(be.getD y 0=be.getD w 0\/be.getD y 0∈lk L (w :: r))
 fin:w=x->be.getD y 0∈lk L (w :: r)/\r≠[]
theorem Gg.start {h x y:Nat} {L:Nat->Nat->Int} {be:List Int} (rk:Nat->Nat) (hy:y < h) (ne:y≠x):Gg h x y L be rk y [] :=
 ⟨fun z m=>by rw [List.mem_singleton.mp m];exact hy,List.pairwise_singleton ..,rfl,(fun l m=>by cases m),fun _=>⟨Int.le_refl _,.inl rfl⟩,fun e=>absurd e ne⟩
theorem Gg.step {h x y w p:Nat} {L:Nat->Nat->Int} {be:List Int} {rk:Nat->Nat} {r:List Nat} (g:Gg h x y L be rk w r) (wx:w≠x) (hp:p < h) (pr:rk p < rk w)
 (p1:p=x->be.getD w 0=L x w) (p2:p≠x->be.getD w 0=min (be.getD p 0) (L p w)):Gg h x y L be rk p (w :: r):=by
 obtain ⟨m1,m2⟩:=g.mid wx
 have key:be.getD y 0<=L p w:=by
  by_cases c:p=x
  ·have:=p1 c;rw [c];omega
  ·have:=p2 c;omega
 refine ⟨fun z m=>?_,List.pairwise_cons.mpr ⟨fun z m=>?_,g.rise⟩,?_,fun l m=>?_,fun c=>?_,fun c=>?_⟩
 ·rcases List.mem_cons.mp m with m | m
  ·rw [m];exact hp
  ·exact g.all z m
 ·rcases List.mem_cons.mp m with m | m
  ·rw [m];exact pr
  ·exact Nat.lt_trans pr ((List.pairwise_cons.mp g.rise).1 z m)
 ·rw [List.getLast?_cons_cons];exact g.last
 ·rw [HA] at m
  rcases List.mem_cons.mp m with m | m
  ·rw [m];exact key
  ·exact g.above l m
 ·have:=p2 c
  refine ⟨by omega,?_⟩
  rw [HA]
  rcases m2 with e | e
  ·by_cases z:be.getD p 0<=L p w
   ·exact .inl (by omega)
   ·exact .inr (by rw [show be.getD y 0=L p w by omega];exact List.mem_cons_self ..)
  ·exact .inr (List.mem_cons_of_mem _ e)
 ·rw [HA]
  have:=p1 c
  refine ⟨?_,by simp⟩
  rcases m2 with e | e
  ·rw [e,this,c];exact List.mem_cons_self ..
  ·exact List.mem_cons_of_mem _ e
structure N0 (h x y:Nat) (L:Nat->Nat->Int) (v:Int) (ws:List Nat):Prop where
 all:∀z∈ws,z < h
 nd:ws.Nodup
 first:ws.head?=some x
 last:ws.getLast?=some y
 two:2<=ws.length
 least:v∈lk L ws/\∀l∈lk L ws,v<=l
theorem Gg.way {h x y:Nat} {L:Nat->Nat->Int} {be:List Int} {rk:Nat->Nat} {r:List Nat} (g:Gg h x y L be rk x r):N0 h x y L (be.getD y 0) (x :: r):=by
 obtain ⟨f1,f2⟩:=g.fin rfl
 refine ⟨g.all,g.rise.imp fun z e=>by rw [e] at z;exact Nat.lt_irrefl _ z,rfl,g.last,?_,f1,g.above⟩
 have:=List.length_pos_iff.mpr f2
 rw [List.length_cons]
 omega
theorem Gr {h x:Nat} (hx:x < h):(Co h x).length+1=h:=by
 have a:=Iu hx
 have b:=DN (xs:=(List.range h).map fun y:Nat=>(y:Int)) (ys:=(x:Int) :: Co h x) (List.Pairwise.map _ (fun a b (ne:a≠b) e=>ne (Int.ofNat.inj e)) List.nodup_range) fun z m=>by
  obtain ⟨y,hy,e⟩:=List.mem_map.mp m
  by_cases c:y=x
  ·rw [<- e,c];exact List.mem_cons_self ..
  ·exact List.mem_cons_of_mem _ (Da.mpr ⟨y,List.mem_range.mp hy,c,e.symm⟩)
 rw [List.length_cons,List.length_map,List.length_range] at b
 omega
theorem DL (i x:Nat):Co (i+1) x=Co i x++if i=x then [] else [(i:Int)]:=by
 unfold Co
 rw [List.range_succ,List.filter_append,List.map_append]
 by_cases c:i=x
 ·rw [if_pos c];simp [c]
 ·rw [if_neg c];simp [c]
theorem Iz {xs:List Int} {z:Nat} (hz:z < xs.length) (v:Int) (y:Nat):(xs.set z v).getD y 0=if y=z then v else xs.getD y 0:=by
 rw [List.getD_eq_getElem?_getD,List.getElem?_set,List.getD_eq_getElem?_getD]
 by_cases c:z=y
 ·subst c;rw [if_pos rfl,if_pos hz,if_pos rfl];rfl
 ·rw [if_neg c,if_neg (Ne.symm c)]
theorem Upd.nil {h t:Nat} {L:Nat->Nat->Int} {be bf:List Int} (l1:be.length=h) (l2:bf.length=h):Upd h t L be bf [] be bf:=⟨l1,l2,fun y _=>⟨fun c=>(nomatch c.1),fun _=>⟨rfl,rfl⟩⟩⟩
theorem Upd.put {h t z:Nat} {L:Nat->Nat->Int} {be bf zs be' bf':List Int} (u:Upd h t L be bf zs be' bf') (hz:z < h) (c:be.getD z 0 < min (be.getD t 0) (L t z)):Upd h t L be bf (zs++[(z:Int)]) (be'.set z (min (be.getD t 0) (L t z))) (bf'.set z (t:Int)):=by
 obtain ⟨u1,u2,u3⟩:=u
 refine ⟨by rw [List.length_set,u1],by rw [List.length_set,u2],fun y hy=>?_⟩
 rw [Iz (by omega),Iz (by omega)]
 by_cases e:y=z
 ·subst e
  rw [if_pos rfl,if_pos rfl]
  exact ⟨fun _=>⟨rfl,rfl⟩,fun n=>absurd ⟨List.mem_append_right _ (List.mem_singleton.mpr rfl),c⟩ n⟩
 ·rw [if_neg e,if_neg e]
  have m:(y:Int)∈zs++[(z:Int)]↔(y:Int)∈zs:=by
   rw [List.mem_append,List.mem_singleton]
   exact ⟨fun h=>h.elim id fun h=>absurd (Int.ofNat.inj h) e,.inl⟩
  rw [m]
  exact u3 y hy
theorem Upd.skip {h t z:Nat} {L:Nat->Nat->Int} {be bf zs be' bf':List Int} (u:Upd h t L be bf zs be' bf') (c:¬ be.getD z 0 < min (be.getD t 0) (L t z)):Upd h t L be bf (zs++[(z:Int)]) be' bf':=by
 obtain ⟨u1,u2,u3⟩:=u
 refine ⟨u1,u2,fun y hy=>?_⟩
 by_cases e:y=z
 ·subst e
  refine ⟨fun k=>absurd k.2 c,fun _=>(u3 y hy).2 fun k=>c k.2⟩
 ·have m:(y:Int)∈zs++[(z:Int)]↔(y:Int)∈zs:=by
   rw [List.mem_append,List.mem_singleton]
   exact ⟨fun h=>h.elim id fun h=>absurd (Int.ofNat.inj h) e,.inl⟩
  rw [m]
  exact u3 y hy
theorem Upd.at {h t y:Nat} {L:Nat->Nat->Int} {be bf zs be' bf':List Int} (u:Upd h t L be bf zs be' bf') (hy:y < h) (n:(y:Int) ∉ zs):be'.getD y 0=be.getD y 0:=((u.2.2 y hy).2 fun c=>n c.1).1
theorem E6 {a:Int}:∀xs:List Int,xs.erase a=xs.eraseIdx (xs.idxOf a)
 | []=>rfl
 | b :: r=>by
   rw [List.erase_cons,List.idxOf_cons]
   by_cases c:b=a
   ·rw [if_pos (by simp [c])];simp [c]
   ·have n:(b == a)=false:=by simp [c]
    rw [if_neg (by rw [n];decide),n]
    show b :: r.erase a=_
    rw [E6 r]
    rfl
def PV:HO->Bool
 | .tbl _=>false
 | _=>true
structure Sm (H H':Hp):Prop where
 keep:∀b u,H b=some u->PV u=true->H' b=some u
 gone:∀b,H' b=none->H b=none
theorem Sm.of {H H':Hp} (s:Ao H H'):Sm H H':=⟨fun b u e _=>s b u e,fun b e=>none_of s e⟩
theorem Sm.trans {H H1 H2:Hp} (a:Sm H H1) (b:Sm H1 H2):Sm H H2:=⟨fun c u e n=>b.keep c u (a.keep c u e n) n,fun c e=>a.gone c (b.gone c e)⟩
theorem Sm.put {H H':Hp} {l:Addr} {o:HO} (s:Sm H H') (n:H l=none):Sm H (upd H' l o):=⟨fun b u e k=>by
 rw [Ai (AF e n)]
 exact s.keep b u e k,fun b e=>by
 by_cases c:b=l
 ·rw [c];exact n
 ·rw [Ai c] at e;exact s.gone b e⟩
theorem Sm.lst {H H':Hp} (s:Sm H H') {b:Addr} {xs:List V} (e:H b=some (.lst xs)):H' b=some (.lst xs):=s.keep _ _ e rfl
theorem Sm.tup {H H':Hp} (s:Sm H H') {b:Addr} {xs:List V} (e:H b=some (.tup xs)):H' b=some (.tup xs):=s.keep _ _ e rfl
theorem BB.sm {H H':Hp} {as:List Addr} {h:Nat} {F:Nat->Nat->Int} (g:BB H as h F) (s:Sm H H'):BB H' as h F:=⟨g.1,g.2.1,fun x a ha=>s.lst (g.2.2 x a ha)⟩
theorem Py {P:Addr} {pos:Pos} {q:Str} {H H':Hp} (t:FL P pos q H) (s:SmL P H H') (g:∀b,H' b=none->H b=none):Sm H H':=⟨fun b u e n=>s b u (fun z=>by
 rw [z] at e
 rcases t with t | ⟨_,t,_⟩
 ·rw [t] at e;rw [<- Option.some.inj e] at n;cases n
 ·rw [t] at e;rw [<- Option.some.inj e] at n;cases n) e,g⟩
abbrev LT (P:Addr) (H:Hp):Prop:=FL P Nt Qf H
abbrev L1 (P:Addr) (H:Hp):Prop:=DV P Nt Qf H
def C3 (P:Addr) (h:Nat) (H:Hp):Prop:=LT P H/\(h=1\/L1 P H)
theorem C3.same {P:Addr} {h:Nat} {H H':Hp} (t:C3 P h H) (s:Ao H H'):C3 P h H':=⟨t.1.same s,t.2.imp id fun t=>t.same s⟩
def Lg (P:Addr):Sp:=fun vs H Q _=>∃(a:Addr) (as:List Addr) (h x:Nat) (L:Nat->Nat->Int),vs=[.ref a,.int (x:Int)]/\H a=some (.lst (as.map V.ref))/\BB H as h L/\x < h/\h<=12/\LT P H /\
 ∀(t b f:Addr) (be bf:List Int) (H':Hp),Sm H H'->(C3 P h H->Ao H H')->C3 P h H'->H t=none->H b=none->H f=none->b≠f->H' t=some (.tup [.ref b,.ref f])->H' b=some (.lst (be.map V.int))->H' f=some (.lst (bf.map V.int))->DE h x L be bf->Q (.ref t) H'
theorem P8 (a b:Int):(if b < a then b else a)=min a b:=by split <;> omega
theorem set_map (xs:List Int) (z:Nat) (v:Int):(xs.map V.int).set z (.int v)=(xs.set z v).map V.int:=by rw [List.map_set]
abbrev Us:=List (Addr × List Int)
def fU (us:Us) (x y:Nat):Int:=(us.getD x (0,[])).2.getD y 0
theorem MO {us:Us} {x h:Nat} {r:Addr × List Int} (e:us[x]?=some r) (l:r.2.length=h):((List.range h).map fun y=>fU us x y)=r.2:=by
 have e':us.getD x (0,[])=r:=by rw [List.getD_eq_getElem?_getD,e];rfl
 unfold fU
 rw [e']
 apply List.ext_getElem
 ·simp [l]
 ·intro i h1 h2
  simp [h2]
def AK (h:Nat) (L F:Nat->Nat->Int):Prop:=∀x,x < h->∃bf,DE h x L ((List.range h).map fun y=>F x y) bf
theorem AK.uniq {h:Nat} {L F F':Nat->Nat->Int} (g:AK h L F) (g':AK h L F') {x y:Nat} (hx:x < h) (hy:y < h):F x y=F' x y:=by
 obtain ⟨bf,r⟩:=g x hx
 obtain ⟨bf',r'⟩:=g' x hx
 have e:=congrArg (fun l:List Int=>l.getD y 0) (r.uniq r')
 simpa [List.getD_eq_getElem?_getD,hy] using e
theorem Cv {h y:Nat} (F:Nat->Int) (hy:y < h):((List.range h).map fun y=>F y).getD y 0=F y:=by rw [List.getD_eq_getElem?_getD,List.getElem?_map,List.getElem?_range hy];rfl
structure LR (H:Hp) (t:Addr) (h x:Nat) (L:Nat->Nat->Int) (be:List Int):Prop where
 is:∃(b f:Addr) (bf:List Int),H t=some (.tup [.ref b,.ref f])/\H b=some (.lst (be.map V.int))/\H f=some (.lst (bf.map V.int))/\DE h x L be bf
theorem LR.same {H H':Hp} {t:Addr} {h x:Nat} {L:Nat->Nat->Int} {be:List Int} (s:Ao H H') (g:LR H t h x L be):LR H' t h x L be:=by
 obtain ⟨b,f,bf,h1,h2,h3,h4⟩:=g.is
 exact ⟨b,f,bf,s _ _ h1,s _ _ h2,s _ _ h3,h4⟩
def Ed (ws:List Nat):List Int:=ws.map fun w:Nat=>(w:Int)
def Os:Sp:=fun vs H Q _=>∃(t:Addr) (h x y:Nat) (L:Nat->Nat->Int) (be:List Int),vs=[.ref t,.int (x:Int),.int (y:Int)]/\LR H t h x L be/\y < h/\y≠x/\h<=12 /\
 ∀(r:Addr) (ws:List Nat) (H':Hp),H r=none->Ao H H'->H' r=some (.lst ((Ed ws).map V.int))->N0 h x y L (be.getD y 0) ws->Q (.ref r) H'
def IY (x y:Nat) (be:List Int) (i:Nat):Bool:=decide (i=x\/be.getD y 0 < be.getD i 0)
def NP:Sp:=fun vs H Q _=>∃(t:Addr) (h x y:Nat) (L:Nat->Nat->Int) (be:List Int),vs=[.ref t,.int (x:Int),.int (y:Int)]/\LR H t h x L be/\x < h/\y < h/\h<=12/\∀H':Hp,Ao H H'->Q (.int (AD h (IY x y be))) H'
theorem OW:∀{h k:Nat} (f:Nat->Bool),k < h->Builtin.bitOr (AD h f) (1*2 ^ k)=AD h fun i=>f i || decide (i=k):=by
 have key:∀(h k:Nat) (f:Nat->Bool),k < h->AD h (fun i=>f i || decide (i=k))=AD h f+2 ^ k*(if (!f k)=true then 1 else 0):=by
  intro h
  induction h with
  | zero=>intro k f hk;omega
  | succ h ih =>
    intro k f hk
    rw [CA,CA]
    by_cases c:k=h
    ·subst c
     rw [AY k (g:=f) (fun i hi=>by rw [decide_eq_false (by omega),Bool.or_false])]
     cases f k <;> simp
    ·rw [ih k f (by omega),decide_eq_false (show ¬ h=k from fun e=>c e.symm),Bool.or_false]
     omega
 intro h k f hk
 rw [NN,C0,decide_eq_true hk,Bool.true_and,key h k f hk]
theorem AK.tri {h:Nat} {L F:Nat->Nat->Int} (g:AK h L F) {x y w:Nat} (hx:x < h) (hy:y < h) (hw:w < h) (xy:y≠x) (xw:w≠x) (yw:w≠y):min (F x y) (F y w)<=F x w:=by
 obtain ⟨bf,r⟩:=g x hx
 obtain ⟨bf',r'⟩:=g y hy
 obtain ⟨rk,par⟩:=r'.par
 have key:∀n w,rk w<=n->w < h->w≠x->w≠y->min (F x y) (F y w)<=F x w:=by
  intro n
  induction n with
  | zero =>
    intro w rn hw wx wy
    obtain ⟨p,_,_,p1,_⟩:=par w hw wy
    omega
  | succ n ih =>
    intro w rn hw wx wy
    obtain ⟨p,hp,_,p1,p2,p3⟩:=par w hw wy
    rw [Cv (F y) hw] at p2 p3
    by_cases c:p=y
    ·rw [p2 c]
     have:=r.stab y w hy hw xy wx (Ne.symm wy)
     rwa [Cv (F x) hy,Cv (F x) hw] at this
    ·have e:=p3 c
     rw [Cv (F y) hp] at e
     rw [e]
     by_cases d:p=x
     ·have:=r.low w hw wx
      rw [Cv (F x) hw] at this
      rw [d]
      omega
     ·have a:=ih p (by omega) hp d c
      have b:=r.stab p w hp hw d wx (fun e=>by rw [e] at p1;exact Nat.lt_irrefl _ p1)
      rw [Cv (F x) hp,Cv (F x) hw] at b
      omega
 exact key (rk w) w (Nat.le_refl _) hw xw yw
theorem AK.low {h:Nat} {L F:Nat->Nat->Int} (g:AK h L F) {x y:Nat} (hx:x < h) (hy:y < h) (ne:y≠x):L x y<=F x y:=by
 obtain ⟨bf,r⟩:=g x hx
 have:=r.low y hy ne
 rwa [Cv (F x) hy] at this
theorem AK.trans {h:Nat} {L F:Nat->Nat->Int} (g:AK h L F) {x y z:Nat} (hx:x < h) (hy:y < h) (hz:z < h) (a:F y x < F x y) (b:F z y < F y z):F z x < F x z:=by
 have xy:y≠x:=fun e=>by rw [e] at a;omega
 have yz:z≠y:=fun e=>by rw [e] at b;omega
 by_cases c:z=x
 ·rw [c] at b;omega
 ·have t1:=g.tri hx hy hz xy c yz
  have t2:=g.tri hy hz hx yz (Ne.symm xy) (Ne.symm c)
  have t3:=g.tri hz hx hy (Ne.symm c) (Ne.symm yz) xy
  omega
def CO (F:Nat->Nat->Int) (z o:Int):Bool:=decide (F z.toNat o.toNat < F o.toNat z.toNat)
def BM (F:Nat->Nat->Int) (z:Int) (os:List Int):Bool:=os.any (CO F z)
def unb (F:Nat->Nat->Int) (left:List Int):List Int:=left.filter fun z=>!BM F z left
theorem Kw {h:Nat} {L F:Nat->Nat->Int} (g:AK h L F):∀{left:List Int},left≠[]->(∀z∈left,∃i:Nat,i < h/\z=(i:Int))->∃z∈left,∀o∈left,CO F z o=false
 | [],n,_=>absurd rfl n
 | [a],_,_=>⟨a,List.mem_singleton.mpr rfl,fun o mo=>by
   rw [List.mem_singleton.mp mo]
   exact decide_eq_false (Int.lt_irrefl _)⟩
 | a :: b :: r,_,s=>by
   obtain ⟨m,mm,hm⟩:=Kw g (left:=b :: r) (by simp) fun z mz=>s z (List.mem_cons_of_mem _ mz)
   obtain ⟨i,hi,rfl⟩:=s a (List.mem_cons_self ..)
   obtain ⟨j,hj,rfl⟩:=s m (List.mem_cons_of_mem _ mm)
   by_cases c:CO F (j:Int) (i:Int)=true
   ·refine ⟨(i:Int),List.mem_cons_self ..,fun o mo=>?_⟩
    rcases List.mem_cons.mp mo with e | mo
    ·rw [e];exact decide_eq_false (Int.lt_irrefl _)
    ·obtain ⟨k,hk,rfl⟩:=s o (List.mem_cons_of_mem _ mo)
     have n:=hm _ mo
     unfold CO at c n ⊢
     have c:=of_decide_eq_true c
     have n:=of_decide_eq_false n
     refine decide_eq_false fun e=>n ?_
     exact g.trans hk hi hj e c
   ·refine ⟨(j:Int),List.mem_cons_of_mem _ mm,fun o mo=>?_⟩
    rcases List.mem_cons.mp mo with e | mo
    ·rw [e];exact Bool.eq_false_iff.mpr c
    ·exact hm o mo
theorem JB {h:Nat} {L F:Nat->Nat->Int} (g:AK h L F) {left:List Int} (n:left≠[]) (s:∀z∈left,∃i:Nat,i < h/\z=(i:Int)):unb F left≠[]:=fun e=>by
 obtain ⟨z,mz,hz⟩:=Kw g n s
 have:z∈unb F left:=List.mem_filter.mpr ⟨mz,by
  show (!BM F z left)=true
  unfold BM
  rw [Bool.not_eq_true',List.any_eq_false]
  exact fun o mo=>by rw [hz o mo];decide⟩
 rw [e] at this
 cases this
def Ap (F:Nat->Nat->Int):Nat->List Int->List Int
 | 0,_=>[]
 | _+1,[]=>[]
 | s+1,z :: r=>(unb F (z :: r)).getD 0 0 :: Ap F s ((z :: r).erase ((unb F (z :: r)).getD 0 0))
theorem Bg (F:Nat->Nat->Int) {s:Nat} {left:List Int} (n:left≠[]):Ap F (s+1) left=(unb F left).getD 0 0 :: Ap F s (left.erase ((unb F left).getD 0 0)):=by
 cases left with
 | nil=>exact absurd rfl n
 | cons z r=>rfl
theorem Bt (F:Nat->Nat->Int):∀s,Ap F s []=[]
 | 0=>rfl
 | _+1=>rfl
theorem Bw (F:Nat->Nat->Int) (left:List Int):Ap F 0 left=[]:=by cases left <;> rfl
def off (H:Hp) (D:Addr):Hp:=fun b=>if b=D then none else H b
theorem FE (H:Hp) (D:Addr):Ao (off H D) H:=fun b o e=>by
 unfold off at e
 split at e
 ·cases e
 ·exact e
theorem Hd {H:Hp} {D b:Addr} {o:HO} (e:H b=some o) (n:b≠D):off H D b=some o:=by
 unfold off
 rw [if_neg n]
 exact e
theorem MZ {H:Hp} {D:Addr}:off H D D=none:=by unfold off;rw [if_pos rfl]
theorem DI {H H':Hp} {D:Addr} {o:HO} (s:Ao (off H D) H'):Ao (off H D) (upd H' D o):=fun b u e=>by
 rw [Ai (fun z=>by rw [z,MZ] at e;cases e)]
 exact s _ _ e
theorem Pj {H0 H:Hp} {D:Addr} (s:Ao H0 H) (n:H0 D=none):Ao H0 (off H D):=fun b o e=>Hd (s _ _ e) fun z=>by rw [z,n] at e;cases e
theorem OC (n:Nat):(ups n).Pairwise (·<=·):=List.pairwise_map.mpr (List.pairwise_lt_range.imp fun h=>by omega)
theorem OT (n:Nat):(ups n).map V.int=(List.range n).map fun i:Nat=>V.int (i:Int):=by unfold ups;rw [List.map_map];rfl
theorem P4 {ms ns:List Int} {n:Nat} (p:ms.Perm ns) (s:ms.Pairwise (·<=·)) (h:ns.Perm (ups n)):ms=ups n:=(p.trans h).eq_of_pairwise (fun a b _ _ x y=>Int.le_antisymm x y) s (OC n)
abbrev fsW (h s:Int) (l:Addr):List (Str × V):=[("hands",.int h),("seats",.int s),("lots",.ref l)]
theorem QH (x:V):CJ "hands" x []=([("hands",x)]:List (Str × V)):=rfl
theorem Qw (x y:V):CJ "seats" y [("hands",x)]=([("hands",x),("seats",y)]:List (Str × V)):=by
 unfold CJ;rw [if_neg (by decide)];rfl
theorem Q8 (x y z:V):CJ "lots" z [("hands",x),("seats",y)]=([("hands",x),("seats",y),("lots",z)]:List (Str × V)):=by
 unfold CJ;rw [if_neg (by decide)];unfold CJ;rw [if_neg (by decide)];rfl
def IsP (C:Addr) (H:Hp) (a:Addr) (h s:Nat) (ns:List Int):Prop:=∃dx l,H a=some (.ins C dx (fsW (h:Int) (s:Int) l))/\H l=some (.lst (ns.map V.int))
theorem IsP.same {C:Addr} {H H':Hp} {a:Addr} {h s:Nat} {ns:List Int} (e:Ao H H') (k:IsP C H a h s ns):IsP C H' a h s ns:=let ⟨dx,l,k1,k2⟩:=k;⟨dx,l,e _ _ k1,e _ _ k2⟩
theorem IsP.sm {C:Addr} {H H':Hp} {a:Addr} {h s:Nat} {ns:List Int} (e:Sm H H') (k:IsP C H a h s ns):IsP C H' a h s ns:=let ⟨dx,l,k1,k2⟩:=k;⟨dx,l,e.keep _ _ k1 rfl,e.lst k2⟩
structure C4 (C:Addr) (H:Hp) (a:Addr) (h s:Nat) (ns:List Int):Prop where
 is:IsP C H a h s ns
 pm:ns.Perm (ups h)
 h1:1<=h
 h12:h<=12
 s1:1<=s
 s60:s<=60
theorem C4.same {C:Addr} {H H':Hp} {a:Addr} {h s:Nat} {ns:List Int} (e:Ao H H') (k:C4 C H a h s ns):C4 C H' a h s ns:=⟨k.is.same e,k.pm,k.h1,k.h12,k.s1,k.s60⟩
theorem C4.sm {C:Addr} {H H':Hp} {a:Addr} {h s:Nat} {ns:List Int} (e:Sm H H') (k:C4 C H a h s ns):C4 C H' a h s ns:=⟨k.is.sm e,k.pm,k.h1,k.h12,k.s1,k.s60⟩
theorem Dz {h:Nat} {z:Int} (m:z∈ups h):∃i:Nat,i < h/\z=(i:Int):=by
 unfold ups at m
 obtain ⟨i,hi,e⟩:=List.mem_map.mp m
 exact ⟨i,List.mem_range.mp hi,e.symm⟩
def MU:Sp:=fun vs H Q _=>∃(r l:Addr) (rs:List Addr) (h i:Nat) (F:Nat->Nat->Int) (zs:List Int),vs=[.ref r,.int (i:Int),.ref l]/\H r=some (.lst (rs.map V.ref))/\BB H rs h F/\i < h/\H l=some (.lst (zs.map V.int))/\(∀z∈zs,∃j:Nat,j < h/\z=(j:Int))/\zs.length<=60/\∀H':Hp,Ao H H'->Q (.bl (BM F (i:Int) zs)) H'
def LD (C:Addr):Sp:=fun vs H Q _=>∃(a r:Addr) (rs:List Addr) (h s:Nat) (ns:List Int) (L F:Nat->Nat->Int),vs=[.ref a,.ref r]/\C4 C H a h s ns/\H r=some (.lst (rs.map V.ref))/\BB H rs h F/\AK h L F/\∀(p:Addr) (H':Hp),H p=none->Ao H H'->H' p=some (.lst ((Ap F s ns).map V.int))->Q (.ref p) H'
def ovF (ls:Ls) (x y:Nat):Int:=BK (CQ x y) (dsL ls)
def CW (ls:Ls) (x y:Nat):Int:=ovF ls x y - ovF ls y x
def MJ:Sp:=fun vs H Q _=>∃(a:Addr) (as:List Addr) (h:Nat) (F:Nat->Nat->Int),vs=[.ref a]/\H a=some (.lst (as.map V.ref))/\BB H as h F/\h<=12/\∀(b:Addr) (bs:List Addr) (H':Hp),H b=none->b ∉ bs->(∀c∈bs,H c=none)->Ao H H'->H' b=some (.lst (bs.map V.ref))->BB H' bs h (fun x y=>F x y - F y x)->Q (.ref b) H'
structure Rw where
 t:Addr
 x:Nat
 y:Nat
 s:Int
 w:Addr
 ws:List Nat
 cut:Int
def Qo (F:Nat->Nat->Int) (x y i:Nat):Bool:=decide (i=x\/F x y < F x i)
structure EE (h:Nat) (L F:Nat->Nat->Int) (H:Hp) (q:Rw):Prop where
 tup:H q.t=some (.tup [.int (q.x:Int),.int (q.y:Int),.int q.s,.ref q.w,.int q.cut])
 way:H q.w=some (.lst ((Ed q.ws).map V.int))
 hx:q.x < h
 hy:q.y < h
 ne:q.y≠q.x
 str:q.s=F q.x q.y
 isw:N0 h q.x q.y L q.s q.ws
 cutE:q.cut=AD h (Qo F q.x q.y)
theorem EE.same {h:Nat} {L F:Nat->Nat->Int} {H H':Hp} {q:Rw} (e:Ao H H') (k:EE h L F H q):EE h L F H' q:=⟨e _ _ k.tup,e _ _ k.way,k.hx,k.hy,k.ne,k.str,k.isw,k.cutE⟩
theorem EE.sm {h:Nat} {L F:Nat->Nat->Int} {H H':Hp} {q:Rw} (e:Sm H H') (k:EE h L F H q):EE h L F H' q:=⟨e.tup k.tup,e.lst k.way,k.hx,k.hy,k.ne,k.str,k.isw,k.cutE⟩
theorem EE.congr {h:Nat} {L F F':Nat->Nat->Int} {H:Hp} {q:Rw} (k:EE h L F H q) (e:∀y,y < h->F q.x y=F' q.x y):EE h L F' H q:=⟨k.tup,k.way,k.hx,k.hy,k.ne,by rw [k.str,e _ k.hy],k.isw,by
 rw [k.cutE]
 exact AY h fun i hi=>by unfold Qo;rw [e _ k.hy,e i hi]⟩
def vrw (rows:List Rw):List V:=rows.map fun q=>.ref q.t
def Hw (h x:Nat):List Nat:=(List.range h).filter fun y=>decide (y≠x)
theorem MF (h x:Nat):Co h x=Ed (Hw h x):=rfl
def pairsOf (h n:Nat):List (Nat × Nat):=(List.range n).flatMap fun x=>(Hw h x).map fun y=>(x,y)
def IU:Sp:=fun vs H Q _=>∃(t:Addr) (h x:Nat) (L:Nat->Nat->Int) (be:List Int),vs=[.ref t,.int (x:Int)]/\LR H t h x L be/\x < h/\h<=12 /\
 ∀(r:Addr) (rows:List Rw) (H':Hp),H r=none->Ao H H'->H' r=some (.lst (vrw rows))->(∀q∈rows,EE h L (fun _ y=>be.getD y 0) H' q/\q.x=x/\H q.t=none/\H q.w=none)->rows.map (fun q=>(q.x,q.y))=(Hw h x).map (fun y=>(x,y))->Q (.ref r) H'
structure Nr (H:Hp) (p:Addr) (h s:Nat) (ns:List Int) (ls:Ls) (F:Nat->Nat->Int):Prop where
 is:∃(m sh pk:Addr) (ms:List Addr) (rows:List Rw),H p=some (.tup [.ref m,.ref sh,.ref pk])/\H m=some (.lst (ms.map V.ref))/\BB H ms h (ovF ls)/\H sh=some (.lst (vrw rows))/\(∀q∈rows,EE h (CW ls) F H q)/\rows.map (fun q=>(q.x,q.y))=pairsOf h h/\H pk=some (.lst ((Ap F s ns).map V.int))
 strong:AK h (CW ls) F
def Px (H H':Hp) (p:Addr):Prop:=∀(m sh pk:Addr) (ms:List Addr),H' p=some (.tup [.ref m,.ref sh,.ref pk])->H' m=some (.lst (ms.map V.ref))->H m=none/\H sh=none/\H pk=none/\∀a∈ms,H a=none
def JH (C P:Addr):Sp:=fun vs H Q _=>∃(a l:Addr) (h s:Nat) (ns:List Int) (ls:Ls),vs=[.ref a,.ref l]/\C4 C H a h s ns/\H l=some (.lst (vls ls))/\DZ h H ls/\ls.length<=60/\LT P H /\
 ∀(p:Addr) (F:Nat->Nat->Int) (H':Hp),Sm H H'->(C3 P h H->Ao H H')->C3 P h H'->H p=none->Nr H' p h s ns ls F->Px H H' p->Q (.ref p) H'
theorem C3.put {P l:Addr} {h:Nat} {H:Hp} {xs:List V} {o:HO} (t:C3 P h H) (e:H l=some (.lst xs)):C3 P h (upd H l o):=⟨FL.put t.1 e,t.2.imp id fun z=>DV.put z e⟩
theorem Gs (ws:List Nat):(Ed ws).length=ws.length:=by unfold Ed;rw [List.length_map]
theorem JU (a b:List Rw):vrw (a++b)=vrw a++vrw b:=by unfold vrw;rw [List.map_append]
theorem Kx (a:List Rw):(vrw a).length=a.length:=by unfold vrw;rw [List.length_map]
theorem OZ {us:Us} {r:Addr × List Int} {x:Nat} (h:x < us.length) (y:Nat):fU (us++[r]) x y=fU us x y:=by
 unfold fU
 rw [show (us++[r]).getD x (0,[])=us.getD x (0,[]) from by rw [List.getD_eq_getElem?_getD (l:=us++[r]),List.getD_eq_getElem?_getD (l:=us),List.getElem?_append_left h]]
theorem PB {us:Us} {r:Addr × List Int} (y:Nat):fU (us++[r]) us.length y=r.2.getD y 0:=by
 unfold fU
 rw [List.getD_eq_getElem?_getD (l:=us++[r]),List.getElem?_append_right (Nat.le_refl _),Nat.sub_self]
 rfl
theorem Et (h n:Nat):pairsOf h (n+1)=pairsOf h n++(Hw h n).map fun y=>(n,y):=by
 unfold pairsOf
 rw [List.range_succ,List.flatMap_append]
 simp
theorem EK {h:Nat}:∀{n:Nat},n<=h->(pairsOf h n).length+n=n*h
 | 0,_=>by simp [pairsOf]
 | n+1,hn=>by
   have ih:=EK (h:=h) (n:=n) (by omega)
   have b:(Hw h n).length+1=h:=by
    have:=Gr (h:=h) (x:=n) (by omega)
    rwa [MF,Gs] at this
   rw [Et,List.length_append,List.length_map,Nat.succ_mul]
   omega
theorem Nl {z:Int} {zs:List Int}:inV (V.int z) (zs.map V.int)=decide (z∈zs):=by
 unfold inV
 rw [List.any_map]
 by_cases c:z∈zs
 ·rw [decide_eq_true c]
  exact List.any_eq_true.mpr ⟨z,c,by simp [eqV]⟩
 ·rw [decide_eq_false c]
  refine Bool.eq_false_iff.mpr fun e=>c ?_
  obtain ⟨y,my,ey⟩:=List.any_eq_true.mp e
  have:y=z:=by simpa [eqV] using ey
  rw [<- this];exact my
theorem Pi {z:Int} {zs:List Int} (m:z∈zs):(if false=true then !inV (V.int z) (zs.map V.int) else inV (V.int z) (zs.map V.int))=true:=by rw [if_neg (by decide),Nl,decide_eq_true m]
theorem Qg {z:Int} {zs:List Int} (m:z ∉ zs):(if false=true then !inV (V.int z) (zs.map V.int) else inV (V.int z) (zs.map V.int))=false:=by rw [if_neg (by decide),Nl,decide_eq_false m]
theorem Mw (zs:List Int):(zs.map V.int).all El=true:=by rw [List.all_map];exact List.all_eq_true.mpr fun _ _=>rfl
def Dc (h:Nat) (pk:List Int):List Int:=(List.range h).map fun i:Nat=>if (i:Int)∈pk then 1 else 0
def NX (C:Addr):Sp:=fun vs H Q _=>∃(a p:Addr) (h s:Nat) (ns:List Int) (ls:Ls) (F:Nat->Nat->Int),vs=[.ref a,.ref p]/\C4 C H a h s ns/\Nr H p h s ns ls F/\∀(r:Addr) (H':Hp),H r=none->Ao H H'->H' r=some (.lst ((Dc h (Ap F s ns)).map V.int))->Q (.ref r) H'
def PZ (C P:Addr):Sp:=fun vs H Q _=>∃(a l:Addr) (h s:Nat) (ns:List Int) (ls:Ls),vs=[.ref a,.ref l]/\C4 C H a h s ns/\H l=some (.lst (vls ls))/\DZ h H ls/\ls.length<=60/\LT P H /\
 ∀(r:Addr) (F:Nat->Nat->Int) (H':Hp),Sm H H'->(C3 P h H->Ao H H')->C3 P h H'->H' r=some (.lst ((Dc h (Ap F s ns)).map V.int))->AK h (CW ls) F->Q (.ref r) H'
theorem KD {h:Nat} {z:Int}:z∈ups h↔∃i:Nat,i < h/\z=(i:Int):=by
 unfold ups
 rw [List.mem_map]
 exact ⟨fun ⟨i,hi,e⟩=>⟨i,List.mem_range.mp hi,e.symm⟩,fun ⟨i,hi,e⟩=>⟨i,List.mem_range.mpr hi,e.symm⟩⟩
theorem Jz (h:Nat):(ups h).Nodup:=by
 unfold ups
 exact List.pairwise_map.mpr (List.nodup_range.imp fun n e=>n (by omega))
theorem Hc (h:Nat):((List.range h).map fun i:Nat=>V.int (i:Int))=(ups h).map V.int:=by
 unfold ups
 rw [List.map_map]
 rfl
theorem EO {h:Nat} {F G:Nat->Nat->Int} (e:∀x y,x < h->y < h->F x y=G x y):∀(s:Nat) (left:List Int),(∀o∈left,∃i:Nat,i < h/\o=(i:Int))->Ap F s left=Ap G s left
 | 0,left,_=>by rw [Bw,Bw]
 | s+1,[],_=>by rw [Bt,Bt]
 | s+1,o :: left,sub=>by
   have ub:unb F (o :: left)=unb G (o :: left):=by
    unfold unb
    refine List.filter_congr fun a m=>?_
    congr 1
    unfold BM
    rw [Bool.eq_iff_iff,List.any_eq_true,List.any_eq_true]
    have key:∀b∈o :: left,CO F a b=CO G a b:=fun b mb=>by
     obtain ⟨i,hi,rfl⟩:=sub a m
     obtain ⟨j,hj,rfl⟩:=sub b mb
     unfold CO
     rw [Int.toNat_natCast,Int.toNat_natCast,e i j hi hj,e j i hj hi]
    exact ⟨fun ⟨b,mb,k⟩=>⟨b,mb,by rw [<- key b mb];exact k⟩,fun ⟨b,mb,k⟩=>⟨b,mb,by rw [key b mb];exact k⟩⟩
   rw [Bg F (List.cons_ne_nil _ _),Bg G (List.cons_ne_nil _ _),ub,EO e s _ fun b m=>sub b (List.mem_of_mem_erase m)]
theorem NU {K:PySem.W.Frag} {t:Value}:PySem.W.kitAny K t []=some false:=rfl
theorem kan {K:PySem.W.Frag} {t c:Value} {cs:List Value} (h:PySem.W.kitOne K t c=some false) (r:PySem.W.kitAny K t cs=some false):PySem.W.kitAny K t (c :: cs)=some false:=by
 unfold PySem.W.kitAny
 rw [h]
 exact r
def isI:V->Bool
 | .int _=>true
 | _=>false
def EC (top:Int):V->Bool
 | .int n=>decide (1<=n) && decide (n<=top)
 | _=>false
inductive Odd (K:PySem.W.Frag) (H:Hp):V->Prop where
 | non:Odd K H .non
 | int {n:Int} (z:Sz 200 n):Odd K H (.int n)
 | bl (b:Bool):Odd K H (.bl b)
 | str (s:Str):Odd K H (.str s)
 | lst {a:Addr} {ys:List V} (e:H a=some (.lst ys)) (w:∀y∈ys,Wh K H y (isI y)) (l:ys.length<=14):Odd K H (.ref a)
 | tup {a:Addr} {ys:List V} (e:H a=some (.tup ys)) (w:∀y∈ys,Wh K H y (isI y)) (z:∀n:Int,V.int n∈ys->Sz 200 n):Odd K H (.ref a)
 | dK {a:Addr} (e:H a=some (.dK [])):Odd K H (.ref a)
section
variable {K:PySem.W.Frag} {H H':Hp} {x:V}
theorem Odd.same (s:Ao H H') (h:Odd K H x):Odd K H' x:=by
 cases h with
 | non=>exact .non
 | int z=>exact .int z
 | bl b=>exact .bl b
 | str z=>exact .str z
 | lst e w l=>exact .lst (s _ _ e) (fun y m=>(w y m).same s) l
 | tup e w z=>exact .tup (s _ _ e) (fun y m=>(w y m).same s) z
 | dK e=>exact .dK (s _ _ e)
theorem GY (ns:List Int):∀y∈ns.map V.int,Wh K H y (isI y):=fun y m=>by
 obtain ⟨n,_,rfl⟩:=List.mem_map.mp m
 exact Wh.int n
theorem Odd.ints {a:Addr} {ns:List Int} (e:H a=some (.lst (ns.map V.int))) (l:ns.length<=14):Odd K H (.ref a):=.lst e (GY ns) (by rw [List.length_map];exact l)
theorem Odd.list (h:Odd K H x):∃t b,CI K H x t/\PySem.W.kitOne K t (.type "list")=some b/\((b=false/\∀a ys,x=.ref a->H a≠some (.lst ys))\/(b=true/\∃a ys,x=.ref a/\H a=some (.lst ys)/\(∀y∈ys,Wh K H y (isI y))/\ys.length<=14)):=by
 cases h with
 | non=>exact ⟨_,false,.non,Dt (by decide +kernel),.inl ⟨rfl,fun _ _ e=>nomatch e⟩⟩
 | int z=>exact ⟨_,false,.int _,Dt (by decide +kernel),.inl ⟨rfl,fun _ _ e=>nomatch e⟩⟩
 | bl b=>exact ⟨_,false,.bl b,Dt (by decide +kernel),.inl ⟨rfl,fun _ _ e=>nomatch e⟩⟩
 | str z=>exact ⟨_,false,.str z,Dt (by decide +kernel),.inl ⟨rfl,fun _ _ e=>nomatch e⟩⟩
 | lst e w l=>exact ⟨_,true,.lst e,DY,.inr ⟨rfl,_,_,rfl,e,w,l⟩⟩
 | tup e w z=>exact ⟨_,false,.tup e,Dt (by decide +kernel),.inl ⟨rfl,fun _ _ q f=>by cases q;rw [e] at f;cases f⟩⟩
 | dK e=>exact ⟨_,false,.dK e,Dt (by decide +kernel),.inl ⟨rfl,fun _ _ q f=>by cases q;rw [e] at f;cases f⟩⟩
theorem Odd.non_or (h:Odd K H x):x=.non\/decide (x=.non)=false:=by
 cases h with
 | non=>exact .inl rfl
 | _=>exact .inr rfl
end
theorem KL:∀{ys:List V},ys.all isI=true->∃ns:List Int,ys=ns.map V.int
 | [],_=>⟨[],rfl⟩
 | y :: ys,h=>by
   rw [List.all_cons,Bool.and_eq_true] at h
   obtain ⟨ns,rfl⟩:=KL h.2
   cases y with
   | int n=>exact ⟨n :: ns,rfl⟩
   | _=>cases h.1
theorem Mf (ns:List Int):(ns.map V.int).all isI=true:=by
 rw [List.all_map]
 exact List.all_eq_true.mpr fun n _=>rfl
theorem FM {top:Int} {x:V} (h:EC top x=true):∃n:Int,x=.int n/\1<=n/\n<=top:=by
 cases x with
 | int n =>
   have h':=Bool.and_eq_true_iff.mp (show (decide (1<=n) && decide (n<=top))=true from h)
   exact ⟨n,rfl,of_decide_eq_true h'.1,of_decide_eq_true h'.2⟩
 | _=>cases h
theorem Fl {top n:Int} (h1:1<=n) (h2:n<=top):EC top (.int n)=true:=by
 show (decide (1<=n) && decide (n<=top))=true
 rw [decide_eq_true h1,decide_eq_true h2]
 rfl
theorem FJ:∀{ns ms:List Int},ns.map V.int=ms.map V.int->ns=ms
 | [],[],_=>rfl
 | [],_ :: _,h=>by cases h
 | _ :: _,[],h=>by cases h
 | n :: ns,m :: ms,h=>by
   rw [List.map_cons,List.map_cons] at h
   injection h with h1 h2
   rw [V.int.inj h1,FJ h2]
def QS (K:PySem.W.Frag):Sp:=fun vs H Q _=>∃x b,vs=[x]/\Wh K H x b/\Q (.bl b) H
def MA (K:PySem.W.Frag) (top:Int):Sp:=fun vs H Q _=>∃x,vs=[x]/\Wh K H x (isI x)/\Q (.bl (EC top x)) H
def Ju (H:Hp) (x:V) (n:Nat) (ns:List Int):Prop:=∃l,x=.ref l/\H l=some (.lst (ns.map V.int))/\ns.Perm (ups n)
def NL (K:PySem.W.Frag):Sp:=fun vs H Q _=>∃(x:V) (n:Nat),vs=[x,.int (n:Int)]/\n<=12/\Odd K H x/\∀(b:Bool) (H':Hp),Ao H H'->(b=true->∃ns,Ju H x n ns)->(b=false->∀ns,¬ Ju H x n ns)->Q (.bl b) H'
def KQ (H:Hp) (x:V) (n:Nat) (ns:List Int):Prop:=(x=.non/\ns=ups n)\/Ju H x n ns
section
variable {K:PySem.W.Frag} {H H1:Hp} {x:V} {a C dx:Addr} {fs fs':List (Str × V)}
end
def B5 (H:Hp) (x0 x1 x2:V) (h s:Int) (ns:List Int):Prop:=x0=.int h/\x1=.int s/\1<=h/\h<=12/\1<=s/\s<=60/\KQ H x2 h.toNat ns
theorem Odd.old {K:PySem.W.Frag} {H H':Hp} {b:Addr} {ob:HO} (o:Odd K H (.ref b)) (s:Ao H H') (e:H' b=some ob):H b=some ob:=by
 cases o with
 | lst q _ _=>rw [s _ _ q] at e;rw [q];exact e
 | tup q _ _=>rw [s _ _ q] at e;rw [q];exact e
 | dK q=>rw [s _ _ q] at e;rw [q];exact e
theorem B5.old {K:PySem.W.Frag} {H H':Hp} {x0 x1 x2:V} {h s:Int} {ns:List Int} (o:Odd K H x2) (k:Ao H H') (g:B5 H' x0 x1 x2 h s ns):B5 H x0 x1 x2 h s ns:=by
 obtain ⟨g1,g2,g3,g4,g5,g6,g7⟩:=g
 refine ⟨g1,g2,g3,g4,g5,g6,?_⟩
 rcases g7 with g7 | ⟨l,rfl,e,r⟩
 ·exact .inl g7
 ·exact .inr ⟨l,rfl,o.old k e,r⟩
def Pf (K:PySem.W.Frag) (N:Addr):Sp:=fun vs H Q E=>∃(a C dx:Addr) (x0 x1 x2:V),vs=[.ref a,x0,x1,x2]/\H a=some (.ins C dx [])/\Cls K C/\Cr K C "hands"/\Cr K C "seats"/\Cr K C "lots"/\Wh K H x0 (isI x0)/\Wh K H x1 (isI x1)/\Odd K H x2 /\
 (∀(h s:Int) (ns:List Int),B5 H x0 x1 x2 h s ns->∀(l':Addr) (H':Hp),l'≠a->H l'=none->Ao (off H a) H'->H' a=some (.ins C dx (fsW h s l'))->H' l'=some (.lst (ns.map V.int))->Q .non H') /\
 ((∀h s ns,¬ B5 H x0 x1 x2 h s ns)->∀H':Hp,Ao (off H a) H'->E (.ref N) none H')
def Ml (K:PySem.W.Frag):Sp:=fun vs H Q _=>∃(a C dx l:Addr) (fs:List (Str × V)) (xs:List Int) (x y:Int),vs=[.ref a,.int x,.int y]/\H a=some (.ins C dx fs)/\Cls K C/\Cr K C "lots"/\fs.lookup ("lots":Str)=some (V.ref l)/\H l=some (.lst (xs.map V.int))/\x∈xs/\y∈xs/\Q (.bl (decide (xs.idxOf x < xs.idxOf y))) H
theorem BC {H H':Hp} {b:Addr} (s:Ao H H') (e:H' b=none):H b=none:=by
 cases h:H b with
 | none=>rfl
 | some o=>rw [s _ _ h] at e;cases e
theorem AX {H:Hp} {x dx C:Addr} (hx:H x=none) (hd:H dx=none) (ne:dx≠x):Ao H (upd (upd H dx (.own x)) x (.ins C dx [])):=(Ad hd _).trans (Ad (by rw [Ai (Ne.symm ne)];exact hx) _)
theorem By {H H':Hp} {x dx C:Addr} (hx:H x=none) (hd:H dx=none) (ne:dx≠x) (s:Ao (off (upd (upd H dx (.own x)) x (.ins C dx [])) x) H'):Ao H H':=(Pj (AX hx hd ne) hx).trans s
def Maj (h:Nat) (I:Nat->Bool) (L:Nat->Nat->Int):Prop:=∀x y,x < h->y < h->I x=true->I y=false->0 < L x y/\L y x < 0
theorem AK.sets {h:Nat} {I:Nat->Bool} {L F:Nat->Nat->Int} (g:AK h L F) (m:Maj h I L) {x y:Nat} (hx:x < h) (hy:y < h) (ix:I x=true) (iy:I y=false):0 < F x y/\F y x < 0:=by
 have ne:∀{u v:Nat},I u=true->I v=false->u≠v:=fun a b e=>by rw [e,b] at a;cases a
 refine ⟨Int.lt_of_lt_of_le (m x y hx hy ix iy).1 (g.low hx hy (Ne.symm (ne ix iy))),?_⟩
 obtain ⟨bf,r⟩:=g y hy
 obtain ⟨rk,par⟩:=r.par
 have key:∀n w,rk w<=n->w < h->I w=true->F y w < 0:=by
  intro n
  induction n with
  | zero =>
    intro w rn hw iw
    obtain ⟨p,_,_,p1,_⟩:=par w hw (ne iw iy)
    omega
  | succ n ih =>
    intro w rn hw iw
    obtain ⟨p,hp,_,p1,p2,p3⟩:=par w hw (ne iw iy)
    rw [Cv (F y) hw] at p2 p3
    by_cases c:p=y
    ·rw [p2 c];exact (m w y hw hy iw iy).2
    ·have e:=p3 c
     rw [Cv (F y) hp] at e
     rw [e]
     cases ip:I p with
     | true=>have:=ih p (by omega) hp ip;omega
     | false=>have:=(m w p hw hp iw ip).2;omega
 exact key (rk x) x (Nat.le_refl _) hx ix
def inI (I:Nat->Bool) (z:Int):Bool:=I z.toNat
theorem Ni {h:Nat} {L F:Nat->Nat->Int} (g:AK h L F) {left:List Int} (n:left≠[]) (s:∀z∈left,∃i:Nat,i < h/\z=(i:Int)):(unb F left).getD 0 0∈left/\BM F ((unb F left).getD 0 0) left=false:=by
 have k:=JB g n s
 cases e:unb F left with
 | nil=>exact absurd e k
 | cons a r =>
   have m:a∈unb F left:=by rw [e];exact List.mem_cons_self ..
   obtain ⟨m1,m2⟩:=List.mem_filter.mp m
   exact ⟨m1,by simpa using m2⟩
theorem Fs {h:Nat} {I:Nat->Bool} {L F:Nat->Nat->Int} (g:AK h L F) (m:Maj h I L):∀(s:Nat) (left:List Int),left.Nodup->(∀z∈left,∃i:Nat,i < h/\z=(i:Int)) ->
 (∀z∈Ap F s left,z∈left)/\(Ap F s left).Nodup/\(Ap F s left).length=min s left.length/\((Ap F s left).filter (inI I)).length=min s (left.filter (inI I)).length/\∀z∈(Ap F s left).take (left.filter (inI I)).length,inI I z=true
 | 0,left,_,_=>by
   rw [Bw]
   refine ⟨(fun z k=>nomatch k),List.nodup_nil,by simp,by simp,fun z k=>?_⟩
   rw [List.take_nil] at k
   cases k
 | s+1,left,nd,sub=>by
   by_cases e:left=[]
   ·rw [e,Bt]
    refine ⟨(fun z k=>nomatch k),List.nodup_nil,by simp,by simp,fun z k=>?_⟩
    rw [List.take_nil] at k
    cases k
   ·obtain ⟨z1,z2⟩:=Ni g e sub
    rw [Bg F e]
    generalize (unb F left).getD 0 0=z at z1 z2 ⊢
    have sub':∀y∈left.erase z,∃i:Nat,i < h/\y=(i:Int):=fun y k=>sub y (List.mem_of_mem_erase k)
    obtain ⟨a,b,c,d,f⟩:=Fs g m s (left.erase z) (nd.erase z) sub'
    have ln:(left.erase z).length=left.length - 1:=List.length_erase_of_mem z1
    have l0:0 < left.length:=List.length_pos_of_mem z1
    have fe:((left.erase z).filter (inI I)).length=if inI I z=true then (left.filter (inI I)).length - 1 else (left.filter (inI I)).length:=by
     have pm:=(List.perm_cons_erase z1).filter (inI I)
     have pl:=pm.length_eq
     by_cases k:inI I z=true
     ·rw [List.filter_cons_of_pos k,List.length_cons] at pl
      rw [if_pos k];omega
     ·rw [List.filter_cons_of_neg k] at pl
      rw [if_neg k];omega
    refine ⟨fun y k=>?_,?_,?_,?_,?_⟩
    ·rcases List.mem_cons.mp k with k | k
     ·rw [k];exact z1
     ·exact List.mem_of_mem_erase (a y k)
    ·refine List.nodup_cons.mpr ⟨fun k=>?_,b⟩
     exact (List.Nodup.mem_erase_iff nd).mp (a z k) |>.1 rfl
    ·rw [List.length_cons,c,ln];omega
    ·by_cases k:inI I z=true
     ·have p0:0 < (left.filter (inI I)).length:=List.length_pos_of_mem (List.mem_filter.mpr ⟨z1,k⟩)
      rw [List.filter_cons_of_pos k,List.length_cons,d,fe,if_pos k];omega
     ·have none:left.filter (inI I)=[]:=by
       rw [List.filter_eq_nil_iff]
       intro y my iy
       obtain ⟨i,hi,rfl⟩:=sub z z1
       obtain ⟨j,hj,rfl⟩:=sub y my
       have st:=g.sets m hj hi (by simpa [inI] using iy) (by simpa [inI] using k)
       unfold BM at z2
       rw [List.any_eq_false] at z2
       apply z2 _ my
       unfold CO
       rw [decide_eq_true_eq,Int.toNat_natCast,Int.toNat_natCast]
       omega
      rw [List.filter_cons_of_neg k,d,fe,if_neg k,none]
      simp
    ·by_cases k:inI I z=true
     ·have p0:0 < (left.filter (inI I)).length:=List.length_pos_of_mem (List.mem_filter.mpr ⟨z1,k⟩)
      intro y my
      rw [show (left.filter (inI I)).length=((left.filter (inI I)).length - 1)+1 by omega,List.take_succ_cons] at my
      rcases List.mem_cons.mp my with my | my
      ·rw [my];exact k
      ·refine f y ?_
       rw [fe,if_pos k];exact my
     ·have none:left.filter (inI I)=[]:=by
       rw [List.filter_eq_nil_iff]
       intro y my iy
       obtain ⟨i,hi,rfl⟩:=sub z z1
       obtain ⟨j,hj,rfl⟩:=sub y my
       have st:=g.sets m hj hi (by simpa [inI] using iy) (by simpa [inI] using k)
       unfold BM at z2
       rw [List.any_eq_false] at z2
       apply z2 _ my
       unfold CO
       rw [decide_eq_true_eq,Int.toNat_natCast,Int.toNat_natCast]
       omega
      intro y my
      rw [none] at my
      cases my
structure Ren (h:Nat) (π:Nat->Nat):Prop where
 lt:∀j,j < h->π j < h
 inj:∀i j,i < h->j < h->π i=π j->i=j
 sur:∀i,i < h->∃j,j < h/\π j=i
def AN (π:Nat->Nat) (x:Int):Int:=((π x.toNat:Nat):Int)
def piN (ns:List Int) (j:Nat):Nat:=(ns.getD j 0).toNat
theorem GV {ns:List Int} {h:Nat} (pm:ns.Perm (ups h)):Ren h (piN ns):=by
 have len:ns.length=h:=by rw [pm.length_eq,Bc]
 have nd:ns.Nodup:=pm.nodup_iff.mpr (Jz h)
 have at1:∀j,(hj:j < h)->ns.getD j 0=ns[j]'(by omega):=fun j hj=>by rw [List.getD_eq_getElem?_getD,List.getElem?_eq_getElem (by omega)];rfl
 have inn:∀j,j < h->0<=ns.getD j 0/\ns.getD j 0 < h:=fun j hj=>by
  rw [at1 j hj]
  obtain ⟨i,hi,e⟩:=Dz (pm.mem_iff.mp (List.getElem_mem (show j < ns.length by omega)))
  omega
 refine ⟨fun j hj=>?_,fun i j hi hj e=>?_,fun i hi=>?_⟩
 ·have:=inn j hj
  unfold piN
  omega
 ·have a:=inn i hi
  have b:=inn j hj
  unfold piN at e
  have e2:ns.getD i 0=ns.getD j 0:=by omega
  rw [at1 i hi,at1 j hj] at e2
  have pw:=List.pairwise_iff_getElem.mp (List.nodup_iff_pairwise_ne.mp nd)
  rcases (by omega:i < j\/i=j\/j < i) with c | c | c
  ·exact absurd e2 (pw i j _ _ c)
  ·exact c
  ·exact absurd e2.symm (pw j i _ _ c)
 ·have:(i:Int)∈ns:=pm.mem_iff.mpr (KD.mpr ⟨i,hi,rfl⟩)
  obtain ⟨j,hj,e⟩:=List.mem_iff_getElem.mp this
  refine ⟨j,by omega,?_⟩
  unfold piN
  rw [at1 j (by omega),e]
  omega
theorem Ha {ns:List Int} {h j:Nat} (pm:ns.Perm (ups h)) (hj:j < h):ns[j]?=some ((piN ns j:Nat):Int):=by
 have len:ns.length=h:=by rw [pm.length_eq,Bc]
 have e:ns.getD j 0=ns[j]'(by omega):=by rw [List.getD_eq_getElem?_getD,List.getElem?_eq_getElem (by omega)];rfl
 obtain ⟨i,hi,b⟩:=Dz (pm.mem_iff.mp (List.getElem_mem (show j < ns.length by omega)))
 unfold piN
 rw [e,List.getElem?_eq_getElem (by omega)]
 congr 1
 omega
theorem B5.uniq {H:Hp} {x0 x1 x2:V} {h s h' s':Int} {ns ns':List Int} (a:B5 H x0 x1 x2 h s ns) (b:B5 H x0 x1 x2 h' s' ns'):h'=h/\s'=s/\ns'=ns:=by
 obtain ⟨rfl,rfl,_,_,_,_,l1⟩:=a
 obtain ⟨e0,e1,_,_,_,_,l2⟩:=b
 cases e0
 cases e1
 refine ⟨rfl,rfl,?_⟩
 rcases l1 with ⟨rfl,rfl⟩ | ⟨t,rfl,et,_⟩
 ·rcases l2 with ⟨_,rfl⟩ | ⟨t,e,_⟩
  ·rfl
  ·cases e
 ·rcases l2 with ⟨e,_⟩ | ⟨t',e,et',_⟩
  ·cases e
  ·cases e
   rw [et] at et'
   exact FJ (HO.lst.inj (Option.some.inj et')).symm
theorem MN {ns:List Int} {i:Nat} {x:Int} (nd:ns.Nodup) (h:ns[i]?=some x):ns.idxOf x=i:=by
 obtain ⟨h1,e1⟩:=List.getElem?_eq_some_iff.mp h
 have hm:=List.mem_of_getElem? h
 have hlt:=List.idxOf_lt_length_iff.mpr hm
 have e2:ns[ns.idxOf x]=x:=List.getElem_idxOf hlt
 have pw:=List.pairwise_iff_getElem.mp nd
 rcases Nat.lt_trichotomy (ns.idxOf x) i with c | c | c
 ·exact absurd (e2.trans e1.symm) (pw _ _ hlt h1 c)
 ·exact c
 ·exact absurd (e1.trans e2.symm) (pw _ _ h1 hlt c)
section
variable {h:Nat} {π:Nat->Nat} {L F L' F':Nat->Nat->Int}
def Gf (h:Nat) (π:Nat->Nat) (i:Nat):Nat:=((List.range h).find? fun j=>decide (π j=i)).getD 0
theorem N8 (r:Ren h π) {i:Nat} (hi:i < h):Gf h π i < h/\π (Gf h π i)=i:=by
 obtain ⟨j,hj,e⟩:=r.sur i hi
 unfold Gf
 cases c:(List.range h).find? fun j=>decide (π j=i) with
 | none=>exact absurd e (of_decide_eq_false (by simpa using List.find?_eq_none.mp c j (List.mem_range.mpr hj)))
 | some k=>exact ⟨List.mem_range.mp (List.mem_of_find?_eq_some c),of_decide_eq_true (by simpa using List.find?_some c)⟩
theorem PX (r:Ren h π) {i:Nat} (hi:i < h):Gf h π (π i)=i:=by
 obtain ⟨a,b⟩:=N8 r (r.lt i hi)
 exact r.inj _ _ a hi b
theorem C7 {h:Nat} (f:Nat->Int) {i:Nat} (hi:i < h):((List.range h).map f).getD i 0=f i:=by
 rw [List.getD_eq_getElem?_getD,List.getElem?_map,List.getElem?_range hi]
 rfl
theorem AK.ren (r:Ren h π) (g:AK h L F) (g':AK h L' F') (e:∀x y,x < h->y < h->L' (π x) (π y)=L x y) {x y:Nat} (hx:x < h) (hy:y < h):F' (π x) (π y)=F x y:=by
 have gg:AK h L fun x y=>F' (π x) (π y):=fun x hx=>by
  obtain ⟨bf,re⟩:=g' (π x) (r.lt x hx)
  refine ⟨(List.range h).map fun y=>((Gf h π (bf.getD (π y) 0).toNat:Nat):Int),by rw [List.length_map,List.length_range],by rw [List.length_map,List.length_range],?_,fun y hy ne=>?_,fun d y hd hy dx yx dy=>?_,?_⟩
  ·have:=re.own
   rw [C7 _ (r.lt x hx),e x x hx hx] at this
   rw [C7 _ hx]
   exact this
  ·have:=re.low (π y) (r.lt y hy) (fun z=>ne (r.inj _ _ hy hx z))
   rw [C7 _ (r.lt y hy),e x y hx hy] at this
   rw [C7 _ hy]
   exact this
  ·have:=re.stab (π d) (π y) (r.lt d hd) (r.lt y hy) (fun z=>dx (r.inj _ _ hd hx z)) (fun z=>yx (r.inj _ _ hy hx z)) (fun z=>dy (r.inj _ _ hd hy z))
   rw [C7 _ (r.lt d hd),C7 _ (r.lt y hy),e d y hd hy] at this
   rw [C7 _ hd,C7 _ hy]
   exact this
  ·obtain ⟨rk,pr⟩:=re.par
   refine ⟨fun y=>rk (π y),fun y hy ne=>?_⟩
   obtain ⟨p,ph,pe,pk,p1,p2⟩:=pr (π y) (r.lt y hy) (fun z=>ne (r.inj _ _ hy hx z))
   obtain ⟨ih,ip⟩:=N8 r ph
   rw [C7 _ (r.lt y hy)] at p1 p2
   refine ⟨Gf h π p,ih,?_,?_,fun z=>?_,fun z=>?_⟩
   ·rw [C7 _ hy,pe,Int.toNat_natCast]
   ·show rk (π (Gf h π p)) < rk (π y)
    rw [ip]
    exact pk
   ·rw [C7 _ hy]
    have pz:p=π x:=by rw [<- ip,z]
    show F' (π x) (π y)=L x y
    rw [p1 pz,e x y hx hy]
   ·rw [C7 _ hy,C7 _ ih]
    have pz:p≠π x:=fun w=>z (by rw [w];exact PX r hx)
    have:=p2 pz
    rw [C7 _ ph] at this
    show F' (π x) (π y)=min (F' (π x) (π (Gf h π p))) (L (Gf h π p) y)
    rw [<- e (Gf h π p) y ih hy,ip]
    exact this
 exact (gg.uniq g hx hy)
theorem MS (r:Ren h π) (e:∀x y,x < h->y < h->F' (π x) (π y)=F x y) {left:List Int} (sub:∀z∈left,∃i:Nat,i < h/\z=(i:Int)) {z:Int} (hz:∃i:Nat,i < h/\z=(i:Int)):BM F' (AN π z) (left.map (AN π))=BM F z left:=by
 unfold BM
 rw [List.any_map,Bool.eq_iff_iff,List.any_eq_true,List.any_eq_true]
 have key:∀o∈left,(CO F' (AN π z) ∘ AN π) o=CO F z o:=fun o m=>by
  obtain ⟨i,hi,rfl⟩:=hz
  obtain ⟨j,hj,rfl⟩:=sub o m
  unfold CO AN
  show decide (F' ((π (i:Int).toNat:Nat):Int).toNat ((π (j:Int).toNat:Nat):Int).toNat < F' ((π (j:Int).toNat:Nat):Int).toNat ((π (i:Int).toNat:Nat):Int).toNat)=_
  rw [Int.toNat_natCast,Int.toNat_natCast,Int.toNat_natCast,Int.toNat_natCast,e i j hi hj,e j i hj hi]
 exact ⟨fun ⟨o,m,k⟩=>⟨o,m,by rw [<- key o m];exact k⟩,fun ⟨o,m,k⟩=>⟨o,m,by rw [key o m];exact k⟩⟩
theorem Na (r:Ren h π) {a b:Int} (ha:∃i:Nat,i < h/\a=(i:Int)) (hb:∃i:Nat,i < h/\b=(i:Int)) (e:AN π a=AN π b):a=b:=by
 obtain ⟨i,hi,rfl⟩:=ha
 obtain ⟨j,hj,rfl⟩:=hb
 unfold AN at e
 rw [Int.toNat_natCast,Int.toNat_natCast] at e
 rw [r.inj i j hi hj (by omega)]
theorem GB (r:Ren h π) {a:Int} (ha:∃i:Nat,i < h/\a=(i:Int)):∀{left:List Int},(∀z∈left,∃i:Nat,i < h/\z=(i:Int))->(left.map (AN π)).erase (AN π a)=(left.erase a).map (AN π)
 | [],_=>rfl
 | o :: left,sub=>by
   rw [List.map_cons]
   by_cases c:o=a
   ·rw [c,List.erase_cons_head,List.erase_cons_head]
   ·rw [List.erase_cons_tail (by simpa using fun z=>c (Na r (sub o (List.mem_cons_self ..)) ha z)),List.erase_cons_tail (by simpa using c),List.map_cons,GB r ha fun z m=>sub z (List.mem_cons_of_mem _ m)]
theorem EA (r:Ren h π) (g:AK h L F) (e:∀x y,x < h->y < h->F' (π x) (π y)=F x y):∀(s:Nat) (left:List Int),(∀z∈left,∃i:Nat,i < h/\z=(i:Int))->Ap F' s (left.map (AN π))=(Ap F s left).map (AN π)
 | 0,left,_=>by rw [Bw,Bw];rfl
 | s+1,[],_=>by rw [List.map_nil,Bt,Bt];rfl
 | s+1,o :: left,sub=>by
   have ub:unb F' ((o :: left).map (AN π))=(unb F (o :: left)).map (AN π):=by
    unfold unb
    rw [List.filter_map]
    congr 1
    refine List.filter_congr fun a m=>?_
    show (!BM F' (AN π a) ((o :: left).map (AN π)))=_
    rw [MS r e sub (sub a m)]
   obtain ⟨u,ur,eu⟩:∃u ur,unb F (o :: left)=u :: ur:=by
    cases c:unb F (o :: left) with
    | nil=>exact absurd c (JB g (List.cons_ne_nil _ _) sub)
    | cons u ur=>exact ⟨u,ur,rfl⟩
   have um:u∈o :: left:=(List.mem_filter.mp (by show u∈unb F (o :: left);rw [eu];exact List.mem_cons_self ..)).1
   have s1:=Bg F' (s:=s) (left:=(o :: left).map (AN π)) (fun z=>nomatch z)
   have s2:=Bg F (s:=s) (List.cons_ne_nil o left)
   rw [ub,eu] at s1
   rw [eu] at s2
   rw [s1,s2]
   show AN π u :: Ap F' s (((o :: left).map (AN π)).erase (AN π u))=AN π u :: (Ap F s ((o :: left).erase u)).map (AN π)
   rw [GB r (sub u um) sub,EA r g e s _ fun z m=>sub z (List.mem_of_mem_erase m)]
end
theorem FN (F:Nat->Nat->Int):∀(s t:Nat) (left:List Int),s<=t->Ap F s left=(Ap F t left).take s
 | 0,t,left,_=>by rw [Bw,List.take_zero]
 | s+1,0,left,k=>absurd k (by omega)
 | s+1,t+1,[],_=>by rw [Bt,Bt,List.take_nil]
 | s+1,t+1,o :: left,k=>by rw [Bg F (List.cons_ne_nil _ _),Bg F (List.cons_ne_nil _ _),List.take_succ_cons,FN F s t _ (by omega)]
theorem Pg {h:Nat} {xs:List Int} (nd:xs.Nodup) (sub:∀z∈xs,z∈ups h) (l:xs.length=h) {j:Nat} (hj:j < h):(j:Int)∈xs:=by
 by_cases c:(j:Int)∈xs
 ·exact c
 ·exfalso
  have jm:(j:Int)∈ups h:=KD.mpr ⟨j,hj,rfl⟩
  have:=DN nd (ys:=(ups h).erase (j:Int)) fun z m=>(List.mem_erase_of_ne (fun e=>c (by rw [<- e];exact m))).mpr (sub z m)
  rw [List.length_erase_of_mem jm,Bc] at this
  omega
theorem IM {h:Nat} {xs:List Int} (nd:xs.Nodup) (sub:∀z∈xs,z∈ups h) (l:xs.length=h):Dc h xs=List.replicate h 1:=by
 unfold Dc
 refine List.ext_getElem? fun j=>?_
 rw [List.getElem?_map,List.getElem?_replicate]
 by_cases c:j < h
 ·rw [List.getElem?_range c,if_pos c]
  show some (if (j:Int)∈xs then (1:Int) else 0)=_
  rw [if_pos (Pg nd sub l c)]
 ·rw [List.getElem?_eq_none (by rw [List.length_range];omega),if_neg c]
  rfl
def IA (h:Nat) (π:Nat->Nat) (rs rs':List Int):Prop:=rs'.length=h/\∀j,j < h->rs'.getD (π j) 0=rs.getD j 0
theorem L8 {h:Nat} {π:Nat->Nat} (r:Ren h π) {rs xs ys:List Int} (a:IA h π rs xs) (b:IA h π rs ys):xs=ys:=by
 refine List.ext_getElem (by rw [a.1,b.1]) fun i h1 h2=>?_
 obtain ⟨j,hj,rfl⟩:=r.sur i (by have:=a.1;omega)
 have e:=(a.2 j hj).trans (b.2 j hj).symm
 rw [List.getD_eq_getElem?_getD,List.getD_eq_getElem?_getD,List.getElem?_eq_getElem h1,List.getElem?_eq_getElem h2] at e
 exact e
theorem LK {h:Nat} {π:Nat->Nat} (r:Ren h π) {pk:List Int} (sub:∀z∈pk,∃i:Nat,i < h/\z=(i:Int)):IA h π (Dc h pk) (Dc h (pk.map (AN π))):=by
 refine ⟨by unfold Dc;rw [List.length_map,List.length_range],fun j hj=>?_⟩
 unfold Dc
 rw [C7 (fun i:Nat=>if (i:Int)∈pk.map (AN π) then (1:Int) else 0) (r.lt j hj),C7 (fun i:Nat=>if (i:Int)∈pk then (1:Int) else 0) hj]
 have:((π j:Nat):Int)∈pk.map (AN π)↔(j:Int)∈pk:=by
  rw [List.mem_map]
  constructor
  ·rintro ⟨z,m,e⟩
   obtain ⟨i,hi,rfl⟩:=sub z m
   unfold AN at e
   rw [Int.toNat_natCast] at e
   rw [<- r.inj i j hi hj (by omega)]
   exact m
  ·intro m
   exact ⟨_,m,by unfold AN;rw [Int.toNat_natCast]⟩
 by_cases c:(j:Int)∈pk
 ·rw [if_pos c,if_pos (this.mpr c)]
 ·rw [if_neg c,if_neg fun z=>c (this.mp z)]
theorem GR {h:Nat} {π:Nat->Nat} {rs rs':List Int} (a:IA h π rs rs') {j:Nat} (hj:j < h):Bs rs' (π j)=Bs rs j:=by
 unfold Bs
 rw [a.2 j hj]
theorem P1 {h:Nat} {π:Nat->Nat} {vo vo':Vo} (l:vo'.length=vo.length) (e:∀(k:Nat) (q q':Addr × Addr × List Int × Int),vo[k]?=some q->vo'[k]?=some q'->q'.2.2.2=q.2.2.2/\IA h π q.2.2.1 q'.2.2.1) {x y:Nat} (hx:x < h) (hy:y < h):duF vo' (π x) (π y)=duF vo x y:=by
 unfold duF Gh
 congr 1
 apply List.ext_getElem?
 intro k
 rw [List.getElem?_map,List.getElem?_map]
 by_cases c:k < vo.length
 ·have e1:=List.getElem?_eq_getElem c
  have e2:=List.getElem?_eq_getElem (show k < vo'.length by omega)
  obtain ⟨a,b⟩:=e k _ _ e1 e2
  rw [e1,e2]
  show some (if decide (Bs vo'[k].2.2.1 (π x) < Bs vo'[k].2.2.1 (π y))=true then vo'[k].2.2.2 else 0)=some (if decide (Bs vo[k].2.2.1 x < Bs vo[k].2.2.1 y)=true then vo[k].2.2.2 else 0)
  rw [a,GR b hx,GR b hy]
 ·rw [List.getElem?_eq_none (by omega),List.getElem?_eq_none (by omega)]
  rfl
def Ot:Sp:=fun vs H Q _=>∃(p o:Addr) (rs os:List Int) (h:Nat),vs=[.ref p,.ref o]/\H p=some (.lst (rs.map V.int))/\H o=some (.lst (os.map V.int))/\rs.length=h/\os.Perm (ups h)/\h<=12/\∀(l:Addr) (rs':List Int) (H':Hp),H l=none->Ao H H'->H' l=some (.lst (rs'.map V.int))->IA h (piN os) rs rs'->(∀z∈rs',z∈rs)->Q (.ref l) H'
def OI (K:PySem.W.Frag):Sp:=fun vs H Q _=>∃x0 x1 x2:V,vs=[x0,x1,x2]/\Wh K H x0 (isI x0)/\Wh K H x1 (isI x1)/\Odd K H x2/\(∀h s ns,¬ B5 H x0 x1 x2 h s ns)/\∀H':Hp,Ao H H'->Q (.bl true) H'
theorem MY {h:Nat} {π:Nat->Nat} (r:Ren h π) {rs xs:List Int} (l:rs.length=h) (a:IA h π rs xs):∀z∈xs,z∈rs:=fun z m=>by
 obtain ⟨i,hi,e⟩:=List.mem_iff_getElem.mp m
 obtain ⟨j,hj,rfl⟩:=r.sur i (by have:=a.1;omega)
 have e1:=a.2 j hj
 rw [List.getD_eq_getElem?_getD,List.getD_eq_getElem?_getD,List.getElem?_eq_getElem hi,List.getElem?_eq_getElem (show j < rs.length by omega)] at e1
 rw [<- e,show xs[π j]=rs[j] from e1]
 exact List.getElem_mem _
theorem FD (n:Nat) (x:Int):(List.replicate n [V.int x]).flatten=(List.replicate n x).map V.int:=by
 induction n with
 | zero=>rfl
 | succ n ih=>rw [List.replicate_succ,List.flatten_cons,ih];rfl
theorem NH {h i:Nat} {π:Nat->Nat} (r:Ren h π) {rs xs:List Int} (hi:i < h) (l:xs.length=h) (a:∀j,j < i->xs.getD (π j) 0=rs.getD j 0) {z:Int} (ez:rs[i]?=some z):∀j,j < i+1->(xs.set (π i) z).getD (π j) 0=rs.getD j 0:=fun j hj=>by
 rw [List.getD_eq_getElem?_getD,List.getD_eq_getElem?_getD]
 by_cases c:j=i
 ·subst c
  rw [List.getElem?_set_self (by have:=r.lt j hi;omega),ez]
 ·rw [List.getElem?_set_ne (fun e=>c (r.inj _ _ (by omega) hi e.symm))]
  have:=a j (by omega)
  rw [List.getD_eq_getElem?_getD,List.getD_eq_getElem?_getD] at this
  exact this
def Mz (C:Addr):Sp:=fun vs H Q _=>∃(lo:Addr) (n s:Nat) (os:List Int) (c:Int),vs=[.int (n:Int),.int (s:Int),.ref lo,.int c]/\H lo=some (.lst (os.map V.int))/\os.Perm (ups n)/\1<=n/\n<=12/\1<=s/\s<=50/\Sz 200 c/\∀(l a b lo':Addr) (os':List Int) (H':Hp),Ao H H'->H' l=some (.lst [.ref a,.ref b,.ref lo'])->C4 C H' a n s os'->C4 C H' b n (s+1) os'->H' lo'=some (.lst (os'.map V.int))->Q (.ref l) H'
def Mi:Sp:=fun vs H Q _=>∃(lo:Addr) (n s:Nat) (os:List Int) (c:Int),vs=[.int (n:Int),.int (s:Int),.ref lo,.int c]/\H lo=some (.lst (os.map V.int))/\os.Perm (ups n)/\1<=n/\n<=12/\1<=s/\s<=50/\Sz 200 c/\∀H':Hp,Ao H H'->Q (.bl true) H'
theorem Q2 {xs:List V} {P:V->Prop} (hp:∀x∈xs,P x) {m:Int} (h0:0<=m) (h:m < (xs.length:Int)):∃v,atI xs m=some v/\P v:=by
 obtain ⟨k,rfl⟩:∃k:Nat,m=(k:Int):=⟨m.toNat,by omega⟩
 have hk:k < xs.length:=by omega
 have e:xs[k]?=some xs[k]:=List.getElem?_eq_getElem hk
 exact ⟨xs[k],E2 e,hp _ (List.getElem_mem hk)⟩
def Pu (n:Nat) (ys:List V):Prop:=∀ns:List Int,ys=ns.map V.int->¬ ns.Perm (ups n)
theorem Il {n:Nat} {ys:List V} (h:ys.length≠n):Pu n ys:=fun ns e p=>h (by rw [e,List.length_map,p.length_eq,Bc])
theorem MT {H:Hp} {v:V} {n:Nat} (h0:v≠.non) (h:∀a ys,v=.ref a->H a=some (.lst ys)->Pu n ys):∀ns,¬ KQ H v n ns:=fun ns l=>by
 rcases l with ⟨e,_⟩ | ⟨a,e,ea,p⟩
 ·exact h0 e
 ·exact h a _ e ea ns rfl p
def NY (K:PySem.W.Frag) (H:Hp) (n:Nat) (a:Addr):Prop:=∃ys,H a=some (.lst ys)/\(∀y∈ys,Wh K H y (isI y))/\ys.length<=14/\Pu n ys
theorem NY.no {K:PySem.W.Frag} {H:Hp} {n:Nat} {a:Addr} (h:NY K H n a):Odd K H (.ref a)/\∀ns,¬ KQ H (.ref a) n ns:=by
 obtain ⟨ys,e,w,l,b⟩:=h
 refine ⟨.lst e w l,MT (fun z=>nomatch z) fun a' zs q f=>?_⟩
 cases q
 rw [e] at f
 cases f
 exact b
theorem Fi {top n:Int} (h:¬ (1<=n/\n<=top)):EC top (.int n)=false:=by
 cases e:EC top (.int n) with
 | false=>rfl
 | true =>
   obtain ⟨m,q,h1,h2⟩:=FM e
   cases q
   exact absurd ⟨h1,h2⟩ h
theorem no0 {H:Hp} {x0 x1 x2:V} (e:EC 12 x0=false):∀h s ns,¬ B5 H x0 x1 x2 h s ns:=fun h s ns g=>by rw [g.1,Fl g.2.2.1 g.2.2.2.1] at e;cases e
theorem no1 {H:Hp} {x0 x1 x2:V} (e:EC 60 x1=false):∀h s ns,¬ B5 H x0 x1 x2 h s ns:=fun h s ns g=>by rw [g.2.1,Fl g.2.2.2.2.1 g.2.2.2.2.2.1] at e;cases e
theorem no2 {H:Hp} {n:Nat} {x1 x2:V} (e:∀ns,¬ KQ H x2 n ns):∀h s ns,¬ B5 H (.int (n:Int)) x1 x2 h s ns:=fun h s ns g=>by
 obtain ⟨q,_,_,_,_,_,l⟩:=g
 cases q
 exact e ns l
def CV (K:PySem.W.Frag) (H:Hp) (x:V):Prop:=∃(t:Addr) (x0 x1 x2:V),x=.ref t/\H t=some (.tup [x0,x1,x2])/\Wh K H x0 (isI x0)/\Wh K H x1 (isI x1)/\Odd K H x2/\∀h s ns,¬ B5 H x0 x1 x2 h s ns
theorem CV.same {K:PySem.W.Frag} {H H':Hp} {x:V} (s:Ao H H') (b:CV K H x):CV K H' x:=by
 obtain ⟨t,x0,x1,x2,e,ht,w0,w1,o2,no⟩:=b
 exact ⟨t,x0,x1,x2,e,s _ _ ht,w0.same s,w1.same s,o2.same s,fun h s' ns g=>no _ _ _ (g.old o2 s)⟩
theorem Ld {ns:List Int} {h:Nat} (pm:ns.Perm (ups h)):(ups h).map (AN (piN ns))=ns:=by
 refine List.ext_getElem? fun j=>?_
 have nlen:ns.length=h:=by rw [pm.length_eq,Bc]
 rcases (by omega:j < h\/h<=j) with c | c
 ·rw [Ha pm c]
  unfold ups
  rw [List.getElem?_map,List.getElem?_map,List.getElem?_range c]
  show some (AN (piN ns) (j:Int))=_
  unfold AN
  rw [Int.toNat_natCast]
 ·rw [List.getElem?_eq_none (by rw [List.length_map,Bc];omega),List.getElem?_eq_none (by omega)]
theorem M8 {xs ns:List Int} {h:Nat} (px:xs.Perm (ups h)) (pm:ns.Perm (ups h)):(xs.map (AN (piN ns))).Perm (ups h):=(px.map _).trans (by rw [Ld pm];exact pm)
structure Ir (C:Addr) (H:Hp) (a b r sb sb' ol:Addr) (h s:Nat) (os os' on:List Int) (ls ls':Ls):Prop where
 w:C4 C H a h s os
 v:C4 C H b h (s+1) os
 r:C4 C H r h s os'
 e:H sb=some (.lst (vls ls))
 g:DZ h H ls
 e':H sb'=some (.lst (vls ls'))
 g':DZ h H ls'
 o:H ol=some (.lst (on.map V.int))
section
variable {C:Addr} {H H':Hp} {a b r sb sb' ol:Addr} {h s:Nat} {os os' on:List Int} {ls ls':Ls}
theorem Ir.same (z:Ao H H') (k:Ir C H a b r sb sb' ol h s os os' on ls ls'):Ir C H' a b r sb sb' ol h s os os' on ls ls':=⟨k.w.same z,k.v.same z,k.r.same z,z _ _ k.e,k.g.same z,z _ _ k.e',k.g'.same z,z _ _ k.o⟩
theorem Ir.sm (z:Sm H H') (k:Ir C H a b r sb sb' ol h s os os' on ls ls'):Ir C H' a b r sb sb' ol h s os os' on ls ls':=⟨k.w.sm z,k.v.sm z,k.r.sm z,z.lst k.e,fun q m=>⟨z.tup (k.g q m).1,z.tup (k.g q m).2.1,(k.g q m).2.2⟩,z.lst k.e',fun q m=>⟨z.tup (k.g' q m).1,z.tup (k.g' q m).2.1,(k.g' q m).2.2⟩,z.lst k.o⟩
end
theorem Dh {h:Nat} {L F:Nat->Nat->Int} (g:AK h L F) (s:Nat) {os:List Int} (po:os.Perm (ups h)):(∀z∈Ap F s os,z∈ups h)/\(Ap F s os).Nodup/\(Ap F s os).length=min s h:=by
 obtain ⟨a,b,c,_⟩:=Fs (I:=fun _=>true) g (fun x y hx hy ix iy=>by cases iy) s os (po.nodup_iff.mpr (Jz h)) (fun z m=>Dz (po.mem_iff.mp m))
 rw [po.length_eq,Bc] at c
 exact ⟨fun z m=>po.mem_iff.mp (a z m),b,c⟩
theorem J0 {l:List Int} {n:Nat}:l.take (l.take n).length=l.take n:=by
 rw [List.length_take]
 by_cases c:n<=l.length
 ·rw [Nat.min_eq_left c]
 ·rw [Nat.min_eq_right (by omega),List.take_of_length_le (Nat.le_refl _),List.take_of_length_le (by omega)]
theorem Nb {on:List Int} {h:Nat} (po:on.Perm (ups h)) {z:Int} (m:z∈ups h):atI (on.map V.int) z=some (.int (AN (piN on) z)):=by
 obtain ⟨j,hj,rfl⟩:=Dz m
 have:=atN (Ha po hj)
 unfold AN
 rw [Int.toNat_natCast]
 exact this
theorem MW (h:Nat) (pk:List Int):(Dc h pk).length=h:=by unfold Dc;rw [List.length_map,List.length_range]
theorem Pe {xs:List V} {j:Nat}:He xs none (some (j:Int))=xs.take j:=by
 unfold He
 rw [HT.sIx_none,HT.sIx_nat,List.drop_zero,Nat.sub_zero]
 by_cases h:j<=xs.length
 ·rw [Nat.min_eq_left h]
 ·rw [Nat.min_eq_right (by omega),List.take_of_length_le (Nat.le_refl _),List.take_of_length_le (by omega)]
theorem Ja (xs:List Int):PyData.eqv (.list (xs.map .int)) (.list (xs.map .int))=true:=by show PyData.eqvAll _ _=true;rw [Cz];exact decide_eq_true rfl
def top (i:Nat):Stmt:=PySem.Challenge.pw_pollproof_k59_names_and_seats.main.body.getD i (.Pass ⟨0,0,0,0⟩)
abbrev CZ:Stmt:=top 2
abbrev Cq:Stmt:=top 3
abbrev Cl:Stmt:=top 4
abbrev Cu:Stmt:=top 7
abbrev De:Stmt:=top 10
abbrev Cm:Stmt:=top 26
abbrev B8:Stmt:=top 36
abbrev BR:Stmt:=top 39
abbrev Ct:Stmt:=top 40
abbrev BY:Stmt:=top 41
abbrev BV:Stmt:=top 42
abbrev BA:Stmt:=top 44
abbrev Bz:Stmt:=top 47
abbrev BS:Stmt:=DQ (top 33) 1
abbrev AS:Stmt:=DQ (top 37) 5
abbrev CL:Stmt:=top 6
abbrev B7:Stmt:=top 8
abbrev AE:Stmt:=top 9
abbrev Df:Stmt:=top 11
abbrev BX:Stmt:=top 30
abbrev BQ:Stmt:=top 31
abbrev BP:Stmt:=top 32
abbrev Bu:Stmt:=top 43
abbrev BD:Stmt:=top 46
abbrev AL:Stmt:=DQ (top 37) 3
abbrev Bi:Stmt:=top 35
abbrev BW:Stmt:=top 45
abbrev AR:Stmt:=DQ (top 33) 0
abbrev Bd:Stmt:=DQ (top 37) 4
abbrev Cn:Stmt:=top 48
abbrev B0:Stmt:=top 49
abbrev B2:Stmt:=DQ (top 33) 4
abbrev AW:Stmt:=top 50
abbrev Di:Stmt:=top 51
theorem Lk:Ar ["hands"] ["hands"] (Ae CZ):=⟨rfl,rfl,rfl,by decide +kernel,rfl,by decide +kernel,by decide +kernel⟩
theorem Jc:Ar ["mask","hand"] ["mask","hand"] (Ae Cq):=⟨rfl,rfl,rfl,by decide +kernel,rfl,by decide +kernel,by decide +kernel⟩
theorem Jt:Ar ["mask"] ["mask"] (Ae Cl):=⟨rfl,rfl,rfl,by decide +kernel,rfl,by decide +kernel,by decide +kernel⟩
theorem HV:Ar ["leads"] ["leads"] (Ae Cu):=⟨rfl,rfl,rfl,by decide +kernel,rfl,by decide +kernel,by decide +kernel⟩
theorem GE:Ar ["reached","x","y","way"] ["reached","x","y"] (Ae De):=⟨rfl,rfl,rfl,by decide +kernel,rfl,by decide +kernel,by decide +kernel⟩
theorem HJ:Ar ["thing"] ["thing"] (Ae Cm):=⟨rfl,rfl,rfl,by decide +kernel,rfl,by decide +kernel,by decide +kernel⟩
theorem HB:Ar ["strengths","hand","others"] ["strengths","hand","others"] (Ae B8):=⟨rfl,rfl,rfl,by decide +kernel,rfl,by decide +kernel,by decide +kernel⟩
theorem Hk:Ar ["_law_found"] ["_law_found"] (Ae BR):=⟨rfl,rfl,rfl,by decide +kernel,rfl,by decide +kernel,by decide +kernel⟩
theorem HI:Ar ["_law_script","_law_k"] ["_law_script","_law_k"] (Ae Ct):=⟨rfl,rfl,rfl,by decide +kernel,rfl,by decide +kernel,by decide +kernel⟩
theorem Dk:Ar ["_law_cell_here","_law_by","_law_number"] ["_law_cell_here","_law_by"] (Ae BY):=⟨rfl,rfl,rfl,by decide +kernel,rfl,by decide +kernel,by decide +kernel⟩
theorem C8:Ar ["_law_cell_here","_law_hands","_law_left","_law_found"] ["_law_cell_here","_law_hands"] (Ae BV):=⟨rfl,rfl,rfl,by decide +kernel,rfl,by decide +kernel,by decide +kernel⟩
theorem DC:Ar ["_law_ranks_here","_law_tiers","_law_rank"] ["_law_ranks_here"] (Ae BA):=⟨rfl,rfl,rfl,by decide +kernel,rfl,by decide +kernel,by decide +kernel⟩
theorem CC:Ar ["_law_ranks_here","_law_order_here","_law_found","_law_hand"] ["_law_ranks_here","_law_order_here"] (Ae Bz):=⟨rfl,rfl,rfl,by decide +kernel,rfl,by decide +kernel,by decide +kernel⟩
theorem HD:Ar ["self","one","other"] ["self","one","other"] (Ae BS):=⟨rfl,rfl,rfl,by decide +kernel,rfl,by decide +kernel,by decide +kernel⟩
theorem ED:Ar ["self","paper"] ["self","paper"] (Ae AS):=⟨rfl,rfl,rfl,by decide +kernel,rfl,by decide +kernel,by decide +kernel⟩
theorem BN:Ar ["sheet","hands","many","slip","number","behind","tier","others","x","y"] ["sheet","hands"] (Ae CL):=⟨rfl,rfl,rfl,by decide +kernel,rfl,by decide +kernel,by decide +kernel⟩
theorem Fa:Ar ["many","hands"] ["many"] (Ae B7):=⟨rfl,rfl,rfl,by decide +kernel,rfl,by decide +kernel,by decide +kernel⟩
theorem AQ:Ar ["leads","x","best","before","left","through","hand","link"] ["leads","x"] (Ae AE):=⟨rfl,rfl,rfl,by decide +kernel,rfl,by decide +kernel,by decide +kernel⟩
theorem Dg:Ar ["reached","x","y","cut","hand","strong"] ["reached","x","y"] (Ae Df):=⟨rfl,rfl,rfl,by decide +kernel,rfl,by decide +kernel,by decide +kernel⟩
theorem HC:Ar ["thing"] ["thing"] (Ae BX):=⟨rfl,rfl,rfl,by decide +kernel,rfl,by decide +kernel,by decide +kernel⟩
theorem Hm:Ar ["thing"] ["thing"] (Ae BQ):=⟨rfl,rfl,rfl,by decide +kernel,rfl,by decide +kernel,by decide +kernel⟩
theorem HQ:Ar ["thing","hands"] ["thing","hands"] (Ae BP):=⟨rfl,rfl,rfl,by decide +kernel,rfl,by decide +kernel,by decide +kernel⟩
theorem Ce:Ar ["_law_cell_here","_law_hands","_law_number","_law_order_here","_law_most","_law_spread"] ["_law_cell_here","_law_hands"] (Ae Bu):=⟨rfl,rfl,rfl,by decide +kernel,rfl,by decide +kernel,by decide +kernel⟩
theorem Cb:Ar ["_law_votes_here","_law_many","_law_ranks_here","_law_number","_law_slip_here"] ["_law_votes_here"] (Ae BD):=⟨rfl,rfl,rfl,by decide +kernel,rfl,by decide +kernel,by decide +kernel⟩
theorem B4:Ar ["self","strengths","picks","left","first"] ["self","strengths"] (Ae AL):=⟨rfl,rfl,rfl,by decide +kernel,rfl,by decide +kernel,by decide +kernel⟩
theorem DW:Ar ["reached","x","others"] ["reached","x"] (Ae Bi):=⟨rfl,rfl,rfl,by decide +kernel,rfl,by decide +kernel,by decide +kernel⟩
theorem BZ:Ar ["_law_script","_law_start","_law_most","_law_hands","_law_votes_here","_law_k","_law_number","_law_many"] ["_law_script","_law_start","_law_most","_law_hands"] (Ae BW):=⟨rfl,rfl,rfl,by decide +kernel,rfl,by decide +kernel,by decide +kernel⟩
theorem Iy:Ar ["self","hands","seats","lots"] ["self","hands","seats","lots"] (Ae AR):=⟨rfl,rfl,rfl,by decide +kernel,rfl,by decide +kernel,by decide +kernel⟩
theorem AJ:Ar ["self","sheet","many","leads","shown","strengths","x","reached"] ["self","sheet"] (Ae Bd):=⟨rfl,rfl,rfl,by decide +kernel,rfl,by decide +kernel,by decide +kernel⟩
theorem Im:Ar ["_law_hands","_law_seats","_law_lots","_law_cell_here"] ["_law_hands","_law_seats","_law_lots","_law_cell_here"] (Ae Cn):=⟨rfl,rfl,rfl,by decide +kernel,rfl,by decide +kernel,by decide +kernel⟩
theorem Bn:Ar ["_law_hands","_law_seats","_law_lots","_law_refused_here","e","_law_others"] ["_law_hands","_law_seats","_law_lots"] (Ae B0):=⟨rfl,rfl,rfl,by decide +kernel,rfl,by decide +kernel,by decide +kernel⟩
theorem Fp:Ar ["self","sheet"] ["self","sheet"] (Ae B2):=⟨rfl,rfl,rfl,by decide +kernel,rfl,by decide +kernel,by decide +kernel⟩
theorem Au:Ar ["_law_hands","_law_seats","_law_lots","_law_cell_here","_law_handed","_law_way","_law_great","_law_k","_law_told","_law_bad","_law_odd"] ["_law_hands","_law_seats","_law_lots","_law_cell_here"] (Ae AW):=⟨rfl,rfl,rfl,by decide +kernel,rfl,by decide +kernel,by decide +kernel⟩
theorem Ch:Ar ["_law_script","_law_first","_law_hands","_law_seats","_law_way","_law_wider","_law_lots","_law_order_here","_law_votes_here","_law_sheet_here","_law_other","_law_renamed_here","_law_picks","_law_more"] ["_law_script"] (Ae Di):=⟨rfl,rfl,rfl,by decide +kernel,rfl,by decide +kernel,by decide +kernel⟩
structure Ads where
 f_all_of:Addr
 d_all_of:FuncData
 f_with_one:Addr
 d_with_one:FuncData
 f_members:Addr
 d_members:FuncData
 f_hands_of:Addr
 d_hands_of:FuncData
 f_way_by:Addr
 d_way_by:FuncData
 f_is_whole:Addr
 d_is_whole:FuncData
 f_is_beaten:Addr
 d_is_beaten:FuncData
 f_law_whole:Addr
 d_law_whole:FuncData
 f_law_cell:Addr
 d_law_cell:FuncData
 f_law_mixed:Addr
 d_law_mixed:FuncData
 f_law_order:Addr
 d_law_order:FuncData
 f_law_slip:Addr
 d_law_slip:FuncData
 f_law_renamed:Addr
 d_law_renamed:FuncData
 f_Way_ahead:Addr
 d_Way_ahead:FuncData
 f_Pairs_told_by:Addr
 d_Pairs_told_by:FuncData
 f_overs:Addr
 d_overs:FuncData
 f_leads_of:Addr
 d_leads_of:FuncData
 f_reached_from:Addr
 d_reached_from:FuncData
 f_cut_by:Addr
 d_cut_by:FuncData
 f_are_hands:Addr
 d_are_hands:FuncData
 f_are_seats:Addr
 d_are_seats:FuncData
 f_are_lots:Addr
 d_are_lots:FuncData
 f_law_ranks:Addr
 d_law_ranks:FuncData
 f_law_sheet:Addr
 d_law_sheet:FuncData
 f_Pairs_picks_by:Addr
 d_Pairs_picks_by:FuncData
 f_shown_from:Addr
 d_shown_from:FuncData
 f_law_votes:Addr
 d_law_votes:FuncData
 f_Way_init:Addr
 d_Way_init:FuncData
 f_Pairs_counted:Addr
 d_Pairs_counted:FuncData
 f_law_ways:Addr
 d_law_ways:FuncData
 f_law_refused:Addr
 d_law_refused:FuncData
 f_Way_outcome:Addr
 d_Way_outcome:FuncData
 f_law_like_a_way:Addr
 d_law_like_a_way:FuncData
 f_law:Addr
 d_law:FuncData
 c_NoWay:Addr
 c_Torn:Addr
 c_TooHard:Addr
 c_NoSheet:Addr
 c_NoRow:Addr
 c_NoNumber:Addr
 c_NoChange:Addr
 c_NoBundle:Addr
 c_NoBallot:Addr
 c_Ended:Addr
 c_WrongNumber:Addr
 c_PollError:Addr
 c_Pairs:Addr
 c_Way:Addr
 t_MOST_HANDS:Tok
 t_MOST_SEATS:Tok
 lc:Addr
 lP:Addr
structure Tx (K:PySem.W.Frag) (mg:Str->Option Value) (base:Heap) (a:Ads):Prop where
 F_all_of:Fun K "all_of" "all_of" CZ a.f_all_of a.d_all_of
 b_all_of:A0 K a.d_all_of ["hands"] []
 m_all_of:mg "all_of"=some (.ref a.f_all_of)
 F_with_one:Fun K "with_one" "with_one" Cq a.f_with_one a.d_with_one
 b_with_one:A0 K a.d_with_one ["mask","hand"] []
 m_with_one:mg "with_one"=some (.ref a.f_with_one)
 F_members:Fun K "members" "members" Cl a.f_members a.d_members
 b_members:A0 K a.d_members ["mask"] []
 m_members:mg "members"=some (.ref a.f_members)
 F_hands_of:Fun K "hands_of" "hands_of" Cu a.f_hands_of a.d_hands_of
 b_hands_of:A0 K a.d_hands_of ["leads"] []
 m_hands_of:mg "hands_of"=some (.ref a.f_hands_of)
 F_way_by:Fun K "way_by" "way_by" De a.f_way_by a.d_way_by
 b_way_by:A0 K a.d_way_by ["reached","x","y"] []
 m_way_by:mg "way_by"=some (.ref a.f_way_by)
 F_is_whole:Fun K "is_whole" "is_whole" Cm a.f_is_whole a.d_is_whole
 b_is_whole:A0 K a.d_is_whole ["thing"] []
 m_is_whole:mg "is_whole"=some (.ref a.f_is_whole)
 F_is_beaten:Fun K "is_beaten" "is_beaten" B8 a.f_is_beaten a.d_is_beaten
 b_is_beaten:A0 K a.d_is_beaten ["strengths","hand","others"] []
 m_is_beaten:mg "is_beaten"=some (.ref a.f_is_beaten)
 F_law_whole:Fun K "_law_whole" "_law_whole" BR a.f_law_whole a.d_law_whole
 b_law_whole:A0 K a.d_law_whole ["_law_found"] []
 m_law_whole:mg "_law_whole"=some (.ref a.f_law_whole)
 F_law_cell:Fun K "_law_cell" "_law_cell" Ct a.f_law_cell a.d_law_cell
 b_law_cell:A0 K a.d_law_cell ["_law_script","_law_k"] []
 m_law_cell:mg "_law_cell"=some (.ref a.f_law_cell)
 F_law_mixed:Fun K "_law_mixed" "_law_mixed" BY a.f_law_mixed a.d_law_mixed
 b_law_mixed:A0 K a.d_law_mixed ["_law_cell_here","_law_by"] []
 m_law_mixed:mg "_law_mixed"=some (.ref a.f_law_mixed)
 F_law_order:Fun K "_law_order" "_law_order" BV a.f_law_order a.d_law_order
 b_law_order:A0 K a.d_law_order ["_law_cell_here","_law_hands"] []
 m_law_order:mg "_law_order"=some (.ref a.f_law_order)
 F_law_slip:Fun K "_law_slip" "_law_slip" BA a.f_law_slip a.d_law_slip
 b_law_slip:A0 K a.d_law_slip ["_law_ranks_here"] []
 m_law_slip:mg "_law_slip"=some (.ref a.f_law_slip)
 F_law_renamed:Fun K "_law_renamed" "_law_renamed" Bz a.f_law_renamed a.d_law_renamed
 b_law_renamed:A0 K a.d_law_renamed ["_law_ranks_here","_law_order_here"] []
 m_law_renamed:mg "_law_renamed"=some (.ref a.f_law_renamed)
 F_Way_ahead:Fun K "ahead" "Way.ahead" BS a.f_Way_ahead a.d_Way_ahead
 b_Way_ahead:A0 K a.d_Way_ahead ["self","one","other"] []
 F_Pairs_told_by:Fun K "told_by" "Pairs.told_by" AS a.f_Pairs_told_by a.d_Pairs_told_by
 b_Pairs_told_by:A0 K a.d_Pairs_told_by ["self","paper"] []
 F_overs:Fun K "overs" "overs" CL a.f_overs a.d_overs
 b_overs:A0 K a.d_overs ["sheet","hands"] []
 m_overs:mg "overs"=some (.ref a.f_overs)
 F_leads_of:Fun K "leads_of" "leads_of" B7 a.f_leads_of a.d_leads_of
 b_leads_of:A0 K a.d_leads_of ["many"] []
 m_leads_of:mg "leads_of"=some (.ref a.f_leads_of)
 F_reached_from:Fun K "reached_from" "reached_from" AE a.f_reached_from a.d_reached_from
 b_reached_from:A0 K a.d_reached_from ["leads","x"] []
 m_reached_from:mg "reached_from"=some (.ref a.f_reached_from)
 F_cut_by:Fun K "cut_by" "cut_by" Df a.f_cut_by a.d_cut_by
 b_cut_by:A0 K a.d_cut_by ["reached","x","y"] []
 m_cut_by:mg "cut_by"=some (.ref a.f_cut_by)
 F_are_hands:Fun K "are_hands" "are_hands" BX a.f_are_hands a.d_are_hands
 b_are_hands:A0 K a.d_are_hands ["thing"] []
 m_are_hands:mg "are_hands"=some (.ref a.f_are_hands)
 F_are_seats:Fun K "are_seats" "are_seats" BQ a.f_are_seats a.d_are_seats
 b_are_seats:A0 K a.d_are_seats ["thing"] []
 m_are_seats:mg "are_seats"=some (.ref a.f_are_seats)
 F_are_lots:Fun K "are_lots" "are_lots" BP a.f_are_lots a.d_are_lots
 b_are_lots:A0 K a.d_are_lots ["thing","hands"] []
 m_are_lots:mg "are_lots"=some (.ref a.f_are_lots)
 F_law_ranks:Fun K "_law_ranks" "_law_ranks" Bu a.f_law_ranks a.d_law_ranks
 b_law_ranks:A0 K a.d_law_ranks ["_law_cell_here","_law_hands"] []
 m_law_ranks:mg "_law_ranks"=some (.ref a.f_law_ranks)
 F_law_sheet:Fun K "_law_sheet" "_law_sheet" BD a.f_law_sheet a.d_law_sheet
 b_law_sheet:A0 K a.d_law_sheet ["_law_votes_here"] []
 m_law_sheet:mg "_law_sheet"=some (.ref a.f_law_sheet)
 F_Pairs_picks_by:Fun K "picks_by" "Pairs.picks_by" AL a.f_Pairs_picks_by a.d_Pairs_picks_by
 b_Pairs_picks_by:A0 K a.d_Pairs_picks_by ["self","strengths"] []
 F_shown_from:Fun K "shown_from" "shown_from" Bi a.f_shown_from a.d_shown_from
 b_shown_from:A0 K a.d_shown_from ["reached","x"] []
 m_shown_from:mg "shown_from"=some (.ref a.f_shown_from)
 F_law_votes:Fun K "_law_votes" "_law_votes" BW a.f_law_votes a.d_law_votes
 b_law_votes:A0 K a.d_law_votes ["_law_script","_law_start","_law_most","_law_hands"] []
 m_law_votes:mg "_law_votes"=some (.ref a.f_law_votes)
 F_Way_init:Ol K "__init__" "Way.__init__" AR a.f_Way_init a.d_Way_init
 b_Way_init:A0 K a.d_Way_init ["self","hands","seats","lots"] []
 b1_Way_init:A0 K a.d_Way_init ["self","hands","seats","lots"] [.none]
 F_Pairs_counted:Fun K "counted" "Pairs.counted" Bd a.f_Pairs_counted a.d_Pairs_counted
 b_Pairs_counted:A0 K a.d_Pairs_counted ["self","sheet"] []
 F_law_ways:Fun K "_law_ways" "_law_ways" Cn a.f_law_ways a.d_law_ways
 b_law_ways:A0 K a.d_law_ways ["_law_hands","_law_seats","_law_lots","_law_cell_here"] []
 m_law_ways:mg "_law_ways"=some (.ref a.f_law_ways)
 F_law_refused:Fun K "_law_refused" "_law_refused" B0 a.f_law_refused a.d_law_refused
 b_law_refused:A0 K a.d_law_refused ["_law_hands","_law_seats","_law_lots"] []
 m_law_refused:mg "_law_refused"=some (.ref a.f_law_refused)
 F_Way_outcome:Fun K "outcome" "Way.outcome" B2 a.f_Way_outcome a.d_Way_outcome
 b_Way_outcome:A0 K a.d_Way_outcome ["self","sheet"] []
 F_law_like_a_way:Fun K "_law_like_a_way" "_law_like_a_way" AW a.f_law_like_a_way a.d_law_like_a_way
 b_law_like_a_way:A0 K a.d_law_like_a_way ["_law_hands","_law_seats","_law_lots","_law_cell_here"] []
 m_law_like_a_way:mg "_law_like_a_way"=some (.ref a.f_law_like_a_way)
 F_law:Fun K "law" "law" Di a.f_law a.d_law
 b_law:A0 K a.d_law ["_law_script"] []
 m_law:mg "law"=some (.ref a.f_law)
 z_ValueError:mg "ValueError"=none
 z_all:mg "all"=none
 z_any:mg "any"=none
 z_bool:mg "bool"=none
 z_enumerate:mg "enumerate"=none
 z_int:mg "int"=none
 z_isinstance:mg "isinstance"=none
 z_len:mg "len"=none
 z_list:mg "list"=none
 z_max:mg "max"=none
 z_min:mg "min"=none
 z_range:mg "range"=none
 z_set:mg "set"=none
 z_sorted:mg "sorted"=none
 z_sum:mg "sum"=none
 z_tuple:mg "tuple"=none
 k_MOST_HANDS:mg "MOST_HANDS"=some (.int 12 a.t_MOST_HANDS)
 k_MOST_SEATS:mg "MOST_SEATS"=some (.int 60 a.t_MOST_SEATS)
 m_NoWay:mg "NoWay"=some (.ref a.c_NoWay)
 h_NoWay:Dd K a.c_NoWay
 m_Torn:mg "Torn"=some (.ref a.c_Torn)
 h_Torn:Dd K a.c_Torn
 m_TooHard:mg "TooHard"=some (.ref a.c_TooHard)
 h_TooHard:Dd K a.c_TooHard
 m_NoSheet:mg "NoSheet"=some (.ref a.c_NoSheet)
 h_NoSheet:Dd K a.c_NoSheet
 m_NoRow:mg "NoRow"=some (.ref a.c_NoRow)
 h_NoRow:Dd K a.c_NoRow
 m_NoNumber:mg "NoNumber"=some (.ref a.c_NoNumber)
 h_NoNumber:Dd K a.c_NoNumber
 m_NoChange:mg "NoChange"=some (.ref a.c_NoChange)
 h_NoChange:Dd K a.c_NoChange
 m_NoBundle:mg "NoBundle"=some (.ref a.c_NoBundle)
 h_NoBundle:Dd K a.c_NoBundle
 m_NoBallot:mg "NoBallot"=some (.ref a.c_NoBallot)
 h_NoBallot:Dd K a.c_NoBallot
 m_Ended:mg "Ended"=some (.ref a.c_Ended)
 h_Ended:Dd K a.c_Ended
 m_WrongNumber:mg "WrongNumber"=some (.ref a.c_WrongNumber)
 h_WrongNumber:Dd K a.c_WrongNumber
 m_PollError:mg "PollError"=some (.ref a.c_PollError)
 h_PollError:Dd K a.c_PollError
 m_Pairs:mg "Pairs"=some (.ref a.c_Pairs)
 cl_Pairs:Cls K a.c_Pairs
 mk_Pairs:Mk K a.c_Pairs a.f_Way_init
 me_Pairs_ahead:JN K a.c_Pairs "ahead" a.f_Way_ahead
 me_Pairs_picks_by:JN K a.c_Pairs "picks_by" a.f_Pairs_picks_by
 me_Pairs_counted:JN K a.c_Pairs "counted" a.f_Pairs_counted
 me_Pairs_told_by:JN K a.c_Pairs "told_by" a.f_Pairs_told_by
 me_Pairs_outcome:JN K a.c_Pairs "outcome" a.f_Way_outcome
 na_Pairs_hands:Cr K a.c_Pairs "hands"
 na_Pairs_seats:Cr K a.c_Pairs "seats"
 na_Pairs_lots:Cr K a.c_Pairs "lots"
 ia_Pairs_Way:OQ K a.c_Pairs a.c_Way
 m_Way:mg "Way"=some (.ref a.c_Way)
 cl_Way:Cls K a.c_Way
 x_NoWay:NM K a.c_NoWay
 k_NoWay:JG K a.c_NoWay
 v_NoWay:PySem.W.subIn K (.ref a.c_NoWay) (.type "ValueError")=some true
 s_NoWay_NoWay:PySem.W.subIn K (.ref a.c_NoWay) (.ref a.c_NoWay)=some true
 s_NoWay_Torn:PySem.W.subIn K (.ref a.c_NoWay) (.ref a.c_Torn)=some false
 s_NoWay_TooHard:PySem.W.subIn K (.ref a.c_NoWay) (.ref a.c_TooHard)=some false
 s_NoWay_NoSheet:PySem.W.subIn K (.ref a.c_NoWay) (.ref a.c_NoSheet)=some false
 s_NoWay_NoRow:PySem.W.subIn K (.ref a.c_NoWay) (.ref a.c_NoRow)=some false
 s_NoWay_NoNumber:PySem.W.subIn K (.ref a.c_NoWay) (.ref a.c_NoNumber)=some false
 s_NoWay_NoChange:PySem.W.subIn K (.ref a.c_NoWay) (.ref a.c_NoChange)=some false
 s_NoWay_NoBundle:PySem.W.subIn K (.ref a.c_NoWay) (.ref a.c_NoBundle)=some false
 s_NoWay_NoBallot:PySem.W.subIn K (.ref a.c_NoWay) (.ref a.c_NoBallot)=some false
 s_NoWay_Ended:PySem.W.subIn K (.ref a.c_NoWay) (.ref a.c_Ended)=some false
 s_NoWay_WrongNumber:PySem.W.subIn K (.ref a.c_NoWay) (.ref a.c_WrongNumber)=some false
 s_NoWay_PollError:PySem.W.subIn K (.ref a.c_NoWay) (.ref a.c_PollError)=some true
 lam:Ft base mg a.lc a.lP
 lcode:a.d_reached_from.code=.ref a.lc
local macro_rules | `(tactic| trivial)=>`(tactic| refine Sz.neg (by trivial))
local macro_rules | `(tactic| trivial)=>`(tactic| refine Sz.fdiv (by trivial))
local macro_rules | `(tactic| trivial)=>`(tactic| refine Sz.sub (by trivial) (by trivial))
local macro_rules | `(tactic| trivial)=>`(tactic| refine Sz.add (by trivial) (by trivial))
local macro_rules | `(tactic| trivial)=>`(tactic| refine Sz.mul (by trivial) (by trivial))
local macro_rules | `(tactic| trivial)=>`(tactic| exact Oi _ (by first | decide | decide +kernel) (szd 200))
local macro_rules | `(tactic| trivial)=>`(tactic| first | assumption | exact szd 64 | exact szd 200 | exact szd 1000)
local macro_rules | `(tactic| and_intros)=>`(tactic| (repeat (first | refine ⟨_,rfl,?_⟩ | refine ⟨_,_,rfl,rfl,?_⟩ | refine ⟨rfl,?_⟩ | refine ⟨(by show (_:Int)≠0;first | decide | decide +kernel),?_⟩ | refine ⟨⟨(by show (_:Int)≠0;decide),szd 9000⟩,?_⟩ | refine ⟨(by show MX _ _;exact ⟨by decide,by decide,by decide⟩),?_⟩ | refine ⟨(by show OS _ _;refine ⟨_,_,(by trivial),(by trivial),?_⟩;decide +kernel),?_⟩ | refine ⟨_,_,_,_,rfl,rfl,SqL.of (by assumption),(by rfl),?_⟩ | refine ⟨_,_,_,_,rfl,rfl,SqT.of (by assumption),(by rfl),?_⟩ | refine ⟨_,_,rfl,.inl (SqL.of (by assumption)),?_⟩ | refine ⟨_,_,rfl,.inr (SqT.of (by assumption)),?_⟩)))
section
variable {P:Program} {w:World} {K:PySem.W.Frag} {mg:Str->Option Value} {base:Heap} {ad:Ads}
theorem Lp (T:Tx K mg base ad):AT P w K mg base CX0 1 ad.f_all_of ad.d_all_of ["hands"] QM:=by
 refine T.F_all_of.ok Lk (fun vs H Q E h=>?_) (fun cdv A outer s H vs Q E hr h=>?_)
 ·obtain ⟨h,rfl,_⟩:=h
  rfl
 obtain ⟨h,rfl,h0,h1,q⟩:=h
 refine ⟨_,(@Ah _ _ _ (@As _ _ _ _ (@Aj _ _ _ _ _ _ _ _ NJ (@Aj _ _ _ _ _ _ _ _ Ki Ag (pv 0)) Ag))),?_⟩
 exact ⟨_,rfl,_,_,rfl,rfl,⟨h0,by omega,by decide⟩,_,_,rfl,rfl,q⟩
theorem EM (T:Tx K mg base ad):AT P w K mg base CX0 1 ad.f_with_one ad.d_with_one ["mask","hand"] P0:=by
 refine T.F_with_one.ok Jc (fun vs H Q E h=>?_) (fun cdv A outer s H vs Q E hr h=>?_)
 ·obtain ⟨m,h,rfl,_⟩:=h
  rfl
 obtain ⟨m,h,rfl,h0,h1,q⟩:=h
 refine ⟨_,(@Ah _ _ _ (@As _ _ _ _ (@Aj _ _ _ _ _ _ _ _ Qz (pv 0) (@Aj _ _ _ _ _ _ _ _ Ki Ag (pv 1))))),?_⟩
 exact ⟨_,rfl,_,rfl,_,_,rfl,rfl,⟨h0,by omega,by decide⟩,_,_,rfl,rfl,q⟩
theorem FY (T:Tx K mg base ad):AT P w K mg base CX0 1 ad.f_members ad.d_members ["mask"] Mc:=by
 refine T.F_members.ok Jt (fun vs H Q E h=>?_) (fun cdv A outer s H vs Q E hr h=>?_)
 ·obtain ⟨m,rfl,_⟩:=h
  rfl
 obtain ⟨m,rfl,m0,m1,q⟩:=h
 refine ⟨_,(@Ah _ _ _ (@As _ _ _ _ (Bl (fsc:=Ae Cl) (N:=["mask"]) (Nc:=["mask","hand"]) rfl rfl ⟨rfl,by decide +kernel,by decide +kernel,rfl,by decide +kernel,rfl,by decide +kernel,rfl,by decide +kernel⟩ rfl (Bp rfl T.z_range (@Aa _ _ _ _ _ (Pn PySem.F.plainAttrs_int PySem.F.slot_int_bit_length PySem.F.type_int_bit_length NT (pv 0)) Ac (by rfl))) (fun _ _ _ _=>(DO (@Ax _ _ _ _ _ _ _ _ KK (@Aj _ _ _ _ _ _ _ _ ML (@Aj _ _ _ _ _ _ _ _ P9 (pv 0) (pv 1)) Ag) Ag (Az _)))) (fun _ _ _ _=>(pv 1))))),?_⟩
 have hb:(Builtin.Int.intBits m)<=12:=intBits_le_iff.mpr (by show m.natAbs < 4096;omega)
 refine ⟨_,rfl,rfl,m,rfl,rfl,_,rfl,by omega,by omega,?_⟩
 have en:((Builtin.Int.intBits m:Nat):Int).toNat=Builtin.Int.intBits m:=by omega
 rw [en]
 refine B6 (A5 (by omega)) (fun D i ys H'=>ys=(hands i (bit m)).map V.int/\H'=upd H D (.lst ys)) (fun D hD=>⟨rfl,rfl⟩) (fun D i ys H' ⟨e1,e2⟩=>by rw [e2,e1];exact ⟨Ab,by rw [List.length_map];exact GU i (bit m)⟩) ?_ ?_
 ·rintro D i ys H' K1 K2 hD hi ⟨e1,rfl⟩ k1 k2
  have ei:(0+(i:Int)).toNat=i:=by omega
  refine ⟨_,rfl,_,rfl,_,_,rfl,rfl,(by show (0:Int)<=0+(i:Int);omega),_,_,rfl,rfl,rfl,_,rfl,?_⟩
  dsimp only
  rw [show decide (V.int (Builtin.bitAnd (m / 2 ^ (0+(i:Int)).toNat) 1)=V.int 1)=bit m i from by rw [LQ,ei]]
  have ms:=Do i (bit m)
  cases e:bit m i with
  | true =>
    rw [e,if_pos rfl] at ms
    refine M0 ⟨_,rfl,?_⟩
    refine k1 _ _ Ab ⟨?_,by rw [Bf]⟩
    rw [ms,List.map_append,e1,Int.zero_add]
    rfl
  | false =>
    rw [e,if_neg (by decide)] at ms
    refine Q4 ?_
    exact k2 _ ⟨by rw [ms];exact e1,rfl⟩
 ·rintro D ys H' hD ⟨rfl,rfl⟩
  refine q D _ hD (Ad hD _) ?_
  rw [Ab,Nu m0 m1]
theorem EY (T:Tx K mg base ad):AT P w K mg base CX0 1 ad.f_hands_of ad.d_hands_of ["leads"] Mb:=by
 refine T.F_hands_of.ok HV (fun vs H Q E h=>?_) (fun cdv A outer s H vs Q E hr h=>?_)
 ·obtain ⟨a,t,h,rfl,_⟩:=h
  rfl
 obtain ⟨a,t,h,rfl,ha,hl,h12,q⟩:=h
 refine ⟨_,(@Ah _ _ _ (@As _ _ _ _ (Bv rfl (by rfl) T.z_list (by rfl) T.z_range (@Am _ _ _ _ _ _ _ _ _ A8 (by rfl) T.z_len PySem.boot_len (@Aa _ _ _ _ _ (pv 0) Ac (by rfl)) (by decide) (by decide) (by rfl) (by rfl))))),?_⟩
 and_intros
 have e:(vtb t).length=h:=by unfold vtb;rw [List.length_map,hl]
 refine ⟨by omega,fun l hl0=>?_⟩
 rw [e,show (List.map (fun i:Nat=>V.int (i:Int)) (List.range h))=(ups h).map V.int from (by unfold ups;rw [List.map_map];rfl)]
 exact q l _ hl0 (Ad hl0 _) Ab
theorem Lm (T:Tx K mg base ad):AT P w K mg base CX0 1 ad.f_way_by ad.d_way_by ["reached","x","y"] Os:=by
 refine T.F_way_by.ok GE (fun vs H Q E h=>?_) (fun cdv A outer s H vs Q E hr h=>?_)
 ·obtain ⟨t,h,x,y,L,be,rfl,_⟩:=h
  rfl
 obtain ⟨t,h,x,y,L,be,rfl,td,hy,yx,h12,q⟩:=h
 refine ⟨_,(@Af _ _ _ _ _ (@An _ _ (3) _ _ _ _ GE.nd rfl (Or.inl rfl) (@Bk _ _ _ _ (@Aa _ _ _ _ _ (pv 2) Ac (by rfl))) (by rfl) (by first | exact .inl rfl | exact .inr rfl | assumption)) (@Af _ _ _ _ _ (Ev PassesOwn.never (@Ax _ _ _ _ _ _ _ _ Eb (@A4 _ _ _ _ _ _ _ AH (pv 3) Ag (fun _ _=>rfl)) (pv 1) (Az _)) (@Ah _ _ _ (@Cc _ _ _ _ (CY PySem.F.plainAttrs_list PySem.F.slot_list_insert PySem.F.type_list_insert LJ (pv 3) (@Aa _ _ _ _ _ Ag (@Aa _ _ _ _ _ (@A4 _ _ _ _ _ _ _ AH (@A4 _ _ _ _ _ _ _ Dn (pv 0) Ag (fun _ _=>rfl)) (@A4 _ _ _ _ _ _ _ AH (pv 3) Ag (fun _ _=>rfl)) (fun _ _=>rfl)) Ac (by rfl)) (by rfl))) (by rfl)))) (@Ah _ _ _ (@As _ _ _ _ (pv 3))))),?_⟩
 obtain ⟨b,f,bf,et,eb,ef,re⟩:=td.is
 obtain ⟨rk,par⟩:=re.par
 and_intros
 refine ⟨(by show 1<=sizeLine;decide),fun l hl=>?_⟩
 have s1:=Ad hl (.lst [V.int (y:Int)])
 have e1:(upd H l (.lst [V.int (y:Int)])) l=some (.lst ((Ed (y :: [])).map V.int)):=Ab
 generalize upd H l (.lst [V.int (y:Int)])=H1 at s1 e1 ⊢
 refine ⟨fun m σ' H'=>∃(w:Nat) (r:List Nat),σ'=[some (.ref t),some (.int (x:Int)),some (.int (y:Int)),some (.ref l)]/\Ao H H'/\H' l=some (.lst ((Ed (w :: r)).map V.int))/\Gg h x y L be rk w r/\rk w=m,⟨_,y,[],rfl,s1,e1,Gg.start rk hy yx,rfl⟩,?_⟩
 rintro m σ' H' ⟨w,r,rfl,s2,e2,pt,rm⟩
 have wh:w < h:=pt.all w (List.mem_cons_self ..)
 have at0:atI ((Ed (w :: r)).map V.int) ((0:Nat):Int)=some (.int (w:Int)):=E2 rfl
 have rl:r.length<=12:=by
  have:=DN (xs:=Ed (w :: r)) (ys:=ups h) (List.Pairwise.map _ (fun a b (ne:a≠b) e=>ne (Int.ofNat.inj e)) (pt.rise.imp fun z e=>by rw [e] at z;exact Nat.lt_irrefl _ z)) fun z mz=>by
   obtain ⟨v,mv,rfl⟩:=List.mem_map.mp mz
   exact List.mem_map.mpr ⟨v,List.mem_range.mpr (pt.all v mv),rfl⟩
  unfold Ed at this
  rw [List.length_map,Bc,List.length_cons] at this
  omega
 refine ⟨_,rfl,l,_,_,_,rfl,rfl,SqL.of e2,at0,?_⟩
 and_intros
 by_cases c:w=x
 ·refine ifF (JE (by rw [c])) ?_
  subst c
  and_intros
  exact q l (w :: r) H' hl s2 e2 pt.way
 ·refine ifT (Pr fun e=>c (Int.ofNat.inj e)) ?_
  obtain ⟨p,hp,p1,p2,p3,p4⟩:=par w wh c
  refine ⟨fun σ' H'=>∃(w':Nat) (r:List Nat),σ'=[some (.ref t),some (.int (x:Int)),some (.int (y:Int)),some (.ref l)]/\Ao H H'/\H' l=some (.lst ((Ed (w' :: r)).map V.int))/\Gg h x y L be rk w' r/\rk w' < m,fun σ' H' ⟨w',r,a1,a2,a3,a4,a5⟩=>⟨rk w',a5,w',r,a1,a2,a3,a4,rfl⟩,?_⟩
  have et2:=s2 _ _ et
  and_intros
  refine ⟨.inl ⟨rfl,_,SqL.of e2⟩,?_⟩
  and_intros
  refine ⟨l,_,_,_,rfl,rfl,SqL.of e2,at0,?_⟩
  refine ⟨f,_,_,_,rfl,rfl,SqL.of (s2 _ _ ef),atG (by rw [re.lenf];exact wh),?_⟩
  rw [p1]
  refine ⟨l,_,0,V.int (p:Int),rfl,rfl,e2,Nat.zero_le _,Bq (by unfold Ed;rw [List.length_map,List.length_map,List.length_cons];omega),?_⟩
  exact ⟨p,w :: r,rfl,A9 s2 hl,by rw [Ab];rfl,pt.step c hp p2 p3 p4,by omega⟩
theorem D8 (T:Tx K mg base ad):AT P w K mg base CX0 1 ad.f_is_whole ad.d_is_whole ["thing"] (QS K):=by
 refine T.F_is_whole.ok HJ (fun vs H Q E h=>?_) (fun cdv A outer s H vs Q E hr h=>?_)
 ·obtain ⟨x,b,rfl,_⟩:=h
  rfl
 obtain ⟨x,b,rfl,⟨t,b1,b2,ty,k1,k2,e⟩,q⟩:=h
 refine ⟨_,(@Ah _ _ _ (@As _ _ _ _ (@Dm _ _ _ _ _ _ _ (@Am _ _ _ _ _ _ _ _ _ CD (by rfl) T.z_isinstance PyProof.Rows.boot_isinstance (@Aa _ _ _ _ _ (pv 0) (@Aa _ _ _ _ _ (CN (v:=.ty "int") rfl T.z_int PyProof.Rows.boot_int rfl) Ac (by rfl)) (by rfl)) (by decide) (by decide) (by rfl) (by rfl)) (@DG _ _ _ _ _ (@Hu _ _ _ _ (@Am _ _ _ _ _ _ _ _ _ CD (by rfl) T.z_isinstance PyProof.Rows.boot_isinstance (@Aa _ _ _ _ _ (pv 0) (@Aa _ _ _ _ _ (CN (v:=.ty "bool") rfl T.z_bool PyProof.Rows.boot_bool rfl) Ac (by rfl)) (by rfl)) (by decide) (by decide) (by rfl) (by rfl))))))),?_⟩
 refine ⟨_,rfl,_,_,_,_,rfl,ty,k1,_,rfl,?_⟩
 subst e
 cases b1 with
 | true =>
   refine M0 ?_
   exact ⟨_,rfl,_,_,_,_,rfl,ty,k2,_,rfl,q⟩
 | false=>exact Q4 q
theorem Hg (T:Tx K mg base ad):AT P w K mg base CX0 1 ad.f_is_beaten ad.d_is_beaten ["strengths","hand","others"] MU:=by
 refine T.F_is_beaten.ok HB (fun vs H Q E h=>?_) (fun cdv A outer s H vs Q E hr h=>?_)
 ·obtain ⟨r,l,rs,h,i,F,zs,rfl,_⟩:=h
  rfl
 obtain ⟨r,l,rs,h,i,F,zs,rfl,hr0,tb,hi,hl,sub,z60,q⟩:=h
 refine ⟨_,(@Ah _ _ _ (@As _ _ _ _ (@Am _ _ _ _ _ _ _ _ _ (NB rfl) (by rfl) T.z_any PyProof.Rows.boot_any (@Aa _ _ _ _ _ (Bl (fsc:=Ae B8) (N:=["strengths","hand","others"]) (Nc:=["strengths","hand","others","other"]) rfl rfl ⟨rfl,by decide +kernel,by decide +kernel,rfl,by decide +kernel,rfl,by decide +kernel,rfl,by decide +kernel⟩ rfl (AO (pv 2)) (fun _ _ _ _=>Bm) (fun _ _ _ _=>(@DJ _ _ _ _ _ _ _ _ IV (@A4 _ _ _ _ _ _ _ (Ba K) (@A4 _ _ _ _ _ _ _ (Ba K) (pv 0) (pv 3) (fun _ _=>rfl)) (pv 1) (fun _ _=>rfl)) (@A4 _ _ _ _ _ _ _ (Ba K) (@A4 _ _ _ _ _ _ _ (Ba K) (pv 0) (pv 1) (fun _ _=>rfl)) (pv 3) (fun _ _=>rfl)) (Az _)))) Ac (by rfl)) (by decide) (by decide) (by rfl) (by rfl)))),?_⟩
 refine ⟨_,rfl,l,rfl,⟨_,SqL.of hl⟩,?_⟩
 refine AV (xs:=zs.map V.int) (by rw [List.length_map];exact A5 (by omega)) (fun D k ys J=>ys=((zs.take k).map (CO F (i:Int))).map V.bl/\J=upd H D (.lst ys)) (fun D hD=>⟨rfl,rfl⟩) (fun D k ys J ⟨f1,f2⟩=>⟨by rw [f2];exact Ab,by rw [f1,List.length_map,List.length_map];exact List.length_take_le _ _⟩) (fun D k ys J hD ⟨_,f2⟩=>by rw [f2];exact SqL.of (Ad hD _ _ _ hl)) ?_ ?_
 ·rintro D k w ys J K1 K2 hD hw ⟨f1,rfl⟩ k1 k2
  obtain ⟨z,hz,rfl⟩:=int_at hw
  obtain ⟨j,hj,rfl⟩:=sub z (List.mem_of_getElem? hz)
  have sD:=Ad hD (.lst ys)
  obtain ⟨ai,_,_,a3,a4⟩:=(tb.same sD).row hi
  obtain ⟨aj,_,_,b3,b4⟩:=(tb.same sD).row hj
  have er:=sD _ _ hr0
  refine yes (ifT rfl ?_)
  refine ⟨_,rfl,_,rfl,r,_,_,_,rfl,rfl,SqL.of er,b3,?_⟩
  refine ⟨_,rfl,aj,_,_,_,rfl,rfl,SqL.of b4,Dj (F j) hi,?_⟩
  refine ⟨_,rfl,_,rfl,r,_,_,_,rfl,rfl,SqL.of er,a3,?_⟩
  refine ⟨_,rfl,ai,_,_,_,rfl,rfl,SqL.of a4,Dj (F i) hj,?_⟩
  and_intros
  refine k1 _ _ Ab ⟨?_,by rw [Bf]⟩
  rw [f1,List.take_add_one,hz,List.map_append,List.map_append]
  rfl
 rintro D ys H1 hD ⟨rfl,rfl⟩
 rw [List.length_map,List.take_of_length_le (Nat.le_refl _)]
 refine ⟨D,_,rfl,SqL.of Ab,?_⟩
 rw [show (zs.map (CO F (i:Int))).any id=BM F (i:Int) zs from (by unfold BM;rw [List.any_map];rfl)]
 exact q _ (Ad hD _)
theorem HF (T:Tx K mg base ad):AT P w K mg base CX0 1 ad.f_law_whole ad.d_law_whole ["_law_found"] OB:=by
 refine T.F_law_whole.ok Hk (fun vs H Q E h=>?_) (fun cdv A outer s H vs Q E hr h=>?_)
 ·obtain ⟨c,rfl,_⟩:=h
  rfl
 obtain ⟨c,rfl,q⟩:=h
 refine ⟨_,(@Ah _ _ _ (@As _ _ _ _ (@Dm _ _ _ _ _ _ _ (@Am _ _ _ _ _ _ _ _ _ CD (by rfl) T.z_isinstance PyProof.Rows.boot_isinstance (@Aa _ _ _ _ _ (pv 0) (@Aa _ _ _ _ _ (CN (v:=.ty "int") rfl T.z_int PyProof.Rows.boot_int rfl) Ac (by rfl)) (by rfl)) (by decide) (by decide) (by rfl) (by rfl)) (@DG _ _ _ _ _ (@Hu _ _ _ _ (@Am _ _ _ _ _ _ _ _ _ CD (by rfl) T.z_isinstance PyProof.Rows.boot_isinstance (@Aa _ _ _ _ _ (pv 0) (@Aa _ _ _ _ _ (CN (v:=.ty "bool") rfl T.z_bool PyProof.Rows.boot_bool rfl) Ac (by rfl)) (by rfl)) (by decide) (by decide) (by rfl) (by rfl))))))),?_⟩
 refine ⟨_,rfl,_,_,_,_,rfl,CI.int c,EN,_,rfl,?_⟩
 refine M0 ?_
 exact ⟨_,rfl,_,_,_,_,rfl,CI.int c,Ew,_,rfl,q⟩
theorem D9 (T:Tx K mg base ad):AT P w K mg base CX0 1 ad.f_law_cell ad.d_law_cell ["_law_script","_law_k"] (QL K):=by
 refine T.F_law_cell.ok HI (fun vs H Q E h=>?_) (fun cdv A outer s H vs Q E hr h=>?_)
 ·obtain ⟨p,ns,k,rfl,_⟩:=h
  rfl
 obtain ⟨p,ns,k,rfl,hS,h63,k0,k1,q⟩:=h
 refine ⟨_,(@Af _ _ _ _ _ (@CK _ _ _ _ _ _ _ _ (@Ax _ _ _ _ _ _ _ _ FV (pv 1) (@Am _ _ _ _ _ _ _ _ _ A8 (by rfl) T.z_len PySem.boot_len (@Aa _ _ _ _ _ (pv 0) Ac (by rfl)) (by decide) (by decide) (by rfl) (by rfl)) (Az _)) (@Ah _ _ _ (@As _ _ _ _ (@Aj _ _ _ _ _ _ _ _ AM (@A4 _ _ _ _ _ _ _ AH (pv 0) (pv 1) (fun _ _=>rfl)) (@Aj _ _ _ _ _ _ _ _ Hj Ag Ag)))) Bb) (@Ah _ _ _ (@As _ _ _ _ (@Aj _ _ _ _ _ _ _ _ AM (@Aj _ _ _ _ _ _ _ _ DM (@Aj _ _ _ _ _ _ _ _ AU (@Aj _ _ _ _ _ _ _ _ DM (pv 1) (pv 1)) Ag) Ag) Ag)))),?_⟩
 have hl:(ns.map V.int).length=ns.length:=List.length_map _
 have szk:Sz 64 k:=EU (by omega) (by omega)
 have p40:(0:Int) < 10 ^ (40:Int).toNat:=by decide +kernel
 refine ⟨_,rfl,_,rfl,p,_,rfl,.inl hS,_,_,rfl,rfl,_,rfl,?_⟩
 refine Om (fun c=>?_) (fun c=>?_)
 ·have c':k < (((ns.map V.int).length:Nat):Int):=of_decide_eq_true c
  rw [hl] at c'
  obtain ⟨v,hv⟩:=Of k0 c'
  refine ⟨_,rfl,_,rfl,p,_,_,_,rfl,rfl,hS,hv,_,_,rfl,rfl,PJ,_,_,rfl,rfl,(Int.ne_of_gt p40),?_⟩
  exact q _ (Be v p40).1 (Be v p40).2
 ·and_intros
  have m:=Be ((k*k+7)*48271) (show (0:Int) < 1009 by decide)
  exact q _ m.1 (Int.lt_trans m.2 (by decide))
theorem Ds (T:Tx K mg base ad):AT P w K mg base CX0 1 ad.f_law_mixed ad.d_law_mixed ["_law_cell_here","_law_by"] OM:=by
 refine T.F_law_mixed.ok Dk (fun vs H Q E h=>?_) (fun cdv A outer s H vs Q E hr h=>?_)
 ·obtain ⟨c,b,rfl,_⟩:=h
  rfl
 obtain ⟨c,b,rfl,szc,szb,q⟩:=h
 refine ⟨_,(@Af _ _ _ _ _ (@An _ _ (2) _ _ _ _ Dk.nd rfl (Or.inl rfl) (@Aj _ _ _ _ _ _ _ _ AU (@Aj _ _ _ _ _ _ _ _ DM (pv 0) Ag) (@Aj _ _ _ _ _ _ _ _ DM (pv 1) Ag)) (by rfl) (by first | exact .inl rfl | exact .inr rfl | assumption)) (@Af _ _ _ _ _ (@An _ _ (2) _ _ _ _ Dk.nd rfl (Or.inl rfl) (@Aj _ _ _ _ _ _ _ _ AM (@Aj _ _ _ _ _ _ _ _ AU (pv 2) Ag) (@Aj _ _ _ _ _ _ _ _ AU (@Aj _ _ _ _ _ _ _ _ Hj Ag Ag) Ag)) (by rfl) (by first | exact .inl rfl | exact .inr rfl | assumption)) (@Ah _ _ _ (@As _ _ _ _ (@Aj _ _ _ _ _ _ _ _ AZ (@Aj _ _ _ _ _ _ _ _ AM (@Aj _ _ _ _ _ _ _ _ DM (pv 2) (pv 2)) (@Aj _ _ _ _ _ _ _ _ AU (@Aj _ _ _ _ _ _ _ _ Hj Ag Ag) Ag)) Ag))))),?_⟩
 and_intros
 exact q _ (Ky _).1 (Ky _).2
theorem Dp (T:Tx K mg base ad):AT P w K mg base CX0 1 ad.f_law_order ad.d_law_order ["_law_cell_here","_law_hands"] Le:=by
 refine T.F_law_order.ok C8 (fun vs H Q E h=>?_) (fun cdv A outer s H vs Q E hr h=>?_)
 ·obtain ⟨c,h,rfl,_⟩:=h
  rfl
 obtain ⟨c,h,rfl,c0,c1,h1,h12,q⟩:=h
 refine ⟨_,(@Af _ _ _ _ _ (@An _ _ (2) _ _ _ _ C8.nd rfl (Or.inl rfl) (Bv rfl (by rfl) T.z_list (by rfl) T.z_range (pv 1)) (by rfl) (by first | exact .inl rfl | exact .inr rfl | assumption)) (@Af _ _ _ _ _ (@An _ _ (3) _ _ _ _ C8.nd rfl (Or.inl rfl) (@Bk _ _ _ _ Ac) (by rfl) (by first | exact .inl rfl | exact .inr rfl | assumption)) (@Af _ _ _ _ _ (Ev PassesOwn.never (@Ax _ _ _ _ _ _ _ _ (Du (K:=K) hr.units) (pv 2) (@Bk _ _ _ _ Ac) (Az _)) (@Af _ _ _ _ _ (@Cc _ _ _ _ (CY PySem.F.plainAttrs_list PySem.F.slot_list_append PySem.F.type_list_append BH (pv 3) (@Aa _ _ _ _ _ (CY PySem.F.plainAttrs_list PySem.F.slot_list_pop PySem.F.type_list_pop N9 (pv 2) (@Aa _ _ _ _ _ (@Aj _ _ _ _ _ _ _ _ AM (pv 0) (@Am _ _ _ _ _ _ _ _ _ A8 (by rfl) T.z_len PySem.boot_len (@Aa _ _ _ _ _ (pv 2) Ac (by rfl)) (by decide) (by decide) (by rfl) (by rfl))) Ac (by rfl))) Ac (by rfl))) (by rfl)) (@Ah _ _ _ (@An _ _ (0) _ _ _ _ C8.nd rfl (Or.inl rfl) (@Aj _ _ _ _ _ _ _ _ AZ (pv 0) (@Aj _ _ _ _ _ _ _ _ AU (@Am _ _ _ _ _ _ _ _ _ A8 (by rfl) T.z_len PySem.boot_len (@Aa _ _ _ _ _ (pv 2) Ac (by rfl)) (by decide) (by decide) (by rfl) (by rfl)) Ag)) (by rfl) (by first | exact .inl rfl | exact .inr rfl | assumption))))) (@Ah _ _ _ (@As _ _ _ _ (pv 3)))))),?_⟩
 obtain ⟨n,rfl⟩:∃n:Nat,h=(n:Int):=⟨h.toNat,by omega⟩
 and_intros
 refine ⟨by omega,fun l hl=>?_⟩
 rw [show (List.map (fun i:Nat=>V.int (i:Int)) (List.range n))=(ups n).map V.int from (by unfold ups;rw [List.map_map];rfl)]
 have s1:=Ad hl (.lst ((ups n).map V.int))
 have e1:(upd H l (.lst ((ups n).map V.int))) l=some (.lst ((ups n).map V.int)):=Ab
 generalize upd H l (.lst ((ups n).map V.int))=H1 at s1 e1 ⊢
 refine ⟨(by show 0<=sizeLine;decide),fun lo hlo0=>?_⟩
 have ll:l≠lo:=fun z=>by rw [<- z,e1] at hlo0;cases hlo0
 have hlo:H lo=none:=none_of s1 hlo0
 have s2:=s1.trans (Ad hlo0 (.lst []))
 have e2:(upd H1 lo (.lst [])) l=some (.lst ((ups n).map V.int)):=by rw [Ai ll];exact e1
 have e3:(upd H1 lo (.lst [])) lo=some (.lst (([]:List Int).map V.int)):=Ab
 generalize upd H1 lo (.lst [])=H2 at s2 e2 e3 ⊢
 refine ⟨fun m σ' H'=>∃(z:Int) (left got:List Int),σ'=[some (.int z),some (.int (n:Int)),some (.ref l),some (.ref lo)]/\0<=z/\z < 10 ^ 40/\Ao H H'/\H' l=some (.lst (left.map V.int))/\H' lo=some (.lst (got.map V.int))/\left.length=m/\left.length<=12/\got.length<=12 - left.length/\(got++left).Perm (ups n),⟨n,c,ups n,[],rfl,c0,c1,s2,e2,e3,Bc n,by rw [Bc];omega,Nat.zero_le _,List.Perm.refl _⟩,?_⟩
 rintro m σ' H' ⟨z,left,got,rfl,z0,z1,s3,f1,f2,f3,f6,f4,f5⟩
 refine ⟨_,rfl,(by show 0<=sizeLine;decide),fun z3 hz3=>?_⟩
 have s34:=Ad hz3 (.lst [])
 have e4:(upd H' z3 (.lst [])) z3=some (.lst (([]:List Int).map V.int)):=Ab
 generalize upd H' z3 (.lst [])=H4 at s34 e4 ⊢
 refine ⟨.list (left.map .int),.list (([]:List Int).map .int),.lst (SqL.of (s34 _ _ f1)) (.ints _),.lst (SqL.of e4) (.ints []),(At _).2,(At _).2,?_⟩
 rw [show PyData.eqv (.list (left.map .int)) (.list (([]:List Int).map .int))=decide (left=[]) from Cz _ _]
 refine ⟨_,rfl,?_⟩
 have g1:=s34 _ _ f1
 have g2:=s34 _ _ f2
 have s4:=s3.trans s34
 by_cases cl:left=[]
 ·refine ifF (by rw [decide_eq_true cl];rfl) ?_
  rw [cl,List.append_nil] at f5
  and_intros
  exact q lo got H4 s4 g2 (by rw [Int.toNat_natCast];exact f5)
 ·refine ifT (by rw [decide_eq_false cl];rfl) ?_
  have pl:0 < left.length:=List.length_pos_iff.mpr cl
  refine ⟨fun σ' H'=>∃(z:Int) (left' got':List Int),σ'=[some (.int z),some (.int (n:Int)),some (.ref l),some (.ref lo)]/\0<=z/\z < 10 ^ 40/\Ao H H'/\H' l=some (.lst (left'.map V.int))/\H' lo=some (.lst (got'.map V.int))/\left'.length=m - 1/\left'.length<=12/\got'.length<=12 - left'.length/\(got'++left').Perm (ups n),fun σ' H' e=>⟨m - 1,by omega,e⟩,?_⟩
  have mm:=Be z (show (0:Int) < (left.length:Int) by omega)
  and_intros
  refine ⟨.inl ⟨rfl,_,SqL.of g2⟩,?_⟩
  and_intros
  refine ⟨.inl ⟨rfl,_,SqL.of g1⟩,?_⟩
  and_intros
  refine ⟨(by show (_:Int)≠0;rw [List.length_map];omega),?_⟩
  dsimp only
  rw [List.length_map]
  generalize z.fmod (left.length:Int)=j' at mm ⊢
  obtain ⟨j,rfl⟩:∃j:Nat,j'=(j:Int):=⟨j'.toNat,by omega⟩
  have hj:j < left.length:=by omega
  refine ⟨l,_,_,j,V.int left[j],rfl,rfl,g1,by omega,by omega,Ql (by rw [List.length_map];exact hj),(by rw [List.getElem?_map,List.getElem?_eq_getElem hj];rfl),?_⟩
  have k2:(upd H4 l (.lst ((left.map V.int).eraseIdx j))) lo=some (.lst (got.map V.int)):=by rw [Ai (Ne.symm ll)];exact g2
  have k1:(upd H4 l (.lst ((left.map V.int).eraseIdx j))) l=some (.lst ((left.eraseIdx j).map V.int)):=by rw [Ab,map_erase]
  have s5:=A9 (o:=.lst ((left.map V.int).eraseIdx j)) s4 hl
  generalize upd H4 l (.lst ((left.map V.int).eraseIdx j))=H5 at s5 k1 k2 ⊢
  refine ⟨lo,_,_,rfl,rfl,k2,(by rw [List.length_map];exact Bq (by omega)),?_⟩
  have k1':(upd H5 lo (.lst (got.map V.int++[V.int left[j]]))) l=some (.lst ((left.eraseIdx j).map V.int)):=by rw [Ai ll];exact k1
  have k2':(upd H5 lo (.lst (got.map V.int++[V.int left[j]]))) lo=some (.lst ((got++[left[j]]).map V.int)):=by rw [Ab,List.map_append];rfl
  have s6:=A9 (o:=.lst (got.map V.int++[V.int left[j]])) s5 hlo
  generalize upd H5 lo (.lst (got.map V.int++[V.int left[j]]))=H6 at s6 k1' k2' ⊢
  have le:(left.eraseIdx j).length=left.length - 1:=by rw [List.length_eraseIdx,if_pos hj]
  have lc:=KF (d:=((left.eraseIdx j).length:Int)+1) z0 (by omega) z1
  and_intros
  rw [List.length_map]
  refine ⟨⟨by show (_:Int)≠0;omega,(show Sz 64 (((left.eraseIdx j).length:Int)+1) from EU (by omega) (by omega)).mono (by decide)⟩,?_⟩
  exact ⟨_,_,_,rfl,lc.1,lc.2,s6,k1',k2',by omega,by omega,by rw [List.length_append];show got.length+1<=_;omega,erase_perm (List.getElem?_eq_getElem hj) f5⟩
theorem Ih (T:Tx K mg base ad):AT P w K mg base CX0 1 ad.f_law_slip ad.d_law_slip ["_law_ranks_here"] (P2 K):=by
 refine T.F_law_slip.ok DC (fun vs H Q E h=>?_) (fun cdv A outer s H vs Q E hr h=>?_)
 ·obtain ⟨p,rs,rfl,_⟩:=h
  rfl
 obtain ⟨p,rs,rfl,hS,h12,q⟩:=h
 refine ⟨_,(@Af _ _ _ _ _ (@An _ _ (1) _ _ _ _ DC.nd rfl (Or.inl rfl) (@Bk _ _ _ _ Ac) (by rfl) (by first | exact .inl rfl | exact .inr rfl | assumption)) (@Af _ _ _ _ _ (C5 PassesOwn.never rfl (AO (HG rfl (by rfl) T.z_sorted (by rfl) T.z_set (pv 0))) (AC (i:=2) DC.nd rfl (Or.inr rfl)) (@Ah _ _ _ (@Cc _ _ _ _ (CY PySem.F.plainAttrs_list PySem.F.slot_list_append PySem.F.type_list_append BH (pv 1) (@Aa _ _ _ _ _ (@Am _ _ _ _ _ _ _ _ _ (M9 rfl) (by rfl) T.z_sum PyProof.Rows.boot_sum (@Aa _ _ _ _ _ (Bl (fsc:=Ae BA) (N:=["_law_ranks_here","_law_tiers","_law_rank"]) (Nc:=["_law_ranks_here","_law_tiers","_law_rank","_law_hand"]) rfl rfl ⟨rfl,by decide +kernel,by decide +kernel,rfl,by decide +kernel,rfl,by decide +kernel,rfl,by decide +kernel⟩ rfl (Bp rfl T.z_range (@Aa _ _ _ _ _ (@Am _ _ _ _ _ _ _ _ _ A8 (by rfl) T.z_len PySem.boot_len (@Aa _ _ _ _ _ (pv 0) Ac (by rfl)) (by decide) (by decide) (by rfl) (by rfl)) Ac (by rfl))) (fun _ _ _ _=>(DO (N1 KK IV (@A4 _ _ _ _ _ _ _ (Ba K) (pv 0) (pv 3) (fun _ _=>rfl)) (pv 2) Ag))) (fun _ _ _ _=>(@Aj _ _ _ _ _ _ _ _ Ki Ag (pv 3)))) Ac (by rfl)) (by decide) (by decide) (by rfl) (by rfl)) Ac (by rfl))) (by rfl)))) (@Ah _ _ _ (@As _ _ _ _ (@BU _ _ _ _ _ _ _ _ _ Go (by rfl) T.z_tuple PyProof.Rows.boot_tuple (@Aa _ _ _ _ _ (Bl (fsc:=Ae BA) (N:=["_law_ranks_here","_law_tiers","_law_rank"]) (Nc:=["_law_ranks_here","_law_tiers","_law_rank","_law_tier"]) rfl rfl ⟨rfl,by decide +kernel,by decide +kernel,rfl,by decide +kernel,rfl,by decide +kernel,rfl,by decide +kernel⟩ rfl (AO (pv 1)) (fun _ _ _ _=>(DO (@Ax _ _ _ _ _ _ _ _ IV (pv 3) Ag (Az _)))) (fun _ _ _ _=>(pv 3))) Ac (by rfl)) (by decide) (by decide) (by rfl) (by rfl)))))),?_⟩
 refine ⟨(by show 0<=sizeLine;decide),fun l hl=>?_⟩
 have s0:=Ad hl (.lst [])
 have e0:(upd H l (.lst [])) l=some (.lst (([]:List Int).map V.int)):=Ab
 generalize upd H l (.lst [])=H0 at s0 e0 ⊢
 and_intros
 refine ⟨p,rs,rfl,s0.seq hS,by omega,fun l2 ms m1 m2 hl2=>?_⟩
 obtain rfl:=NS m1 m2
 have sl:=IH rs
 have s1:=s0.trans (Ad hl2 (.lst ((Cw rs).map V.int)))
 have e1:(upd H0 l2 (.lst ((Cw rs).map V.int))) l=some (.lst (([]:List Int).map V.int)):=Ad hl2 _ _ _ e0
 have el:(upd H0 l2 (.lst ((Cw rs).map V.int))) l2=some (.lst ((Cw rs).map V.int)):=Ab
 have ll:l2≠l:=fun z=>by rw [z,e0] at hl2;cases hl2
 generalize upd H0 l2 (.lst ((Cw rs).map V.int))=H1 at s1 e1 el ⊢
 refine ⟨l2,rfl,⟨_,SqL.of el⟩,Db (xs:=(Cw rs).map V.int) (fun i σ' H'=>∃v2:Option V,σ'=[some (.ref p),some (.ref l),v2]/\Ao H H'/\H' l2=some (.lst ((Cw rs).map V.int))/\H' l=some (.lst ((Gp rs ((Cw rs).take i)).map V.int))) ⟨none,rfl,s1,el,e1⟩ (fun i σ' H' _ ⟨_,_,_,e,_⟩=>SqL.of e) ?_ ?_⟩
 ·rintro i w σ' H' hw ⟨v2,rfl,s2,f1,f2⟩
  obtain ⟨r,hr0,rfl⟩:=int_at hw
  have il:=(List.getElem?_eq_some_iff.mp hr0).1
  have et:(Cw rs).take (i+1)=(Cw rs).take i++[r]:=by rw [List.take_add_one,hr0];rfl
  have hl':(rs.map V.int).length=rs.length:=List.length_map _
  and_intros
  refine ⟨.inl ⟨rfl,_,SqL.of f2⟩,?_⟩
  refine ⟨_,rfl,p,_,rfl,.inl (s2.seq hS),_,rfl,by omega,by omega,?_⟩
  have en:(((rs.map V.int).length:Nat):Int).toNat=rs.length:=by omega
  rw [en]
  refine B6 (A5 (by omega)) (fun D j ys H2=>ys=((hands j (fun k=>isR rs r k && decide (0 < r))).map fun h=>(1:Int)*2 ^ h.toNat).map V.int/\H2=upd H' D (.lst ys)) (fun D hD=>⟨rfl,rfl⟩) (fun D j ys H2 ⟨g1,g2⟩=>⟨by rw [g2];exact Ab,by rw [g1,List.length_map,List.length_map];exact GU _ _⟩) ?_ ?_
  ·rintro D j ys H2 K1 K2 hD hj ⟨g1,rfl⟩ k1 k2
   obtain ⟨z,hz⟩:∃z,rs[j]?=some z:=⟨_,List.getElem?_eq_getElem hj⟩
   have sD:=Ad hD (.lst ys)
   have ms:=Do j (fun k=>isR rs r k && decide (0 < r))
   have e0:(0:Int)+(j:Int)=(j:Int):=Int.zero_add _
   have no:(isR rs r j && decide (0 < r))=false->K2 (upd H' D (.lst ys)):=fun e=>by
    rw [e,if_neg (by decide)] at ms
    exact k2 _ ⟨by rw [ms];exact g1,rfl⟩
   refine ⟨_,rfl,_,rfl,p,_,_,_,rfl,rfl,(s2.trans sD).seq hS,(by rw [e0];exact atN hz),_,rfl,rfl,_,rfl,?_⟩
   by_cases c:z=r
   ·have ei:isR rs r j=true:=by unfold isR;rw [hz,c];exact decide_eq_true rfl
    refine ifT (QZ c) ?_
    refine ⟨_,_,rfl,rfl,_,rfl,?_⟩
    by_cases cz:0 < r
    ·refine ifT (decide_eq_true cz) ?_
     rw [show (isR rs r j && decide (0 < r))=true from by rw [ei,decide_eq_true cz];rfl,if_pos rfl] at ms
     refine ⟨_,rfl,_,_,rfl,rfl,(by rw [e0];exact LC (by omega)),?_⟩
     refine k1 _ _ Ab ⟨?_,by rw [Bf]⟩
     rw [ms,List.map_append,List.map_append,g1]
     show _=_++[V.int (1*2 ^ (j:Int).toNat)]
     rw [e0]
    ·exact ifF (decide_eq_false cz) (no (by rw [decide_eq_false cz,Bool.and_false]))
   ·have ei:isR rs r j=false:=by unfold isR;rw [hz];exact decide_eq_false fun e=>c (Option.some.inj e)
    refine ifF (Rb c) ?_
    exact ⟨_,rfl,ifF rfl (no (by rw [ei,Bool.false_and]))⟩
  ·rintro D ys H2 hD ⟨rfl,rfl⟩
   refine ⟨D,_,rfl,SqL.of Ab,?_⟩
   have e:((hands rs.length (fun k=>isR rs r k && decide (0 < r))).map fun h=>(1:Int)*2 ^ h.toNat).sum=if 0 < r then C6 rs r else 0:=by
    rw [show ((hands rs.length (fun k=>isR rs r k && decide (0 < r))).map fun h=>(1:Int)*2 ^ h.toNat).sum=AD rs.length (fun k=>isR rs r k && decide (0 < r)) from Eg _ _]
    by_cases cz:0 < r
    ·rw [if_pos cz]
     exact AY _ fun k _=>by rw [decide_eq_true cz,Bool.and_true]
    ·rw [if_neg cz]
     exact GS fun k _=>by rw [decide_eq_false cz,Bool.and_false]
   rw [e]
   have sD:=Ad hD (.lst (((hands rs.length (fun k=>isR rs r k && decide (0 < r))).map fun h=>(1:Int)*2 ^ h.toNat).map V.int))
   have g1:=sD _ _ f1
   have g2:=sD _ _ f2
   generalize upd H' D (.lst (((hands rs.length (fun k=>isR rs r k && decide (0 < r))).map fun h=>(1:Int)*2 ^ h.toNat).map V.int))=H3 at sD g1 g2 ⊢
   refine ⟨l,_,_,rfl,rfl,g2,(by unfold Gp;rw [List.length_map,List.length_map];exact Bq (Nat.le_trans (List.length_take_le _ _) (by omega))),?_⟩
   refine ⟨_,rfl,A9 (s2.trans sD) hl,by rw [Ai ll];exact g1,?_⟩
   rw [Ab,et]
   unfold Gp
   rw [List.map_append,List.map_append]
   rfl
 ·rintro σ' H' ⟨v2,rfl,s2,f1,f2⟩
  rw [List.length_map,List.take_of_length_le (Nat.le_refl _)] at f2
  have al:(Gp rs (Cw rs)).length=(Cw rs).length:=List.length_map _
  refine ⟨_,rfl,l,rfl,⟨_,SqL.of f2⟩,?_⟩
  refine AV (xs:=(Gp rs (Cw rs)).map V.int) (by rw [List.length_map];exact A5 (by omega)) (fun D i ys J=>ys=(((Gp rs (Cw rs)).take i).filter fun t=>decide (0 < t)).map V.int/\J=upd H' D (.lst ys)) (fun D hD=>⟨rfl,rfl⟩)
   (fun D i ys J ⟨g1,g2⟩=>⟨by rw [g2];exact Ab,by rw [g1,List.length_map];exact Nat.le_trans (List.length_filter_le _ _) (List.length_take_le _ _)⟩) (fun D i ys J hD ⟨_,g2⟩=>by rw [g2];exact SqL.of (Ad hD _ _ _ f2)) ?_ ?_
  ·rintro D i x ys J K1 K2 hD hx ⟨g1,rfl⟩ k1 k2
   obtain ⟨z,hz,rfl⟩:=int_at hx
   have et:(Gp rs (Cw rs)).take (i+1)=(Gp rs (Cw rs)).take i++[z]:=by rw [List.take_add_one,hz];rfl
   refine ⟨_,rfl,_,_,rfl,rfl,_,rfl,?_⟩
   by_cases c:0 < z
   ·refine ifT (decide_eq_true c) ?_
    refine ⟨_,rfl,?_⟩
    refine k1 _ _ Ab ⟨?_,by rw [Bf]⟩
    rw [et,List.filter_append,List.map_append,g1]
    simp [c]
   ·refine ifF (decide_eq_false c) ?_
    refine k2 _ ⟨?_,rfl⟩
    rw [et,List.filter_append,g1]
    simp [c]
  ·rintro D ys J hD ⟨rfl,rfl⟩
   rw [List.length_map,List.take_of_length_le (Nat.le_refl _),FR _ fun u m=>En.mp m]
   refine ⟨D,_,rfl,.inl ⟨SqL.of Ab,fun t ht=>?_⟩⟩
   have s9:=s2.trans (Ad hD (.lst ((((Cw rs).filter fun r=>decide (0 < r)).map (C6 rs)).map V.int)))
   exact q t _ (none_of s9 ht) (s9.trans (Ad ht _)) Ab
theorem Dx (T:Tx K mg base ad):AT P w K mg base CX0 1 ad.f_law_renamed ad.d_law_renamed ["_law_ranks_here","_law_order_here"] Ot:=by
 refine T.F_law_renamed.ok CC (fun vs H Q E h=>?_) (fun cdv A outer s H vs Q E hr h=>?_)
 ·obtain ⟨p,o,rs,os,h,rfl,_⟩:=h
  rfl
 obtain ⟨p,o,rs,os,h,rfl,hp,ho,rl,po,h12,q⟩:=h
 refine ⟨_,(@Af _ _ _ _ _ (@An _ _ (2) _ _ _ _ CC.nd rfl (Or.inl rfl) (@Aj _ _ _ _ _ _ _ _ JV (@Bk _ _ _ _ (@Aa _ _ _ _ _ Ag Ac (by rfl))) (@Am _ _ _ _ _ _ _ _ _ A8 (by rfl) T.z_len PySem.boot_len (@Aa _ _ _ _ _ (pv 0) Ac (by rfl)) (by decide) (by decide) (by rfl) (by rfl))) (by rfl) (by first | exact .inl rfl | exact .inr rfl | assumption)) (@Af _ _ _ _ _ (C5 PassesOwn.never rfl (Bp rfl T.z_range (@Aa _ _ _ _ _ (@Am _ _ _ _ _ _ _ _ _ A8 (by rfl) T.z_len PySem.boot_len (@Aa _ _ _ _ _ (pv 0) Ac (by rfl)) (by decide) (by decide) (by rfl) (by rfl)) Ac (by rfl))) (AC (i:=3) CC.nd rfl (Or.inl rfl)) (@Ah _ _ _ (Ek (@A4 _ _ _ _ _ _ _ AH (pv 0) (pv 3) (fun _ _=>rfl)) (FO (pv 2) (@A4 _ _ _ _ _ _ _ AH (pv 1) (pv 3) (fun _ _=>rfl)) Dy)))) (@Ah _ _ _ (@As _ _ _ _ (pv 2))))),?_⟩
 have rl':(rs.map V.int).length=h:=by rw [List.length_map];exact rl
 have rn:=GV po
 refine ⟨(by show 1<=sizeLine;decide),fun o1 ho1=>?_⟩
 have p1:=Ad ho1 ((.lst [V.int 0]))
 have r1:(upd H o1 ((.lst [V.int 0]))) o1=some ((.lst [V.int 0])):=Ab
 generalize upd H o1 ((.lst [V.int 0]))=O1 at p1 r1 ⊢
 and_intros
 refine ⟨p,_,rfl,.inl (SqL.of (p1 _ _ hp)),?_⟩
 rw [rl']
 refine ⟨o1,(h:Int),_,rfl,rfl,r1,by omega,by omega,A5 (by show 1*Int.toNat (h:Int)<=1000;omega),fun l hl=>?_⟩
 rw [Int.toNat_natCast,FD]
 have hlH:=none_of p1 hl
 have s2:=p1.trans (Ad hl (.lst ((List.replicate h (0:Int)).map V.int)))
 have e2:(upd O1 l (.lst ((List.replicate h (0:Int)).map V.int))) l=some (.lst ((List.replicate h (0:Int)).map V.int)):=Ab
 generalize upd O1 l (.lst ((List.replicate h (0:Int)).map V.int))=H2 at s2 e2 ⊢
 and_intros
 refine ⟨p,_,rfl,.inl (SqL.of (s2 _ _ hp)),?_⟩
 rw [rl']
 refine ⟨_,rfl,by omega,by omega,DS (fun i σ' H'=>∃(v3:Option V) (xs:List Int),σ'=[some (.ref p),some (.ref o),some (.ref l),v3]/\Ao H H'/\H' l=some (.lst (xs.map V.int))/\xs.length=h/\∀j,j < i->xs.getD (piN os j) 0=rs.getD j 0) ⟨none,_,rfl,s2,e2,List.length_replicate,fun j hj=>absurd hj (Nat.not_lt_zero _)⟩ ?_ ?_⟩
 ·rintro i σ' H' hi ⟨v3,xs,rfl,s3,e3,xl,fx⟩
  rw [Int.toNat_natCast] at hi
  obtain ⟨z,hz⟩:∃z:Int,rs[i]?=some z:=⟨_,List.getElem?_eq_getElem (by omega)⟩
  have z0:(0:Int)+(i:Int)=(i:Int):=Int.zero_add _
  rw [z0]
  refine ⟨_,rfl,_,rfl,p,_,_,_,rfl,rfl,SqL.of (s3 _ _ hp),atN hz,?_⟩
  refine ⟨_,rfl,_,rfl,_,rfl,o,_,_,_,rfl,rfl,SqL.of (s3 _ _ ho),atN (Ha po hi),?_⟩
  refine ⟨l,_,_,piN os i,rfl,rfl,e3,Ez (by rw [List.length_map];have:=rn.lt i hi;omega),?_⟩
  rw [set_map]
  exact ⟨_,_,rfl,A9 s3 hlH,Ab,by rw [List.length_set];exact xl,NH rn hi xl fx hz⟩
 ·rintro σ' H' ⟨v3,xs,rfl,s3,e3,xl,fx⟩
  rw [Int.toNat_natCast] at fx
  exact ⟨_,rfl,q l xs H' hlH s3 e3 ⟨xl,fx⟩ (MY rn rl ⟨xl,fx⟩)⟩
theorem Hq (T:Tx K mg base ad):AT P w K mg base CX0 1 ad.f_Way_ahead ad.d_Way_ahead ["self","one","other"] (Ml K):=by
 refine T.F_Way_ahead.ok HD (fun vs H Q E h=>?_) (fun cdv A outer s H vs Q E hr h=>?_)
 ·obtain ⟨a,C,dx,l,fs,xs,x,y,rfl,_⟩:=h
  rfl
 obtain ⟨a,C,dx,l,fs,xs,x,y,rfl,k1,cl,na,lk,k2,mx,my,q⟩:=h
 refine ⟨_,(@Ah _ _ _ (@As _ _ _ _ (@DJ _ _ _ _ _ _ _ _ FV (CY PySem.F.plainAttrs_list PySem.F.slot_list_index PySem.F.type_list_index (HP (K:=K)) (Cd (pv 0) rfl) (@Aa _ _ _ _ _ (pv 1) Ac (by rfl))) (CY PySem.F.plainAttrs_list PySem.F.slot_list_index PySem.F.type_list_index (HP (K:=K)) (Cd (pv 0) rfl) (@Aa _ _ _ _ _ (pv 2) Ac (by rfl))) (Az _)))),?_⟩
 refine ⟨_,rfl,a,_,dx,_,_,rfl,k1,cl,na,lk,?_⟩
 refine ⟨.inl ⟨rfl,_,SqL.of k2⟩,_,rfl,l,xs,x,rfl,rfl,SqL.of k2,mx,?_⟩
 refine ⟨_,rfl,a,_,dx,_,_,rfl,k1,cl,na,lk,?_⟩
 refine ⟨.inl ⟨rfl,_,SqL.of k2⟩,_,rfl,l,xs,y,rfl,rfl,SqL.of k2,my,?_⟩
 and_intros
 have e:decide (((xs.idxOf x:Nat):Int) < ((xs.idxOf y:Nat):Int))=decide (xs.idxOf x < xs.idxOf y):=by congr 1;apply propext;omega
 show Q (.bl (decide (((xs.idxOf x:Nat):Int) < ((xs.idxOf y:Nat):Int)))) H
 rw [e]
 exact q
theorem EB (T:Tx K mg base ad):AT P w K mg base CX0 1 ad.f_Pairs_told_by ad.d_Pairs_told_by ["self","paper"] (NX ad.c_Pairs):=by
 refine T.F_Pairs_told_by.ok ED (fun vs H Q E h=>?_) (fun cdv A outer s H vs Q E hr h=>?_)
 ·obtain ⟨a,p,h,s,ns,ls,F,rfl,_⟩:=h
  rfl
 obtain ⟨a,p,h,s,ns,ls,F,rfl,md,pp,q⟩:=h
 refine ⟨_,(@Ah _ _ _ (@As _ _ _ _ (Bl (fsc:=Ae AS) (N:=["self","paper"]) (Nc:=["self","paper","hand"]) rfl rfl ⟨rfl,by decide +kernel,by decide +kernel,rfl,by decide +kernel,rfl,by decide +kernel,rfl,by decide +kernel⟩ rfl (Bp rfl T.z_range (@Aa _ _ _ _ _ (Cd (pv 0) rfl) Ac (by rfl))) (fun _ _ _ _=>Bm) (fun _ _ _ _=>(Ip (@Ax _ _ _ _ _ _ _ _ (JT K) (pv 2) (@A4 _ _ _ _ _ _ _ (Kr K) (pv 1) Ag (fun _ _=>rfl)) (by with_unfolding_all rfl)) Ag Ag))))),?_⟩
 obtain ⟨dx,la,k1,k2⟩:=id md.is
 obtain ⟨m,sh,pk,ms,rows,p1,p2,p3,p4,p5,p6,p7⟩:=pp.is
 have h12:=md.h12
 and_intros
 refine ⟨a,_,dx,_,_,rfl,k1,T.cl_Pairs,T.na_Pairs_hands,rfl,?_⟩
 refine ⟨_,rfl,by omega,by omega,?_⟩
 rw [Int.toNat_natCast]
 refine B6 (A5 (by omega)) (fun D i ys J=>ys=((List.range i).map fun j:Nat=>if (j:Int)∈Ap F s ns then (1:Int) else 0).map V.int/\J=upd H D (.lst ys)) (fun D hD=>⟨rfl,rfl⟩) (fun D i ys J ⟨g1,g2⟩=>⟨by rw [g2];exact Ab,by rw [g1,List.length_map,List.length_map,List.length_range];exact Nat.le_refl _⟩) ?_ ?_
 ·rintro D i ys J K1 K2 hD hi ⟨g1,rfl⟩ kk1 kk2
  have e0:(0:Int)+(i:Int)=(i:Int):=Int.zero_add _
  have s1:=Ad hD (.lst ys)
  rw [e0]
  refine yes (ifT rfl ?_)
  have p1':=s1 _ _ p1
  have p7':=s1 _ _ p7
  and_intros
  refine ⟨Mw _,?_⟩
  by_cases c:(i:Int)∈Ap F s ns
  ·rw [Pi c]
   refine ⟨_,rfl,?_⟩
   refine ifT rfl ?_
   refine kk1 _ _ Ab ⟨?_,by rw [Bf]⟩
   rw [List.range_succ,List.map_append,List.map_append,g1]
   simp [c]
  ·rw [Qg c]
   refine ⟨_,rfl,?_⟩
   refine ifF rfl ?_
   refine kk1 _ _ Ab ⟨?_,by rw [Bf]⟩
   rw [List.range_succ,List.map_append,List.map_append,g1]
   simp [c]
 rintro D ys H1 hD ⟨rfl,rfl⟩
 exact q D _ hD (Ad hD _) Ab
theorem MG (T:Tx K mg base ad):AT P w K mg base CX0 2 ad.f_overs ad.d_overs ["sheet","hands"] KO:=by
 refine T.F_overs.ok BN (fun vs H Q E h=>?_) (fun cdv A outer s H vs Q E hr h=>?_)
 ·obtain ⟨l,ls,h,rfl,_⟩:=h
  rfl
 obtain ⟨l,ls,h,rfl,hl,g0,l60,h1,h12,q⟩:=h
 refine ⟨_,(@Af _ _ _ _ _ (Fj (j:=2) (fsc:=Ae CL) (N:=["sheet","hands","many","slip","number","behind","tier","others","x","y"]) (Nc:=["sheet","hands","many","slip","number","behind","tier","others",".s8","y","x"]) rfl rfl ⟨rfl,by decide +kernel,by decide +kernel,rfl,by decide +kernel,rfl,by decide +kernel,rfl,by decide +kernel⟩ rfl BN.nd rfl rfl (Bp rfl T.z_range (@Aa _ _ _ _ _ (pv 1) Ac (by rfl))) (fun _ _ _ _=>Bm) (fun _ _ _ _=>(by exact (J9 (fsc:=Ae CL) (Nc:=["sheet","hands","many","slip","number","behind","tier","others",".s8","y","x"]) (Nd:=["sheet","hands","many","slip","number","behind","tier","others",".s8",".s9","x","y"]) rfl ⟨rfl,by decide +kernel,by decide +kernel,rfl,by decide +kernel,rfl,by decide +kernel,rfl,by decide +kernel⟩ rfl (Bp rfl T.z_range (@Aa _ _ _ _ _ (pv 1) Ac (by rfl))) (fun _ _ _ _=>Bm) (fun _ _ _ _=>Ag)))) rfl) (@Af _ _ _ _ _ (C5 PassesOwn.never rfl (AO (pv 0)) (Ga rfl (Bj (AC (i:=3) BN.nd rfl (Or.inl rfl)) (Bj (AC (i:=4) BN.nd rfl (Or.inl rfl)) DK))) (@Af _ _ _ _ _ (@An _ _ (5) _ _ _ _ BN.nd rfl (Or.inl rfl) (@Aq _ _ _ _ _ _ _ _ _ _ _ _ _ _ _ _ (Lp T) (hr.mono (by decide)) rfl T.m_all_of T.F_all_of.kp T.b_all_of .nil Ay (@Aa _ _ _ _ _ (pv 1) Ac (by rfl)) (by decide) (by rfl) (by rfl)) (by rfl) (by first | exact .inl rfl | exact .inr rfl | assumption)) (@Ah _ _ _ (C5 PassesOwn.never rfl (PK (pv 3)) (AC (i:=6) BN.nd rfl (Or.inl rfl)) (@Af _ _ _ _ _ (@An _ _ (5) _ _ _ _ BN.nd rfl (Or.inl rfl) (@Aj _ _ _ _ _ _ _ _ ML (pv 5) (@QJ _ _ _ _ _ _ Pp (pv 6))) (by rfl) (by first | exact .inl rfl | exact .inr rfl | assumption)) (@Af _ _ _ _ _ (@An _ _ (7) _ _ _ _ BN.nd rfl (Or.inl rfl) (@Aq _ _ _ _ _ _ _ _ _ _ _ _ _ _ _ _ (FY T) (hr.mono (by decide)) rfl T.m_members T.F_members.kp T.b_members .nil Ay (@Aa _ _ _ _ _ (pv 5) Ac (by rfl)) (by decide) (by rfl) (by rfl)) (by rfl) (by first | exact .inl rfl | exact .inr rfl | assumption)) (@Ah _ _ _ (C5 PassesOwn.never rfl (AO (@Aq _ _ _ _ _ _ _ _ _ _ _ _ _ _ _ _ (FY T) (hr.mono (by decide)) rfl T.m_members T.F_members.kp T.b_members .nil Ay (@Aa _ _ _ _ _ (pv 6) Ac (by rfl)) (by decide) (by rfl) (by rfl))) (AC (i:=8) BN.nd rfl (Or.inl rfl)) (@Ah _ _ _ (C5 PassesOwn.never rfl (AO (pv 7)) (AC (i:=9) BN.nd rfl (Or.inl rfl)) (@Ah _ _ _ (Ek (@Aj _ _ _ _ _ _ _ _ AU (@A4 _ _ _ _ _ _ _ AH (@A4 _ _ _ _ _ _ _ AH (pv 2) (pv 8) (fun _ _=>rfl)) (pv 9) (fun _ _=>rfl)) (pv 4)) (FO (@A4 _ _ _ _ _ _ _ AH (pv 2) (pv 8) (fun _ _=>rfl)) (pv 9) Dy))))))))))))) (@Ah _ _ _ (@As _ _ _ _ (pv 2))))),?_⟩
 and_intros
 refine ⟨by omega,by omega,?_⟩
 rw [Int.toNat_natCast]
 refine B6 (A5 (by omega)) (fun D i ys J=>∃as:List Addr,ys=as.map V.ref/\as.length=i/\as.Nodup/\J D=some (.lst ys)/\Ao H J/\D ∉ as/\∀a∈as,H a=none/\J a=some (.lst (((List.range h).map fun _=>(0:Int)).map V.int))) (fun D hD=>⟨[],rfl,rfl,List.nodup_nil,Ab,Ad hD _,(fun m=>nomatch m),fun _ m=>nomatch m⟩) (fun D i ys J ⟨as,f1,f2,_,f3,_⟩=>⟨f3,by rw [f1,List.length_map,f2];exact Nat.le_refl _⟩) ?_ ?_
 ·rintro D i ys J K1 K2 hD hi ⟨as,rfl,f2,f3,f4,f5,f6,f7⟩ k1 k2
  refine yes (ifT rfl ?_)
  refine ⟨_,rfl,(h:Int),rfl,by omega,by omega,?_⟩
  rw [Int.toNat_natCast]
  refine B6 (A5 (by omega)) (fun D2 j ys J2=>ys=((List.range j).map fun _=>(0:Int)).map V.int/\J2=upd J D2 (.lst ys)) (fun D2 hD2=>⟨rfl,rfl⟩) (fun D2 j ys J2 ⟨g1,g2⟩=>⟨by rw [g2];exact Ab,by rw [g1,List.length_map,List.length_map,List.length_range];exact Nat.le_refl _⟩) ?_ ?_
  ·rintro D2 j ys J2 L1 L2 hD2 hj ⟨g1,rfl⟩ l1 l2
   refine yes (ifT rfl ?_)
   refine l1 _ _ Ab ⟨?_,by rw [Bf]⟩
   rw [g1,List.range_succ,List.map_append,List.map_append]
   rfl
  rintro D2 ys J2 hD2 ⟨rfl,rfl⟩
  have sD:=Ad hD2 (.lst (((List.range h).map fun _=>(0:Int)).map V.int))
  have eD:(upd J D2 (.lst (((List.range h).map fun _=>(0:Int)).map V.int))) D2=some (.lst (((List.range h).map fun _=>(0:Int)).map V.int)):=Ab
  have dd:D2≠D:=fun z=>by rw [z,f4] at hD2;cases hD2
  have na:D2 ∉ as:=fun m=>by rw [(f7 D2 m).2] at hD2;cases hD2
  generalize upd J D2 (.lst (((List.range h).map fun _=>(0:Int)).map V.int))=J5 at sD eD ⊢
  refine k1 _ _ (sD _ _ f4) ⟨as++[D2],by rw [List.map_append];rfl,by rw [List.length_append,f2];rfl,List.nodup_append.mpr ⟨f3,by simp,fun a ma b mb e=>na (by rw [<- List.mem_singleton.mp mb,<- e];exact ma)⟩,Ab,A9 (f5.trans sD) hD,fun m=>?_,fun a m=>?_⟩
  ·rcases List.mem_append.mp m with m | m
   ·exact f6 m
   ·exact dd (List.mem_singleton.mp m).symm
  ·rcases List.mem_append.mp m with m | m
   ·exact ⟨(f7 a m).1,by rw [Ai (fun z=>f6 (by rw [<- z];exact m))];exact sD _ _ (f7 a m).2⟩
   ·rw [List.mem_singleton.mp m]
    exact ⟨none_of f5 hD2,by rw [Ai dd];exact eD⟩
 rintro D ys H1 hD ⟨as,rfl,f2,f3,f4,f5,f6,f7⟩
 have tb0:BB H1 as h (fun _ _=>0):=⟨f2,f3,fun x a ha=>(f7 a (List.mem_of_getElem? ha)).2⟩
 have nw:∀a∈as,H a=none:=fun a m=>(f7 a m).1
 have out:∀{b:Addr} {o:HO},H b=some o->b ∉ as:=fun {b o} e m=>by rw [nw b m] at e;cases e
 clear f7 f3 f2
 refine ⟨_,rfl,l,rfl,⟨_,SqL.of (f5 _ _ hl)⟩,Db (xs:=vls ls) (fun i σ' H'=>∃v3 v4 v5 v6 v7 v8 v9:Option V,σ'=[some (.ref l),some (.int (h:Int)),some (.ref D),v3,v4,v5,v6,v7,v8,v9]/\Keep as H1 H'/\BB H' as h (fun x y=>BK (CQ x y) (dsL (ls.take i)))) ⟨none,none,none,none,none,none,none,rfl,Keep.of (fun _ _ e=>e),tb0⟩ (fun i σ' H' _ ⟨_,_,_,_,_,_,_,_,k,_⟩=>SqL.of (k.same f5 nw _ _ hl)) ?_ ?_⟩
 ·rintro i w σ' H' hw ⟨v3,v4,v5,v6,v7,v8,v9,rfl,k1,tb⟩
  obtain ⟨f,hf,rfl,fm,et⟩:=O7 hw
  obtain ⟨g1,g2,g3⟩:=g0 f fm
  have kH:=k1.same f5 nw
  refine ⟨f.1,_,rfl,SqT.of (kH _ _ g1),rfl,_,_,rfl,_,_,rfl,rfl,?_⟩
  and_intros
  refine ⟨by omega,by omega,?_⟩
  rw [Int.toNat_natCast,GK]
  and_intros
  obtain ⟨ts,ets⟩:∃ts,ts=f.2.2.1:=⟨_,rfl⟩
  obtain ⟨n,en⟩:∃n,n=f.2.2.2:=⟨_,rfl⟩
  obtain ⟨F0,eF0⟩:∃F0:Nat->Nat->Int,F0=fun x y=>BK (CQ x y) (dsL (ls.take i)):=⟨_,rfl⟩
  rw [<- ets] at g2 g3
  rw [<- eF0] at tb
  rw [<- en]
  refine ⟨⟨_,SqT.of (kH _ _ g2)⟩,Oj (xs:=ts.map V.int) (fun j σ' H2=>∃v6 v7 v8 v9:Option V,σ'=[some (.ref l),some (.int (h:Int)),some (.ref D),some (.ref f.2.1),some (.int n),some (.int (AD h (stT (ts.take j)).1)),v6,v7,v8,v9]/\Keep as H1 H2/\BB H2 as h (fun x y=>F0 x y+n*(stT (ts.take j)).2 x y)) ⟨_,_,_,_,rfl,k1,tb.congr fun x y _ _=>(by show F0 x y=F0 x y+n*0;rw [Int.mul_zero,Int.add_zero])⟩ (fun j σ' H2 _ ⟨_,_,_,_,_,k,_⟩=>SqT.of (k.same f5 nw _ _ g2)) ?_ ?_⟩
  ·rintro j u σ' H2 hu ⟨v6,v7,v8,v9,rfl,k2,tb2⟩
   obtain ⟨t,ht,rfl⟩:=int_at hu
   have ej:ts.take (j+1)=ts.take j++[t]:=by rw [List.take_add_one,ht];rfl
   have es:=Nn (ts.take j) t
   rw [<- ej] at es
   have eb:Builtin.bitAnd (AD h (stT (ts.take j)).1) (Builtin.bitNot t)=AD h (stT (ts.take (j+1))).1:=by
    rw [IG,es]
    exact AY h fun i _=>by rw [NR];rfl
   and_intros
   have mb:=Gq h12 (stT (ts.take (j+1))).1
   rw [<- eb] at mb
   refine ⟨mb.1,mb.2,fun po Ho hpo so eo=>?_⟩
   rw [eb] at eo
   and_intros
   obtain ⟨gt,egt⟩:=JR h12 g3 (List.mem_of_getElem? ht)
   have mt:=Gq h12 gt
   rw [<- egt] at mt
   refine ⟨mt.1,mt.2,fun px Hx hpx sx ex=>?_⟩
   have tbx:=tb2.same (so.trans sx)
   have npo:po ∉ as:=tb2.not hpo
   have npx:px ∉ as:=(tb2.same so).not hpx
   have kx:=(k2.trans (Keep.of so)).trans (Keep.of sx)
   have eo':=sx _ _ eo
   have memx:∀{z:Int},z∈hands 12 (bit t)↔∃i:Nat,i < h/\bit t i=true/\z=(i:Int):=fun {z}=>by
    rw [egt,Fz h12]
    refine ⟨fun ⟨i,a,b,e⟩=>⟨i,a,by rw [C0,decide_eq_true a,b];rfl,e⟩,fun ⟨i,a,b,e⟩=>⟨i,a,?_,e⟩⟩
    rw [C0,decide_eq_true a] at b
    exact b
   have memy:∀{z:Int},z∈hands 12 (bit (AD h (stT (ts.take (j+1))).1))↔∃i:Nat,i < h/\(stT (ts.take (j+1))).1 i=true/\z=(i:Int):=fun {z}=>Fz h12 _
   have ndx:=EI 12 (bit t)
   have ndy:=EI 12 (bit (AD h (stT (ts.take (j+1))).1))
   generalize exs:hands 12 (bit t)=xs at ex memx ndx
   generalize eys:hands 12 (bit (AD h (stT (ts.take (j+1))).1))=ys at eo' memy ndy
   clear eo
   refine ⟨px,rfl,⟨_,SqL.of ex⟩,Db (xs:=xs.map V.int) (fun k σ' H3=>∃(v8 v9:Option V) (G:Nat->Nat->Int),σ'=[some (.ref l),some (.int (h:Int)),some (.ref D),some (.ref f.2.1),some (.int n),some (.int (Builtin.bitAnd (AD h (stT (ts.take j)).1) (Builtin.bitNot t))),some (.int t),some (.ref po),v8,v9]/\Keep as Hx H3/\BB H3 as h G/\∀x' y':Nat,G x' y'=F0 x' y'+n*(stT (ts.take j)).2 x' y'+if (x':Int)∈xs.take k/\(y':Int)∈ys then n else 0) ⟨_,_,_,rfl,Keep.of (fun _ _ e=>e),tbx,fun x' y'=>(by rw [if_neg (fun z=>nomatch z.1)];exact (Int.add_zero _).symm)⟩ (fun k σ' H3 _ ⟨_,_,_,_,kk,_⟩=>SqL.of (kk _ _ npx ex)) ?_ ?_⟩
   ·rintro k u σ' H3 hu ⟨v8,v9,G,rfl,k3,tb3,eG⟩
    obtain ⟨zx,hzx,rfl⟩:=int_at hu
    obtain ⟨x,hx,bx,rfl⟩:=memx.mp (List.mem_of_getElem? hzx)
    obtain ⟨ekx,nkx⟩:=Hr ndx hzx
    and_intros
    refine ⟨⟨_,SqL.of (k3 _ _ npo eo')⟩,Db (xs:=ys.map V.int) (fun m σ' H4=>∃(v9:Option V) (G':Nat->Nat->Int),σ'=[some (.ref l),some (.int (h:Int)),some (.ref D),some (.ref f.2.1),some (.int n),some (.int (Builtin.bitAnd (AD h (stT (ts.take j)).1) (Builtin.bitNot t))),some (.int t),some (.ref po),some (.int (x:Int)),v9]/\Keep as Hx H4/\BB H4 as h G'/\∀x' y':Nat,G' x' y'=G x' y'+if x'=x/\(y':Int)∈ys.take m then n else 0) ⟨_,_,rfl,k3,tb3,fun x' y'=>(by rw [if_neg (fun z=>nomatch z.2)];exact (Int.add_zero _).symm)⟩ (fun m σ' H4 _ ⟨_,_,_,kk,_⟩=>SqL.of (kk _ _ npo eo')) ?_ ?_⟩
    ·rintro m u σ' H4 hu ⟨v9,G',rfl,k4,tb4,eG'⟩
     obtain ⟨zy,hzy,rfl⟩:=int_at hu
     obtain ⟨y,hy,_,rfl⟩:=memy.mp (List.mem_of_getElem? hzy)
     obtain ⟨eky,nky⟩:=Hr ndy hzy
     obtain ⟨a,r1,r2,r3,r4⟩:=tb4.row hx
     have eD:=k4 _ _ f6 (kx _ _ f6 f4)
     refine ⟨_,rfl,_,rfl,D,_,_,_,rfl,rfl,SqL.of eD,r3,?_⟩
     refine ⟨_,rfl,a,_,_,_,rfl,rfl,SqL.of r4,Dj (G' x) hy,?_⟩
     and_intros
     refine ⟨D,_,_,_,rfl,rfl,SqL.of eD,r3,?_⟩
     refine ⟨_,rfl,a,_,_,y,rfl,rfl,r4,Ez (by rw [List.length_map,List.length_map,List.length_range];exact hy),?_⟩
     refine ⟨_,Hy G' x y n,rfl,k4.put r2,tb4.put r1 n,fun x' y'=>?_⟩
     unfold Hy
     rw [eG',eky]
     refine OO n _ ?_ ?_
     ·rw [Jn]
      exact ⟨fun ⟨a,b⟩=>b.elim (fun c=>.inl ⟨a,c⟩) fun c=>.inr ⟨a,c⟩,fun z=>z.elim (fun c=>⟨c.1,.inl c.2⟩) fun c=>⟨c.1,.inr c.2⟩⟩
     ·exact fun z=>nky (by rw [<- z.2.2];exact z.1.2)
    ·rintro σ' H4 ⟨v9,G',rfl,k4,tb4,eG'⟩
     rw [List.length_map,List.take_of_length_le (Nat.le_refl _)] at eG'
     refine ⟨_,_,_,rfl,k4,tb4,fun x' y'=>?_⟩
     rw [eG',eG,ekx]
     refine OO n _ ?_ ?_
     ·rw [Jn]
      exact ⟨fun ⟨a,b⟩=>a.elim (fun c=>.inl ⟨c,b⟩) fun c=>.inr ⟨c,b⟩,fun z=>z.elim (fun c=>⟨.inl c.1,c.2⟩) fun c=>⟨.inr c.1,c.2⟩⟩
     ·exact fun z=>nkx (by rw [<- z.2.1];exact z.1.1)
   ·rintro σ' H3 ⟨v8,v9,G,rfl,k3,tb3,eG⟩
    rw [List.length_map,List.take_of_length_le (Nat.le_refl _)] at eG
    refine ⟨_,_,_,_,by rw [eb],kx.trans k3,tb3.congr fun x y hx hy=>?_⟩
    rw [eG,es]
    show _=F0 x y+n*((stT (ts.take j)).2 x y+if (bit t x && ((stT (ts.take j)).1 y && !bit t y))=true then 1 else 0)
    rw [Int.mul_add,<- Int.add_assoc]
    have e2:(stT (ts.take (j+1))).1 y=((stT (ts.take j)).1 y && !bit t y):=by rw [es];rfl
    have e1:((x:Int)∈xs/\(y:Int)∈ys)↔(bit t x && ((stT (ts.take j)).1 y && !bit t y))=true:=by
     rw [<- e2,Bool.and_eq_true,memx,memy]
     exact ⟨fun ⟨⟨i,_,b,e⟩,⟨k,_,c,e'⟩⟩=>⟨by rw [Int.ofNat.inj e];exact b,by rw [Int.ofNat.inj e'];exact c⟩,fun ⟨a,b⟩=>⟨⟨x,hx,a,rfl⟩,⟨y,hy,b,rfl⟩⟩⟩
    by_cases c:(bit t x && ((stT (ts.take j)).1 y && !bit t y))=true
    ·rw [if_pos c,if_pos (e1.mpr c),Int.mul_one]
    ·rw [if_neg c,if_neg (fun z=>c (e1.mp z)),Int.mul_zero]
  ·rintro σ' H2 ⟨v6,v7,v8,v9,rfl,k2,tb2⟩
   rw [List.length_map,List.take_of_length_le (Nat.le_refl _)] at tb2
   refine ⟨_,_,_,_,_,_,_,rfl,k2,tb2.congr fun x y hx hy=>?_⟩
   rw [et,Lr,<- ets,<- en,eF0,Lu g3 hx hy]
 ·rintro σ' H' ⟨v3,v4,v5,v6,v7,v8,v9,rfl,k1,tb⟩
  rw [Ks,List.take_of_length_le (Nat.le_refl _)] at tb
  exact ⟨_,rfl,q D as H' hD (k1.same f5 nw) f6 nw (k1 _ _ f6 f4) tb⟩
theorem IL (T:Tx K mg base ad):AT P w K mg base CX0 2 ad.f_leads_of ad.d_leads_of ["many"] MJ:=by
 refine T.F_leads_of.ok Fa (fun vs H Q E h=>?_) (fun cdv A outer s H vs Q E hr h=>?_)
 ·obtain ⟨a,as,h,F,rfl,_⟩:=h
  rfl
 obtain ⟨a,as,h,F,rfl,ha,g,h12,q⟩:=h
 refine ⟨_,(@Af _ _ _ _ _ (@An _ _ (1) _ _ _ _ Fa.nd rfl (Or.inr rfl) (@Aq _ _ _ _ _ _ _ _ _ _ _ _ _ _ _ _ (EY T) (hr.mono (by decide)) rfl T.m_hands_of T.F_hands_of.kp T.b_hands_of .nil Ay (@Aa _ _ _ _ _ (pv 0) Ac (by rfl)) (by decide) (by rfl) (by rfl)) (by rfl) (by first | exact .inl rfl | exact .inr rfl | assumption)) (@Ah _ _ _ (@As _ _ _ _ (ME (fsc:=Ae B7) (N:=["many","hands"]) (Nc:=["many","hands","x"]) rfl rfl ⟨rfl,by decide +kernel,by decide +kernel,rfl,by decide +kernel,rfl,by decide +kernel,rfl,by decide +kernel⟩ rfl (AO (pv 1)) (fun _ _ _ _=>Bm) (fun _ _ _ _=>(by exact (LS (fsc:=Ae B7) (Nc:=["many","hands","x"]) (Nd:=["many","hands","x","y"]) rfl ⟨rfl,by decide +kernel,by decide +kernel,rfl,by decide +kernel,rfl,by decide +kernel,rfl,by decide +kernel⟩ rfl (MR K (pv 1)) (fun _ _ _ _=>Bm) (fun _ _ _ _=>(@Aj _ _ _ _ _ _ _ _ NJ (@A4 _ _ _ _ _ _ _ (Ba K) (@A4 _ _ _ _ _ _ _ (Ba K) (pv 0) (pv 2) (fun _ _=>rfl)) (pv 3) (fun _ _=>rfl)) (@A4 _ _ _ _ _ _ _ (Ba K) (@A4 _ _ _ _ _ _ _ (Ba K) (pv 0) (pv 3) (fun _ _=>rfl)) (pv 2) (fun _ _=>rfl))))))))))),?_⟩
 and_intros
 refine ⟨a,Jq as h F,h,rfl,(by rw [g.vtb];exact ha),g.good.1,h12,fun l H1 hl s1 e1=>?_⟩
 and_intros
 have ul:=Bc h
 refine ⟨⟨_,SqL.of e1⟩,?_⟩
 refine AV (xs:=(ups h).map V.int) (by rw [List.length_map,ul];exact A5 (by omega)) (fun D i ys J=>∃bs:List Addr,ys=bs.map V.ref/\bs.length=i/\bs.Nodup/\J D=some (.lst ys)/\Ao H1 J/\D ∉ bs/\(∀c∈bs,H1 c=none)/\∀k b,bs[k]?=some b->J b=some (.lst (((List.range h).map fun y=>F k y - F y k).map V.int))) (fun D hD=>⟨[],rfl,rfl,List.nodup_nil,Ab,Ad hD _,(fun m=>nomatch m),(fun _ m=>nomatch m),fun k r e=>by cases e⟩) (fun D i ys J ⟨u,f1,f2,_,f3,_⟩=>⟨f3,by rw [f1,List.length_map,f2];exact Nat.le_refl _⟩) (fun D i ys J hD ⟨_,_,_,_,_,f4,_⟩=>SqL.of (f4 _ _ e1)) ?_ ?_
 ·rintro D i x ys J K1 K2 hD hx ⟨bs,rfl,f2,f3,f4,f5,f6,f7,f8⟩ k1 k2
  obtain ⟨z,hz,rfl⟩:=int_at hx
  obtain ⟨rfl,hi⟩:=Jr hz
  refine yes (ifT rfl ?_)
  have gJ:=(g.same s1).same f5
  refine ⟨_,rfl,l,rfl,⟨_,SqL.of (f5 _ _ e1)⟩,?_⟩
  refine AV (xs:=(ups h).map V.int) (by rw [List.length_map,ul];exact A5 (by omega)) (fun D2 j ys J2=>ys=((List.range j).map fun y=>F i y - F y i).map V.int/\J2=upd J D2 (.lst ys)) (fun D2 hD2=>⟨rfl,rfl⟩) (fun D2 j ys J2 ⟨f1,f2⟩=>⟨by rw [f2];exact Ab,by rw [f1,List.length_map,List.length_map,List.length_range];exact Nat.le_refl _⟩) (fun D2 j ys J2 hD2 ⟨_,f2⟩=>by rw [f2];exact SqL.of (Ad hD2 _ _ _ (f5 _ _ e1))) ?_ ?_
  ·rintro D2 j y ys J2 L1 L2 hD2 hy ⟨e,rfl⟩ l1 l2
   obtain ⟨w,hw,rfl⟩:=int_at hy
   obtain ⟨rfl,hj⟩:=Jr hw
   refine yes (ifT rfl ?_)
   have sD:=Ad hD2 (.lst ys)
   have aJ:=sD _ _ ((s1.trans f5) _ _ ha)
   obtain ⟨ri,_,_,a1,a2⟩:=(gJ.same sD).row hi
   obtain ⟨rj,_,_,b1,b2⟩:=(gJ.same sD).row hj
   refine ⟨_,rfl,_,rfl,a,_,_,_,rfl,rfl,SqL.of aJ,a1,?_⟩
   refine ⟨_,rfl,ri,_,_,_,rfl,rfl,SqL.of a2,Dj (F i) hj,?_⟩
   refine ⟨_,rfl,_,rfl,a,_,_,_,rfl,rfl,SqL.of aJ,b1,?_⟩
   refine ⟨_,rfl,rj,_,_,_,rfl,rfl,SqL.of b2,Dj (F j) hi,?_⟩
   and_intros
   refine l1 _ _ Ab ⟨?_,by rw [Bf]⟩
   rw [e,List.range_succ,List.map_append,List.map_append]
   rfl
  rintro D2 ys H5 hD2 ⟨rfl,rfl⟩
  rw [List.length_map,ul]
  have sD:=Ad hD2 (.lst (((List.range h).map fun y=>F i y - F y i).map V.int))
  have eD:(upd J D2 (.lst (((List.range h).map fun y=>F i y - F y i).map V.int))) D2=some (.lst (((List.range h).map fun y=>F i y - F y i).map V.int)):=Ab
  have dd:D2≠D:=fun z=>by rw [z,f4] at hD2;cases hD2
  have na:D2 ∉ bs:=fun m=>by
   obtain ⟨k,hk⟩:=List.getElem?_of_mem m
   rw [f8 k D2 hk] at hD2
   cases hD2
  have nD2:=none_of f5 hD2
  generalize upd J D2 (.lst (((List.range h).map fun y=>F i y - F y i).map V.int))=J5 at sD eD ⊢
  refine k1 _ _ (sD _ _ f4) ⟨bs++[D2],by rw [List.map_append];rfl,by rw [List.length_append,f2];rfl,List.nodup_append.mpr ⟨f3,by simp,fun a ma b mb e=>na (by rw [<- List.mem_singleton.mp mb,<- e];exact ma)⟩,Ab,A9 (f5.trans sD) hD,fun m=>?_,fun c m=>?_,fun k b e=>?_⟩
  ·rcases List.mem_append.mp m with m | m
   ·exact f6 m
   ·exact dd (List.mem_singleton.mp m).symm
  ·rcases List.mem_append.mp m with m | m
   ·exact f7 c m
   ·rw [List.mem_singleton.mp m];exact nD2
  ·by_cases c:k < bs.length
   ·rw [List.getElem?_append_left c] at e
    rw [Ai (fun z=>f6 (by rw [<- z];exact List.mem_of_getElem? e))]
    exact sD _ _ (f8 k b e)
   ·rw [List.getElem?_append_right (by omega)] at e
    have ek:k=i:=by
     have:=(List.getElem?_eq_some_iff.mp e).1
     rw [List.length_singleton] at this
     omega
    rw [ek,f2,Nat.sub_self] at e
    cases Option.some.inj e
    rw [Ai dd,ek]
    exact eD
 rintro D ys H2 hD ⟨bs,rfl,f2,f3,f4,f5,f6,f7,f8⟩
 rw [List.length_map,ul] at f2
 exact q D bs H2 (none_of s1 hD) f6 (fun c m=>none_of s1 (f7 c m)) (s1.trans f5) f4 ⟨f2,f3,f8⟩
theorem Fd (T:Tx K mg base ad):AT P w K mg base CX0 2 ad.f_reached_from ad.d_reached_from ["leads","x"] (Lg ad.lP):=by
 refine T.F_reached_from.okC AQ (fun vs H Q E h=>?_) (fun cdv hcd A outer s H vs Q E hr h=>?_)
 ·obtain ⟨a,as,h,x,L,rfl,_⟩:=h
  rfl
 obtain ⟨a,as,h,x,L,rfl,ha,tb,hx,h12,lt,q⟩:=h
 refine ⟨_,(@Af _ _ _ _ _ (@An _ _ (2) _ _ _ _ AQ.nd rfl (Or.inr rfl) (@BU _ _ _ _ _ _ _ _ _ BI (by rfl) T.z_list PyProof.Rows.boot_list (@Aa _ _ _ _ _ (@A4 _ _ _ _ _ _ _ AH (pv 0) (pv 1) (fun _ _=>rfl)) Ac (by rfl)) (by decide) (by decide) (by rfl) (by rfl)) (by rfl) (by first | exact .inl rfl | exact .inr rfl | assumption)) (@Af _ _ _ _ _ (Fj (j:=3) (fsc:=Ae AE) (N:=["leads","x","best","before","left","through","hand","link"]) (Nc:=["leads","x","best","before","left","through",".s6","link","hand"]) rfl rfl ⟨rfl,by decide +kernel,by decide +kernel,rfl,by decide +kernel,rfl,by decide +kernel,rfl,by decide +kernel⟩ rfl AQ.nd rfl rfl (AO (pv 0)) (fun _ _ _ _=>Bm) (fun _ _ _ _=>(pv 1)) rfl) (@Af _ _ _ _ _ (Fj (j:=4) (fsc:=Ae AE) (N:=["leads","x","best","before","left","through","hand","link"]) (Nc:=["leads","x","best","before","left","through",".s6","link","hand"]) rfl rfl ⟨rfl,by decide +kernel,by decide +kernel,rfl,by decide +kernel,rfl,by decide +kernel,rfl,by decide +kernel⟩ rfl AQ.nd rfl rfl (AO (@Aq _ _ _ _ _ _ _ _ _ _ _ _ _ _ _ _ (EY T) (hr.mono (by decide)) rfl T.m_hands_of T.F_hands_of.kp T.b_hands_of .nil Ay (@Aa _ _ _ _ _ (pv 0) Ac (by rfl)) (by decide) (by rfl) (by rfl))) (fun _ _ _ _=>(DO (@Ax _ _ _ _ _ _ _ _ Eb (pv 8) (pv 1) (Az _)))) (fun _ _ _ _=>(pv 8)) rfl) (@Af _ _ _ _ _ (Ev PassesOwn.never (@Ax _ _ _ _ _ _ _ _ (Du (K:=K) hr.units) (pv 4) (@Bk _ _ _ _ Ac) (Az _)) (@Af _ _ _ _ _ (@An _ _ (5) _ _ _ _ AQ.nd rfl (Or.inl rfl) (Ma (fsc:=Ae AE) (N:=["leads","x","best","before","left","through","hand","link"]) (Nc:=["leads","x","best","before","left","through",".s6","link","hand"]) (x:="hand") rfl T.lam (hcd.symm.trans T.lcode) (hr.mono (by decide)) rfl T.z_max rfl rfl ⟨rfl,by decide +kernel,by decide +kernel,rfl,by decide +kernel,rfl,by decide +kernel,rfl,by decide +kernel⟩ rfl rfl (pv 4) (fun _ _ _ _ _=>(@A4 _ _ _ _ _ _ _ (Ba K) (pv 2) (pv 8) (fun _ _=>rfl)))) (by rfl) (by first | exact .inl rfl | exact .inr rfl | assumption)) (@Af _ _ _ _ _ (@Cc _ _ _ _ (CY PySem.F.plainAttrs_list PySem.F.slot_list_remove PySem.F.type_list_remove Gy (pv 4) (@Aa _ _ _ _ _ (pv 5) Ac (by rfl))) (by rfl)) (@Ah _ _ _ (C5 PassesOwn.never rfl (AO (pv 4)) (AC (i:=6) AQ.nd rfl (Or.inl rfl)) (@Af _ _ _ _ _ (@An _ _ (7) _ _ _ _ AQ.nd rfl (Or.inl rfl) (@Am _ _ _ _ _ _ _ _ _ (DP rfl) (by rfl) T.z_min PyProof.Rows.boot_min (@Aa _ _ _ _ _ (@A4 _ _ _ _ _ _ _ AH (pv 2) (pv 5) (fun _ _=>rfl)) (@Aa _ _ _ _ _ (@A4 _ _ _ _ _ _ _ AH (@A4 _ _ _ _ _ _ _ AH (pv 0) (pv 5) (fun _ _=>rfl)) (pv 6) (fun _ _=>rfl)) Ac (by rfl)) (by rfl)) (by decide) (by decide) (by rfl) (by rfl)) (by rfl) (by first | exact .inl rfl | exact .inr rfl | assumption)) (@Ah _ _ _ (@CK _ _ _ _ _ _ _ _ (@Ax _ _ _ _ _ _ _ _ IV (pv 7) (@A4 _ _ _ _ _ _ _ AH (pv 2) (pv 6) (fun _ _=>rfl)) (Az _)) (@Af _ _ _ _ _ (Ek (pv 7) (FO (pv 2) (pv 6) Dy)) (@Ah _ _ _ (Ek (pv 5) (FO (pv 3) (pv 6) Dy)))) Bb)))))))) (@Ah _ _ _ (@As _ _ _ _ (@BL _ _ _ _ _ (@Aa _ _ _ _ _ (pv 2) (@Aa _ _ _ _ _ (pv 3) Ac (by rfl)) (by rfl))))))))),?_⟩
 obtain ⟨ax,_,_,x3,x4⟩:=tb.row hx
 refine ⟨_,rfl,_,rfl,a,_,_,_,rfl,rfl,SqL.of ha,x3,?_⟩
 refine ⟨ax,_,rfl,.inl (SqL.of x4),fun b hb=>?_⟩
 obtain ⟨be0,ebe⟩:∃be0,be0=(List.range h).map fun y=>L x y:=⟨_,rfl⟩
 rw [<- ebe]
 have s1:=Ad hb (.lst (be0.map V.int))
 have e1:(upd H b (.lst (be0.map V.int))) b=some (.lst (be0.map V.int)):=Ab
 generalize upd H b (.lst (be0.map V.int))=H1 at s1 e1 ⊢
 and_intros
 refine ⟨⟨_,SqL.of (s1 _ _ ha)⟩,?_⟩
 refine AV (xs:=as.map V.ref) (by rw [List.length_map,tb.1];exact A5 (by omega)) (fun D i ys J=>ys=(List.replicate i (x:Int)).map V.int/\J=upd H1 D (.lst ys)) (fun D hD=>⟨rfl,rfl⟩) (fun D i ys J ⟨f1,f2⟩=>⟨by rw [f2];exact Ab,by rw [f1,List.length_map,List.length_replicate];exact Nat.le_refl _⟩) (fun D i ys J hD ⟨_,f2⟩=>by rw [f2];exact SqL.of (Ad hD _ _ _ (s1 _ _ ha))) ?_ ?_
 ·rintro D i y ys J K1 K2 hD hy ⟨f1,rfl⟩ k1 k2
  refine yes (ifT rfl ?_)
  refine ⟨_,rfl,?_⟩
  refine k1 _ _ Ab ⟨?_,by rw [Bf]⟩
  rw [f1,List.replicate_succ',List.map_append]
  rfl
 rintro f ys H2 hf ⟨rfl,rfl⟩
 rw [List.length_map,tb.1]
 have fb:f≠b:=fun z=>by rw [z,e1] at hf;cases hf
 have hfH:=none_of s1 hf
 have s2:=s1.trans (Ad hf (.lst ((List.replicate h (x:Int)).map V.int)))
 have e2:(upd H1 f (.lst ((List.replicate h (x:Int)).map V.int))) f=some (.lst ((List.replicate h (x:Int)).map V.int)):=Ab
 have b2:=Ad hf (.lst ((List.replicate h (x:Int)).map V.int)) _ _ e1
 generalize upd H1 f (.lst ((List.replicate h (x:Int)).map V.int))=H2 at s2 e2 b2 ⊢
 and_intros
 have tb2:=tb.same s2
 refine ⟨a,Jq as h L,h,rfl,(by rw [tb2.vtb];exact s2 _ _ ha),tb2.good.1,h12,fun l0 H3 hl0 s3 e3=>?_⟩
 have b3:=s3 _ _ b2
 have f3:=s3 _ _ e2
 have s3:=s2.trans s3
 and_intros
 refine ⟨⟨_,SqL.of e3⟩,?_⟩
 refine AV (xs:=(ups h).map V.int) (by rw [List.length_map,Bc];exact A5 (by omega)) (fun D i ys J=>ys=(Co i x).map V.int/\J=upd H3 D (.lst ys)) (fun D hD=>⟨rfl,rfl⟩) (fun D i ys J ⟨g1,g2⟩=>⟨by rw [g2];exact Ab,by rw [g1,List.length_map];unfold Co;rw [List.length_map];exact Nat.le_trans (List.length_filter_le _ _) (by rw [List.length_range];exact Nat.le_refl _)⟩) (fun D i ys J hD ⟨_,g2⟩=>by rw [g2];exact SqL.of (Ad hD _ _ _ e3)) ?_ ?_
 ·rintro D i y ys J K1 K2 hD hy ⟨g1,rfl⟩ k1 k2
  obtain ⟨z,hz,rfl⟩:=int_at hy
  obtain ⟨rfl,hi⟩:=Jr hz
  and_intros
  by_cases c:i=x
  ·refine ifF (JE (by rw [c])) ?_
   exact k2 _ ⟨by rw [g1,DL,if_pos c,List.append_nil],rfl⟩
  ·refine ifT (Pr fun e=>c (Int.ofNat.inj e)) ?_
   refine ⟨_,rfl,?_⟩
   exact k1 _ _ Ab ⟨by rw [g1,DL,if_neg c,List.map_append];rfl,by rw [Bf]⟩
 rintro l ys H4 hl ⟨rfl,rfl⟩
 rw [List.length_map,Bc]
 have lb:l≠b:=fun z=>by rw [z,b3] at hl;cases hl
 have lf:l≠f:=fun z=>by rw [z,f3] at hl;cases hl
 have hlH:=none_of s3 hl
 have sn:=Ad hl (.lst ((Co h x).map V.int))
 have e4:(upd H3 l (.lst ((Co h x).map V.int))) l=some (.lst ((Co h x).map V.int)):=Ab
 have b4:=sn _ _ b3
 have f4:=sn _ _ f3
 have s4:=s3.trans sn
 generalize upd H3 l (.lst ((Co h x).map V.int))=H4 at s4 e4 b4 f4 ⊢
 have bl:=Gr hx
 refine ⟨fun m σ' H'=>∃(v5 v6 v7:Option V) (be bf left:List Int) (rk:Nat->Nat),σ'=[some (V.ref a),some (.int (x:Int)),some (.ref b),some (.ref f),some (.ref l),v5,v6,v7]/\Sm H H'/\(C3 ad.lP h H->Ao H H')/\LT ad.lP H'/\(left.length+1=h\/L1 ad.lP H')/\H' b=some (.lst (be.map V.int))/\H' f=some (.lst (bf.map V.int))/\H' l=some (.lst (left.map V.int))/\Dij h x L be bf left rk/\left.length=m,
  ⟨_,none,none,none,be0,List.replicate h (x:Int),Co h x,fun _=>0,rfl,Sm.of s4,(fun _=>s4),lt.same s4,.inl bl,b4,f4,e4,(by rw [ebe];exact Dij.start hx L),rfl⟩,?_⟩
 rintro m σ' H' ⟨v5,v6,v7,be,bf,left,rk,rfl,sm,sq,lt',l1,eb,ef,el,dj,lm⟩
 refine ⟨_,rfl,(by show 0<=sizeLine;decide),fun z3 hz3=>?_⟩
 have sz:=Ad hz3 (.lst [])
 have ez:(upd H' z3 (.lst [])) z3=some (.lst (([]:List Int).map V.int)):=Ab
 generalize upd H' z3 (.lst [])=H5 at sz ez ⊢
 have eb:=sz _ _ eb
 have ef:=sz _ _ ef
 have el:=sz _ _ el
 have sm:=sm.trans (Sm.of sz)
 have sq:C3 ad.lP h H->Ao H H5:=fun z=>(sq z).trans sz
 have lt':=lt'.same sz
 have l1:left.length+1=h\/L1 ad.lP H5:=l1.imp id fun z=>z.same sz
 refine ⟨.list (left.map .int),.list (([]:List Int).map .int),.lst (SqL.of el) (.ints _),.lst (SqL.of ez) (.ints []),(At _).2,(At _).2,?_⟩
 rw [show PyData.eqv (.list (left.map .int)) (.list (([]:List Int).map .int))=decide (left=[]) from Cz _ _]
 refine ⟨_,rfl,?_⟩
 by_cases cl:left=[]
 ·refine ifF (by rw [decide_eq_true cl];rfl) ?_
  subst cl
  and_intros
  refine ⟨(by show 2<=sizeLine;decide),fun t ht=>?_⟩
  have st:=Ad ht (.tup [V.ref b,V.ref f])
  have l1':h=1\/L1 ad.lP H5:=l1.imp (fun z=>by rw [List.length_nil] at z;omega) id
  exact q t b f be bf _ (sm.trans (Sm.of st)) (fun z=>(sq z).trans st) (C3.same ⟨lt',l1'⟩ st) (sm.gone t ht) hb hfH (Ne.symm fb) Ab (st _ _ eb) (st _ _ ef) dj.done
 ·refine ifT (by rw [decide_eq_false cl];rfl) ?_
  have pl:0 < left.length:=List.length_pos_iff.mpr cl
  refine ⟨fun σ' H'=>∃(v5 v6 v7:Option V) (be bf left:List Int) (rk:Nat->Nat),σ'=[some (V.ref a),some (.int (x:Int)),some (.ref b),some (.ref f),some (.ref l),v5,v6,v7]/\Sm H H'/\(C3 ad.lP h H->Ao H H')/\LT ad.lP H'/\(left.length+1=h\/L1 ad.lP H')/\H' b=some (.lst (be.map V.int))/\H' f=some (.lst (bf.map V.int))/\H' l=some (.lst (left.map V.int))/\Dij h x L be bf left rk/\left.length=m - 1,fun σ' H' e=>⟨m - 1,by omega,e⟩,?_⟩
  and_intros
  refine ⟨l,left.map V.int,fun i=>be.getD (left.getD i 0).toNat 0,rfl,by rw [List.length_map];exact pl,lt',fun H6 q1 q2 q3 q4=>?_⟩
  have s56:=Py lt' q2 q4
  have eb:=s56.lst eb
  have ef:=s56.lst ef
  have el:=s56.lst el
  have sm:=sm.trans s56
  have lsub:∀{i:Nat} {z:Int},left[i]?=some z->∃y:Nat,z=(y:Int)/\y < h/\y≠x/\left.getD i 0=(y:Int):=fun {i z} e=>by
   obtain ⟨y,a1,a2,a3⟩:=dj.sub z (List.mem_of_getElem? e)
   exact ⟨y,a3,a1,a2,by rw [List.getD_eq_getElem?_getD,e];exact a3⟩
  have sq:C3 ad.lP h H->Ao H H6:=fun z=>by
   have l1':L1 ad.lP H5:=by
    rcases (C3.same z (sq z)).2 with c | c
    ·have:=dj.sub _ (List.mem_of_getElem? (List.getElem?_eq_getElem pl))
     obtain ⟨y,a1,a2,_⟩:=this
     omega
    ·exact c
   rw [<- q3 l1']
   exact sq z
  clear q2 q3 q4 s56
  refine ⟨SqL.of el,fun i w hw=>?_,fun i w hw bst=>?_⟩
  ·obtain ⟨z,hz,rfl⟩:=int_at hw
   obtain ⟨y,rfl,hy,_,ey⟩:=lsub hz
   refine ⟨_,rfl,_,rfl,b,_,_,_,rfl,rfl,SqL.of eb,atG (by rw [dj.lenb];exact hy),?_⟩
   refine ⟨?_,rfl⟩
   show V.int (be.getD y 0)=V.int (be.getD (left.getD i 0).toNat 0)
   rw [ey]
   rfl
  obtain ⟨z,hz,rfl⟩:=int_at hw
  obtain ⟨t,rfl,hth,htx,et⟩:=lsub hz
  have tm:=List.mem_of_getElem? hz
  have best:∀y:Nat,(y:Int)∈left->be.getD y 0<=be.getD t 0:=fun y my=>by
   obtain ⟨j,hj⟩:=List.getElem?_of_mem my
   have jl:=(List.getElem?_eq_some_iff.mp hj).1
   have:=(bst j (by rw [List.length_map];exact jl)).1
   dsimp only at this
   rw [et,List.getD_eq_getElem?_getD (l:=left),hj] at this
   exact this
  clear bst
  and_intros
  refine ⟨.inl ⟨rfl,_,SqL.of el⟩,?_⟩
  and_intros
  refine ⟨l,left,(t:Int),rfl,rfl,el,tm,?_⟩
  rw [<- E6]
  have lme:(left.erase (t:Int)).length=left.length - 1:=List.length_erase_of_mem tm
  obtain ⟨lf2,elf⟩:∃lf2,lf2=left.erase (t:Int):=⟨_,rfl⟩
  rw [<- elf]
  have sub2:∀z∈lf2,∃y:Nat,y < h/\z=(y:Int):=fun z m=>by
   rw [elf] at m
   obtain ⟨y,a1,_,a3⟩:=dj.sub z (List.mem_of_mem_erase m)
   exact ⟨y,a1,a3⟩
  have nd2:lf2.Nodup:=by rw [elf];exact dj.nd.erase _
  have nt2:(t:Int) ∉ lf2:=fun m=>by rw [elf] at m;exact (dj.nd.mem_erase_iff.mp m).1 rfl
  rw [<- elf] at lme
  have k1:∀{c:Addr} {xs:List V},H6 c=some (.lst xs)->c≠l->(upd H6 l (.lst (lf2.map V.int))) c=some (.lst xs):=fun e n=>by rw [Ai n];exact e
  have el':(upd H6 l (.lst (lf2.map V.int))) l=some (.lst (lf2.map V.int)):=Ab
  have eb':=k1 eb (Ne.symm lb)
  have ef':=k1 ef (Ne.symm lf)
  have sm':=sm.put (o:=.lst (lf2.map V.int)) hlH
  have sq':C3 ad.lP h H->Ao H (upd H6 l (.lst (lf2.map V.int))):=fun z=>A9 (sq z) hlH
  have l1':L1 ad.lP (upd H6 l (.lst (lf2.map V.int))):=DV.put q1 el
  generalize upd H6 l (.lst (lf2.map V.int))=H7 at el' eb' ef' sm' sq' l1' ⊢
  clear k1
  and_intros
  refine ⟨⟨_,SqL.of el'⟩,Db (xs:=lf2.map V.int) (fun k σ' H'=>∃(v6 v7:Option V) (be' bf':List Int),σ'=[some (V.ref a),some (.int (x:Int)),some (.ref b),some (.ref f),some (.ref l),some (.int (t:Int)),v6,v7]/\Sm H H'/\(C3 ad.lP h H->Ao H H')/\L1 ad.lP H'/\H' b=some (.lst (be'.map V.int))/\H' f=some (.lst (bf'.map V.int))/\H' l=some (.lst (lf2.map V.int))/\Upd h t L be bf (lf2.take k) be' bf') ⟨_,_,be,bf,rfl,sm',sq',l1',eb',ef',el',Upd.nil dj.lenb dj.lenf⟩ (fun k σ' H' _ ⟨_,_,_,_,_,_,_,_,_,_,e,_⟩=>SqL.of e) ?_ ?_⟩
  ·rintro k w σ' H' hw ⟨v6,v7,be',bf',rfl,sm8,sq8,l18,eb8,ef8,el8,ud⟩
   obtain ⟨z,hz,rfl⟩:=int_at hw
   obtain ⟨y,hy,rfl⟩:=sub2 z (List.mem_of_getElem? hz)
   obtain ⟨ek,nk⟩:=Hr nd2 hz
   have lb8:be'.length=h:=ud.1
   have lf8:bf'.length=h:=ud.2.1
   have bt:be'.getD t 0=be.getD t 0:=ud.at hth fun m=>nt2 (List.mem_of_mem_take m)
   have by':be'.getD y 0=be.getD y 0:=ud.at hy nk
   obtain ⟨at8,_,_,r3,r4⟩:=(tb.sm sm8).row hth
   have ha8:=sm8.lst ha
   and_intros
   refine ⟨b,_,_,_,rfl,rfl,SqL.of eb8,atG (by omega),?_⟩
   refine ⟨_,rfl,_,rfl,a,_,_,_,rfl,rfl,SqL.of ha8,r3,?_⟩
   refine ⟨_,rfl,at8,_,_,_,rfl,rfl,SqL.of r4,Dj (L t) hy,?_⟩
   refine ⟨_,_,rfl,?_⟩
   rw [P8,bt]
   and_intros
   refine ⟨b,_,_,_,rfl,rfl,SqL.of eb8,atG (by omega),?_⟩
   and_intros
   rw [by']
   by_cases c:be.getD y 0 < min (be.getD t 0) (L t y)
   ·refine ifT (decide_eq_true c) ?_
    and_intros
    refine ⟨b,_,_,y,rfl,rfl,eb8,Ez (by rw [List.length_map];omega),?_⟩
    rw [set_map]
    have ef9:(upd H' b (.lst ((be'.set y (min (be.getD t 0) (L t y))).map V.int))) f=some (.lst (bf'.map V.int)):=by rw [Ai fb];exact ef8
    have eb9:(upd H' b (.lst ((be'.set y (min (be.getD t 0) (L t y))).map V.int))) b=some (.lst ((be'.set y (min (be.getD t 0) (L t y))).map V.int)):=Ab
    have el9:(upd H' b (.lst ((be'.set y (min (be.getD t 0) (L t y))).map V.int))) l=some (.lst (lf2.map V.int)):=by rw [Ai lb];exact el8
    have sm9:=sm8.put (o:=.lst ((be'.set y (min (be.getD t 0) (L t y))).map V.int)) hb
    have sq9:C3 ad.lP h H->Ao H (upd H' b (.lst ((be'.set y (min (be.getD t 0) (L t y))).map V.int))):=fun z=>A9 (sq8 z) hb
    have l19:L1 ad.lP (upd H' b (.lst ((be'.set y (min (be.getD t 0) (L t y))).map V.int))):=DV.put l18 eb8
    generalize upd H' b (.lst ((be'.set y (min (be.getD t 0) (L t y))).map V.int))=H9 at ef9 eb9 el9 sm9 sq9 l19 ⊢
    and_intros
    refine ⟨f,_,_,y,rfl,rfl,ef9,Ez (by rw [List.length_map];omega),?_⟩
    rw [set_map]
    exact ⟨_,_,be'.set y (min (be.getD t 0) (L t y)),bf'.set y (t:Int),rfl,sm9.put hfH,(fun z=>A9 (sq9 z) hfH),DV.put l19 ef9,by rw [Ai (Ne.symm fb)];exact eb9,Ab,by rw [Ai lf];exact el9,by rw [ek];exact ud.put hy c⟩
   ·refine ifF (decide_eq_false c) ?_
    exact ⟨_,_,be',bf',rfl,sm8,sq8,l18,eb8,ef8,el8,by rw [ek];exact ud.skip c⟩
  ·rintro σ' H' ⟨v6,v7,be',bf',rfl,sm8,sq8,l18,eb8,ef8,el8,ud⟩
   rw [List.length_map,List.take_of_length_le (Nat.le_refl _),elf] at ud
   exact ⟨_,_,_,be',bf',lf2,_,rfl,sm8,sq8,.inr l18,.inr l18,eb8,ef8,el8,by rw [elf];exact dj.step hx tm best ud,by omega⟩
theorem Lv (T:Tx K mg base ad):AT P w K mg base CX0 2 ad.f_cut_by ad.d_cut_by ["reached","x","y"] NP:=by
 refine T.F_cut_by.ok Dg (fun vs H Q E h=>?_) (fun cdv A outer s H vs Q E hr h=>?_)
 ·obtain ⟨t,h,x,y,L,be,rfl,_⟩:=h
  rfl
 obtain ⟨t,h,x,y,L,be,rfl,td,hx,hy,h12,q⟩:=h
 refine ⟨_,(@Af _ _ _ _ _ (@An _ _ (3) _ _ _ _ Dg.nd rfl (Or.inl rfl) (@Aq _ _ _ _ _ _ _ _ _ _ _ _ _ _ _ _ (EM T) (hr.mono (by decide)) rfl T.m_with_one T.F_with_one.kp T.b_with_one .nil Ay (@Aa _ _ _ _ _ Ag (@Aa _ _ _ _ _ (pv 1) Ac (by rfl)) (by rfl)) (by decide) (by rfl) (by rfl)) (by rfl) (by first | exact .inl rfl | exact .inr rfl | assumption)) (@Af _ _ _ _ _ (C5 PassesOwn.never rfl (Oz rfl T.z_enumerate (@Aa _ _ _ _ _ (@A4 _ _ _ _ _ _ _ Dn (pv 0) Ag (fun _ _=>rfl)) Ac (by rfl))) (Ga rfl (Bj (AC (i:=4) Dg.nd rfl (Or.inl rfl)) (Bj (AC (i:=5) Dg.nd rfl (Or.inl rfl)) DK))) (@Ah _ _ _ (@CK _ _ _ _ _ _ _ _ (@Ax _ _ _ _ _ _ _ _ IV (pv 5) (@A4 _ _ _ _ _ _ _ AH (@A4 _ _ _ _ _ _ _ Dn (pv 0) Ag (fun _ _=>rfl)) (pv 2) (fun _ _=>rfl)) (Az _)) (@Ah _ _ _ (@An _ _ (3) _ _ _ _ Dg.nd rfl (Or.inl rfl) (@Aq _ _ _ _ _ _ _ _ _ _ _ _ _ _ _ _ (EM T) (hr.mono (by decide)) rfl T.m_with_one T.F_with_one.kp T.b_with_one .nil Ay (@Aa _ _ _ _ _ (pv 3) (@Aa _ _ _ _ _ (pv 4) Ac (by rfl)) (by rfl)) (by decide) (by rfl) (by rfl)) (by rfl) (by first | exact .inl rfl | exact .inr rfl | assumption))) Bb))) (@Ah _ _ _ (@As _ _ _ _ (pv 3))))),?_⟩
 obtain ⟨b,f,bf,et,eb,ef,re⟩:=td.is
 have bl:=re.lenb
 and_intros
 refine ⟨0,(x:Int),rfl,by omega,by omega,?_⟩
 rw [show Builtin.bitOr 0 (1*2 ^ (x:Int).toNat)=AD h (fun i=>decide (i=x)) from (by
  rw [Int.toNat_natCast,show (0:Int)=AD h (fun _=>false) from (GS fun _ _=>rfl).symm,OW _ hx]
  exact AY h fun i _=>by rw [Bool.false_or])]
 and_intros
 refine ⟨⟨_,SqL.of eb⟩,Nv (xs:=be.map V.int) (fun i σ' H'=>∃v4 v5:Option V,σ'=[some (.ref t),some (.int (x:Int)),some (.int (y:Int)),some (.int (AD h fun j=>decide (j=x) || (decide (j < i) && decide (be.getD y 0 < be.getD j 0)))),v4,v5]/\Ao H H') ⟨none,none,?_,fun _ _ e=>e⟩ (fun i σ' H' _ ⟨_,_,_,e⟩=>SqL.of (e _ _ eb)) ?_ ?_⟩
 ·rw [AY h (g:=fun j=>decide (j=x) || (decide (j < 0) && decide (be.getD y 0 < be.getD j 0))) (fun j _=>by rw [decide_eq_false (Nat.not_lt_zero j),Bool.false_and,Bool.or_false])]
  rfl
 ·rintro i w T0 σ' H' hw ⟨v4,v5,rfl,s1⟩ hT
  obtain ⟨z,hz,rfl⟩:=int_at hw
  have hi:i < be.length:=(List.getElem?_eq_some_iff.mp hz).1
  have ez:be.getD i 0=z:=by rw [List.getD_eq_getElem?_getD,hz];rfl
  have s2:=Ad hT (.tup [.int (i:Int),.int z])
  have eT:(upd H' T0 (.tup [.int (i:Int),.int z])) T0=some (.tup [.int (i:Int),.int z]):=Ab
  generalize upd H' T0 (.tup [.int (i:Int),.int z])=H2 at s2 eT ⊢
  have s12:=s1.trans s2
  refine ⟨T0,_,rfl,SqT.of eT,rfl,_,_,rfl,_,_,rfl,rfl,?_⟩
  have et2:=s12 _ _ et
  and_intros
  refine ⟨b,_,_,_,rfl,rfl,SqL.of (s12 _ _ eb),atG (by omega),?_⟩
  and_intros
  by_cases c:be.getD y 0 < z
  ·refine ifT (decide_eq_true c) ?_
   and_intros
   refine ⟨_,(i:Int),rfl,by omega,by omega,?_⟩
   rw [Int.toNat_natCast,OW _ (by omega)]
   refine ⟨some (.int (i:Int)),some (.int z),?_,s12⟩
   have em:AD h (fun j=>(decide (j=x) || (decide (j < i) && decide (be.getD y 0 < be.getD j 0))) || decide (j=i))=AD h (fun j=>decide (j=x) || (decide (j < i+1) && decide (be.getD y 0 < be.getD j 0))):=AY h fun j _=>?_
   ·rw [em];rfl
   ·by_cases e:j=i
    ·subst e
     rw [decide_eq_true rfl,decide_eq_true (show j < j+1 by omega),ez,decide_eq_true c]
     simp
    ·rw [decide_eq_false e,Bool.or_false]
     by_cases d:j < i
     ·rw [decide_eq_true d,decide_eq_true (show j < i+1 by omega)]
     ·rw [decide_eq_false d,decide_eq_false (show ¬ j < i+1 by omega)]
  ·refine ifF (decide_eq_false c) ?_
   refine ⟨some (.int (i:Int)),some (.int z),?_,s12⟩
   have em:AD h (fun j=>decide (j=x) || (decide (j < i) && decide (be.getD y 0 < be.getD j 0)))=AD h (fun j=>decide (j=x) || (decide (j < i+1) && decide (be.getD y 0 < be.getD j 0))):=AY h fun j _=>?_
   ·rw [em];rfl
   ·by_cases e:j=i
    ·subst e
     rw [ez,decide_eq_false c,Bool.and_false,Bool.and_false]
    ·by_cases d:j < i
     ·rw [decide_eq_true d,decide_eq_true (show j < i+1 by omega)]
     ·rw [decide_eq_false d,decide_eq_false (show ¬ j < i+1 by omega)]
 ·rintro σ' H' ⟨v4,v5,rfl,s1⟩
  rw [List.length_map,bl]
  and_intros
  rw [AY h (g:=IY x y be) (fun j hj=>?_)]
  ·exact q _ s1
  ·unfold IY
   rw [decide_eq_true hj,Bool.true_and,Bool.decide_or]
theorem Hh (T:Tx K mg base ad):AT P w K mg base CX0 2 ad.f_are_hands ad.d_are_hands ["thing"] (MA K 12):=by
 refine T.F_are_hands.ok HC (fun vs H Q E h=>?_) (fun cdv A outer s H vs Q E hr h=>?_)
 ·obtain ⟨x,rfl,_⟩:=h
  rfl
 obtain ⟨x,rfl,wx,q⟩:=h
 refine ⟨_,(@Ah _ _ _ (@As _ _ _ _ (@Dm _ _ _ _ _ _ _ (@Aq _ _ _ _ _ _ _ _ _ _ _ _ _ _ _ _ (D8 T) (hr.mono (by decide)) rfl T.m_is_whole T.F_is_whole.kp T.b_is_whole .nil Ay (@Aa _ _ _ _ _ (pv 0) Ac (by rfl)) (by decide) (by rfl) (by rfl)) (@DG _ _ _ _ _ (FF Jj Jj Ag (pv 0) (B3 (v:=.int 12) rfl T.k_MOST_HANDS ⟨_,rfl⟩)))))),?_⟩
 refine ⟨_,rfl,x,_,rfl,wx,_,rfl,?_⟩
 cases x with
 | int n =>
   refine ifT rfl ?_
   by_cases n0:1<=n
   ·and_intros
    refine ifT (decide_eq_true n0) ?_
    and_intros
    have e:EC 12 (.int n)=decide (n<=12):=by show (decide (1<=n) && decide (n<=12))=_;rw [decide_eq_true n0];rfl
    rw [e] at q
    exact q
   ·and_intros
    refine ifF (decide_eq_false n0) ?_
    have e:EC 12 (.int n)=false:=by show (decide (1<=n) && decide (n<=12))=_;rw [decide_eq_false n0];rfl
    rw [e] at q
    exact q
 | _=>exact ifF rfl q
theorem GZ (T:Tx K mg base ad):AT P w K mg base CX0 2 ad.f_are_seats ad.d_are_seats ["thing"] (MA K 60):=by
 refine T.F_are_seats.ok Hm (fun vs H Q E h=>?_) (fun cdv A outer s H vs Q E hr h=>?_)
 ·obtain ⟨x,rfl,_⟩:=h
  rfl
 obtain ⟨x,rfl,wx,q⟩:=h
 refine ⟨_,(@Ah _ _ _ (@As _ _ _ _ (@Dm _ _ _ _ _ _ _ (@Aq _ _ _ _ _ _ _ _ _ _ _ _ _ _ _ _ (D8 T) (hr.mono (by decide)) rfl T.m_is_whole T.F_is_whole.kp T.b_is_whole .nil Ay (@Aa _ _ _ _ _ (pv 0) Ac (by rfl)) (by decide) (by rfl) (by rfl)) (@DG _ _ _ _ _ (FF Jj Jj Ag (pv 0) (B3 (v:=.int 60) rfl T.k_MOST_SEATS ⟨_,rfl⟩)))))),?_⟩
 refine ⟨_,rfl,x,_,rfl,wx,_,rfl,?_⟩
 cases x with
 | int n =>
   refine ifT rfl ?_
   by_cases n0:1<=n
   ·and_intros
    refine ifT (decide_eq_true n0) ?_
    and_intros
    have e:EC 60 (.int n)=decide (n<=60):=by show (decide (1<=n) && decide (n<=60))=_;rw [decide_eq_true n0];rfl
    rw [e] at q
    exact q
   ·and_intros
    refine ifF (decide_eq_false n0) ?_
    have e:EC 60 (.int n)=false:=by show (decide (1<=n) && decide (n<=60))=_;rw [decide_eq_false n0];rfl
    rw [e] at q
    exact q
 | _=>exact ifF rfl q
theorem HR (T:Tx K mg base ad):AT P w K mg base CX0 2 ad.f_are_lots ad.d_are_lots ["thing","hands"] (NL K):=by
 refine T.F_are_lots.ok HQ (fun vs H Q E h=>?_) (fun cdv A outer s H vs Q E hr h=>?_)
 ·obtain ⟨x,n,rfl,_⟩:=h
  rfl
 obtain ⟨x,n,rfl,n12,ox,q⟩:=h
 refine ⟨_,(@Af _ _ _ _ _ (@CK _ _ _ _ _ _ _ _ (@CS _ _ _ _ (@CT _ _ _ (@Am _ _ _ _ _ _ _ _ _ CD (by rfl) T.z_isinstance PyProof.Rows.boot_isinstance (@Aa _ _ _ _ _ (pv 0) (@Aa _ _ _ _ _ (CN (v:=.ty "list") rfl T.z_list PyProof.Rows.boot_list rfl) Ac (by rfl)) (by rfl)) (by decide) (by decide) (by rfl) (by rfl)) (by intro _;rfl))) (@Ah _ _ _ (@As _ _ _ _ Dv)) Bb) (@Ah _ _ _ (@As _ _ _ _ (@Dm _ _ _ _ _ _ _ (@Am _ _ _ _ _ _ _ _ _ (Jm rfl) (by rfl) T.z_all PyProof.Rows.boot_all (@Aa _ _ _ _ _ (Bl (fsc:=Ae BP) (N:=["thing","hands"]) (Nc:=["thing","hands","hand"]) rfl rfl ⟨rfl,by decide +kernel,by decide +kernel,rfl,by decide +kernel,rfl,by decide +kernel,rfl,by decide +kernel⟩ rfl (AO (pv 0)) (fun _ _ _ _=>Bm) (fun _ _ _ _=>(@Aq _ _ _ _ _ _ _ _ _ _ _ _ _ _ _ _ (D8 T) (hr.mono (by decide)) rfl T.m_is_whole T.F_is_whole.kp T.b_is_whole .nil Ay (@Aa _ _ _ _ _ (pv 2) Ac (by rfl)) (by decide) (by rfl) (by rfl)))) Ac (by rfl)) (by decide) (by decide) (by rfl) (by rfl)) (@DG _ _ _ _ _ (@DJ _ _ _ _ _ _ _ _ (Mq (K:=K) hr.units) (@Am _ _ _ _ _ _ _ _ _ Hb (by rfl) T.z_sorted PyProof.Rows.boot_sorted (@Aa _ _ _ _ _ (pv 0) Ac (by rfl)) (by decide) (by decide) (by rfl) (by rfl)) (Bv rfl (by rfl) T.z_list (by rfl) T.z_range (pv 1)) (Az _))))))),?_⟩
 obtain ⟨t,b,ty,kt,alt⟩:=ox.list
 refine ⟨_,rfl,_,_,_,_,rfl,ty,kt,?_⟩
 rcases alt with ⟨rfl,no⟩ | ⟨rfl,a,ys,rfl,ea,wy,l14⟩
 ·and_intros
  exact q false H (Ao.refl H) (fun z=>nomatch z) (fun _ ns ⟨l,e,el,_⟩=>no l _ e el)
 and_intros
 refine ⟨⟨_,SqL.of ea⟩,?_⟩
 refine AV (xs:=ys) (A5 (by omega)) (fun D i zs H'=>zs=((ys.take i).map isI).map V.bl/\H'=upd H D (.lst zs)) (fun D hD=>⟨rfl,rfl⟩) (fun D i zs H' ⟨f1,f2⟩=>⟨by rw [f2];exact Ab,by rw [f1,List.length_map,List.length_map];exact List.length_take_le _ _⟩) (fun D i zs H' hD ⟨_,f2⟩=>by rw [f2];exact SqL.of (Ad hD _ _ _ ea)) ?_ ?_
 ·rintro D i y zs H' K1 K2 hD hy ⟨f1,rfl⟩ k1 k2
  refine yes (ifT rfl ?_)
  refine ⟨_,rfl,y,_,rfl,(wy y (List.mem_of_getElem? hy)).same (Ad hD _),?_⟩
  refine k1 _ _ Ab ⟨?_,by rw [Bf]⟩
  rw [f1,List.take_succ,hy,List.map_append,List.map_append]
  rfl
 ·rintro D zs H' hD ⟨f1,rfl⟩
  rw [List.take_length] at f1
  subst f1
  refine ⟨D,_,rfl,SqL.of Ab,?_⟩
  rw [show (ys.map isI).all id=ys.all isI from by rw [List.all_map];rfl]
  have s1:=Ad hD (.lst ((ys.map isI).map V.bl))
  generalize upd H D (.lst ((ys.map isI).map V.bl))=H1 at s1 ⊢
  cases al:ys.all isI with
  | false =>
    refine ⟨_,rfl,ifF rfl ?_⟩
    exact q false _ s1 (fun z=>nomatch z) (fun _ ns ⟨l,e,el,_⟩=>by
     cases e
     rw [ea] at el
     cases el
     rw [Mf] at al
     cases al)
  | true =>
  obtain ⟨ns,rfl⟩:=KL al
  rw [List.length_map] at l14
  refine ⟨_,rfl,ifT rfl ?_⟩
  and_intros
  refine ⟨a,ns,rfl,SqL.of (s1 _ _ ea),by omega,fun c ms pa sa ha=>?_⟩
  have s2:=Ad ha (.lst (ms.map V.int))
  have e2:(upd H1 c (.lst (ms.map V.int))) c=some (.lst (ms.map V.int)):=Ab
  generalize upd H1 c (.lst (ms.map V.int))=H2 at s2 e2 ⊢
  and_intros
  refine ⟨by omega,fun d hd=>?_⟩
  rw [<- OT]
  have s3:=Ad hd (.lst ((ups n).map V.int))
  refine ⟨.list (ms.map .int),.list ((ups n).map .int),.lst (SqL.of (s3 _ _ e2)) (.ints _),.lst (SqL.of Ab) (.ints _),(At _).2,(At _).2,?_⟩
  rw [show PyData.eqv (.list (ms.map .int)) (.list ((ups n).map .int))=decide (ms=ups n) from by show PyData.eqvAll _ _=_;rw [Cz]]
  refine q _ _ ((s1.trans s2).trans s3) (fun z=>⟨ns,a,rfl,ea,?_⟩) (fun z ms' ⟨l,e,el,pm⟩=>?_)
  ·rw [<- of_decide_eq_true z]
   exact pa.symm
  ·cases e
   rw [ea] at el
   have ei:ns=ms':=FJ (HO.lst.inj (Option.some.inj el))
   subst ei
   exact of_decide_eq_false z (P4 pa sa pm)
theorem Hv (T:Tx K mg base ad):AT P w K mg base CX0 2 ad.f_law_ranks ad.d_law_ranks ["_law_cell_here","_law_hands"] Lb:=by
 refine T.F_law_ranks.ok Ce (fun vs H Q E h=>?_) (fun cdv A outer s H vs Q E hr h=>?_)
 ·obtain ⟨c,h,rfl,_⟩:=h
  rfl
 obtain ⟨c,h,rfl,c0,c1,h1,h12,q⟩:=h
 refine ⟨_,(@Af _ _ _ _ _ (@An _ _ (2) _ _ _ _ Ce.nd rfl (Or.inl rfl) (@Aq _ _ _ _ _ _ _ _ _ _ _ _ _ _ _ _ (Ds T) (hr.mono (by decide)) rfl T.m_law_mixed T.F_law_mixed.kp T.b_law_mixed .nil Ay (@Aa _ _ _ _ _ (pv 0) (@Aa _ _ _ _ _ Ag Ac (by rfl)) (by rfl)) (by decide) (by rfl) (by rfl)) (by rfl) (by first | exact .inl rfl | exact .inr rfl | assumption)) (@Af _ _ _ _ _ (@CK _ _ _ _ _ _ _ _ (@Ax _ _ _ _ _ _ _ _ FV (@Aj _ _ _ _ _ _ _ _ AM (pv 2) Ag) Ag (Az _)) (@Af _ _ _ _ _ (@An _ _ (3) _ _ _ _ Ce.nd rfl (Or.inr rfl) (@Aq _ _ _ _ _ _ _ _ _ _ _ _ _ _ _ _ (Dp T) (hr.mono (by decide)) rfl T.m_law_order T.F_law_order.kp T.b_law_order .nil Ay (@Aa _ _ _ _ _ (@Aj _ _ _ _ _ _ _ _ AZ (pv 2) Ag) (@Aa _ _ _ _ _ (pv 1) Ac (by rfl)) (by rfl)) (by decide) (by rfl) (by rfl)) (by rfl) (by first | exact .inl rfl | exact .inr rfl | assumption)) (@Af _ _ _ _ _ (@An _ _ (4) _ _ _ _ Ce.nd rfl (Or.inr rfl) (@A4 _ _ _ _ _ _ _ AH (@Bk _ _ _ _ (@Aa _ _ _ _ _ (pv 1) (@Aa _ _ _ _ _ (@Aj _ _ _ _ _ _ _ _ AM (@Aj _ _ _ _ _ _ _ _ AZ (pv 2) Ag) (@Aj _ _ _ _ _ _ _ _ AU (pv 1) Ag)) Ac (by rfl)) (by rfl))) (@Aj _ _ _ _ _ _ _ _ AM (@Aj _ _ _ _ _ _ _ _ AZ (pv 2) Ag) Ag) (fun _ _=>rfl)) (by rfl) (by first | exact .inl rfl | exact .inr rfl | assumption)) (@Ah _ _ _ (@As _ _ _ _ (Bl (fsc:=Ae Bu) (N:=["_law_cell_here","_law_hands","_law_number","_law_order_here","_law_most","_law_spread"]) (Nc:=["_law_cell_here","_law_hands","_law_number","_law_order_here","_law_most","_law_spread","_law_hand"]) rfl rfl ⟨rfl,by decide +kernel,by decide +kernel,rfl,by decide +kernel,rfl,by decide +kernel,rfl,by decide +kernel⟩ rfl (Bp rfl T.z_range (@Aa _ _ _ _ _ (pv 1) Ac (by rfl))) (fun _ _ _ _=>Bm) (fun _ _ _ _=>(@Aj _ _ _ _ _ _ _ _ DM (@BU _ _ _ _ _ _ _ _ _ L7 (by rfl) T.z_int PyProof.Rows.boot_int (@Aa _ _ _ _ _ (@DJ _ _ _ _ _ _ _ _ FV (@A4 _ _ _ _ _ _ _ (Ba K) (pv 3) (pv 6) (fun _ _=>rfl)) (pv 4) (Az _)) Ac (by rfl)) (by decide) (by decide) (by rfl) (by rfl)) (@Aj _ _ _ _ _ _ _ _ AU (@A4 _ _ _ _ _ _ _ (Ba K) (pv 3) (pv 6) (fun _ _=>rfl)) Ag)))))))) Bb) (@Af _ _ _ _ _ (@An _ _ (5) _ _ _ _ Ce.nd rfl (Or.inr rfl) (@Aj _ _ _ _ _ _ _ _ AU Ag (@Aj _ _ _ _ _ _ _ _ AM (@Aj _ _ _ _ _ _ _ _ AZ (pv 2) Ag) Ag)) (by rfl) (by first | exact .inl rfl | exact .inr rfl | assumption)) (@Ah _ _ _ (@As _ _ _ _ (Bl (fsc:=Ae Bu) (N:=["_law_cell_here","_law_hands","_law_number","_law_order_here","_law_most","_law_spread"]) (Nc:=["_law_cell_here","_law_hands","_law_number","_law_order_here","_law_most","_law_spread","_law_hand"]) rfl rfl ⟨rfl,by decide +kernel,by decide +kernel,rfl,by decide +kernel,rfl,by decide +kernel,rfl,by decide +kernel⟩ rfl (Bp rfl T.z_range (@Aa _ _ _ _ _ (pv 1) Ac (by rfl))) (fun _ _ _ _=>Bm) (fun _ _ _ _=>(@Aj _ _ _ _ _ _ _ _ AM (@Aq _ _ _ _ _ _ _ _ _ _ _ _ _ _ _ _ (Ds T) (hr.mono (by decide)) rfl T.m_law_mixed T.F_law_mixed.kp T.b_law_mixed .nil Ay (@Aa _ _ _ _ _ (pv 0) (@Aa _ _ _ _ _ (@Aj _ _ _ _ _ _ _ _ AU Ag (pv 6)) Ac (by rfl)) (by rfl)) (by decide) (by rfl) (by rfl)) (pv 5))))))))),?_⟩
 obtain ⟨n,rfl⟩:∃n:Nat,h=(n:Int):=⟨h.toNat,by omega⟩
 have szc:Sz 200 c:=(Qv c0 c1).mono (by decide)
 and_intros
 refine ⟨c,1,rfl,szc,szd 64,fun z z0 z1=>?_⟩
 have d64:=Mn z0 (show (1:Int)<=64 by decide) z1
 and_intros
 refine Om (fun _=>?_) (fun _=>?_)
 ·and_intros
  refine ⟨z.fdiv 64,(n:Int),rfl,d64.1,Int.lt_trans d64.2 (by decide),h1,h12,fun o ns H1 s1 e1 pm=>?_⟩
  rw [Int.toNat_natCast] at pm
  have nl:ns.length=n:=by rw [pm.length_eq,Bc]
  have nm:∀x∈ns,0<=x/\x < n:=fun x m=>by
   have:=pm.mem_iff.mp m
   unfold ups at this
   obtain ⟨i,hi,rfl⟩:=List.mem_map.mp this
   have:=List.mem_range.mp hi
   omega
  and_intros
  refine ⟨(by show (_:Int)≠0;omega),?_⟩
  have m2:=Be (z.fdiv 2) (show (0:Int) < 2 by decide)
  refine ⟨(by show 2<=sizeLine;decide),fun b2 hb2=>?_⟩
  dsimp only
  have s2:=s1.trans (Ad hb2 (.lst [V.int n,V.int ((z.fdiv 8).fmod (n+1))]))
  have e2:(upd H1 b2 (.lst [V.int n,V.int ((z.fdiv 8).fmod (n+1))])) b2=some (.lst [V.int n,V.int ((z.fdiv 8).fmod (n+1))]):=Ab
  have eo:=Ad hb2 (.lst [V.int n,V.int ((z.fdiv 8).fmod (n+1))]) _ _ e1
  generalize upd H1 b2 (.lst [V.int n,V.int ((z.fdiv 8).fmod (n+1))])=H2 at s2 e2 eo ⊢
  and_intros
  obtain ⟨v,hv⟩:∃v:Int,atI [V.int (n:Int),V.int ((z.fdiv 8).fmod (n+1))] ((z.fdiv 2).fmod 2)=some (.int v):=by
   rcases (by omega:(z.fdiv 2).fmod 2=0\/(z.fdiv 2).fmod 2=1) with e | e
   ·rw [e];exact ⟨_,rfl⟩
   ·rw [e];exact ⟨_,rfl⟩
  refine ⟨b2,_,_,_,rfl,rfl,SqL.of e2,hv,?_⟩
  and_intros
  refine ⟨by omega,by omega,?_⟩
  rw [Int.toNat_natCast]
  refine B6 (A5 (by omega)) (fun D i ys J=>∃us:List Int,ys=us.map V.int/\us.length=i/\(∀u∈us,0<=u/\u<=12)/\J=upd H2 D (.lst ys)) (fun D hD=>⟨[],rfl,rfl,(fun _ m=>nomatch m),rfl⟩) (fun D i ys J ⟨us,g1,g2,_,g3⟩=>⟨by rw [g3];exact Ab,by rw [g1,List.length_map,g2];exact Nat.le_refl _⟩) ?_ ?_
  ·rintro D i ys J K1 K2 hD hi ⟨us,rfl,g2,g3,rfl⟩ k1 k2
   have e0:(0:Int)+(i:Int)=(i:Int):=Int.zero_add _
   have eo':=Ad hD (.lst (us.map V.int)) _ _ eo
   have ni:=nm _ (List.getElem_mem (show i < ns.length by omega))
   have gi:atI (ns.map V.int) (0+(i:Int))=some (.int ns[i]):=by rw [e0];exact atN (List.getElem?_eq_getElem (by omega))
   refine yes (ifT rfl ?_)
   refine ⟨_,rfl,_,rfl,o,_,_,_,rfl,rfl,SqL.of eo',gi,_,rfl,_,_,rfl,rfl,.inr ⟨_,rfl,?_⟩⟩
   have b01:∀b:Bool,(0:Int)<=(if b=true then 1 else 0)/\(if b=true then (1:Int) else 0)<=1:=fun b=>by cases b <;> decide
   have hb:=b01 (decide (ns[i] < v))
   generalize (if decide (ns[i] < v)=true then (1:Int) else 0)=y at hb ⊢
   have szy:Sz 64 y:=EU (by omega) (by omega)
   have szn:Sz 64 (ns[i]+1):=EU (by omega) (by omega)
   refine ⟨_,rfl,_,rfl,o,_,_,_,rfl,rfl,SqL.of eo',gi,_,_,rfl,rfl,_,_,rfl,rfl,⟨_,_,szy,szn,by decide +kernel⟩,?_⟩
   refine k1 _ _ Ab ⟨us++[y*(ns[i]+1)],by rw [List.map_append];rfl,by rw [List.length_append,g2];rfl,fun u m=>?_,by rw [Bf]⟩
   rcases List.mem_append.mp m with m | m
   ·exact g3 u m
   ·rw [List.mem_singleton.mp m]
    rcases (by omega:y=0\/y=1) with e | e
    ·rw [e,Int.zero_mul];omega
    ·rw [e,Int.one_mul];omega
  ·rintro D ys J hD ⟨us,rfl,g2,g3,rfl⟩
   exact q D us _ (none_of s2 hD) (s2.trans (Ad hD _)) Ab ⟨by omega,g3⟩
 ·and_intros
  refine ⟨by omega,by omega,?_⟩
  rw [Int.toNat_natCast]
  have m4:=Be (z.fdiv 8) (show (0:Int) < 4 by decide)
  dsimp only
  refine B6 (A5 (by omega)) (fun D i ys J=>∃us:List Int,ys=us.map V.int/\us.length=i/\(∀u∈us,0<=u/\u<=12)/\J=upd H D (.lst ys)) (fun D hD=>⟨[],rfl,rfl,(fun _ m=>nomatch m),rfl⟩) (fun D i ys J ⟨us,g1,g2,_,g3⟩=>⟨by rw [g3];exact Ab,by rw [g1,List.length_map,g2];exact Nat.le_refl _⟩) ?_ ?_
  ·rintro D i ys J K1 K2 hD hi ⟨us,rfl,g2,g3,rfl⟩ k1 k2
   refine yes (ifT rfl ?_)
   and_intros
   refine ⟨c,20+(0+(i:Int)),rfl,szc,EU (by omega) (by omega),fun y y0 y1=>?_⟩
   have my:=Be y (show (0:Int) < 2+(z.fdiv 8).fmod 4 by omega)
   and_intros
   refine ⟨(by show (_:Int)≠0;omega),?_⟩
   refine k1 _ _ Ab ⟨us++[y.fmod (2+(z.fdiv 8).fmod 4)],by rw [List.map_append];rfl,by rw [List.length_append,g2];rfl,fun u m=>?_,by rw [Bf]⟩
   rcases List.mem_append.mp m with m | m
   ·exact g3 u m
   ·rw [List.mem_singleton.mp m];omega
  ·rintro D ys J hD ⟨us,rfl,g2,g3,rfl⟩
   exact q D us _ hD (Ad hD _) Ab ⟨by omega,g3⟩
theorem Er (T:Tx K mg base ad):AT P w K mg base CX0 2 ad.f_law_sheet ad.d_law_sheet ["_law_votes_here"] Lo:=by
 refine T.F_law_sheet.ok Cb (fun vs H Q E h=>?_) (fun cdv A outer s H vs Q E hr h=>?_)
 ·obtain ⟨l,vo,h,rfl,_⟩:=h
  rfl
 obtain ⟨l,vo,h,rfl,hl,g0,l24,nv,h12,q⟩:=h
 refine ⟨_,(@Af _ _ _ _ _ (@An _ _ (1) _ _ _ _ Cb.nd rfl (Or.inr rfl) Nw (by rfl) (by first | exact .inl rfl | exact .inr rfl | assumption)) (@Af _ _ _ _ _ (C5 PassesOwn.never rfl (AO (pv 0)) (Ga rfl (Bj (AC (i:=2) Cb.nd rfl (Or.inl rfl)) (Bj (AC (i:=3) Cb.nd rfl (Or.inl rfl)) DK))) (@Af _ _ _ _ _ (@An _ _ (4) _ _ _ _ Cb.nd rfl (Or.inl rfl) (@Aq _ _ _ _ _ _ _ _ _ _ _ _ _ _ _ _ (Ih T) (hr.mono (by decide)) rfl T.m_law_slip T.F_law_slip.kp T.b_law_slip .nil Ay (@Aa _ _ _ _ _ (pv 2) Ac (by rfl)) (by decide) (by rfl) (by rfl)) (by rfl) (by first | exact .inl rfl | exact .inr rfl | assumption)) (@Ah _ _ _ (Ox (u1 hr.units) (pv 1) (pv 4) (@Aj _ _ _ _ _ _ _ _ AU (Nj (u1 hr.units) (pv 1) (pv 4) Ag ⟨rfl,rfl,rfl,rfl⟩) (pv 3)) rfl)))) (@Ah _ _ _ (@As _ _ _ _ (Bl (fsc:=Ae BD) (N:=["_law_votes_here","_law_many","_law_ranks_here","_law_number","_law_slip_here"]) (Nc:=["_law_votes_here","_law_many","_law_ranks_here","_law_number",".s4","_law_slip_here"]) rfl rfl ⟨rfl,by decide +kernel,by decide +kernel,rfl,by decide +kernel,rfl,by decide +kernel,rfl,by decide +kernel⟩ rfl (AO (@Am _ _ _ _ _ _ _ _ _ (Ge rfl hr.units) (by rfl) T.z_sorted PyProof.Rows.boot_sorted (@Aa _ _ _ _ _ (pv 1) Ac (by rfl)) (by decide) (by decide) (by rfl) (by rfl))) (fun _ _ _ _=>Bm) (fun _ _ _ _=>(@BL _ _ _ _ _ (@Aa _ _ _ _ _ (pv 5) (@Aa _ _ _ _ _ (OD (u1 hr.units) (pv 1) (pv 5) (fun _ _=>rfl)) Ac (by rfl)) (by rfl))))))))),?_⟩
 intro d hd
 have s0:=Ad hd (.dT [])
 have e0:(upd H d (.dT [])) d=some (.dT []):=Ab
 generalize upd H d (.dT [])=H0 at s0 e0 ⊢
 refine ⟨_,rfl,l,rfl,⟨_,SqL.of (s0 _ _ hl)⟩,Db (xs:=vvo vo) (fun i σ' H'=>∃(v2 v3 v4:Option V) (kvs:List (List Key × V)),σ'=[some (V.ref l),some (.ref d),v2,v3,v4]/\Ao H H'/\H' d=some (.dT kvs)/\Gv h kvs/\kvs.length<=i/\JP (1000000000*((i:Nat):Int)) kvs/\(kvs.map (·.1)).Nodup/\∀f,BK f (dsK kvs)=Gh (fun rs=>f (BF rs)) (vo.take (i))) ⟨none,none,none,[],rfl,s0,e0,(fun _ m=>nomatch m),Nat.le_refl _,(fun _ m=>nomatch m),List.nodup_nil,fun _=>rfl⟩ (fun i σ' H' _ ⟨_,_,_,_,_,e,_⟩=>SqL.of (e _ _ hl)) ?_ ?_⟩
 ·rintro i x σ' H' hx ⟨v2,v3,v4,kvs,rfl,s1,e1,g,hk,lw,nd,sm⟩
  obtain ⟨f,hf,rfl,fm,et⟩:=Kv hx
  obtain ⟨g1,g2,g3⟩:=g0 f fm
  have hi:i < vo.length:=(List.getElem?_eq_some_iff.mp hf).1
  obtain ⟨nf0,nf1,nfr⟩:=nv f fm
  refine ⟨f.1,_,rfl,SqT.of (s1 _ _ g1),rfl,_,_,rfl,_,_,rfl,rfl,?_⟩
  and_intros
  refine ⟨f.2.1,f.2.2.1,rfl,SqL.of (s1 _ _ g2),by omega,fun t H2 ht s2 e2=>?_⟩
  have fi:Fb h (BF f.2.2.1):=⟨_,g3,nfr,rfl⟩
  generalize ets:BF f.2.2.1=ts at e2 fi
  have d2:=s2 _ _ e1
  have kt:H2 t=some (.tup ((ts.map Sum.inl:List Key).map kV)):=by rw [Nk];exact e2
  obtain ⟨n,en⟩:∃n,n=f.2.2.2:=⟨_,rfl⟩
  rw [<- en] at nf0 nf1 ⊢
  have put:∀(z:Int) (H3:Hp),0<=z->z<=1000000000*((i:Int)+1)->(∀f,BK f (dsK (C9 kvs (ts.map Sum.inl) (.int z)))=BK f (dsK kvs)+if f ts then n else 0)->Ao H2 H3->H3 d=some (.dT kvs)->H3 t=some (.tup ((ts.map Sum.inl:List Key).map kV))->∃a H4,V.ref d=V.ref a/\Lj H3 a (.ref t) (.int z) H4/\∃(v2 v3 v4:Option V) (qs:List (List Key × V)),[some (V.ref l),some (.ref d),some (.ref f.2.1),some (.int n),some (.ref t)]=[some (V.ref l),some (.ref d),v2,v3,v4]/\Ao H H4/\H4 d=some (.dT qs)/\Gv h qs/\qs.length<=i+1/\JP (1000000000*((i+1:Nat):Int)) qs/\(qs.map (·.1)).Nodup/\∀f,BK f (dsK qs)=Gh (fun rs=>f (BF rs)) (vo.take (i+1)):=fun z H3 z0 z1 zs s3 d3 t3 =>
   ⟨d,_,rfl,Lj.t d3 t3 (Bq (by omega)),_,_,_,_,rfl,A9 ((s1.trans s2).trans s3) hd,Ab,Lf g fi,Nat.le_trans (NC ..) (by omega),lw.put (by omega) z0 (by omega),Ph nd,fun f'=>by
    rw [zs f',sm f',et,LH,ets,en]⟩
  refine ⟨_,rfl,d,rfl,.inr ⟨_,.inl d2⟩,_,rfl,_,Hf.t d2 kt,?_⟩
  cases ev:C2 kvs (ts.map Sum.inl:List Key) with
  | none =>
    and_intros
    exact put _ H2 (by omega) (by omega) (fun f=>by rw [Int.zero_add];exact Ov f ev) (fun _ _ e=>e) d2 kt
  | some w =>
    obtain ⟨mm,rfl⟩:=GM g ev
    have lv:=lw.val ev
    and_intros
    exact put _ H2 (by omega) (by omega) (fun f=>Ou f nd ev) (fun _ _ e=>e) d2 kt
 ·rintro σ' H' ⟨v2,v3,v4,kvs,rfl,s1,e1,g,hk,lw,nd,sm⟩
  rw [Es] at hk lw sm
  rw [List.take_of_length_le (Nat.le_refl _)] at sm
  obtain ⟨ks,k1,k2,k3⟩:=Kg g
  refine ⟨_,rfl,d,kvs,ks,rfl,.inl e1,k1,by omega,fun l2 rs r1 r2 r3 hl2=>?_⟩
  have sl:=Ad hl2 (.lst (rs.map fun q=>V.ref q.1))
  have el:(upd H' l2 (.lst (rs.map fun q=>V.ref q.1))) l2=some (.lst (rs.map fun q=>V.ref q.1)):=Ab
  generalize upd H' l2 (.lst (rs.map fun q=>V.ref q.1))=H1 at sl el ⊢
  have rl:rs.length<=60:=by
   have:=r2.length_eq
   rw [List.length_map] at this
   omega
  refine ⟨l2,rfl,⟨_,SqL.of el⟩,?_⟩
  refine AV (xs:=rs.map fun q=>V.ref q.1) (by rw [List.length_map];exact A5 (by omega)) (fun D i ys H2=>∃ms:Ls,ys=vls ms/\ms.length=i/\H2 D=some (.lst ys)/\Ao H1 H2/\DZ h H2 ms/\Qj ms/\dsL ms=(rs.take i).map fun r=>(r.2,nvK kvs r.2)) (fun D hD=>⟨[],rfl,rfl,Ab,Ad hD _,(fun _ m=>nomatch m),(fun _ m=>nomatch m),rfl⟩) (fun D i ys H2 ⟨ms,f1,f2,f3,_⟩=>⟨f3,by rw [f1,Ks];omega⟩) (fun D i ys H2 hD ⟨ms,_,_,_,f4,_⟩=>SqL.of (f4 _ _ el)) ?_ ?_
  ·rintro D i x ys H2 K1 K2 hD hx ⟨ms,rfl,f2,f3,f4,f5,f6,f7⟩ kk1 kk2
   rw [List.getElem?_map] at hx
   obtain ⟨r,er,rfl⟩:=Option.map_eq_some_iff.mp hx
   have rm:=List.mem_of_getElem? er
   have sH:=sl.trans f4
   have ek:=sH _ _ (r1 r rm)
   obtain ⟨fr,n,ev⟩:=k3 r.2 (r2.mem_iff.mp (List.mem_map.mpr ⟨r,rm,rfl⟩))
   refine yes (ifT rfl ?_)
   have dg:=Hf.t (k:=(r.2.map Sum.inl:List Key)) (sH _ _ e1) (by rw [Nk];exact ek)
   rw [ev] at dg
   refine ⟨_,rfl,_,rfl,_,rfl,d,.int n,rfl,dg,(by show 2<=sizeLine;decide),fun t ht=>?_⟩
   have s6:=Ad ht (.tup [V.ref r.1,V.int n])
   have lv:=lw.val ev
   refine kk1 _ _ (s6 _ _ f3) ⟨ms++[(t,r.1,r.2,n)],by unfold vls;rw [List.map_append];rfl,by rw [List.length_append,f2];rfl,Ab,A9 (f4.trans s6) hD,fun q m=>?_,fun q m=>?_,?_⟩
   ·have keep:∀b u,(upd H2 t (.tup [V.ref r.1,V.int n])) b=some (.tup u)->(upd (upd H2 t (.tup [V.ref r.1,V.int n])) D (.lst (vls ms++[V.ref t]))) b=some (.tup u):=fun b u e=>by
     rw [Ai (Mt e (s6 _ _ f3) (fun z=>nomatch z))]
     exact e
    rcases List.mem_append.mp m with m | m
    ·obtain ⟨a1,a2,a3⟩:=f5 q m
     exact ⟨keep _ _ (s6 _ _ a1),keep _ _ (s6 _ _ a2),a3⟩
    ·rw [List.mem_singleton.mp m]
     exact ⟨keep _ _ Ab,keep _ _ (s6 _ _ ek),fr⟩
   ·rcases List.mem_append.mp m with m | m
    ·exact f6 q m
    ·rw [List.mem_singleton.mp m]
     exact ⟨lv.1,by show n<=_;omega⟩
   ·rw [show rs.take (i+1)=rs.take i++[r] from by rw [List.take_add_one,er];rfl,List.map_append,<- f7]
    unfold dsL
    rw [List.map_append]
    show _++[(r.2,n)]=_++[(r.2,nvK kvs r.2)]
    rw [show nvK kvs r.2=n from by unfold nvK;rw [ev]]
  rintro D ys H2 hD ⟨ms,rfl,f2,f3,f4,f5,f6,f7⟩
  rw [List.length_map,List.take_of_length_le (Nat.le_refl _)] at f7
  rw [List.length_map] at f2
  refine q D ms H2 ((s1.trans sl).trans f4) f3 f5 (by omega) f6 fun f=>?_
  rw [f7,<- sm,<- Jy nd k1 r2 f,List.map_map]
  rfl
theorem Em (T:Tx K mg base ad):AT P w K mg base CX0 2 ad.f_Pairs_picks_by ad.d_Pairs_picks_by ["self","strengths"] (LD ad.c_Pairs):=by
 refine T.F_Pairs_picks_by.ok B4 (fun vs H Q E h=>?_) (fun cdv A outer s H vs Q E hr h=>?_)
 ·obtain ⟨a,r,rs,h,s,ns,L,F,rfl,_⟩:=h
  rfl
 obtain ⟨a,r,rs,h,s,ns,L,F,rfl,md,hr0,tb,st,q⟩:=h
 refine ⟨_,(@Af _ _ _ _ _ (@An _ _ (2) _ _ _ _ B4.nd rfl (Or.inl rfl) (@Bk _ _ _ _ Ac) (by rfl) (by first | exact .inl rfl | exact .inr rfl | assumption)) (@Af _ _ _ _ _ (@An _ _ (3) _ _ _ _ B4.nd rfl (Or.inr rfl) (@BU _ _ _ _ _ _ _ _ _ BI (by rfl) T.z_list PyProof.Rows.boot_list (@Aa _ _ _ _ _ (Cd (pv 0) rfl) Ac (by rfl)) (by decide) (by decide) (by rfl) (by rfl)) (by rfl) (by first | exact .inl rfl | exact .inr rfl | assumption)) (@Af _ _ _ _ _ (Ev PassesOwn.never (PW.pt (@Nx _ _ _ _ _ _ _ (@Ax _ _ _ _ _ _ _ _ (Du (K:=K) hr.units) (pv 3) (@Bk _ _ _ _ Ac) (Az _)) (@Kt _ _ _ _ (@Ax _ _ _ _ _ _ _ _ FV (@Am _ _ _ _ _ _ _ _ _ A8 (by rfl) T.z_len PySem.boot_len (@Aa _ _ _ _ _ (pv 2) Ac (by rfl)) (by decide) (by decide) (by rfl) (by rfl)) (Cd (pv 0) rfl) (Az _))))) (@Af _ _ _ _ _ (@An _ _ (4) _ _ _ _ B4.nd rfl (Or.inl rfl) (@A4 _ _ _ _ _ _ _ AH (Bl (fsc:=Ae AL) (N:=["self","strengths","picks","left","first"]) (Nc:=["self","strengths","picks","left","first","hand"]) rfl rfl ⟨rfl,by decide +kernel,by decide +kernel,rfl,by decide +kernel,rfl,by decide +kernel,rfl,by decide +kernel⟩ rfl (AO (pv 3)) (fun _ _ _ _=>(DO (@CS _ _ _ _ (@CT _ _ _ (@Aq _ _ _ _ _ _ _ _ _ _ _ _ _ _ _ _ (Hg T) (hr.mono (by decide)) rfl T.m_is_beaten T.F_is_beaten.kp T.b_is_beaten .nil Ay (@Aa _ _ _ _ _ (pv 1) (@Aa _ _ _ _ _ (pv 5) (@Aa _ _ _ _ _ (pv 3) Ac (by rfl)) (by rfl)) (by rfl)) (by decide) (by rfl) (by rfl)) (by intro _;rfl))))) (fun _ _ _ _=>(pv 5))) Ag (fun _ _=>rfl)) (by rfl) (by first | exact .inl rfl | exact .inr rfl | assumption)) (@Af _ _ _ _ _ (@Cc _ _ _ _ (CY PySem.F.plainAttrs_list PySem.F.slot_list_append PySem.F.type_list_append BH (pv 2) (@Aa _ _ _ _ _ (pv 4) Ac (by rfl))) (by rfl)) (@Ah _ _ _ (@Cc _ _ _ _ (CY PySem.F.plainAttrs_list PySem.F.slot_list_remove PySem.F.type_list_remove Gy (pv 3) (@Aa _ _ _ _ _ (pv 4) Ac (by rfl))) (by rfl)))))) (@Ah _ _ _ (@As _ _ _ _ (pv 2)))))),?_⟩
 obtain ⟨dx,la,k1,k2⟩:=id md.is
 have h12:=md.h12
 have s60:=md.s60
 have nl:ns.length=h:=by rw [md.pm.length_eq,Bc]
 refine ⟨(by show 0<=sizeLine;decide),fun p hp=>?_⟩
 have s1:=Ad hp (.lst [])
 have e1:(upd H p (.lst [])) p=some (.lst (([]:List Int).map V.int)):=Ab
 generalize upd H p (.lst [])=H1 at s1 e1 ⊢
 refine ⟨_,rfl,a,_,dx,_,_,rfl,s1 _ _ k1,T.cl_Pairs,T.na_Pairs_lots,rfl,?_⟩
 refine ⟨la,_,rfl,.inl (SqL.of (s1 _ _ k2)),fun l hl=>?_⟩
 have lp:l≠p:=fun z=>by rw [z,e1] at hl;cases hl
 have hlH:=none_of s1 hl
 have s2:=s1.trans (Ad hl (.lst (ns.map V.int)))
 have p2:=Ad hl (.lst (ns.map V.int)) _ _ e1
 have l2:(upd H1 l (.lst (ns.map V.int))) l=some (.lst (ns.map V.int)):=Ab
 generalize upd H1 l (.lst (ns.map V.int))=H2 at s2 p2 l2 ⊢
 refine ⟨fun m σ' H'=>∃(v4:Option V) (left got:List Int),σ'=[some (.ref a),some (.ref r),some (.ref p),some (.ref l),v4]/\Ao H H'/\H' p=some (.lst (got.map V.int))/\H' l=some (.lst (left.map V.int))/\(∀z∈left,∃i:Nat,i < h/\z=(i:Int))/\got.length<=s/\got++Ap F (s - got.length) left=Ap F s ns/\left.length=m/\m<=12,⟨_,none,ns,[],rfl,s2,p2,l2,(fun z mz=>Dz (md.pm.mem_iff.mp mz)),Nat.zero_le _,rfl,rfl,by omega⟩,?_⟩
 rintro m σ' H' ⟨v4,left,got,rfl,s3,p3,l3,sub,gs,pk,lm,m12⟩
 refine ⟨_,rfl,(by show 0<=sizeLine;decide),fun z3 hz3=>?_⟩
 have sz:=Ad hz3 (.lst [])
 have ez:(upd H' z3 (.lst [])) z3=some (.lst (([]:List Int).map V.int)):=Ab
 generalize upd H' z3 (.lst [])=H4 at sz ez ⊢
 have p4:=sz _ _ p3
 have l4:=sz _ _ l3
 have s4:=s3.trans sz
 refine ⟨.list (left.map .int),.list (([]:List Int).map .int),.lst (SqL.of l4) (.ints _),.lst (SqL.of ez) (.ints []),(At _).2,(At _).2,?_⟩
 rw [show PyData.eqv (.list (left.map .int)) (.list (([]:List Int).map .int))=decide (left=[]) from Cz _ _]
 refine ⟨_,rfl,?_⟩
 have fin:Ap F (s - got.length) left=[]->Q (.ref p) H4:=fun e=>by
  rw [e,List.append_nil] at pk
  exact q p H4 hp s4 (by rw [<- pk];exact p4)
 by_cases cl:left=[]
 ·rw [decide_eq_true cl]
  refine ifF rfl ?_
  and_intros
  exact fin (by rw [cl];exact Bt F _)
 ·rw [decide_eq_false cl]
  refine ifT rfl ?_
  and_intros
  refine ⟨a,_,dx,_,_,rfl,s4 _ _ k1,T.cl_Pairs,T.na_Pairs_seats,rfl,?_⟩
  and_intros
  by_cases cs:got.length < s
  ·refine ifT (decide_eq_true (by rw [List.length_map];omega)) ?_
   have pl:0 < left.length:=List.length_pos_iff.mpr cl
   refine ⟨fun σ' H'=>∃(v4:Option V) (left got:List Int),σ'=[some (.ref a),some (.ref r),some (.ref p),some (.ref l),v4]/\Ao H H'/\H' p=some (.lst (got.map V.int))/\H' l=some (.lst (left.map V.int))/\(∀z∈left,∃i:Nat,i < h/\z=(i:Int))/\got.length<=s/\got++Ap F (s - got.length) left=Ap F s ns/\left.length=m - 1/\m - 1<=12,fun σ' H' e=>⟨m - 1,by omega,e⟩,?_⟩
   and_intros
   refine ⟨⟨_,SqL.of l4⟩,?_⟩
   refine AV (xs:=left.map V.int) (by rw [List.length_map];exact A5 (by omega)) (fun D i ys J=>ys=((left.take i).filter fun z=>!BM F z left).map V.int/\J D=some (.lst ys)/\Ao H4 J) (fun D hD=>⟨rfl,Ab,Ad hD _⟩) (fun D i ys J ⟨f1,f2,_⟩=>⟨f2,by rw [f1,List.length_map];exact Nat.le_trans (List.length_filter_le _ _) (List.length_take_le _ _)⟩) (fun D i ys J hD ⟨_,_,f3⟩=>SqL.of (f3 _ _ l4)) ?_ ?_
   ·rintro D i w ys J K1 K2 hD hw ⟨f1,f2,f3⟩ kk1 kk2
    obtain ⟨z,hz,rfl⟩:=int_at hw
    obtain ⟨j,hj,rfl⟩:=sub z (List.mem_of_getElem? hz)
    have et:left.take (i+1)=left.take i++[(j:Int)]:=by rw [List.take_add_one,hz];rfl
    have s5:=s4.trans f3
    refine ⟨_,rfl,_,rfl,_,rfl,r,l,rs,h,j,F,left,rfl,s5 _ _ hr0,tb.same s5,hj,f3 _ _ l4,sub,by omega,fun H6 s6=>?_⟩
    refine ⟨_,rfl,?_⟩
    cases eb:BM F (j:Int) left with
    | true =>
      refine ifF rfl ?_
      refine kk2 _ ⟨?_,s6 _ _ f2,f3.trans s6⟩
      rw [et,List.filter_append,f1]
      simp [eb]
    | false =>
      refine ifT rfl ?_
      refine ⟨_,rfl,?_⟩
      refine kk1 _ _ (s6 _ _ f2) ⟨?_,Ab,A9 (f3.trans s6) hD⟩
      rw [et,List.filter_append,List.map_append,f1]
      simp [eb]
   rintro D ys H5 hD ⟨f1,f2,f3⟩
   rw [List.length_map,List.take_of_length_le (Nat.le_refl _)] at f1
   subst f1
   have ue:unb F left≠[]:=JB st cl sub
   obtain ⟨u,ur,eu⟩:∃u ur,unb F left=u :: ur:=by
    cases e:unb F left with
    | nil=>exact absurd e ue
    | cons u ur=>exact ⟨u,ur,rfl⟩
   have um:u∈left:=by
    have:u∈unb F left:=by rw [eu];exact List.mem_cons_self ..
    exact (List.mem_filter.mp this).1
   have f2':H5 D=some (.lst ((u :: ur).map V.int)):=by rw [<- eu];exact f2
   have sg:=Bg F (s:=s - got.length - 1) cl
   rw [show s - got.length - 1+1=s - got.length by omega,eu] at sg
   have p5:=f3 _ _ p4
   have l5:=f3 _ _ l4
   have s5:=s4.trans f3
   and_intros
   refine ⟨D,_,_,_,rfl,rfl,SqL.of f2',(show atI _ ((0:Nat):Int)=_ from atN rfl),?_⟩
   and_intros
   refine ⟨.inl ⟨rfl,_,SqL.of p5⟩,?_⟩
   and_intros
   refine ⟨p,_,_,rfl,rfl,p5,(by rw [List.length_map];exact Bq (by omega)),?_⟩
   have l6:(upd H5 p (.lst (got.map V.int++[V.int u]))) l=some (.lst (left.map V.int)):=by rw [Ai lp];exact l5
   have p6:(upd H5 p (.lst (got.map V.int++[V.int u]))) p=some (.lst ((got++[u]).map V.int)):=by rw [Ab,List.map_append];rfl
   have s6:=A9 (o:=.lst (got.map V.int++[V.int u])) s5 hp
   generalize upd H5 p (.lst (got.map V.int++[V.int u]))=H6 at l6 p6 s6 ⊢
   and_intros
   refine ⟨.inl ⟨rfl,_,SqL.of l6⟩,?_⟩
   and_intros
   refine ⟨l,left,u,rfl,rfl,l6,um,?_⟩
   rw [<- E6]
   refine ⟨_,left.erase u,got++[u],rfl,A9 s6 hlH,by rw [Ai (Ne.symm lp)];exact p6,Ab,fun z mz=>sub z (List.mem_of_mem_erase mz),by rw [List.length_append];show got.length+1<=s;omega,?_,by rw [List.length_erase_of_mem um];omega,by omega⟩
   rw [List.length_append,show s - (got.length+[u].length)=s - got.length - 1 from (by show s - (got.length+1)=_;omega),List.append_assoc]
   show got++(u :: Ap F (s - got.length - 1) (left.erase u))=_
   rw [<- pk,sg]
   rfl
  ·refine ifF (decide_eq_false (by rw [List.length_map];omega)) ?_
   and_intros
   exact fin (by rw [show s - got.length=0 by omega];exact Bw F _)
theorem Gk (T:Tx K mg base ad):AT P w K mg base CX0 3 ad.f_shown_from ad.d_shown_from ["reached","x"] IU:=by
 refine T.F_shown_from.ok DW (fun vs H Q E h=>?_) (fun cdv A outer s H vs Q E hr h=>?_)
 ·obtain ⟨t,h,x,L,be,rfl,_⟩:=h
  rfl
 obtain ⟨t,h,x,L,be,rfl,td,hx,h12,q⟩:=h
 refine ⟨_,(@Af _ _ _ _ _ (Fj (j:=2) (fsc:=Ae Bi) (N:=["reached","x","others"]) (Nc:=["reached","x","others","y"]) rfl rfl ⟨rfl,by decide +kernel,by decide +kernel,rfl,by decide +kernel,rfl,by decide +kernel,rfl,by decide +kernel⟩ rfl DW.nd rfl rfl (Bp rfl T.z_range (@Aa _ _ _ _ _ (@Am _ _ _ _ _ _ _ _ _ A8 (by rfl) T.z_len PySem.boot_len (@Aa _ _ _ _ _ (@A4 _ _ _ _ _ _ _ Dn (pv 0) Ag (fun _ _=>rfl)) Ac (by rfl)) (by decide) (by decide) (by rfl) (by rfl)) Ac (by rfl))) (fun _ _ _ _=>(DO (@Ax _ _ _ _ _ _ _ _ Eb (pv 3) (pv 1) (Az _)))) (fun _ _ _ _=>(pv 3)) rfl) (@Ah _ _ _ (@As _ _ _ _ (Bl (fsc:=Ae Bi) (N:=["reached","x","others"]) (Nc:=["reached","x","others","y"]) rfl rfl ⟨rfl,by decide +kernel,by decide +kernel,rfl,by decide +kernel,rfl,by decide +kernel,rfl,by decide +kernel⟩ rfl (AO (pv 2)) (fun _ _ _ _=>Bm) (fun _ _ _ _=>(@BL _ _ _ _ _ (@Aa _ _ _ _ _ (pv 1) (@Aa _ _ _ _ _ (pv 3) (@Aa _ _ _ _ _ (@A4 _ _ _ _ _ _ _ (Ba K) (@A4 _ _ _ _ _ _ _ (Kr K) (pv 0) Ag (fun _ _=>rfl)) (pv 3) (fun _ _=>rfl)) (@Aa _ _ _ _ _ (@Aq _ _ _ _ _ _ _ _ _ _ _ _ _ _ _ _ (Lm T) (hr.mono (by decide)) rfl T.m_way_by T.F_way_by.kp T.b_way_by .nil Ay (@Aa _ _ _ _ _ (pv 0) (@Aa _ _ _ _ _ (pv 1) (@Aa _ _ _ _ _ (pv 3) Ac (by rfl)) (by rfl)) (by rfl)) (by decide) (by rfl) (by rfl)) (@Aa _ _ _ _ _ (@Aq _ _ _ _ _ _ _ _ _ _ _ _ _ _ _ _ (Lv T) (hr.mono (by decide)) rfl T.m_cut_by T.F_cut_by.kp T.b_cut_by .nil Ay (@Aa _ _ _ _ _ (pv 0) (@Aa _ _ _ _ _ (pv 1) (@Aa _ _ _ _ _ (pv 3) Ac (by rfl)) (by rfl)) (by rfl)) (by decide) (by rfl) (by rfl)) Ac (by rfl)) (by rfl)) (by rfl)) (by rfl)) (by rfl)))))))),?_⟩
 obtain ⟨b,f,bf,et,eb,ef,re⟩:=id td.is
 have bl:=re.lenb
 and_intros
 refine ⟨by omega,by rw [List.length_map];omega,?_⟩
 rw [List.length_map,bl,Int.toNat_natCast]
 refine B6 (A5 (by omega)) (fun D i ys J=>ys=(Co i x).map V.int/\J=upd H D (.lst ys)) (fun D hD=>⟨rfl,rfl⟩) (fun D i ys J ⟨g1,g2⟩=>⟨by rw [g2];exact Ab,by rw [g1,List.length_map];unfold Co;rw [List.length_map];exact Nat.le_trans (List.length_filter_le _ _) (by rw [List.length_range];exact Nat.le_refl _)⟩) ?_ ?_
 ·rintro D i ys J K1 K2 hD hi ⟨g1,rfl⟩ k1 k2
  have e0:(0:Int)+(i:Int)=(i:Int):=Int.zero_add _
  rw [e0]
  and_intros
  by_cases c:i=x
  ·refine ifF (JE (by rw [c])) ?_
   exact k2 _ ⟨by rw [g1,DL,if_pos c,List.append_nil],rfl⟩
  ·refine ifT (Pr fun e=>c (Int.ofNat.inj e)) ?_
   refine ⟨_,rfl,?_⟩
   exact k1 _ _ Ab ⟨by rw [g1,DL,if_neg c,List.map_append];rfl,by rw [Bf]⟩
 rintro l ys H1 hl ⟨rfl,rfl⟩
 have s1:=Ad hl (.lst ((Co h x).map V.int))
 have e1:(upd H l (.lst ((Co h x).map V.int))) l=some (.lst ((Co h x).map V.int)):=Ab
 generalize upd H l (.lst ((Co h x).map V.int))=H1 at s1 e1 ⊢
 rw [MF] at e1
 have nl:(Hw h x).length<=h:=Nat.le_trans (List.length_filter_le _ _) (by rw [List.length_range];exact Nat.le_refl _)
 and_intros
 refine ⟨⟨_,SqL.of e1⟩,?_⟩
 refine AV (xs:=(Ed (Hw h x)).map V.int) (by rw [List.length_map];unfold Ed;rw [List.length_map];exact A5 (by omega)) (fun D i ys J=>∃rows:List Rw,ys=vrw rows/\rows.length=i/\J D=some (.lst ys)/\Ao H1 J/\(∀q∈rows,EE h L (fun _ y=>be.getD y 0) J q/\q.x=x/\H1 q.t=none/\H1 q.w=none/\q.t≠D/\q.w≠D)/\rows.map (fun q=>(q.x,q.y))=((Hw h x).take i).map fun y=>(x,y)) (fun D hD=>⟨[],rfl,rfl,Ab,Ad hD _,(fun _ m=>nomatch m),rfl⟩) (fun D i ys J ⟨rows,g1,g2,g3,_⟩=>⟨g3,by rw [g1];unfold vrw;rw [List.length_map,g2];exact Nat.le_refl _⟩) (fun D i ys J hD ⟨_,_,_,_,g4,_⟩=>SqL.of (g4 _ _ e1)) ?_ ?_
 ·rintro D i w ys J K1 K2 hD hw ⟨rows,rfl,g2,g3,g4,g5,g6⟩ k1 k2
  obtain ⟨z,hz,rfl⟩:=int_at hw
  unfold Ed at hz
  rw [List.getElem?_map] at hz
  obtain ⟨y,hy0,rfl⟩:=Option.map_eq_some_iff.mp hz
  obtain ⟨hy,yx⟩:y < h/\y≠x:=by
   have:=List.mem_filter.mp (List.mem_of_getElem? hy0)
   exact ⟨List.mem_range.mp this.1,of_decide_eq_true this.2⟩
  have sJ:=s1.trans g4
  have et':=sJ _ _ et
  refine yes (ifT rfl ?_)
  refine ⟨_,rfl,_,rfl,_,rfl,t,_,_,_,rfl,rfl,SqT.of et',rfl,?_⟩
  refine ⟨_,rfl,b,_,_,_,rfl,rfl,SqL.of (sJ _ _ eb),atG (by omega),?_⟩
  refine ⟨_,rfl,_,rfl,_,rfl,t,h,x,y,L,be,rfl,td.same sJ,hy,yx,h12,fun wr ws H2 hwr s2 e2 iw=>?_⟩
  refine ⟨_,rfl,_,rfl,_,rfl,t,h,x,y,L,be,rfl,(td.same sJ).same s2,hx,hy,h12,fun H3 s3=>?_⟩
  refine ⟨(by show 5<=sizeLine;decide),fun t5 ht5=>?_⟩
  have s4:=Ad ht5 (.tup [V.int (x:Int),V.int (y:Int),V.int (be.getD y 0),V.ref wr,V.int (AD h (IY x y be))])
  have e5:(upd H3 t5 (.tup [V.int (x:Int),V.int (y:Int),V.int (be.getD y 0),V.ref wr,V.int (AD h (IY x y be))])) t5=some (.tup [V.int (x:Int),V.int (y:Int),V.int (be.getD y 0),V.ref wr,V.int (AD h (IY x y be))]):=Ab
  have s24:=(s2.trans s3).trans s4
  have w5:=(s3.trans s4) _ _ e2
  have D5:=s24 _ _ g3
  have wD:wr≠D:=fun z=>by rw [z,g3] at hwr;cases hwr
  have tD:t5≠D:=fun z=>by rw [z,(s2.trans s3) _ _ g3] at ht5;cases ht5
  have nt:=none_of (g4.trans (s2.trans s3)) ht5
  generalize upd H3 t5 (.tup [V.int (x:Int),V.int (y:Int),V.int (be.getD y 0),V.ref wr,V.int (AD h (IY x y be))])=H5 at s24 e5 w5 D5 ⊢
  refine k1 _ _ D5 ⟨rows++[⟨t5,x,y,be.getD y 0,wr,ws,AD h (IY x y be)⟩],by unfold vrw;rw [List.map_append];rfl,by rw [List.length_append,g2];rfl,Ab,A9 (g4.trans s24) hD,fun q0 m=>?_,by rw [List.map_append,g6,List.take_add_one,hy0,List.map_append];rfl⟩
  rcases List.mem_append.mp m with m | m
  ·obtain ⟨r0,r1,r2,r3,r4,r5⟩:=g5 q0 m
   exact ⟨⟨by rw [Ai r4];exact s24 _ _ r0.tup,by rw [Ai r5];exact s24 _ _ r0.way,r0.hx,r0.hy,r0.ne,r0.str,r0.isw,r0.cutE⟩,r1,r2,r3,r4,r5⟩
  ·rw [List.mem_singleton.mp m]
   exact ⟨⟨by rw [Ai tD];exact e5,by rw [Ai wD];exact w5,hx,hy,yx,rfl,iw,rfl⟩,rfl,nt,none_of g4 hwr,tD,wD⟩
 rintro D ys H2 hD ⟨rows,rfl,g2,g3,g4,g5,g6⟩
 rw [List.length_map,Gs,List.take_of_length_le (Nat.le_refl _)] at g6
 exact q D rows H2 (none_of s1 hD) (s1.trans g4) g3 (fun q0 m=>⟨(g5 q0 m).1,(g5 q0 m).2.1,none_of s1 (g5 q0 m).2.2.1,none_of s1 (g5 q0 m).2.2.2.1⟩) g6
theorem GW (T:Tx K mg base ad):AT P w K mg base CX0 3 ad.f_law_votes ad.d_law_votes ["_law_script","_law_start","_law_most","_law_hands"] (LV K):=by
 refine T.F_law_votes.ok BZ (fun vs H Q E h=>?_) (fun cdv A outer s H vs Q E hr h=>?_)
 ·obtain ⟨p,ns,a,m,h,rfl,_⟩:=h
  rfl
 obtain ⟨p,ns,a,m,h,rfl,hS,h63,rfl,rfl,h1,h12,q⟩:=h
 refine ⟨_,(@Af _ _ _ _ _ (@An _ _ (4) _ _ _ _ BZ.nd rfl (Or.inl rfl) (@Bk _ _ _ _ Ac) (by rfl) (by first | exact .inl rfl | exact .inr rfl | assumption)) (@Af _ _ _ _ _ (C5 PassesOwn.never rfl (Lz rfl T.z_range (@Aa _ _ _ _ _ (pv 1) (@Aa _ _ _ _ _ (@Am _ _ _ _ _ _ _ _ _ (KS rfl) (by rfl) T.z_max PyProof.Rows.boot_max (@Aa _ _ _ _ _ (@Aj _ _ _ _ _ _ _ _ AU (pv 1) Ag) (@Aa _ _ _ _ _ (@Am _ _ _ _ _ _ _ _ _ (DP rfl) (by rfl) T.z_min PyProof.Rows.boot_min (@Aa _ _ _ _ _ (@Am _ _ _ _ _ _ _ _ _ A8 (by rfl) T.z_len PySem.boot_len (@Aa _ _ _ _ _ (pv 0) Ac (by rfl)) (by decide) (by decide) (by rfl) (by rfl)) (@Aa _ _ _ _ _ (@Aj _ _ _ _ _ _ _ _ AU (pv 1) (pv 2)) Ac (by rfl)) (by rfl)) (by decide) (by decide) (by rfl) (by rfl)) Ac (by rfl)) (by rfl)) (by decide) (by decide) (by rfl) (by rfl)) Ac (by rfl)) (by rfl))) (AC (i:=5) BZ.nd rfl (Or.inl rfl)) (@Af _ _ _ _ _ (@An _ _ (6) _ _ _ _ BZ.nd rfl (Or.inl rfl) (@Aq _ _ _ _ _ _ _ _ _ _ _ _ _ _ _ _ (Ds T) (hr.mono (by decide)) rfl T.m_law_mixed T.F_law_mixed.kp T.b_law_mixed .nil Ay (@Aa _ _ _ _ _ (@Aq _ _ _ _ _ _ _ _ _ _ _ _ _ _ _ _ (D9 T) (hr.mono (by decide)) rfl T.m_law_cell T.F_law_cell.kp T.b_law_cell .nil Ay (@Aa _ _ _ _ _ (pv 0) (@Aa _ _ _ _ _ (pv 5) Ac (by rfl)) (by rfl)) (by decide) (by rfl) (by rfl)) (@Aa _ _ _ _ _ (pv 5) Ac (by rfl)) (by rfl)) (by decide) (by rfl) (by rfl)) (by rfl) (by first | exact .inl rfl | exact .inr rfl | assumption)) (@Af _ _ _ _ _ (@An _ _ (7) _ _ _ _ BZ.nd rfl (Or.inl rfl) (@A4 _ _ _ _ _ _ _ AH (@Bk _ _ _ _ (@Aa _ _ _ _ _ (@Aj _ _ _ _ _ _ _ _ AU Ag (@Aj _ _ _ _ _ _ _ _ AM (@Aj _ _ _ _ _ _ _ _ AZ (pv 6) Ag) Ag)) (@Aa _ _ _ _ _ (@Aj _ _ _ _ _ _ _ _ AU Ag (@Aj _ _ _ _ _ _ _ _ AM (@Aj _ _ _ _ _ _ _ _ AZ (pv 6) Ag) Ag)) (@Aa _ _ _ _ _ (@Aj _ _ _ _ _ _ _ _ AU Ag (@Aj _ _ _ _ _ _ _ _ AM (@Aj _ _ _ _ _ _ _ _ AZ (pv 6) Ag) (@Aj _ _ _ _ _ _ _ _ Hj Ag Ag))) Ac (by rfl)) (by rfl)) (by rfl))) (@Aj _ _ _ _ _ _ _ _ AM (pv 6) Ag) (fun _ _=>rfl)) (by rfl) (by first | exact .inl rfl | exact .inr rfl | assumption)) (@Ah _ _ _ (@Cc _ _ _ _ (CY PySem.F.plainAttrs_list PySem.F.slot_list_append PySem.F.type_list_append BH (pv 4) (@Aa _ _ _ _ _ (@BL _ _ _ _ _ (@Aa _ _ _ _ _ (@Aq _ _ _ _ _ _ _ _ _ _ _ _ _ _ _ _ (Hv T) (hr.mono (by decide)) rfl T.m_law_ranks T.F_law_ranks.kp T.b_law_ranks .nil Ay (@Aa _ _ _ _ _ (@Aj _ _ _ _ _ _ _ _ AZ (pv 6) Ag) (@Aa _ _ _ _ _ (pv 3) Ac (by rfl)) (by rfl)) (by decide) (by rfl) (by rfl)) (@Aa _ _ _ _ _ (pv 7) Ac (by rfl)) (by rfl))) Ac (by rfl))) (by rfl)))))) (@Ah _ _ _ (@As _ _ _ _ (pv 4))))),?_⟩
 obtain ⟨n,rfl⟩:∃n:Nat,h=(n:Int):=⟨h.toNat,by omega⟩
 refine ⟨(by show 0<=sizeLine;decide),fun l hl=>?_⟩
 have s0:=Ad hl (.lst [])
 have e0:(upd H l (.lst [])) l=some (.lst (vvo [])):=Ab
 generalize upd H l (.lst [])=H0 at s0 e0 ⊢
 and_intros
 refine ⟨p,_,rfl,.inl (s0.seq hS),?_⟩
 and_intros
 refine ⟨_,_,rfl,?_⟩
 and_intros
 refine ⟨_,_,rfl,?_⟩
 have hl':(ns.map V.int).length=ns.length:=List.length_map _
 rw [hl']
 have hM:5<=(if (if 2+16 < (ns.length:Int) then 2+16 else (ns.length:Int)) > 2+3 then (if 2+16 < (ns.length:Int) then 2+16 else (ns.length:Int)) else 2+3)/\(if (if 2+16 < (ns.length:Int) then 2+16 else (ns.length:Int)) > 2+3 then (if 2+16 < (ns.length:Int) then 2+16 else (ns.length:Int)) else 2+3)<=18:=by
  split <;> split at*<;> omega
 generalize (if (if 2+16 < (ns.length:Int) then 2+16 else (ns.length:Int)) > 2+3 then (if 2+16 < (ns.length:Int) then 2+16 else (ns.length:Int)) else 2+3)=M at hM ⊢
 refine ⟨2,M,rfl,⟨by decide,by decide,by omega,by omega⟩,DS (fun i σ' H'=>∃(v5 v6 v7:Option V) (vo:Vo),σ'=[some (.ref p),some (.int 2),some (.int 16),some (.int (n:Int)),some (.ref l),v5,v6,v7]/\Ao H H'/\H' l=some (.lst (vvo vo))/\vo.length=i/\EJ n H' vo/\Mo vo/\∀q∈vo,q.2.1≠l) ⟨none,none,none,[],rfl,s0,e0,rfl,(fun _ m=>nomatch m),(fun _ m=>nomatch m),(fun _ m=>nomatch m)⟩ ?_ ?_⟩
 ·rintro i σ' H' hi ⟨v5,v6,v7,vo,rfl,s1,e1,ln,g,nu,nl⟩
  and_intros
  refine ⟨p,ns,2+(i:Int),rfl,s1.seq hS,h63,by omega,by omega,fun c c0 c1=>?_⟩
  and_intros
  refine ⟨c,2+(i:Int),rfl,O2 c0 c1,EU (by omega) (by omega),fun z z0 z1=>?_⟩
  and_intros
  have szz:=Qv z0 z1
  have m3:=Be z (show (0:Int) < 3 by decide)
  have m4:=Be (z.fdiv 8) (show (0:Int) < 4 by decide)
  have m9:=Be (z.fdiv 8) (show (0:Int) < 10 ^ (9:Int).toNat by decide)
  have e9:(10:Int) ^ (9:Int).toNat=1000000000:=by decide
  refine ⟨(by show 3<=sizeLine;decide),fun b3 hb3=>?_⟩
  dsimp only
  have s2:=Ad hb3 (.lst [V.int (1+(z.fdiv 8).fmod 4),V.int (1+(z.fdiv 8).fmod 4),V.int (1+(z.fdiv 8).fmod (10 ^ (9:Int).toNat))])
  have e2:(upd H' b3 (.lst [V.int (1+(z.fdiv 8).fmod 4),V.int (1+(z.fdiv 8).fmod 4),V.int (1+(z.fdiv 8).fmod (10 ^ (9:Int).toNat))])) b3=some (.lst [V.int (1+(z.fdiv 8).fmod 4),V.int (1+(z.fdiv 8).fmod 4),V.int (1+(z.fdiv 8).fmod (10 ^ (9:Int).toNat))]):=Ab
  generalize upd H' b3 (.lst [V.int (1+(z.fdiv 8).fmod 4),V.int (1+(z.fdiv 8).fmod 4),V.int (1+(z.fdiv 8).fmod (10 ^ (9:Int).toNat))])=H2 at s2 e2 ⊢
  obtain ⟨v,hv,w1,w2⟩:∃v:Int,atI [V.int (1+(z.fdiv 8).fmod 4),V.int (1+(z.fdiv 8).fmod 4),V.int (1+(z.fdiv 8).fmod (10 ^ (9:Int).toNat))] (z.fmod 3)=some (.int v)/\1<=v/\v<=1000000000:=by
   rcases (by omega:z.fmod 3=0\/z.fmod 3=1\/z.fmod 3=2) with e | e | e
   ·rw [e];exact ⟨_,rfl,by omega,by omega⟩
   ·rw [e];exact ⟨_,rfl,by omega,by omega⟩
   ·rw [e];exact ⟨_,rfl,by omega,by omega⟩
  and_intros
  refine ⟨b3,_,_,_,rfl,rfl,SqL.of e2,hv,?_⟩
  have f1:=s2 _ _ e1
  and_intros
  refine ⟨.inl ⟨rfl,_,SqL.of f1⟩,?_⟩
  have d64:=Mn z0 (show (1:Int)<=64 by decide) z1
  and_intros
  refine ⟨z.fdiv 64,(n:Int),rfl,d64.1,d64.2,h1,h12,fun lr rs H3 hlr s3 e3 ir=>?_⟩
  and_intros
  refine ⟨(by show 2<=sizeLine;decide),fun t ht=>?_⟩
  have s4:=Ad ht (.tup [V.ref lr,V.int v])
  have e4:(upd H3 t (.tup [V.ref lr,V.int v])) t=some (.tup [V.ref lr,V.int v]):=Ab
  have f2:=s4 _ _ (s3 _ _ f1)
  have e3':=s4 _ _ e3
  have g':=((g.same s2).same s3).same s4
  have sAll:=((s1.trans s2).trans s3).trans s4
  generalize upd H3 t (.tup [V.ref lr,V.int v])=H4 at sAll e4 f2 e3' g' ⊢
  refine ⟨l,_,_,rfl,rfl,f2,(by rw [Es];exact Bq (by omega)),?_⟩
  have keep:∀b o,H4 b=some o->b≠l->(upd H4 l (.lst (vvo vo++[V.ref t]))) b=some o:=fun b o e ne=>by rw [Ai ne];exact e
  have ne:lr≠l:=fun z=>by rw [z,f1] at hlr;cases hlr
  have tl:∀b u,H4 b=some (.tup u)->b≠l:=fun b u e z=>by rw [z,f2] at e;cases e
  refine ⟨_,_,_,vo++[(t,lr,rs,v)],rfl,A9 sAll hl,by rw [Ab];unfold vvo;rw [List.map_append];rfl,by rw [List.length_append,ln];rfl,fun q m=>?_,fun q m=>?_,fun q m=>?_⟩
  ·rcases List.mem_append.mp m with m | m
   ·obtain ⟨a1,a2,a3⟩:=g' q m
    exact ⟨keep _ _ a1 (tl _ _ a1),keep _ _ a2 (nl q m),a3⟩
   ·rw [List.mem_singleton.mp m]
    exact ⟨keep _ _ e4 (tl _ _ e4),keep _ _ e3' ne,by have:=ir.1;show rs.length=n;omega⟩
  ·rcases List.mem_append.mp m with m | m
   ·exact nu q m
   ·rw [List.mem_singleton.mp m]
    exact ⟨w1,w2,ir.2⟩
  ·rcases List.mem_append.mp m with m | m
   ·exact nl q m
   ·rw [List.mem_singleton.mp m]
    exact ne
 ·rintro σ' H' ⟨v5,v6,v7,vo,rfl,s1,e1,ln,g,nu,nl⟩
  exact ⟨_,rfl,q l vo H' s1 e1 (by omega) (by rw [Int.toNat_natCast];exact g) nu⟩
theorem AG (T:Tx K mg base ad):AT P w K mg base (CX1 P w) 3 ad.f_Way_init ad.d_Way_init ["self","hands","seats","lots"] (Pf K ad.c_NoWay):=by
 refine T.F_Way_init.okX Iy (fun vs H Q E h=>?_) (fun cdv A outer s H vs Q E hr h=>?_)
 ·obtain ⟨a,C,dx,x0,x1,x2,rfl,_⟩:=h
  rfl
 obtain ⟨a,C,dx,x0,x1,x2,rfl,ha,cl,n1,n2,n3,w0,w1,o2,qg,qb⟩:=h
 refine ⟨_,(@Af _ _ _ _ _ (@CK _ _ _ _ _ _ _ _ (PW.pt (@Ea _ _ _ _ _ _ _ (@CS _ _ _ _ (@CT _ _ _ (@Aq _ _ _ _ _ _ _ _ _ _ _ _ _ _ _ _ (Hh T) (hr.mono (by decide)) rfl T.m_are_hands T.F_are_hands.kp T.b_are_hands .nil Ay (@Aa _ _ _ _ _ (pv 1) Ac (by rfl)) (by decide) (by rfl) (by rfl)) (by intro _;rfl))) (@E8 _ _ _ _ (@CS _ _ _ _ (@CT _ _ _ (@Aq _ _ _ _ _ _ _ _ _ _ _ _ _ _ _ _ (GZ T) (hr.mono (by decide)) rfl T.m_are_seats T.F_are_seats.kp T.b_are_seats .nil Ay (@Aa _ _ _ _ _ (pv 2) Ac (by rfl)) (by decide) (by rfl) (by rfl)) (by intro _;rfl)))))) (@Ah _ _ _ (Ij ⟨rfl,rfl,rfl⟩ rfl rfl T.m_NoWay T.x_NoWay (@Aa _ _ _ _ _ JI Ac (by rfl)))) Bb) (@Af _ _ _ _ _ (@CK _ _ _ _ _ _ _ _ (PW.pt (@Nx _ _ _ _ _ _ _ (@Ax _ _ _ _ _ _ _ _ OG (pv 3) CG (Az _)) (@Kt _ _ _ _ (@CS _ _ _ _ (@CT _ _ _ (@Aq _ _ _ _ _ _ _ _ _ _ _ _ _ _ _ _ (HR T) (hr.mono (by decide)) rfl T.m_are_lots T.F_are_lots.kp T.b_are_lots .nil Ay (@Aa _ _ _ _ _ (pv 3) (@Aa _ _ _ _ _ (pv 1) Ac (by rfl)) (by rfl)) (by decide) (by rfl) (by rfl)) (by intro _;rfl)))))) (@Ah _ _ _ (Ij ⟨rfl,rfl,rfl⟩ rfl rfl T.m_NoWay T.x_NoWay (@Aa _ _ _ _ _ JI Ac (by rfl)))) Bb) (@Af _ _ _ _ _ (JK (pv 0) (pv 1) rfl) (@Af _ _ _ _ _ (JK (pv 0) (pv 2) rfl) (@Ah _ _ _ (JK (pv 0) (Ip (@Ax _ _ _ _ _ _ _ _ Pd (pv 3) CG (Az _)) (Bv rfl (by rfl) T.z_list (by rfl) T.z_range (pv 1)) (@BU _ _ _ _ _ _ _ _ _ BI (by rfl) T.z_list PyProof.Rows.boot_list (@Aa _ _ _ _ _ (pv 3) Ac (by rfl)) (by decide) (by decide) (by rfl) (by rfl))) rfl)))))),?_⟩
 refine ⟨_,rfl,x0,rfl,w0,_,rfl,?_⟩
 cases k0:EC 12 x0 with
 | false=>exact ifT rfl ⟨(by show 1<=sizeLine;decide),qb (fun h s ns g=>by rw [g.1,Fl g.2.2.1 g.2.2.2.1] at k0;cases k0) H (FE H a)⟩
 | true =>
 refine ifF rfl ?_
 refine ⟨_,rfl,x1,rfl,w1,_,rfl,?_⟩
 cases k1:EC 60 x1 with
 | false=>exact ifT rfl ⟨(by show 1<=sizeLine;decide),qb (fun h s ns g=>by rw [g.2.1,Fl g.2.2.2.2.1 g.2.2.2.2.2.1] at k1;cases k1) H (FE H a)⟩
 | true =>
 refine ifF rfl ?_
 obtain ⟨h,rfl,h1,h12⟩:=FM k0
 obtain ⟨s',rfl,s1,s60⟩:=FM k1
 obtain ⟨n,rfl⟩:∃n:Nat,h=(n:Int):=⟨h.toNat,by omega⟩
 rcases o2.non_or with rfl | nn
 ·and_intros
  have g1:=(FE H a).trans (Ao.refl H)
  refine ⟨a,C,dx,[],rfl,(Ao.refl H) _ _ ha,cl,n1,(by simp only [List.length_cons,List.length_nil];decide),?_⟩
  rw [QH]
  have g2:=DI (o:=.ins C dx [("hands",.int (n:Int))]) g1
  have a2:(upd H a (.ins C dx [("hands",.int (n:Int))])) a=_:=Ab
  generalize upd H a (.ins C dx [("hands",.int (n:Int))])=H2 at g2 a2 ⊢
  and_intros
  refine ⟨a,C,dx,_,rfl,a2,cl,n2,(by simp only [List.length_cons,List.length_nil];decide),?_⟩
  rw [Qw]
  have g3:=DI (o:=.ins C dx [("hands",.int (n:Int)),("seats",.int s')]) g2
  have a3:(upd H2 a (.ins C dx [("hands",.int (n:Int)),("seats",.int s')])) a=_:=Ab
  generalize upd H2 a (.ins C dx [("hands",.int (n:Int)),("seats",.int s')])=H3 at g3 a3 ⊢
  and_intros
  refine ⟨by omega,fun b hb=>?_⟩
  rw [<- OT]
  obtain ⟨ns,gl,en⟩:∃ns,KQ H .non (Int.toNat (n:Int)) ns/\ups n=ns:=⟨ups n,.inl ⟨rfl,rfl⟩,rfl⟩
  rw [en]
  have ba:b≠a:=fun z=>by rw [z,a3] at hb;cases hb
  have hbH:H b=none:=by
   cases e:H b with
   | none=>rfl
   | some o =>
     have:=g3 _ _ (Hd e ba)
     rw [hb] at this
     cases this
  have g4:=g3.trans (Ad hb (.lst (ns.map V.int)))
  have a4:=Ad hb (.lst (ns.map V.int)) _ _ a3
  have b4:(upd H3 b (.lst (ns.map V.int))) b=some (.lst (ns.map V.int)):=Ab
  generalize upd H3 b (.lst (ns.map V.int))=H4 at g4 a4 b4 ⊢
  and_intros
  refine ⟨a,C,dx,_,rfl,a4,cl,n3,(by simp only [List.length_cons,List.length_nil];decide),?_⟩
  rw [Q8]
  exact qg _ _ ns ⟨rfl,rfl,h1,h12,s1,s60,gl⟩ b _ ba hbH (DI g4) Ab (by rw [Ai ba];exact b4)
 and_intros
 refine ifT (by rw [nn];rfl) ?_
 and_intros
 refine ⟨x2,n,rfl,by omega,o2,fun b H1 e1 bt bf=>?_⟩
 refine ⟨_,rfl,?_⟩
 cases b with
 | false=>exact ifT rfl ⟨(by show 1<=sizeLine;decide),qb (fun h s ns g=>by
  obtain ⟨eh,_,_,_,_,_,lo⟩:=g
  cases eh
  rcases lo with ⟨rfl,_⟩ | lo
  ·cases nn
  ·exact bf rfl ns lo) _ ((FE H a).trans e1)⟩
 | true =>
 refine ifF rfl ?_
 obtain ⟨ns,l,rfl,hl,pm⟩:=bt rfl
 have gl:KQ H (.ref l) (Int.toNat (n:Int)) ns:=.inr ⟨l,rfl,hl,pm⟩
 and_intros
 have g1:=(FE H a).trans e1
 refine ⟨a,C,dx,[],rfl,e1 _ _ ha,cl,n1,(by simp only [List.length_cons,List.length_nil];decide),?_⟩
 rw [QH]
 have g2:=DI (o:=.ins C dx [("hands",.int (n:Int))]) g1
 have a2:(upd H1 a (.ins C dx [("hands",.int (n:Int))])) a=_:=Ab
 generalize upd H1 a (.ins C dx [("hands",.int (n:Int))])=H2 at g2 a2 ⊢
 and_intros
 refine ⟨a,C,dx,_,rfl,a2,cl,n2,(by simp only [List.length_cons,List.length_nil];decide),?_⟩
 rw [Qw]
 have g3:=DI (o:=.ins C dx [("hands",.int (n:Int)),("seats",.int s')]) g2
 have a3:(upd H2 a (.ins C dx [("hands",.int (n:Int)),("seats",.int s')])) a=_:=Ab
 generalize upd H2 a (.ins C dx [("hands",.int (n:Int)),("seats",.int s')])=H3 at g3 a3 ⊢
 have la:l≠a:=fun z=>by rw [z,ha] at hl;cases hl
 have l3:=g3 _ _ (Hd hl la)
 and_intros
 intro b hb
 have ba:b≠a:=fun z=>by rw [z,a3] at hb;cases hb
 have hbH:H b=none:=by
  cases e:H b with
  | none=>rfl
  | some o =>
    have:=g3 _ _ (Hd e ba)
    rw [hb] at this
    cases this
 have g4:=g3.trans (Ad hb (.lst (ns.map V.int)))
 have a4:=Ad hb (.lst (ns.map V.int)) _ _ a3
 have b4:(upd H3 b (.lst (ns.map V.int))) b=some (.lst (ns.map V.int)):=Ab
 generalize upd H3 b (.lst (ns.map V.int))=H4 at g4 a4 b4 ⊢
 and_intros
 refine ⟨a,C,dx,_,rfl,a4,cl,n3,(by simp only [List.length_cons,List.length_nil];decide),?_⟩
 rw [Q8]
 exact qg _ _ ns ⟨rfl,rfl,h1,h12,s1,s60,gl⟩ b _ ba hbH (DI g4) Ab (by rw [Ai ba];exact b4)
theorem BG (T:Tx K mg base ad):AT P w K mg base CX0 4 ad.f_Pairs_counted ad.d_Pairs_counted ["self","sheet"] (JH ad.c_Pairs ad.lP):=by
 refine T.F_Pairs_counted.ok AJ (fun vs H Q E h=>?_) (fun cdv A outer s H vs Q E hr h=>?_)
 ·obtain ⟨a,l,h,s,ns,ls,rfl,_⟩:=h
  rfl
 obtain ⟨a,l,h,s,ns,ls,rfl,md,hl,gl,l60,lt,q⟩:=h
 refine ⟨_,(@Af _ _ _ _ _ (@An _ _ (2) _ _ _ _ AJ.nd rfl (Or.inl rfl) (@Aq _ _ _ _ _ _ _ _ _ _ _ _ _ _ _ _ (MG T) (hr.mono (by decide)) rfl T.m_overs T.F_overs.kp T.b_overs .nil Ay (@Aa _ _ _ _ _ (pv 1) (@Aa _ _ _ _ _ (Cd (pv 0) rfl) Ac (by rfl)) (by rfl)) (by decide) (by rfl) (by rfl)) (by rfl) (by first | exact .inl rfl | exact .inr rfl | assumption)) (@Af _ _ _ _ _ (@An _ _ (3) _ _ _ _ AJ.nd rfl (Or.inl rfl) (@Aq _ _ _ _ _ _ _ _ _ _ _ _ _ _ _ _ (IL T) (hr.mono (by decide)) rfl T.m_leads_of T.F_leads_of.kp T.b_leads_of .nil Ay (@Aa _ _ _ _ _ (pv 2) Ac (by rfl)) (by decide) (by rfl) (by rfl)) (by rfl) (by first | exact .inl rfl | exact .inr rfl | assumption)) (@Af _ _ _ _ _ (@An _ _ (4) _ _ _ _ AJ.nd rfl (Or.inl rfl) (@Bk _ _ _ _ Ac) (by rfl) (by first | exact .inl rfl | exact .inr rfl | assumption)) (@Af _ _ _ _ _ (@An _ _ (5) _ _ _ _ AJ.nd rfl (Or.inl rfl) (@Bk _ _ _ _ Ac) (by rfl) (by first | exact .inl rfl | exact .inr rfl | assumption)) (@Af _ _ _ _ _ (C5 PassesOwn.never rfl (Bp rfl T.z_range (@Aa _ _ _ _ _ (Cd (pv 0) rfl) Ac (by rfl))) (AC (i:=6) AJ.nd rfl (Or.inl rfl)) (@Af _ _ _ _ _ (@An _ _ (7) _ _ _ _ AJ.nd rfl (Or.inl rfl) (@Aq _ _ _ _ _ _ _ _ _ _ _ _ _ _ _ _ (Fd T) (hr.mono (by decide)) rfl T.m_reached_from T.F_reached_from.kp T.b_reached_from .nil Ay (@Aa _ _ _ _ _ (pv 3) (@Aa _ _ _ _ _ (pv 6) Ac (by rfl)) (by rfl)) (by decide) (by rfl) (by rfl)) (by rfl) (by first | exact .inl rfl | exact .inr rfl | assumption)) (@Af _ _ _ _ _ (@Cc _ _ _ _ (CY PySem.F.plainAttrs_list PySem.F.slot_list_extend PySem.F.type_list_extend KY (pv 4) (@Aa _ _ _ _ _ (@Aq _ _ _ _ _ _ _ _ _ _ _ _ _ _ _ _ (Gk T) (hr.mono (by decide)) rfl T.m_shown_from T.F_shown_from.kp T.b_shown_from .nil Ay (@Aa _ _ _ _ _ (pv 7) (@Aa _ _ _ _ _ (pv 6) Ac (by rfl)) (by rfl)) (by decide) (by rfl) (by rfl)) Ac (by rfl))) (by rfl)) (@Ah _ _ _ (@Cc _ _ _ _ (CY PySem.F.plainAttrs_list PySem.F.slot_list_append PySem.F.type_list_append BH (pv 5) (@Aa _ _ _ _ _ (@A4 _ _ _ _ _ _ _ Dn (pv 7) Ag (fun _ _=>rfl)) Ac (by rfl))) (by rfl)))))) (@Ah _ _ _ (@As _ _ _ _ (@BL _ _ _ _ _ (@Aa _ _ _ _ _ (pv 2) (@Aa _ _ _ _ _ (pv 4) (@Aa _ _ _ _ _ (Cg (pv 0) T.cl_Pairs T.me_Pairs_picks_by (Em T) (hr.mono (by decide)) T.b_Pairs_picks_by .nil Ay (@Aa _ _ _ _ _ (pv 5) Ac (by rfl))) Ac (by rfl)) (by rfl)) (by rfl)))))))))),?_⟩
 obtain ⟨dx,la,k1,k2⟩:=id md.is
 have h1:=md.h1
 have h12:=md.h12
 and_intros
 refine ⟨a,_,dx,_,_,rfl,k1,T.cl_Pairs,T.na_Pairs_hands,rfl,?_⟩
 and_intros
 refine ⟨l,ls,h,rfl,hl,gl,l60,h1,h12,fun b as H1 hb s1 nb wb eb tb=>?_⟩
 and_intros
 refine ⟨b,as,h,_,rfl,eb,tb,h12,fun c cs H2 hc nc wc s2 ec tc=>?_⟩
 have eb:=s2 _ _ eb
 have tb:BB H2 as h (ovF ls):=tb.same s2
 have tc:BB H2 cs h (CW ls):=tc
 have s2:=s1.trans s2
 have lt2:=lt.same s2
 refine ⟨(by show 0<=sizeLine;decide),fun sh hsh=>?_⟩
 have s3:=Ad hsh (.lst [])
 have e3:(upd H2 sh (.lst [])) sh=some (.lst (vrw [])):=Ab
 generalize upd H2 sh (.lst [])=H3 at e3 s3 ⊢
 refine ⟨(by show 0<=sizeLine;decide),fun sg hsg=>?_⟩
 have s4:=Ad hsg (.lst [])
 have e4:(upd H3 sg (.lst [])) sg=some (.lst (([]:Us).map fun r=>V.ref r.1)):=Ab
 have ss:sg≠sh:=fun z=>by rw [z,e3] at hsg;cases hsg
 have e34:=s4 _ _ e3
 have hsg2:=none_of s3 hsg
 have s4:=s3.trans s4
 generalize upd H3 sg (.lst [])=H4 at e4 e34 s4 ⊢
 refine ⟨_,rfl,a,_,dx,_,_,rfl,(s2.trans s4) _ _ k1,T.cl_Pairs,T.na_Pairs_hands,rfl,?_⟩
 refine ⟨(h:Int),rfl,by omega,by omega,DS (fun i σ' H'=>∃(v6 v7:Option V) (rows:List Rw) (us:Us),σ'=[some (V.ref a),some (.ref l),some (.ref b),some (.ref c),some (.ref sh),some (.ref sg),v6,v7]/\Sm H2 H'/\(C3 ad.lP h H2->Ao H2 H')/\LT ad.lP H'/\(0 < i->C3 ad.lP h H')/\H' sh=some (.lst (vrw rows))/\H' sg=some (.lst (us.map fun r=>V.ref r.1))/\us.length=i/\(us.map (·.1)).Nodup/\rows.map (fun q=>(q.x,q.y))=pairsOf h i/\(∀q∈rows,EE h (CW ls) (fU us) H' q/\q.x < i/\q.w≠sh/\q.w≠sg)/\(∀k r,us[k]?=some r->r.1≠sh/\r.1≠sg/\H' r.1=some (.lst (r.2.map V.int))/\∃bf,DE h k (CW ls) r.2 bf)) ⟨none,none,[],[],rfl,Sm.of s4,(fun _=>s4),lt2.same s4,(fun z=>absurd z (Nat.lt_irrefl 0)),e34,e4,rfl,List.nodup_nil,rfl,(fun _ m=>nomatch m),fun k r e=>by cases e⟩ ?_ ?_⟩
 ·rintro i σ' H5 hi ⟨v6,v7,rows,us,rfl,sm,sq,lt5,lq5,esh,esg,ul,und,rp,rok,uok⟩
  have ei:(0:Int)+(i:Int)=(i:Int):=Int.zero_add _
  have hi':i < h:=by omega
  have rl:rows.length<=144:=by
   have a1:=congrArg List.length rp
   rw [List.length_map] at a1
   have a2:=EK (h:=h) (n:=i) (by omega)
   have a3:i*h<=12*12:=Nat.mul_le_mul (by omega) h12
   omega
  and_intros
  refine ⟨c,cs,h,i,CW ls,(by rw [ei];rfl),sm.lst ec,tc.sm sm,hi',h12,lt5,fun t bb f be bf H6 sm6 sq6 lq6 ht hbb hff bfn et ebb eff re=>?_⟩
  have bsh:bb≠sh:=fun z=>by rw [z,esh] at hbb;cases hbb
  have bsg:bb≠sg:=fun z=>by rw [z,esg] at hbb;cases hbb
  have nbu:bb ∉ us.map (·.1):=fun m=>by
   obtain ⟨r,mr,e⟩:=List.mem_map.mp m
   obtain ⟨k,hk⟩:=List.getElem?_of_mem mr
   have:=(uok k r hk).2.2.1
   rw [e,hbb] at this
   cases this
  have esh:=sm6.lst esh
  have esg:=sm6.lst esg
  and_intros
  refine ⟨.inl ⟨rfl,_,SqL.of esh⟩,?_⟩
  and_intros
  refine ⟨t,h,i,CW ls,be,(by rw [ei];rfl),⟨bb,f,bf,et,ebb,eff,re⟩,hi',h12,fun r2 rows2 H7 hr2 s7 e7 ok7 mp7=>?_⟩
  have esh7:=s7 _ _ esh
  have esg7:=s7 _ _ esg
  have r2l:rows2.length<=12:=by
   have a1:=congrArg List.length mp7
   rw [List.length_map,List.length_map] at a1
   have:(Hw h i).length<=h:=Nat.le_trans (List.length_filter_le _ _) (by rw [List.length_range];exact Nat.le_refl _)
   omega
  refine ⟨sh,r2,_,_,rfl,rfl,esh7,e7,(by rw [Kx,Kx];exact Nat.le_of_lt (Bq (by omega))),?_⟩
  rw [<- JU]
  have t8:∀{z:Addr} {xs:List V},H7 z=some (.tup xs)->(upd H7 sh (.lst (vrw (rows++rows2)))) z=some (.tup xs):=fun e=>by rw [Ai (fun y=>by rw [y,esh7] at e;cases e)];exact e
  have l8:∀{z:Addr} {xs:List V},z≠sh->H7 z=some (.lst xs)->(upd H7 sh (.lst (vrw (rows++rows2)))) z=some (.lst xs):=fun n e=>by rw [Ai n];exact e
  have esh8:(upd H7 sh (.lst (vrw (rows++rows2)))) sh=some (.lst (vrw (rows++rows2))):=Ab
  have sm8:=((sm.trans sm6).trans (Sm.of s7)).put (o:=.lst (vrw (rows++rows2))) hsh
  have sq8:C3 ad.lP h H2->Ao H2 (upd H7 sh (.lst (vrw (rows++rows2)))):=fun z=>A9 (((sq z).trans (sq6 (z.same (sq z)))).trans s7) hsh
  have lq8:C3 ad.lP h (upd H7 sh (.lst (vrw (rows++rows2)))):=(lq6.same s7).put esh7
  generalize upd H7 sh (.lst (vrw (rows++rows2)))=H8 at t8 l8 esh8 sm8 sq8 lq8 ⊢
  have esg8:=l8 ss esg7
  have et8:=t8 (s7 _ _ et)
  and_intros
  refine ⟨.inl ⟨rfl,_,SqL.of esg8⟩,?_⟩
  and_intros
  refine ⟨sg,_,_,rfl,rfl,esg8,(by rw [List.length_map];exact Bq (by omega)),?_⟩
  have t9:∀{z:Addr} {xs:List V},H8 z=some (.tup xs)->(upd H8 sg (.lst (us.map (fun r=>V.ref r.1)++[V.ref bb]))) z=some (.tup xs):=fun e=>by rw [Ai (fun y=>by rw [y,esg8] at e;cases e)];exact e
  have l9:∀{z:Addr} {xs:List V},z≠sg->H8 z=some (.lst xs)->(upd H8 sg (.lst (us.map (fun r=>V.ref r.1)++[V.ref bb]))) z=some (.lst xs):=fun n e=>by rw [Ai n];exact e
  refine ⟨_,_,rows++rows2,us++[(bb,be)],rfl,sm8.put hsg2,(fun z=>A9 (sq8 z) hsg2),(lq8.put esg8).1,(fun _=>lq8.put esg8),l9 (Ne.symm ss) esh8,by rw [Ab,List.map_append];rfl,by rw [List.length_append,ul];rfl,?_,by rw [List.map_append,rp,mp7,Et],fun q0 m=>?_,fun k r e=>?_⟩
  ·rw [List.map_append]
   exact List.nodup_append.mpr ⟨und,by simp,fun x mx y my e=>nbu (by rw [<- show y=bb from List.mem_singleton.mp my,<- e];exact mx)⟩
  ·rcases List.mem_append.mp m with m | m
   ·obtain ⟨r0,r1,r3,r4⟩:=rok q0 m
    have r0:=(r0.sm sm6).same s7
    have r0:=r0.congr (F':=fU (us++[(bb,be)])) fun y _=>(OZ (by omega) y).symm
    exact ⟨⟨t9 (t8 r0.tup),l9 r4 (l8 r3 r0.way),r0.hx,r0.hy,r0.ne,r0.str,r0.isw,r0.cutE⟩,by omega,r3,r4⟩
   ·obtain ⟨r0,r1,r3,r4⟩:=ok7 q0 m
    have r5:q0.w≠sh:=fun z=>by rw [z,esh] at r4;cases r4
    have r6:q0.w≠sg:=fun z=>by rw [z,esg] at r4;cases r4
    have r0:=r0.congr (F':=fU (us++[(bb,be)])) fun y _=>by rw [r1,<- ul];exact (PB (us:=us) (r:=(bb,be)) y).symm
    exact ⟨⟨t9 (t8 r0.tup),l9 r6 (l8 r5 r0.way),r0.hx,r0.hy,r0.ne,r0.str,r0.isw,r0.cutE⟩,by omega,r5,r6⟩
  ·by_cases cc:k < us.length
   ·rw [List.getElem?_append_left cc] at e
    obtain ⟨u1,u2,u3,u4⟩:=uok k r e
    exact ⟨u1,u2,l9 u2 (l8 u1 (s7 _ _ (sm6.lst u3))),u4⟩
   ·rw [List.getElem?_append_right (by omega)] at e
    have ek:k=i:=by
     have:=(List.getElem?_eq_some_iff.mp e).1
     rw [List.length_singleton] at this
     omega
    rw [ek,ul,Nat.sub_self] at e
    cases Option.some.inj e
    exact ⟨bsh,bsg,l9 bsg (l8 bsh (s7 _ _ ebb)),bf,by rw [ek];exact re⟩
 ·rintro σ' H5 ⟨v6,v7,rows,us,rfl,sm,sq,lt5,lq5,esh,esg,ul,und,rp,rok,uok⟩
  rw [Int.toNat_natCast] at ul rp lq5
  have tu:BB H5 (us.map (·.1)) h (fU us):=⟨by rw [List.length_map,ul],und,fun x z hz=>by
   rw [List.getElem?_map] at hz
   obtain ⟨r,hr0,rfl⟩:=Option.map_eq_some_iff.mp hz
   obtain ⟨_,_,u3,bf,re⟩:=uok x r hr0
   rw [MO hr0 re.lenb]
   exact u3⟩
  have st:AK h (CW ls) (fU us):=fun x hx=>by
   obtain ⟨r,hr0⟩:∃r,us[x]?=some r:=⟨_,List.getElem?_eq_getElem (by omega)⟩
   obtain ⟨_,_,_,bf,re⟩:=uok x r hr0
   exact ⟨bf,by rw [MO hr0 re.lenb];exact re⟩
  have smH:=(Sm.of s2).trans sm
  have md5:=md.sm smH
  obtain ⟨dx5,la5,k15,k25⟩:=id md5.is
  and_intros
  refine ⟨a,dx5,_,rfl,k15,rfl,?_⟩
  and_intros
  refine ⟨a,sg,us.map (·.1),h,s,ns,CW ls,fU us,rfl,md5,(by rw [esg,List.map_map];rfl),tu,st,fun pk H6 hpk s6 epk=>?_⟩
  refine ⟨(by show 3<=sizeLine;decide),fun p hp=>?_⟩
  have s7:=Ad hp (.tup [V.ref b,V.ref sh,V.ref pk])
  have s67:=s6.trans s7
  have e7:(L2.upd H6 p (.tup [V.ref b,V.ref sh,V.ref pk])) b=some (.lst (as.map V.ref)):=s67 _ _ (sm.lst eb)
  refine q p (fU us) _ (smH.trans (Sm.of s67)) (fun z=>((s2.trans (sq (z.same s2))).trans s67)) ((lq5 h1).same s67) (smH.gone p (none_of s6 hp)) ⟨⟨b,sh,pk,as,rows,Ab,s67 _ _ (sm.lst eb),(tb.sm sm).same s67,s67 _ _ esh,fun q0 m=>(rok q0 m).1.same s67,rp,s7 _ _ epk⟩,st⟩ fun m' sh' pk' ms' g1 g2=>?_
  rw [Ab] at g1
  injection g1 with g1
  injection g1 with g1
  injection g1 with g11 g1
  injection g1 with g12 g1
  injection g1 with g13 g1
  injection g11 with g11
  injection g12 with g12
  injection g13 with g13
  subst g11 g12 g13
  rw [e7] at g2
  injection g2 with g2
  injection g2 with g2
  have em:as=ms':=(List.map_inj_right (fun x y e=>by injection e)).mp g2
  rw [<- em]
  exact ⟨hb,none_of s2 hsh,smH.gone _ hpk,wb⟩
theorem HM (T:Tx K mg base ad):AT P w K mg base CX0 5 ad.f_law_ways ad.d_law_ways ["_law_hands","_law_seats","_law_lots","_law_cell_here"] (Mz ad.c_Pairs):=by
 refine T.F_law_ways.ok Im (fun vs H Q E h=>?_) (fun cdv A outer s H vs Q E hr h=>?_)
 ·obtain ⟨lo,n,s',os,c,rfl,_⟩:=h
  rfl
 obtain ⟨lo,n,s',os,c,rfl,hlo,po,n1,n12,s1,s50,szc,q⟩:=h
 refine ⟨_,(@Af _ _ _ _ _ (@CK _ _ _ _ _ _ _ _ (@Ax _ _ _ _ _ _ _ _ KK (@Aj _ _ _ _ _ _ _ _ AM (pv 3) Ag) Ag (Az _)) (@Ah _ _ _ (@As _ _ _ _ (@Bk _ _ _ _ (@Aa _ _ _ _ _ (Ci T.mk_Pairs (AG T) (hr.mono (by decide)) rfl T.m_Pairs T.b1_Way_init (.cons (show Av (.non:V) _ from rfl) .nil) D7 (@Aa _ _ _ _ _ (pv 0) (@Aa _ _ _ _ _ (pv 1) Ac (by rfl)) (by rfl))) (@Aa _ _ _ _ _ (Ci T.mk_Pairs (AG T) (hr.mono (by decide)) rfl T.m_Pairs T.b_Way_init .nil D7 (@Aa _ _ _ _ _ (pv 0) (@Aa _ _ _ _ _ (@Aj _ _ _ _ _ _ _ _ AU (pv 1) Ag) (@Aa _ _ _ _ _ CG Ac (by rfl)) (by rfl)) (by rfl))) (@Aa _ _ _ _ _ (Bv rfl (by rfl) T.z_list (by rfl) T.z_range (pv 0)) Ac (by rfl)) (by rfl)) (by rfl))))) Bb) (@Af _ _ _ _ _ (@CK _ _ _ _ _ _ _ _ (@Ax _ _ _ _ _ _ _ _ KK (@Aj _ _ _ _ _ _ _ _ AM (pv 3) Ag) Ag (Az _)) (@Ah _ _ _ (@As _ _ _ _ (@Bk _ _ _ _ (@Aa _ _ _ _ _ (Ci T.mk_Pairs (AG T) (hr.mono (by decide)) rfl T.m_Pairs T.b_Way_init .nil D7 (@Aa _ _ _ _ _ (pv 0) (@Aa _ _ _ _ _ (pv 1) (@Aa _ _ _ _ _ CG Ac (by rfl)) (by rfl)) (by rfl))) (@Aa _ _ _ _ _ (Ci T.mk_Pairs (AG T) (hr.mono (by decide)) rfl T.m_Pairs T.b1_Way_init (.cons (show Av (.non:V) _ from rfl) .nil) D7 (@Aa _ _ _ _ _ (pv 0) (@Aa _ _ _ _ _ (@Aj _ _ _ _ _ _ _ _ AU (pv 1) Ag) Ac (by rfl)) (by rfl))) (@Aa _ _ _ _ _ (Bv rfl (by rfl) T.z_list (by rfl) T.z_range (pv 0)) Ac (by rfl)) (by rfl)) (by rfl))))) Bb) (@Ah _ _ _ (@As _ _ _ _ (@Bk _ _ _ _ (@Aa _ _ _ _ _ (Ci T.mk_Pairs (AG T) (hr.mono (by decide)) rfl T.m_Pairs T.b_Way_init .nil D7 (@Aa _ _ _ _ _ (pv 0) (@Aa _ _ _ _ _ (pv 1) (@Aa _ _ _ _ _ (@BU _ _ _ _ _ _ _ _ _ BI (by rfl) T.z_list PyProof.Rows.boot_list (@Aa _ _ _ _ _ (pv 2) Ac (by rfl)) (by decide) (by decide) (by rfl) (by rfl)) Ac (by rfl)) (by rfl)) (by rfl))) (@Aa _ _ _ _ _ (Ci T.mk_Pairs (AG T) (hr.mono (by decide)) rfl T.m_Pairs T.b_Way_init .nil D7 (@Aa _ _ _ _ _ (pv 0) (@Aa _ _ _ _ _ (@Aj _ _ _ _ _ _ _ _ AU (pv 1) Ag) (@Aa _ _ _ _ _ (@BU _ _ _ _ _ _ _ _ _ BI (by rfl) T.z_list PyProof.Rows.boot_list (@Aa _ _ _ _ _ (pv 2) Ac (by rfl)) (by decide) (by decide) (by rfl) (by rfl)) Ac (by rfl)) (by rfl)) (by rfl))) (@Aa _ _ _ _ _ (pv 2) Ac (by rfl)) (by rfl)) (by rfl))))))),?_⟩
 have hh:1<=(n:Int)/\(n:Int)<=12:=by omega
 have ln:os.length=n:=by rw [po.length_eq,Bc]
 and_intros
 refine Om (fun _=>?_) (fun _=>?_)
 ·skip
  and_intros
  intro A1 DX1 hA1 hDX1 neA1
  have sm1:=AX (C:=ad.c_Pairs) hA1 hDX1 neA1
  have good1:B5 (upd (upd H DX1 (.own A1)) A1 (.ins ad.c_Pairs DX1 [])) (.int (n:Int)) (.int (s':Int)) .non (n:Int) (s':Int) (ups n):=⟨rfl,rfl,hh.1,hh.2,by omega,by omega,.inl ⟨rfl,rfl⟩⟩
  refine ⟨A1,ad.c_Pairs,DX1,_,_,_,rfl,Ab,T.cl_Pairs,T.na_Pairs_hands,T.na_Pairs_seats,T.na_Pairs_lots,Wh.int _,Wh.int _,.non,fun h' s'' ns' g lA1 K1 la1 hl1 g1 a1 l1=>⟨rfl,?_⟩,fun no=>absurd good1 (no _ _ _)⟩
  obtain ⟨eh,es,en⟩:=good1.uniq g
  replace es:=es.symm
  replace en:=en.symm
  subst eh es en
  clear g
  have S1:=By hA1 hDX1 neA1 g1
  replace hl1:=BC sm1 hl1
  clear good1 sm1 g1
  and_intros
  intro A2 DX2 hA2 hDX2 neA2
  have sm2:=AX (C:=ad.c_Pairs) hA2 hDX2 neA2
  have good2:B5 (upd (upd K1 DX2 (.own A2)) A2 (.ins ad.c_Pairs DX2 [])) (.int (n:Int)) (.int ((s':Int)+1)) .non (n:Int) ((s':Int)+1) (ups n):=⟨rfl,rfl,hh.1,hh.2,by omega,by omega,.inl ⟨rfl,rfl⟩⟩
  refine ⟨A2,ad.c_Pairs,DX2,_,_,_,rfl,Ab,T.cl_Pairs,T.na_Pairs_hands,T.na_Pairs_seats,T.na_Pairs_lots,Wh.int _,Wh.int _,.non,fun h' s'' ns' g lA2 K2 la2 hl2 g2 a2 l2=>⟨rfl,?_⟩,fun no=>absurd good2 (no _ _ _)⟩
  obtain ⟨eh,es,en⟩:=good2.uniq g
  replace es:=es.symm
  replace en:=en.symm
  subst eh es en
  clear g
  have S2:=By hA2 hDX2 neA2 g2
  replace hl2:=BC sm2 hl2
  clear good2 sm2 g2
  and_intros
  refine ⟨by omega,fun l hl=>?_⟩
  rw [Hc]
  have s3:=Ad hl (.lst ((ups n).map V.int))
  have e3:(upd K2 l (.lst ((ups n).map V.int))) l=some (.lst ((ups n).map V.int)):=Ab
  generalize upd K2 l (.lst ((ups n).map V.int))=H3 at s3 e3 ⊢
  and_intros
  refine ⟨(by show 3<=sizeLine;decide),fun r hr'=>?_⟩
  have s4:=Ad hr' (.lst [V.ref A1,V.ref A2,V.ref l])
  have e4:(upd H3 r (.lst [V.ref A1,V.ref A2,V.ref l])) r=some (.lst [V.ref A1,V.ref A2,V.ref l]):=Ab
  generalize upd H3 r (.lst [V.ref A1,V.ref A2,V.ref l])=H4 at s4 e4 ⊢
  have s34:=s3.trans s4
  exact q r A1 A2 l (ups n) H4 (((S1.trans S2).trans s34)) e4 ⟨⟨DX1,lA1,s34 _ _ (S2 _ _ a1),s34 _ _ (S2 _ _ l1)⟩,List.Perm.refl _,n1,n12,s1,by omega⟩ ⟨⟨DX2,lA2,s34 _ _ a2,s34 _ _ l2⟩,List.Perm.refl _,n1,n12,by omega,by omega⟩ (s4 _ _ (e3))
 and_intros
 refine Om (fun _=>?_) (fun _=>?_)
 ·skip
  and_intros
  intro A1 DX1 hA1 hDX1 neA1
  have sm1:=AX (C:=ad.c_Pairs) hA1 hDX1 neA1
  have good1:B5 (upd (upd H DX1 (.own A1)) A1 (.ins ad.c_Pairs DX1 [])) (.int (n:Int)) (.int (s':Int)) .non (n:Int) (s':Int) (ups n):=⟨rfl,rfl,hh.1,hh.2,by omega,by omega,.inl ⟨rfl,rfl⟩⟩
  refine ⟨A1,ad.c_Pairs,DX1,_,_,_,rfl,Ab,T.cl_Pairs,T.na_Pairs_hands,T.na_Pairs_seats,T.na_Pairs_lots,Wh.int _,Wh.int _,.non,fun h' s'' ns' g lA1 K1 la1 hl1 g1 a1 l1=>⟨rfl,?_⟩,fun no=>absurd good1 (no _ _ _)⟩
  obtain ⟨eh,es,en⟩:=good1.uniq g
  replace es:=es.symm
  replace en:=en.symm
  subst eh es en
  clear g
  have S1:=By hA1 hDX1 neA1 g1
  replace hl1:=BC sm1 hl1
  clear good1 sm1 g1
  and_intros
  intro A2 DX2 hA2 hDX2 neA2
  have sm2:=AX (C:=ad.c_Pairs) hA2 hDX2 neA2
  have good2:B5 (upd (upd K1 DX2 (.own A2)) A2 (.ins ad.c_Pairs DX2 [])) (.int (n:Int)) (.int ((s':Int)+1)) .non (n:Int) ((s':Int)+1) (ups n):=⟨rfl,rfl,hh.1,hh.2,by omega,by omega,.inl ⟨rfl,rfl⟩⟩
  refine ⟨A2,ad.c_Pairs,DX2,_,_,_,rfl,Ab,T.cl_Pairs,T.na_Pairs_hands,T.na_Pairs_seats,T.na_Pairs_lots,Wh.int _,Wh.int _,.non,fun h' s'' ns' g lA2 K2 la2 hl2 g2 a2 l2=>⟨rfl,?_⟩,fun no=>absurd good2 (no _ _ _)⟩
  obtain ⟨eh,es,en⟩:=good2.uniq g
  replace es:=es.symm
  replace en:=en.symm
  subst eh es en
  clear g
  have S2:=By hA2 hDX2 neA2 g2
  replace hl2:=BC sm2 hl2
  clear good2 sm2 g2
  and_intros
  refine ⟨by omega,fun l hl=>?_⟩
  rw [Hc]
  have s3:=Ad hl (.lst ((ups n).map V.int))
  have e3:(upd K2 l (.lst ((ups n).map V.int))) l=some (.lst ((ups n).map V.int)):=Ab
  generalize upd K2 l (.lst ((ups n).map V.int))=H3 at s3 e3 ⊢
  and_intros
  refine ⟨(by show 3<=sizeLine;decide),fun r hr'=>?_⟩
  have s4:=Ad hr' (.lst [V.ref A1,V.ref A2,V.ref l])
  have e4:(upd H3 r (.lst [V.ref A1,V.ref A2,V.ref l])) r=some (.lst [V.ref A1,V.ref A2,V.ref l]):=Ab
  generalize upd H3 r (.lst [V.ref A1,V.ref A2,V.ref l])=H4 at s4 e4 ⊢
  have s34:=s3.trans s4
  exact q r A1 A2 l (ups n) H4 (((S1.trans S2).trans s34)) e4 ⟨⟨DX1,lA1,s34 _ _ (S2 _ _ a1),s34 _ _ (S2 _ _ l1)⟩,List.Perm.refl _,n1,n12,s1,by omega⟩ ⟨⟨DX2,lA2,s34 _ _ a2,s34 _ _ l2⟩,List.Perm.refl _,n1,n12,by omega,by omega⟩ (s4 _ _ (e3))
 and_intros
 intro hd hhd
 have sd1:=Ad hhd ((.lst (os.map V.int)))
 have ed1:(upd H hd ((.lst (os.map V.int)))) hd=some ((.lst (os.map V.int))):=Ab
 generalize upd H hd ((.lst (os.map V.int)))=H1 at sd1 ed1 ⊢
 and_intros
 intro A1 DX1 hA1 hDX1 neA1
 have sm1:=AX (C:=ad.c_Pairs) hA1 hDX1 neA1
 have good1:B5 (upd (upd H1 DX1 (.own A1)) A1 (.ins ad.c_Pairs DX1 [])) (.int (n:Int)) (.int (s':Int)) (.ref hd) (n:Int) (s':Int) os:=⟨rfl,rfl,hh.1,hh.2,by omega,by omega,.inr ⟨hd,rfl,sm1 _ _ ed1,po⟩⟩
 refine ⟨A1,ad.c_Pairs,DX1,_,_,_,rfl,Ab,T.cl_Pairs,T.na_Pairs_hands,T.na_Pairs_seats,T.na_Pairs_lots,Wh.int _,Wh.int _,.ints (sm1 _ _ ed1) (by omega),fun h' s'' ns' g lA1 K1 la1 hl1 g1 a1 l1=>⟨rfl,?_⟩,fun no=>absurd good1 (no _ _ _)⟩
 obtain ⟨eh,es,en⟩:=good1.uniq g
 replace es:=es.symm
 replace en:=en.symm
 subst eh es en
 clear g
 have S1:=By hA1 hDX1 neA1 g1
 replace hl1:=BC sm1 hl1
 clear good1 sm1 g1
 and_intros
 refine ⟨lo,_,rfl,.inl (SqL.of (S1 _ _ (sd1 _ _ hlo))),fun hd2 hhd2=>?_⟩
 have sd2:=Ad hhd2 ((.lst (os.map V.int)))
 have ed2:(upd K1 hd2 ((.lst (os.map V.int)))) hd2=some ((.lst (os.map V.int))):=Ab
 generalize upd K1 hd2 ((.lst (os.map V.int)))=H2 at sd2 ed2 ⊢
 and_intros
 intro A2 DX2 hA2 hDX2 neA2
 have sm2:=AX (C:=ad.c_Pairs) hA2 hDX2 neA2
 have good2:B5 (upd (upd H2 DX2 (.own A2)) A2 (.ins ad.c_Pairs DX2 [])) (.int (n:Int)) (.int ((s':Int)+1)) (.ref hd2) (n:Int) ((s':Int)+1) os:=⟨rfl,rfl,hh.1,hh.2,by omega,by omega,.inr ⟨hd2,rfl,sm2 _ _ ed2,po⟩⟩
 refine ⟨A2,ad.c_Pairs,DX2,_,_,_,rfl,Ab,T.cl_Pairs,T.na_Pairs_hands,T.na_Pairs_seats,T.na_Pairs_lots,Wh.int _,Wh.int _,.ints (sm2 _ _ ed2) (by omega),fun h' s'' ns' g lA2 K2 la2 hl2 g2 a2 l2=>⟨rfl,?_⟩,fun no=>absurd good2 (no _ _ _)⟩
 obtain ⟨eh,es,en⟩:=good2.uniq g
 replace es:=es.symm
 replace en:=en.symm
 subst eh es en
 clear g
 have S2:=By hA2 hDX2 neA2 g2
 replace hl2:=BC sm2 hl2
 clear good2 sm2 g2
 replace S1:=sd1.trans S1
 replace S2:=sd2.trans S2
 have s3:Ao K2 K2:=Ao.refl _
 and_intros
 refine ⟨(by show 3<=sizeLine;decide),fun r hr'=>?_⟩
 have s4:=Ad hr' (.lst [V.ref A1,V.ref A2,V.ref lo])
 have e4:(upd K2 r (.lst [V.ref A1,V.ref A2,V.ref lo])) r=some (.lst [V.ref A1,V.ref A2,V.ref lo]):=Ab
 generalize upd K2 r (.lst [V.ref A1,V.ref A2,V.ref lo])=H4 at s4 e4 ⊢
 have s34:=s3.trans s4
 exact q r A1 A2 lo os H4 (((S1.trans S2).trans s34)) e4 ⟨⟨DX1,lA1,s34 _ _ (S2 _ _ a1),s34 _ _ (S2 _ _ l1)⟩,po,n1,n12,s1,by omega⟩ ⟨⟨DX2,lA2,s34 _ _ a2,s34 _ _ l2⟩,po,n1,n12,by omega,by omega⟩ (s4 _ _ (S2 _ _ (S1 _ _ hlo)))
theorem FK (T:Tx K mg base ad):AT P w K mg base CX0 5 ad.f_law_refused ad.d_law_refused ["_law_hands","_law_seats","_law_lots"] (OI K):=by
 refine T.F_law_refused.ok Bn (fun vs H Q E h=>?_) (fun cdv A outer s H vs Q E hr h=>?_)
 ·obtain ⟨x0,x1,x2,rfl,_⟩:=h
  rfl
 obtain ⟨x0,x1,x2,rfl,w0,w1,o2,no,q⟩:=h
 refine ⟨_,(@Af _ _ _ _ _ (@An _ _ (3) _ _ _ _ Bn.nd rfl (Or.inl rfl) Dv (by rfl) (by first | exact .inl rfl | exact .inr rfl | assumption)) (@Af _ _ _ _ _ (PQ ⟨rfl,rfl,rfl⟩ (fun _ _=>(@Ah _ _ _ (@Cc _ _ _ _ (N3 ⟨rfl,rfl,rfl⟩ T.mk_Pairs (AG T) (hr.mono (by decide)) rfl T.m_Pairs T.b_Way_init .nil (@Aa _ _ _ _ _ (pv 0) (@Aa _ _ _ _ _ (pv 1) (@Aa _ _ _ _ _ (pv 2) Ac (by rfl)) (by rfl)) (by rfl))) (by rfl)))) (Q6 (i:=4) ⟨rfl,rfl,rfl⟩ T.h_PollError rfl T.m_PollError Bn.nd rfl rfl (fun _=>(@Af _ _ _ _ _ (@An _ _ (5) _ _ _ _ Bn.nd rfl (Or.inl rfl) (@Am _ _ _ _ _ _ _ _ _ (KP (K:=K)) (by rfl) T.z_isinstance PyProof.Rows.boot_isinstance (@Aa _ _ _ _ _ (pv 4) (@Aa _ _ _ _ _ (@BL _ _ _ _ _ (@Aa _ _ _ _ _ (B3 (v:=.ref ad.c_Ended) rfl T.m_Ended rfl) (@Aa _ _ _ _ _ (B3 (v:=.ref ad.c_NoBallot) rfl T.m_NoBallot rfl) (@Aa _ _ _ _ _ (B3 (v:=.ref ad.c_NoBundle) rfl T.m_NoBundle rfl) (@Aa _ _ _ _ _ (B3 (v:=.ref ad.c_NoChange) rfl T.m_NoChange rfl) (@Aa _ _ _ _ _ (B3 (v:=.ref ad.c_NoNumber) rfl T.m_NoNumber rfl) (@Aa _ _ _ _ _ (B3 (v:=.ref ad.c_NoRow) rfl T.m_NoRow rfl) (@Aa _ _ _ _ _ (B3 (v:=.ref ad.c_NoSheet) rfl T.m_NoSheet rfl) (@Aa _ _ _ _ _ (B3 (v:=.ref ad.c_TooHard) rfl T.m_TooHard rfl) (@Aa _ _ _ _ _ (B3 (v:=.ref ad.c_Torn) rfl T.m_Torn rfl) Ac (by rfl)) (by rfl)) (by rfl)) (by rfl)) (by rfl)) (by rfl)) (by rfl)) (by rfl)) (by rfl))) Ac (by rfl)) (by rfl)) (by decide) (by decide) (by rfl) (by rfl)) (by rfl) (by first | exact .inl rfl | exact .inr rfl | assumption)) (@Af _ _ _ _ _ (@An _ _ (3) _ _ _ _ Bn.nd rfl (Or.inl rfl) (@Dm _ _ _ _ _ _ _ (@Am _ _ _ _ _ _ _ _ _ (Gd (K:=K)) (by rfl) T.z_isinstance PyProof.Rows.boot_isinstance (@Aa _ _ _ _ _ (pv 4) (@Aa _ _ _ _ _ (B3 (v:=.ref ad.c_NoWay) rfl T.m_NoWay rfl) Ac (by rfl)) (by rfl)) (by decide) (by decide) (by rfl) (by rfl)) (@Dm _ _ _ _ _ _ _ (@Am _ _ _ _ _ _ _ _ _ (Gd (K:=K)) (by rfl) T.z_isinstance PyProof.Rows.boot_isinstance (@Aa _ _ _ _ _ (pv 4) (@Aa _ _ _ _ _ (CN (v:=.ty "ValueError") rfl T.z_ValueError PyProof.Rows.Boot.«ValueError» rfl) Ac (by rfl)) (by rfl)) (by decide) (by decide) (by rfl) (by rfl)) (@DG _ _ _ _ _ (@Hu _ _ _ _ (pv 5))))) (by rfl) (by first | exact .inl rfl | exact .inr rfl | assumption)) (@Ah _ _ _ (@An _ _ (3) _ _ _ _ Bn.nd rfl (Or.inl rfl) (@Dm _ _ _ _ _ _ _ (pv 3) (@DG _ _ _ _ _ (@Hu _ _ _ _ (@Am _ _ _ _ _ _ _ _ _ (Gd (K:=K)) (by rfl) T.z_isinstance PyProof.Rows.boot_isinstance (@Aa _ _ _ _ _ (pv 4) (@Aa _ _ _ _ _ (B3 (v:=.ref ad.c_WrongNumber) rfl T.m_WrongNumber rfl) Ac (by rfl)) (by rfl)) (by decide) (by decide) (by rfl) (by rfl))))) (by rfl) (by first | exact .inl rfl | exact .inr rfl | assumption)))))) MQ)) (@Ah _ _ _ (@As _ _ _ _ (pv 3))))),?_⟩
 have kit:∀{B:Addr} {b:Bool},Dd K B->PySem.W.subIn K (.ref ad.c_NoWay) (.ref B)=some b->PySem.W.kitOne K (.ref ad.c_NoWay) (.ref B)=some b:=fun c h=>Ps c h T.s_NoWay_NoWay
 and_intros
 intro x dx hx hdx ne
 have sm:=AX (C:=ad.c_Pairs) hx hdx ne
 refine ⟨x,ad.c_Pairs,dx,x0,x1,x2,rfl,Ab,T.cl_Pairs,T.na_Pairs_hands,T.na_Pairs_seats,T.na_Pairs_lots,w0.same sm,w1.same sm,o2.same sm,fun h s ns g=>absurd (g.old o2 sm) (no _ _ _),fun _ H1 g1=>?_⟩
 have s1:=By hx hdx ne g1
 refine ⟨true,T.s_NoWay_PollError,?_⟩
 rw [if_pos rfl]
 intro e he
 have se:Ao H1 (upd H1 e (hoX e (.ref ad.c_NoWay) none)):=Ad he _
 have ee:(upd H1 e (hoX e (.ref ad.c_NoWay) none)) e=some (hoX e (.ref ad.c_NoWay) none):=Ab
 generalize upd H1 e (hoX e (.ref ad.c_NoWay) none)=H2 at se ee ⊢
 refine ⟨_,rfl,(by show 9<=sizeLine;decide),fun t1 ht1=>?_⟩
 have st1:=Ad ht1 (.tup ([.ref ad.c_Ended,.ref ad.c_NoBallot,.ref ad.c_NoBundle,.ref ad.c_NoChange,.ref ad.c_NoNumber,.ref ad.c_NoRow,.ref ad.c_NoSheet,.ref ad.c_TooHard,.ref ad.c_Torn]:List V))
 refine ⟨e,ad.c_NoWay,none,t1,_,[.ref ad.c_Ended,.ref ad.c_NoBallot,.ref ad.c_NoBundle,.ref ad.c_NoChange,.ref ad.c_NoNumber,.ref ad.c_NoRow,.ref ad.c_NoSheet,.ref ad.c_TooHard,.ref ad.c_Torn],false,rfl,st1 _ _ ee,.inl rfl,T.k_NoWay,SqT.of Ab,rfl,(kan (kit T.h_Ended T.s_NoWay_Ended) (kan (kit T.h_NoBallot T.s_NoWay_NoBallot) (kan (kit T.h_NoBundle T.s_NoWay_NoBundle) (kan (kit T.h_NoChange T.s_NoWay_NoChange) (kan (kit T.h_NoNumber T.s_NoWay_NoNumber) (kan (kit T.h_NoRow T.s_NoWay_NoRow) (kan (kit T.h_NoSheet T.s_NoWay_NoSheet) (kan (kit T.h_TooHard T.s_NoWay_TooHard) (kan (kit T.h_Torn T.s_NoWay_Torn) NU))))))))),_,rfl,?_⟩
 have e3:=st1 _ _ ee
 have s3:=(s1.trans se).trans st1
 generalize upd H2 _ _=H3 at e3 s3 ⊢
 and_intros
 refine ⟨e,ad.c_NoWay,none,_,_,true,rfl,e3,.inl rfl,T.k_NoWay,rfl,kit T.h_NoWay T.s_NoWay_NoWay,?_⟩
 refine ⟨_,rfl,?_⟩
 refine M0 ?_
 and_intros
 refine ⟨e,ad.c_NoWay,none,_,_,true,rfl,e3,.inl rfl,T.k_NoWay,rfl,PY Kh T.v_NoWay,?_⟩
 refine ⟨_,rfl,?_⟩
 refine M0 ?_
 and_intros
 refine ⟨e,ad.c_NoWay,none,_,_,false,rfl,e3,.inl rfl,T.k_NoWay,rfl,kit T.h_WrongNumber T.s_NoWay_WrongNumber,?_⟩
 and_intros
 exact q _ s3
theorem Ca (T:Tx K mg base ad):AT P w K mg base CX0 5 ad.f_Way_outcome ad.d_Way_outcome ["self","sheet"] (PZ ad.c_Pairs ad.lP):=by
 refine T.F_Way_outcome.ok Fp (fun vs H Q E h=>?_) (fun cdv A outer s H vs Q E hr h=>?_)
 ·obtain ⟨a,l,h,s,ns,ls,rfl,_⟩:=h
  rfl
 obtain ⟨a,l,h,s,ns,ls,rfl,md,hl,gl,l60,lt,q⟩:=h
 refine ⟨_,(@Ah _ _ _ (@As _ _ _ _ (Cg (pv 0) T.cl_Pairs T.me_Pairs_told_by (EB T) (hr.mono (by decide)) T.b_Pairs_told_by .nil Ay (@Aa _ _ _ _ _ (Cg (pv 0) T.cl_Pairs T.me_Pairs_counted (BG T) (hr.mono (by decide)) T.b_Pairs_counted .nil Ay (@Aa _ _ _ _ _ (pv 1) Ac (by rfl))) Ac (by rfl))))),?_⟩
 obtain ⟨dx,la,k1,k2⟩:=id md.is
 refine ⟨_,rfl,a,dx,_,rfl,k1,rfl,?_⟩
 refine ⟨_,rfl,a,dx,_,rfl,k1,rfl,_,rfl,a,l,h,s,ns,ls,rfl,md,hl,gl,l60,lt,fun p F H1 sm sq lq hp pap _=>?_⟩
 exact ⟨a,p,h,s,ns,ls,F,rfl,md.sm sm,pap,fun r H2 hr s2 e2=>q r F H2 (sm.trans (Sm.of s2)) (fun z=>(sq z).trans s2) (lq.same s2) e2 pap.strong⟩
theorem Eu (T:Tx K mg base ad):AT P w K mg base CX0 6 ad.f_law_like_a_way ad.d_law_like_a_way ["_law_hands","_law_seats","_law_lots","_law_cell_here"] Mi:=by
 refine T.F_law_like_a_way.ok Au (fun vs H Q E h=>?_) (fun cdv A outer s H vs Q E hr h=>?_)
 ·obtain ⟨lo,n,s',os,c,rfl,_⟩:=h
  rfl
 obtain ⟨lo,n,s',os,c,rfl,hlo,po,n1,n12,s1,s50,szc,q⟩:=h
 refine ⟨_,(@Af _ _ _ _ _ (@An _ _ (4) _ _ _ _ Au.nd rfl (Or.inl rfl) (@BU _ _ _ _ _ _ _ _ _ BI (by rfl) T.z_list PyProof.Rows.boot_list (@Aa _ _ _ _ _ (pv 2) Ac (by rfl)) (by decide) (by decide) (by rfl) (by rfl)) (by rfl) (by first | exact .inl rfl | exact .inr rfl | assumption)) (@Af _ _ _ _ _ (@An _ _ (5) _ _ _ _ Au.nd rfl (Or.inl rfl) (Ci T.mk_Pairs (AG T) (hr.mono (by decide)) rfl T.m_Pairs T.b_Way_init .nil D7 (@Aa _ _ _ _ _ (pv 0) (@Aa _ _ _ _ _ (pv 1) (@Aa _ _ _ _ _ (pv 4) Ac (by rfl)) (by rfl)) (by rfl))) (by rfl) (by first | exact .inl rfl | exact .inr rfl | assumption)) (@Af _ _ _ _ _ (@Cc _ _ _ _ (CY PySem.F.plainAttrs_list PySem.F.slot_list_append PySem.F.type_list_append BH (pv 4) (@Aa _ _ _ _ _ Ag Ac (by rfl))) (by rfl)) (@Af _ _ _ _ _ (Ek (pv 0) (FO (pv 4) Ag Dy)) (@Af _ _ _ _ _ (@An _ _ (6) _ _ _ _ Au.nd rfl (Or.inl rfl) (Ci T.mk_Pairs (AG T) (hr.mono (by decide)) rfl T.m_Pairs T.b1_Way_init (.cons (show Av (.non:V) _ from rfl) .nil) D7 (@Aa _ _ _ _ _ Ag (@Aa _ _ _ _ _ Ag Ac (by rfl)) (by rfl))) (by rfl) (by first | exact .inl rfl | exact .inr rfl | assumption)) (@Af _ _ _ _ _ (@CK _ _ _ _ _ _ _ _ (PW.pt (@Ea _ _ _ _ _ _ _ (@CS _ _ _ _ (@CT _ _ _ (@Am _ _ _ _ _ _ _ _ _ (N2 (K:=K)) (by rfl) T.z_isinstance PyProof.Rows.boot_isinstance (@Aa _ _ _ _ _ (pv 5) (@Aa _ _ _ _ _ (B3 (v:=.ref ad.c_Way) rfl T.m_Way rfl) Ac (by rfl)) (by rfl)) (by decide) (by decide) (by rfl) (by rfl)) (by intro _;rfl))) (@Ea _ _ _ _ _ _ _ (@Ax _ _ _ _ _ _ _ _ Eb (Cd (pv 6) rfl) Ag (Az _)) (@Ea _ _ _ _ _ _ _ (@Ax _ _ _ _ _ _ _ _ Eb (Cd (pv 6) rfl) Ag (Az _)) (@E8 _ _ _ _ (@Ax _ _ _ _ _ _ _ _ (Du (K:=K) hr.units) (Cd (pv 6) rfl) (Bv rfl (by rfl) T.z_list (by rfl) T.z_range Ag) (Az _))))))) (@Ah _ _ _ (@As _ _ _ _ Dv)) Bb) (@Af _ _ _ _ _ (@CK _ _ _ _ _ _ _ _ (PW.pt (@Ea _ _ _ _ _ _ _ (@Ax _ _ _ _ _ _ _ _ Eb (Cd (pv 5) rfl) (pv 0) (Az _)) (@Ea _ _ _ _ _ _ _ (@Ax _ _ _ _ _ _ _ _ Eb (Cd (pv 5) rfl) (pv 1) (Az _)) (@Ea _ _ _ _ _ _ _ (@CS _ _ _ _ (@CT _ _ _ (@Am _ _ _ _ _ _ _ _ _ CD (by rfl) T.z_isinstance PyProof.Rows.boot_isinstance (@Aa _ _ _ _ _ (Cd (pv 5) rfl) (@Aa _ _ _ _ _ (CN (v:=.ty "list") rfl T.z_list PyProof.Rows.boot_list rfl) Ac (by rfl)) (by rfl)) (by decide) (by decide) (by rfl) (by rfl)) (by intro _;rfl))) (@E8 _ _ _ _ (@Ax _ _ _ _ _ _ _ _ (Du (K:=K) hr.units) (Cd (pv 5) rfl) (pv 2) (Az _))))))) (@Ah _ _ _ (@As _ _ _ _ Dv)) Bb) (@Af _ _ _ _ _ (C5 PassesOwn.never rfl (Bp rfl T.z_range (@Aa _ _ _ _ _ (pv 0) Ac (by rfl))) (AC (i:=7) Au.nd rfl (Or.inl rfl)) (@Af _ _ _ _ _ (@An _ _ (8) _ _ _ _ Au.nd rfl (Or.inl rfl) (Cg (pv 5) T.cl_Pairs T.me_Pairs_ahead (Hq T) (hr.mono (by decide)) T.b_Way_ahead .nil Ay (@Aa _ _ _ _ _ (@A4 _ _ _ _ _ _ _ AH (pv 2) (pv 7) (fun _ _=>rfl)) (@Aa _ _ _ _ _ (@A4 _ _ _ _ _ _ _ AH (pv 2) (@Aj _ _ _ _ _ _ _ _ AM (pv 3) (pv 0)) (fun _ _=>rfl)) Ac (by rfl)) (by rfl))) (by rfl) (by first | exact .inl rfl | exact .inr rfl | assumption)) (@Ah _ _ _ (@CK _ _ _ _ _ _ _ _ (PW.pt (@Ea _ _ _ _ _ _ _ (@CS _ _ _ _ (@CT _ _ _ (@Am _ _ _ _ _ _ _ _ _ CD (by rfl) T.z_isinstance PyProof.Rows.boot_isinstance (@Aa _ _ _ _ _ (pv 8) (@Aa _ _ _ _ _ (CN (v:=.ty "bool") rfl T.z_bool PyProof.Rows.boot_bool rfl) Ac (by rfl)) (by rfl)) (by decide) (by decide) (by rfl) (by rfl)) (by intro _;rfl))) (@E8 _ _ _ _ (@Ax _ _ _ _ _ _ _ _ Eb (pv 8) (@DJ _ _ _ _ _ _ _ _ FV (pv 7) (@Aj _ _ _ _ _ _ _ _ AM (pv 3) (pv 0)) (Az _)) (Az _))))) (@Ah _ _ _ (@As _ _ _ _ Dv)) Bb)))) (@Af _ _ _ _ _ (@An _ _ (9) _ _ _ _ Au.nd rfl (Or.inl rfl) (@Bk _ _ _ _ (@Aa _ _ _ _ _ (@BL _ _ _ _ _ (@Aa _ _ _ _ _ Ag (@Aa _ _ _ _ _ (pv 1) (@Aa _ _ _ _ _ CG Ac (by rfl)) (by rfl)) (by rfl))) (@Aa _ _ _ _ _ (@BL _ _ _ _ _ (@Aa _ _ _ _ _ Ag (@Aa _ _ _ _ _ (pv 1) (@Aa _ _ _ _ _ CG Ac (by rfl)) (by rfl)) (by rfl))) (@Aa _ _ _ _ _ (@BL _ _ _ _ _ (@Aa _ _ _ _ _ Dv (@Aa _ _ _ _ _ (pv 1) (@Aa _ _ _ _ _ CG Ac (by rfl)) (by rfl)) (by rfl))) (@Aa _ _ _ _ _ (@BL _ _ _ _ _ (@Aa _ _ _ _ _ (pv 0) (@Aa _ _ _ _ _ Ag (@Aa _ _ _ _ _ CG Ac (by rfl)) (by rfl)) (by rfl))) (@Aa _ _ _ _ _ (@BL _ _ _ _ _ (@Aa _ _ _ _ _ (pv 0) (@Aa _ _ _ _ _ Ag (@Aa _ _ _ _ _ CG Ac (by rfl)) (by rfl)) (by rfl))) Ac (by rfl)) (by rfl)) (by rfl)) (by rfl)) (by rfl))) (by rfl) (by first | exact .inl rfl | exact .inr rfl | assumption)) (@Af _ _ _ _ _ (@An _ _ (9) _ _ _ _ Au.nd rfl (Or.inl rfl) (@Aj _ _ _ _ _ _ _ _ MK (pv 9) (@Bk _ _ _ _ (@Aa _ _ _ _ _ (@BL _ _ _ _ _ (@Aa _ _ _ _ _ (pv 0) (@Aa _ _ _ _ _ CG (@Aa _ _ _ _ _ CG Ac (by rfl)) (by rfl)) (by rfl))) (@Aa _ _ _ _ _ (@BL _ _ _ _ _ (@Aa _ _ _ _ _ (pv 0) (@Aa _ _ _ _ _ (pv 1) (@Aa _ _ _ _ _ (IW KA (pv 2) (KJ Ag) Kn) Ac (by rfl)) (by rfl)) (by rfl))) (@Aa _ _ _ _ _ (@BL _ _ _ _ _ (@Aa _ _ _ _ _ (pv 0) (@Aa _ _ _ _ _ (pv 1) (@Aa _ _ _ _ _ (@Aj _ _ _ _ _ _ _ _ MK (pv 2) (@Bk _ _ _ _ (@Aa _ _ _ _ _ Ag Ac (by rfl)))) Ac (by rfl)) (by rfl)) (by rfl))) (@Aa _ _ _ _ _ (@BL _ _ _ _ _ (@Aa _ _ _ _ _ (pv 0) (@Aa _ _ _ _ _ (pv 1) (@Aa _ _ _ _ _ JI Ac (by rfl)) (by rfl)) (by rfl))) Ac (by rfl)) (by rfl)) (by rfl)) (by rfl)))) (by rfl) (by first | exact .inl rfl | exact .inr rfl | assumption)) (@Af _ _ _ _ _ (Ek (@A4 _ _ _ _ _ _ _ AH (pv 9) (@Aj _ _ _ _ _ _ _ _ AM (@Aj _ _ _ _ _ _ _ _ AZ (pv 3) Ag) Ag) (fun _ _=>rfl)) (Ga rfl (Bj (AC (i:=0) Au.nd rfl (Or.inl rfl)) (Bj (AC (i:=1) Au.nd rfl (Or.inl rfl)) (Bj (AC (i:=10) Au.nd rfl (Or.inl rfl)) DK))))) (@Ah _ _ _ (@As _ _ _ _ (@Aq _ _ _ _ _ _ _ _ _ _ _ _ _ _ _ _ (FK T) (hr.mono (by decide)) rfl T.m_law_refused T.F_law_refused.kp T.b_law_refused .nil Ay (@Aa _ _ _ _ _ (pv 0) (@Aa _ _ _ _ _ (pv 1) (@Aa _ _ _ _ _ (pv 10) Ac (by rfl)) (by rfl)) (by rfl)) (by decide) (by rfl) (by rfl))))))))))))))),?_⟩
 have hh:1<=(n:Int)/\(n:Int)<=12:=by omega
 have ln:os.length=n:=by rw [po.length_eq,Bc]
 have nd:os.Nodup:=po.nodup_iff.mpr (Jz n)
 and_intros
 intro hd hhd
 have sd1:=Ad hhd ((.lst (os.map V.int)))
 have ed1:(upd H hd ((.lst (os.map V.int)))) hd=some ((.lst (os.map V.int))):=Ab
 generalize upd H hd ((.lst (os.map V.int)))=H1 at sd1 ed1 ⊢
 and_intros
 intro A1 DX1 hA1 hDX1 neA1
 have sm1:=AX (C:=ad.c_Pairs) hA1 hDX1 neA1
 have good1:B5 (upd (upd H1 DX1 (.own A1)) A1 (.ins ad.c_Pairs DX1 [])) (.int (n:Int)) (.int (s':Int)) (.ref hd) (n:Int) (s':Int) os:=⟨rfl,rfl,hh.1,hh.2,by omega,by omega,.inr ⟨hd,rfl,sm1 _ _ ed1,po⟩⟩
 refine ⟨A1,ad.c_Pairs,DX1,_,_,_,rfl,Ab,T.cl_Pairs,T.na_Pairs_hands,T.na_Pairs_seats,T.na_Pairs_lots,Wh.int _,Wh.int _,.ints (sm1 _ _ ed1) (by omega),fun h' s'' ns' g lA1 K1 la1 hl1 g1 a1 l1=>⟨rfl,?_⟩,fun no=>absurd good1 (no _ _ _)⟩
 obtain ⟨eh,es,en⟩:=good1.uniq g
 replace es:=es.symm
 replace en:=en.symm
 subst eh es en
 clear g
 have S1:=By hA1 hDX1 neA1 g1
 replace hl1:=BC sm1 hl1
 clear good1 sm1 g1
 have eK:=S1 _ _ ed1
 have nA:A1≠hd:=Mt a1 eK (fun z=>nomatch z)
 have nl:lA1≠hd:=fun z=>by rw [z,ed1] at hl1;cases hl1
 have loH:lo≠hd:=fun z=>by rw [z,hhd] at hlo;cases hlo
 have sK:=sd1.trans S1
 and_intros
 refine ⟨.inl ⟨rfl,_,SqL.of eK⟩,?_⟩
 and_intros
 refine ⟨hd,_,_,rfl,rfl,eK,(by rw [List.length_map];exact Bq (by omega)),?_⟩
 and_intros
 refine ⟨hd,_,_,0,rfl,rfl,Ab,Ez (by rw [List.length_append];show 0 < _+1;omega),?_⟩
 have a2':(upd (upd K1 hd (.lst (os.map V.int++[V.int 0]))) hd (.lst ((os.map V.int++[V.int 0]).set 0 (.int (n:Int))))) A1=some (.ins ad.c_Pairs DX1 (fsW (n:Int) (s':Int) lA1)):=by rw [Ai nA,Ai nA];exact a1
 have l2':(upd (upd K1 hd (.lst (os.map V.int++[V.int 0]))) hd (.lst ((os.map V.int++[V.int 0]).set 0 (.int (n:Int))))) lA1=some (.lst (os.map V.int)):=by rw [Ai nl,Ai nl];exact l1
 have s2':Ao H (upd (upd K1 hd (.lst (os.map V.int++[V.int 0]))) hd (.lst ((os.map V.int++[V.int 0]).set 0 (.int (n:Int))))):=A9 (A9 sK hhd) hhd
 generalize upd (upd K1 hd (.lst (os.map V.int++[V.int 0]))) hd (.lst ((os.map V.int++[V.int 0]).set 0 (.int (n:Int))))=H2 at a2' l2' s2' ⊢
 clear nA nl eK a1 l1 S1 sK hl1
 and_intros
 intro A2 DX2 hA2 hDX2 neA2
 have sm2:=AX (C:=ad.c_Pairs) hA2 hDX2 neA2
 have good2:B5 (upd (upd H2 DX2 (.own A2)) A2 (.ins ad.c_Pairs DX2 [])) (.int 12) (.int 60) .non 12 60 (ups 12):=⟨rfl,rfl,by decide,by decide,by omega,by omega,.inl ⟨rfl,rfl⟩⟩
 refine ⟨A2,ad.c_Pairs,DX2,_,_,_,rfl,Ab,T.cl_Pairs,T.na_Pairs_hands,T.na_Pairs_seats,T.na_Pairs_lots,Wh.int _,Wh.int _,.non,fun h' s'' ns' g lA2 K2 la2 hl2 g2 a2 l2=>⟨rfl,?_⟩,fun no=>absurd good2 (no _ _ _)⟩
 obtain ⟨eh,es,en⟩:=good2.uniq g
 replace es:=es.symm
 replace en:=en.symm
 subst eh es en
 clear g
 have S2:=By hA2 hDX2 neA2 g2
 replace hl2:=BC sm2 hl2
 clear good2 sm2 g2
 have hlo2:=S2 _ _ (s2' _ _ hlo)
 have aw:=S2 _ _ a2'
 have lw:=S2 _ _ l2'
 have sH:=s2'.trans S2
 clear a2' l2' s2' S2
 and_intros
 refine ⟨A1,ad.c_Pairs,DX1,_,ad.c_Way,rfl,aw,T.cl_Pairs,T.ia_Pairs_Way,?_⟩
 and_intros
 refine ⟨A2,_,DX2,_,_,rfl,a2,T.cl_Pairs,T.na_Pairs_hands,rfl,?_⟩
 and_intros
 refine ⟨A2,_,DX2,_,_,rfl,a2,T.cl_Pairs,T.na_Pairs_seats,rfl,?_⟩
 and_intros
 refine ⟨A2,_,DX2,_,_,rfl,a2,T.cl_Pairs,T.na_Pairs_lots,rfl,?_⟩
 and_intros
 refine ⟨by decide,fun r12 hr12=>?_⟩
 rw [Hc]
 have s5:=Ad hr12 (.lst ((ups 12).map V.int))
 have e5:(upd K2 r12 (.lst ((ups 12).map V.int))) r12=some (.lst ((ups 12).map V.int)):=Ab
 generalize upd K2 r12 (.lst ((ups 12).map V.int))=G0 at s5 e5 ⊢
 refine ⟨.list ((ups 12).map .int),.list ((ups 12).map .int),.lst (SqL.of (s5 _ _ l2)) (.ints _),.lst (SqL.of e5) (.ints _),(At _).2,(At _).2,?_⟩
 rw [show PyData.eqv (.list ((ups 12).map .int)) (.list ((ups 12).map .int))=true from by show PyData.eqvAll _ _=true;rw [Cz];exact decide_eq_true rfl]
 replace hlo:=s5 _ _ hlo2
 replace aw:=s5 _ _ aw
 replace lw:=s5 _ _ lw
 replace sH:=sH.trans s5
 clear hlo2 s5 e5 l2 a2
 and_intros
 refine ⟨A1,_,DX1,_,_,rfl,aw,T.cl_Pairs,T.na_Pairs_hands,rfl,?_⟩
 and_intros
 refine ifF (JE rfl) ?_
 and_intros
 refine ⟨A1,_,DX1,_,_,rfl,aw,T.cl_Pairs,T.na_Pairs_seats,rfl,?_⟩
 and_intros
 refine ifF (JE rfl) ?_
 and_intros
 refine ⟨A1,_,DX1,_,_,rfl,aw,T.cl_Pairs,T.na_Pairs_lots,rfl,?_⟩
 refine ⟨_,_,_,_,rfl,CI.lst lw,DY,?_⟩
 and_intros
 refine ⟨A1,_,DX1,_,_,rfl,aw,T.cl_Pairs,T.na_Pairs_lots,rfl,?_⟩
 and_intros
 refine ⟨.list (os.map .int),.list (os.map .int),.lst (SqL.of lw) (.ints _),.lst (SqL.of hlo) (.ints _),(At _).2,(At _).2,?_⟩
 rw [show PyData.eqv (.list (os.map .int)) (.list (os.map .int))=true from by show PyData.eqvAll _ _=true;rw [Cz];exact decide_eq_true rfl]
 and_intros
 refine ⟨by omega,by omega,DS (fun i σ' H'=>∃v7 v8:Option V,σ'=[some (.int (n:Int)),some (.int (s':Int)),some (.ref lo),some (.int c),some (.ref hd),some (.ref A1),some (.ref A2),v7,v8,none,none]/\G0=H') ⟨none,none,rfl,rfl⟩ ?_ ?_⟩
 ·rintro i σ' H' hi ⟨v7,v8,rfl,rfl⟩
  rw [Int.toNat_natCast] at hi
  have mj:=Be c (show (0:Int) < (n:Int) by omega)
  obtain ⟨j,ej⟩:∃j:Nat,c.fmod (n:Int)=(j:Int):=⟨(c.fmod (n:Int)).toNat,by omega⟩
  have hj:j < n:=by omega
  obtain ⟨x,hx⟩:∃x:Int,os[i]?=some x:=⟨_,List.getElem?_eq_getElem (by omega)⟩
  obtain ⟨y,hy⟩:∃y:Int,os[j]?=some y:=⟨_,List.getElem?_eq_getElem (by omega)⟩
  and_intros
  refine ⟨A1,DX1,_,rfl,aw,rfl,?_⟩
  and_intros
  refine ⟨lo,_,_,_,rfl,rfl,SqL.of hlo,(by rw [Int.zero_add];exact atN hx),?_⟩
  and_intros
  refine ⟨by omega,?_⟩
  dsimp only
  rw [ej]
  refine ⟨lo,_,_,_,rfl,rfl,SqL.of hlo,atN hy,?_⟩
  and_intros
  refine ⟨A1,ad.c_Pairs,DX1,lA1,_,os,x,y,rfl,aw,T.cl_Pairs,T.na_Pairs_lots,rfl,lw,List.mem_of_getElem? hx,List.mem_of_getElem? hy,?_⟩
  rw [MN nd hx,MN nd hy]
  and_intros
  refine ⟨_,_,_,_,rfl,CI.bl _,DX,?_⟩
  and_intros
  refine ⟨by show (n:Int)≠0;omega,?_⟩
  dsimp only
  rw [ej]
  and_intros
  refine ifF ?_ ⟨_,_,rfl,rfl⟩
  have e:decide (0+(i:Int) < (j:Int))=decide (i < j):=by congr 1;apply propext;omega
  show (!decide (V.bl _=V.bl (decide (0+(i:Int) < (j:Int)))))=false
  rw [e,decide_eq_true rfl]
  rfl
 ·rintro σ' H' ⟨v7,v8,rfl,rfl⟩
  and_intros
  refine ⟨(by show 3<=sizeLine;decide),fun t0 ht0=>?_⟩
  have v0:=Ad ht0 ((.tup [V.int 0,V.int (s':Int),V.non]))
  have f0:(upd G0 t0 ((.tup [V.int 0,V.int (s':Int),V.non]))) t0=some ((.tup [V.int 0,V.int (s':Int),V.non])):=Ab
  generalize upd G0 t0 ((.tup [V.int 0,V.int (s':Int),V.non]))=G1 at v0 f0 ⊢
  have b0:CV K G1 (.ref t0):=⟨t0,_,_,_,rfl,f0,Wh.int _,Wh.int _,.non,no0 (Fi (by omega))⟩
  and_intros
  refine ⟨(by show 3<=sizeLine;decide),fun t1 ht1=>?_⟩
  have v1:=Ad ht1 ((.tup [V.int 13,V.int (s':Int),V.non]))
  have f1:(upd G1 t1 ((.tup [V.int 13,V.int (s':Int),V.non]))) t1=some ((.tup [V.int 13,V.int (s':Int),V.non])):=Ab
  generalize upd G1 t1 ((.tup [V.int 13,V.int (s':Int),V.non]))=G2 at v1 f1 ⊢
  have b1:CV K G2 (.ref t1):=⟨t1,_,_,_,rfl,f1,Wh.int _,Wh.int _,.non,no0 (Fi (by omega))⟩
  and_intros
  refine ⟨(by show 3<=sizeLine;decide),fun t2 ht2=>?_⟩
  have v2:=Ad ht2 ((.tup [V.bl true,V.int (s':Int),V.non]))
  have f2:(upd G2 t2 ((.tup [V.bl true,V.int (s':Int),V.non]))) t2=some ((.tup [V.bl true,V.int (s':Int),V.non])):=Ab
  generalize upd G2 t2 ((.tup [V.bl true,V.int (s':Int),V.non]))=G3 at v2 f2 ⊢
  have b2:CV K G3 (.ref t2):=⟨t2,_,_,_,rfl,f2,Wh.bl _,Wh.int _,.non,no0 rfl⟩
  and_intros
  refine ⟨(by show 3<=sizeLine;decide),fun t3 ht3=>?_⟩
  have v3:=Ad ht3 ((.tup [V.int (n:Int),V.int 0,V.non]))
  have f3:(upd G3 t3 ((.tup [V.int (n:Int),V.int 0,V.non]))) t3=some ((.tup [V.int (n:Int),V.int 0,V.non])):=Ab
  generalize upd G3 t3 ((.tup [V.int (n:Int),V.int 0,V.non]))=G4 at v3 f3 ⊢
  have b3:CV K G4 (.ref t3):=⟨t3,_,_,_,rfl,f3,Wh.int _,Wh.int _,.non,no1 (Fi (by omega))⟩
  and_intros
  refine ⟨(by show 3<=sizeLine;decide),fun t4 ht4=>?_⟩
  have v4:=Ad ht4 ((.tup [V.int (n:Int),V.int 61,V.non]))
  have f4:(upd G4 t4 ((.tup [V.int (n:Int),V.int 61,V.non]))) t4=some ((.tup [V.int (n:Int),V.int 61,V.non])):=Ab
  generalize upd G4 t4 ((.tup [V.int (n:Int),V.int 61,V.non]))=G5 at v4 f4 ⊢
  have b4:CV K G5 (.ref t4):=⟨t4,_,_,_,rfl,f4,Wh.int _,Wh.int _,.non,no1 (Fi (by omega))⟩
  and_intros
  refine ⟨(by show 5<=sizeLine;decide),fun L5 hL5=>?_⟩
  have w5:=Ad hL5 ((.lst [V.ref t0,V.ref t1,V.ref t2,V.ref t3,V.ref t4]))
  have g5:(upd G5 L5 ((.lst [V.ref t0,V.ref t1,V.ref t2,V.ref t3,V.ref t4]))) L5=some ((.lst [V.ref t0,V.ref t1,V.ref t2,V.ref t3,V.ref t4])):=Ab
  generalize upd G5 L5 ((.lst [V.ref t0,V.ref t1,V.ref t2,V.ref t3,V.ref t4]))=G6 at w5 g5 ⊢
  and_intros
  refine ⟨(by show 3<=sizeLine;decide),fun t5 ht5=>?_⟩
  have v5:=Ad ht5 ((.tup [V.int (n:Int),V.non,V.non]))
  have f5:(upd G6 t5 ((.tup [V.int (n:Int),V.non,V.non]))) t5=some ((.tup [V.int (n:Int),V.non,V.non])):=Ab
  generalize upd G6 t5 ((.tup [V.int (n:Int),V.non,V.non]))=G7 at v5 f5 ⊢
  have b5:CV K G7 (.ref t5):=⟨t5,_,_,_,rfl,f5,Wh.int _,Wh.non,.non,no1 rfl⟩
  and_intros
  refine ⟨lo,_,rfl,SqL.of (((((((v0.trans v1).trans v2).trans v3).trans v4).trans w5).trans v5) _ _ hlo),fun d1 hd1=>?_⟩
  rw [show He (os.map V.int) (some 1) none=(os.drop 1).map V.int from (N6 (j:=1)).trans (List.map_drop ..).symm]
  have x1:=Ad hd1 ((.lst ((os.drop 1).map V.int)))
  have k1:(upd G7 d1 ((.lst ((os.drop 1).map V.int)))) d1=some ((.lst ((os.drop 1).map V.int))):=Ab
  generalize upd G7 d1 ((.lst ((os.drop 1).map V.int)))=G8 at x1 k1 ⊢
  and_intros
  refine ⟨(by show 3<=sizeLine;decide),fun t6 ht6=>?_⟩
  have v6:=Ad ht6 ((.tup [V.int (n:Int),V.int (s':Int),V.ref d1]))
  have f6:(upd G8 t6 ((.tup [V.int (n:Int),V.int (s':Int),V.ref d1]))) t6=some ((.tup [V.int (n:Int),V.int (s':Int),V.ref d1])):=Ab
  generalize upd G8 t6 ((.tup [V.int (n:Int),V.int (s':Int),V.ref d1]))=G9 at v6 f6 ⊢
  have o6:=NY.no (K:=K) (n:=n) ⟨_,v6 _ _ k1,GY _,by rw [List.length_map,List.length_drop];omega,Il (by rw [List.length_map,List.length_drop];omega)⟩
  have b6:CV K G9 (.ref t6):=⟨t6,_,_,_,rfl,f6,Wh.int _,Wh.int _,o6.1,no2 o6.2⟩
  and_intros
  refine ⟨(by show 1<=sizeLine;decide),fun c1 hc1=>?_⟩
  have x2:=Ad hc1 ((.lst [V.int 0]))
  have k2:(upd G9 c1 ((.lst [V.int 0]))) c1=some ((.lst [V.int 0])):=Ab
  generalize upd G9 c1 ((.lst [V.int 0]))=G10 at x2 k2 ⊢
  refine ⟨lo,c1,_,_,rfl,rfl,(((((((((v0.trans v1).trans v2).trans v3).trans v4).trans w5).trans v5).trans x1).trans v6).trans x2) _ _ hlo,k2,A5 (by rw [List.length_map];show _+1<=1000;omega),fun d2 hd2=>?_⟩
  have x3:=Ad hd2 ((.lst (os.map V.int++[V.int 0])))
  have k3:(upd G10 d2 ((.lst (os.map V.int++[V.int 0])))) d2=some ((.lst (os.map V.int++[V.int 0]))):=Ab
  generalize upd G10 d2 ((.lst (os.map V.int++[V.int 0])))=G11 at x3 k3 ⊢
  and_intros
  refine ⟨(by show 3<=sizeLine;decide),fun t7 ht7=>?_⟩
  have v7:=Ad ht7 ((.tup [V.int (n:Int),V.int (s':Int),V.ref d2]))
  have f7:(upd G11 t7 ((.tup [V.int (n:Int),V.int (s':Int),V.ref d2]))) t7=some ((.tup [V.int (n:Int),V.int (s':Int),V.ref d2])):=Ab
  generalize upd G11 t7 ((.tup [V.int (n:Int),V.int (s':Int),V.ref d2]))=G12 at v7 f7 ⊢
  have o7:=NY.no (K:=K) (n:=n) ⟨_,v7 _ _ k3,(fun y m=>by
   rcases List.mem_append.mp m with m | m
   ·exact GY _ y m
   ·rw [List.mem_singleton.mp m]
    exact Wh.int _),by rw [List.length_append,List.length_map];show _+1<=14;omega,Il (by rw [List.length_append,List.length_map];show _+1≠n;omega)⟩
  have b7:CV K G12 (.ref t7):=⟨t7,_,_,_,rfl,f7,Wh.int _,Wh.int _,o7.1,no2 o7.2⟩
  and_intros
  refine ⟨(by show 3<=sizeLine;decide),fun t8 ht8=>?_⟩
  have v8:=Ad ht8 ((.tup [V.int (n:Int),V.int (s':Int),V.str (Str.ofString "0")]))
  have f8:(upd G12 t8 ((.tup [V.int (n:Int),V.int (s':Int),V.str (Str.ofString "0")]))) t8=some ((.tup [V.int (n:Int),V.int (s':Int),V.str (Str.ofString "0")])):=Ab
  generalize upd G12 t8 ((.tup [V.int (n:Int),V.int (s':Int),V.str (Str.ofString "0")]))=G13 at v8 f8 ⊢
  have b8:CV K G13 (.ref t8):=⟨t8,_,_,_,rfl,f8,Wh.int _,Wh.int _,.str _,no2 (MT (fun z=>nomatch z) fun a ys z _=>nomatch z)⟩
  and_intros
  refine ⟨(by show 4<=sizeLine;decide),fun L4 hL4=>?_⟩
  have w4:=Ad hL4 ((.lst [V.ref t5,V.ref t6,V.ref t7,V.ref t8]))
  have g4:(upd G13 L4 ((.lst [V.ref t5,V.ref t6,V.ref t7,V.ref t8]))) L4=some ((.lst [V.ref t5,V.ref t6,V.ref t7,V.ref t8])):=Ab
  generalize upd G13 L4 ((.lst [V.ref t5,V.ref t6,V.ref t7,V.ref t8]))=G14 at w4 g4 ⊢
  refine ⟨L5,L4,_,_,rfl,rfl,(((((((v5.trans x1).trans v6).trans x2).trans x3).trans v7).trans v8).trans w4) _ _ g5,g4,A5 (by show 9<=1000;decide),fun L9 hL9=>?_⟩
  have w9:=Ad hL9 ((.lst ([V.ref t0,V.ref t1,V.ref t2,V.ref t3,V.ref t4]++[V.ref t5,V.ref t6,V.ref t7,V.ref t8])))
  have g9:(upd G14 L9 ((.lst ([V.ref t0,V.ref t1,V.ref t2,V.ref t3,V.ref t4]++[V.ref t5,V.ref t6,V.ref t7,V.ref t8])))) L9=some ((.lst ([V.ref t0,V.ref t1,V.ref t2,V.ref t3,V.ref t4]++[V.ref t5,V.ref t6,V.ref t7,V.ref t8]))):=Ab
  generalize upd G14 L9 ((.lst ([V.ref t0,V.ref t1,V.ref t2,V.ref t3,V.ref t4]++[V.ref t5,V.ref t6,V.ref t7,V.ref t8])))=G15 at w9 g9 ⊢
  have all:∀x∈[V.ref t0,V.ref t1,V.ref t2,V.ref t3,V.ref t4]++[V.ref t5,V.ref t6,V.ref t7,V.ref t8],CV K G15 x:=fun x m=>by
   simp only [List.mem_append,List.mem_cons,List.not_mem_nil,or_false] at m
   rcases m with (rfl | rfl | rfl | rfl | rfl) | (rfl | rfl | rfl | rfl)
   ·exact b0.same (((((((((((((v1.trans v2).trans v3).trans v4).trans w5).trans v5).trans x1).trans v6).trans x2).trans x3).trans v7).trans v8).trans w4).trans w9)
   ·exact b1.same ((((((((((((v2.trans v3).trans v4).trans w5).trans v5).trans x1).trans v6).trans x2).trans x3).trans v7).trans v8).trans w4).trans w9)
   ·exact b2.same (((((((((((v3.trans v4).trans w5).trans v5).trans x1).trans v6).trans x2).trans x3).trans v7).trans v8).trans w4).trans w9)
   ·exact b3.same ((((((((((v4.trans w5).trans v5).trans x1).trans v6).trans x2).trans x3).trans v7).trans v8).trans w4).trans w9)
   ·exact b4.same (((((((((w5.trans v5).trans x1).trans v6).trans x2).trans x3).trans v7).trans v8).trans w4).trans w9)
   ·exact b5.same (((((((x1.trans v6).trans x2).trans x3).trans v7).trans v8).trans w4).trans w9)
   ·exact b6.same (((((x2.trans x3).trans v7).trans v8).trans w4).trans w9)
   ·exact b7.same ((v8.trans w4).trans w9)
   ·exact b8.same (w4.trans w9)
  have m9:=Be (c.fdiv 5) (show (0:Int) < 9 by decide)
  obtain ⟨v,hv,bv⟩:=Q2 all (m:=(c.fdiv 5).fmod 9) (by omega) (by show _ < (9:Int);omega)
  have sA:=sH.trans ((((((((((((((v0.trans v1).trans v2).trans v3).trans v4).trans w5).trans v5).trans x1).trans v6).trans x2).trans x3).trans v7).trans v8).trans w4).trans w9)
  obtain ⟨t,x0,x1,x2,rfl,ht,w0,w1,o2,no⟩:=bv
  clear b0 b1 b2 b3 b4 b5 b6 b7 b8 all o6 o7 k1 k2 k3 g4 g5 f0 f1 f2 f3 f4 f5 f6 f7 f8
  and_intros
  refine ⟨L9,_,_,_,rfl,rfl,SqL.of g9,hv,?_⟩
  refine ⟨t,_,rfl,SqT.of ht,rfl,?_⟩
  refine ⟨_,_,rfl,_,_,rfl,_,_,rfl,rfl,?_⟩
  and_intros
  exact ⟨x0,x1,x2,rfl,w0,w1,o2,no,fun H' z=>q _ (sA.trans z)⟩
theorem PD (T:Tx K mg base ad):AT P w K mg base CX0 7 ad.f_law ad.d_law ["_law_script"] (KH K ad.lP):=by
 refine T.F_law.ok Ch (fun vs H Q E h=>?_) (fun cdv A outer s H vs Q E hr h=>?_)
 ·obtain ⟨p,ns,rfl,_⟩:=h
  rfl
 obtain ⟨p,ns,rfl,hS,h63,hP,q⟩:=h
 refine ⟨_,(@Af _ _ _ _ _ (@An _ _ (1) _ _ _ _ Ch.nd rfl (Or.inl rfl) (@Aq _ _ _ _ _ _ _ _ _ _ _ _ _ _ _ _ (D9 T) (hr.mono (by decide)) rfl T.m_law_cell T.F_law_cell.kp T.b_law_cell .nil Ay (@Aa _ _ _ _ _ (pv 0) (@Aa _ _ _ _ _ Ag Ac (by rfl)) (by rfl)) (by decide) (by rfl) (by rfl)) (by rfl) (by first | exact .inl rfl | exact .inr rfl | assumption)) (@Af _ _ _ _ _ (@An _ _ (2) _ _ _ _ Ch.nd rfl (Or.inr rfl) (@Aj _ _ _ _ _ _ _ _ AU Ag (@Aj _ _ _ _ _ _ _ _ AM (pv 1) Ag)) (by rfl) (by first | exact .inl rfl | exact .inr rfl | assumption)) (@Af _ _ _ _ _ (@An _ _ (3) _ _ _ _ Ch.nd rfl (Or.inl rfl) (@Aj _ _ _ _ _ _ _ _ AU Ag (@Aj _ _ _ _ _ _ _ _ AM (@Aj _ _ _ _ _ _ _ _ AZ (pv 1) Ag) Ag)) (by rfl) (by first | exact .inl rfl | exact .inr rfl | assumption)) (@Af _ _ _ _ _ (Ek (@Aq _ _ _ _ _ _ _ _ _ _ _ _ _ _ _ _ (HM T) (hr.mono (by decide)) rfl T.m_law_ways T.F_law_ways.kp T.b_law_ways .nil Ay (@Aa _ _ _ _ _ (pv 2) (@Aa _ _ _ _ _ (pv 3) (@Aa _ _ _ _ _ (@Aq _ _ _ _ _ _ _ _ _ _ _ _ _ _ _ _ (Dp T) (hr.mono (by decide)) rfl T.m_law_order T.F_law_order.kp T.b_law_order .nil Ay (@Aa _ _ _ _ _ (@Aq _ _ _ _ _ _ _ _ _ _ _ _ _ _ _ _ (D9 T) (hr.mono (by decide)) rfl T.m_law_cell T.F_law_cell.kp T.b_law_cell .nil Ay (@Aa _ _ _ _ _ (pv 0) (@Aa _ _ _ _ _ Ag Ac (by rfl)) (by rfl)) (by decide) (by rfl) (by rfl)) (@Aa _ _ _ _ _ (pv 2) Ac (by rfl)) (by rfl)) (by decide) (by rfl) (by rfl)) (@Aa _ _ _ _ _ (@Aj _ _ _ _ _ _ _ _ AZ (pv 1) Ag) Ac (by rfl)) (by rfl)) (by rfl)) (by rfl)) (by decide) (by rfl) (by rfl)) (NW rfl (Bj (AC (i:=4) Ch.nd rfl (Or.inl rfl)) (Bj (AC (i:=5) Ch.nd rfl (Or.inl rfl)) (Bj (AC (i:=6) Ch.nd rfl (Or.inl rfl)) DK))))) (@Af _ _ _ _ _ (@An _ _ (7) _ _ _ _ Ch.nd rfl (Or.inr rfl) (@Aq _ _ _ _ _ _ _ _ _ _ _ _ _ _ _ _ (Dp T) (hr.mono (by decide)) rfl T.m_law_order T.F_law_order.kp T.b_law_order .nil Ay (@Aa _ _ _ _ _ (@Aj _ _ _ _ _ _ _ _ AZ (pv 1) Ag) (@Aa _ _ _ _ _ (pv 2) Ac (by rfl)) (by rfl)) (by decide) (by rfl) (by rfl)) (by rfl) (by first | exact .inl rfl | exact .inr rfl | assumption)) (@Af _ _ _ _ _ (@Hs _ _ _ _ _ _ _ _ (@CS _ _ _ _ (@CT _ _ _ (@Aq _ _ _ _ _ _ _ _ _ _ _ _ _ _ _ _ (Eu T) (hr.mono (by decide)) rfl T.m_law_like_a_way T.F_law_like_a_way.kp T.b_law_like_a_way .nil Ay (@Aa _ _ _ _ _ (pv 2) (@Aa _ _ _ _ _ (pv 3) (@Aa _ _ _ _ _ (pv 6) (@Aa _ _ _ _ _ (@Aj _ _ _ _ _ _ _ _ AZ (pv 1) Ag) Ac (by rfl)) (by rfl)) (by rfl)) (by rfl)) (by decide) (by rfl) (by rfl)) (by intro _;rfl))) (@Ah _ _ _ (@As _ _ _ _ Dv)) Bb) (@Af _ _ _ _ _ (@An _ _ (8) _ _ _ _ Ch.nd rfl (Or.inl rfl) (@Aq _ _ _ _ _ _ _ _ _ _ _ _ _ _ _ _ (GW T) (hr.mono (by decide)) rfl T.m_law_votes T.F_law_votes.kp T.b_law_votes .nil Ay (@Aa _ _ _ _ _ (pv 0) (@Aa _ _ _ _ _ Ag (@Aa _ _ _ _ _ Ag (@Aa _ _ _ _ _ (pv 2) Ac (by rfl)) (by rfl)) (by rfl)) (by rfl)) (by decide) (by rfl) (by rfl)) (by rfl) (by first | exact .inl rfl | exact .inr rfl | assumption)) (@Af _ _ _ _ _ (@An _ _ (9) _ _ _ _ Ch.nd rfl (Or.inl rfl) (@Aq _ _ _ _ _ _ _ _ _ _ _ _ _ _ _ _ (Er T) (hr.mono (by decide)) rfl T.m_law_sheet T.F_law_sheet.kp T.b_law_sheet .nil Ay (@Aa _ _ _ _ _ (pv 8) Ac (by rfl)) (by decide) (by rfl) (by rfl)) (by rfl) (by first | exact .inl rfl | exact .inr rfl | assumption)) (@Af _ _ _ _ _ (@An _ _ (10) _ _ _ _ Ch.nd rfl (Or.inl rfl) (@Aq _ _ _ _ _ _ _ _ _ _ _ _ _ _ _ _ (Er T) (hr.mono (by decide)) rfl T.m_law_sheet T.F_law_sheet.kp T.b_law_sheet .nil Ay (@Aa _ _ _ _ _ (N7 (fsc:=Ae Di) (N:=["_law_script","_law_first","_law_hands","_law_seats","_law_way","_law_wider","_law_lots","_law_order_here","_law_votes_here","_law_sheet_here","_law_other","_law_renamed_here","_law_picks","_law_more"]) (Nc:=["_law_script","_law_first","_law_hands","_law_seats","_law_way","_law_wider","_law_lots","_law_order_here","_law_votes_here","_law_sheet_here","_law_other","_law_renamed_here","_law_picks","_law_more","_law_ranks_here","_law_number"]) rfl rfl ⟨rfl,by decide +kernel,by decide +kernel,by decide +kernel,by decide +kernel,rfl,by decide +kernel,rfl,by decide +kernel⟩ rfl (AO (pv 8)) (fun _ _ _ _=>Bm) (fun _ _ _ _=>(@BL _ _ _ _ _ (@Aa _ _ _ _ _ (@Aq _ _ _ _ _ _ _ _ _ _ _ _ _ _ _ _ (Dx T) (hr.mono (by decide)) rfl T.m_law_renamed T.F_law_renamed.kp T.b_law_renamed .nil Ay (@Aa _ _ _ _ _ (pv 14) (@Aa _ _ _ _ _ (pv 7) Ac (by rfl)) (by rfl)) (by decide) (by rfl) (by rfl)) (@Aa _ _ _ _ _ (pv 15) Ac (by rfl)) (by rfl))))) Ac (by rfl)) (by decide) (by rfl) (by rfl)) (by rfl) (by first | exact .inl rfl | exact .inr rfl | assumption)) (@Af _ _ _ _ _ (@An _ _ (11) _ _ _ _ Ch.nd rfl (Or.inl rfl) (Ci T.mk_Pairs (AG T) (hr.mono (by decide)) rfl T.m_Pairs T.b_Way_init .nil D7 (@Aa _ _ _ _ _ (pv 2) (@Aa _ _ _ _ _ (pv 3) (@Aa _ _ _ _ _ (Bl (fsc:=Ae Di) (N:=["_law_script","_law_first","_law_hands","_law_seats","_law_way","_law_wider","_law_lots","_law_order_here","_law_votes_here","_law_sheet_here","_law_other","_law_renamed_here","_law_picks","_law_more"]) (Nc:=["_law_script","_law_first","_law_hands","_law_seats","_law_way","_law_wider","_law_lots","_law_order_here","_law_votes_here","_law_sheet_here","_law_other","_law_renamed_here","_law_picks","_law_more","_law_hand"]) rfl rfl ⟨rfl,by decide +kernel,by decide +kernel,rfl,by decide +kernel,rfl,by decide +kernel,rfl,by decide +kernel⟩ rfl (AO (pv 6)) (fun _ _ _ _=>Bm) (fun _ _ _ _=>(@A4 _ _ _ _ _ _ _ (Ba K) (pv 7) (pv 14) (fun _ _=>rfl)))) Ac (by rfl)) (by rfl)) (by rfl))) (by rfl) (by first | exact .inl rfl | exact .inr rfl | assumption)) (@Af _ _ _ _ _ (@An _ _ (12) _ _ _ _ Ch.nd rfl (Or.inl rfl) (@A4 _ _ _ _ _ _ _ Dn (Cg (pv 4) T.cl_Pairs T.me_Pairs_counted (BG T) (hr.mono (by decide)) T.b_Pairs_counted .nil Ay (@Aa _ _ _ _ _ (pv 9) Ac (by rfl))) Ag (fun _ _=>rfl)) (by rfl) (by first | exact .inl rfl | exact .inr rfl | assumption)) (@Af _ _ _ _ _ (@Hs _ _ _ _ _ _ _ _ (PW.pt (@Ea _ _ _ _ _ _ _ (@Ax _ _ _ _ _ _ _ _ Eb (@Am _ _ _ _ _ _ _ _ _ A8 (by rfl) T.z_len PySem.boot_len (@Aa _ _ _ _ _ (pv 12) Ac (by rfl)) (by decide) (by decide) (by rfl) (by rfl)) (@Am _ _ _ _ _ _ _ _ _ (DP rfl) (by rfl) T.z_min PyProof.Rows.boot_min (@Aa _ _ _ _ _ (pv 3) (@Aa _ _ _ _ _ (pv 2) Ac (by rfl)) (by rfl)) (by decide) (by decide) (by rfl) (by rfl)) (Az _)) (@E8 _ _ _ _ (@CS _ _ _ _ (@CT _ _ _ (@Am _ _ _ _ _ _ _ _ _ (Jm rfl) (by rfl) T.z_all PyProof.Rows.boot_all (@Aa _ _ _ _ _ (Bl (fsc:=Ae Di) (N:=["_law_script","_law_first","_law_hands","_law_seats","_law_way","_law_wider","_law_lots","_law_order_here","_law_votes_here","_law_sheet_here","_law_other","_law_renamed_here","_law_picks","_law_more"]) (Nc:=["_law_script","_law_first","_law_hands","_law_seats","_law_way","_law_wider","_law_lots","_law_order_here","_law_votes_here","_law_sheet_here","_law_other","_law_renamed_here","_law_picks","_law_more","_law_hand"]) rfl rfl ⟨rfl,by decide +kernel,by decide +kernel,rfl,by decide +kernel,rfl,by decide +kernel,rfl,by decide +kernel⟩ rfl (AO (pv 12)) (fun _ _ _ _=>Bm) (fun _ _ _ _=>(@Dm _ _ _ _ _ _ _ (@Aq _ _ _ _ _ _ _ _ _ _ _ _ _ _ _ _ (HF T) (hr.mono (by decide)) rfl T.m_law_whole T.F_law_whole.kp T.b_law_whole .nil Ay (@Aa _ _ _ _ _ (pv 14) Ac (by rfl)) (by decide) (by rfl) (by rfl)) (@DG _ _ _ _ _ (FF Jj FV Ag (pv 14) (pv 2)))))) Ac (by rfl)) (by decide) (by decide) (by rfl) (by rfl)) (by intro _;rfl)))))) (@Ah _ _ _ (@As _ _ _ _ Dv)) Bb) (@Af _ _ _ _ _ (@CK _ _ _ _ _ _ _ _ (@Ax _ _ _ _ _ _ _ _ (Du (K:=K) hr.units) (@A4 _ _ _ _ _ _ _ Dn (Cg (pv 11) T.cl_Pairs T.me_Pairs_counted (BG T) (hr.mono (by decide)) T.b_Pairs_counted .nil Ay (@Aa _ _ _ _ _ (pv 10) Ac (by rfl))) Ag (fun _ _=>rfl)) (Bl (fsc:=Ae Di) (N:=["_law_script","_law_first","_law_hands","_law_seats","_law_way","_law_wider","_law_lots","_law_order_here","_law_votes_here","_law_sheet_here","_law_other","_law_renamed_here","_law_picks","_law_more"]) (Nc:=["_law_script","_law_first","_law_hands","_law_seats","_law_way","_law_wider","_law_lots","_law_order_here","_law_votes_here","_law_sheet_here","_law_other","_law_renamed_here","_law_picks","_law_more","_law_hand"]) rfl rfl ⟨rfl,by decide +kernel,by decide +kernel,rfl,by decide +kernel,rfl,by decide +kernel,rfl,by decide +kernel⟩ rfl (AO (pv 12)) (fun _ _ _ _=>Bm) (fun _ _ _ _=>(@A4 _ _ _ _ _ _ _ (Ba K) (pv 7) (pv 14) (fun _ _=>rfl)))) (Az _)) (@Ah _ _ _ (@As _ _ _ _ Dv)) Bb) (@Af _ _ _ _ _ (@Hs _ _ _ _ _ _ _ _ (@Ax _ _ _ _ _ _ _ _ (Du (K:=K) hr.units) (Cg (pv 11) T.cl_Pairs T.me_Pairs_outcome (Ca T) (hr.mono (by decide)) T.b_Way_outcome .nil Ay (@Aa _ _ _ _ _ (pv 10) Ac (by rfl))) (@Aq _ _ _ _ _ _ _ _ _ _ _ _ _ _ _ _ (Dx T) (hr.mono (by decide)) rfl T.m_law_renamed T.F_law_renamed.kp T.b_law_renamed .nil Ay (@Aa _ _ _ _ _ (Cg (pv 4) T.cl_Pairs T.me_Pairs_outcome (Ca T) (hr.mono (by decide)) T.b_Way_outcome .nil Ay (@Aa _ _ _ _ _ (pv 9) Ac (by rfl))) (@Aa _ _ _ _ _ (pv 7) Ac (by rfl)) (by rfl)) (by decide) (by rfl) (by rfl)) (Az _)) (@Ah _ _ _ (@As _ _ _ _ Dv)) Bb) (@Af _ _ _ _ _ (@An _ _ (13) _ _ _ _ Ch.nd rfl (Or.inl rfl) (@A4 _ _ _ _ _ _ _ Dn (Cg (pv 5) T.cl_Pairs T.me_Pairs_counted (BG T) (hr.mono (by decide)) T.b_Pairs_counted .nil Ay (@Aa _ _ _ _ _ (pv 9) Ac (by rfl))) Ag (fun _ _=>rfl)) (by rfl) (by first | exact .inl rfl | exact .inr rfl | assumption)) (@Af _ _ _ _ _ (@Hs _ _ _ _ _ _ _ _ (PW.pt (@Ea _ _ _ _ _ _ _ (@Ax _ _ _ _ _ _ _ _ Eb (@Am _ _ _ _ _ _ _ _ _ A8 (by rfl) T.z_len PySem.boot_len (@Aa _ _ _ _ _ (pv 13) Ac (by rfl)) (by decide) (by decide) (by rfl) (by rfl)) (@Am _ _ _ _ _ _ _ _ _ (DP rfl) (by rfl) T.z_min PyProof.Rows.boot_min (@Aa _ _ _ _ _ (@Aj _ _ _ _ _ _ _ _ AU (pv 3) Ag) (@Aa _ _ _ _ _ (pv 2) Ac (by rfl)) (by rfl)) (by decide) (by decide) (by rfl) (by rfl)) (Az _)) (@E8 _ _ _ _ (@Ax _ _ _ _ _ _ _ _ (Du (K:=K) hr.units) (IW KA (pv 13) Kn (KJ (@Am _ _ _ _ _ _ _ _ _ A8 (by rfl) T.z_len PySem.boot_len (@Aa _ _ _ _ _ (pv 12) Ac (by rfl)) (by decide) (by decide) (by rfl) (by rfl)))) (pv 12) (Az _))))) (@Ah _ _ _ (@As _ _ _ _ Dv)) Bb) (@Af _ _ _ _ _ (@CK _ _ _ _ _ _ _ _ (@Ax _ _ _ _ _ _ _ _ (Du (K:=K) hr.units) (Cg (Ci T.mk_Pairs (AG T) (hr.mono (by decide)) rfl T.m_Pairs T.b1_Way_init (.cons (show Av (.non:V) _ from rfl) .nil) D7 (@Aa _ _ _ _ _ (pv 2) (@Aa _ _ _ _ _ (@Aj _ _ _ _ _ _ _ _ AU (pv 2) (pv 3)) Ac (by rfl)) (by rfl))) T.cl_Pairs T.me_Pairs_outcome (Ca T) (hr.mono (by decide)) T.b_Way_outcome .nil Ay (@Aa _ _ _ _ _ (pv 9) Ac (by rfl))) (@Aj _ _ _ _ _ _ _ _ JV (@Bk _ _ _ _ (@Aa _ _ _ _ _ Ag Ac (by rfl))) (pv 2)) (Az _)) (@Ah _ _ _ (@As _ _ _ _ Dv)) Bb) (@Ah _ _ _ (@As _ _ _ _ (@DJ _ _ _ _ _ _ _ _ (Mq (K:=K) hr.units) (Cg (Ci T.mk_Pairs (AG T) (hr.mono (by decide)) rfl T.m_Pairs T.b1_Way_init (.cons (show Av (.non:V) _ from rfl) .nil) D7 (@Aa _ _ _ _ _ (pv 2) (@Aa _ _ _ _ _ (pv 2) Ac (by rfl)) (by rfl))) T.cl_Pairs T.me_Pairs_outcome (Ca T) (hr.mono (by decide)) T.b_Way_outcome .nil Ay (@Aa _ _ _ _ _ (pv 10) Ac (by rfl))) (@Aj _ _ _ _ _ _ _ _ JV (@Bk _ _ _ _ (@Aa _ _ _ _ _ Ag Ac (by rfl))) (pv 2)) (Az _))))))))))))))))))))),?_⟩
 refine ⟨_,rfl,p,ns,0,rfl,hS,h63,by decide,by decide,fun c c0 c1=>?_⟩
 have szc:=O2 c0 c1
 have m5:=Be c (show (0:Int) < 5 by decide)
 have m6:=Be (c.fdiv 5) (show (0:Int) < 5 by decide)
 obtain ⟨h,eh⟩:∃h:Nat,(h:Int)=1+c.fmod 5:=⟨(1+c.fmod 5).toNat,by omega⟩
 obtain ⟨sn,es0⟩:∃s:Nat,(s:Int)=1+(c.fdiv 5).fmod 5:=⟨(1+(c.fdiv 5).fmod 5).toNat,by omega⟩
 have h1:1<=h:=by omega
 have h5:h<=5:=by omega
 have h12:h<=12:=by omega
 and_intros
 dsimp only
 rw [<- eh]
 and_intros
 rw [<- es0]
 refine ⟨p,ns,1,rfl,hS,h63,by decide,by decide,fun c2 c20 c21=>?_⟩
 refine ⟨_,rfl,c2,(h:Int),rfl,c20,c21,by omega,by omega,fun lo0 os0 H0 s0 e0 po0=>?_⟩
 rw [Int.toNat_natCast] at po0
 have d25:=KF c0 (show (1:Int)<=25 by decide) c1
 have d75:=KF c0 (show (1:Int)<=75 by decide) c1
 have d375:=KF c0 (show (1:Int)<=375 by decide) c1
 and_intros
 refine ⟨lo0,h,sn,os0,_,rfl,e0,po0,h1,h12,by omega,by omega,O2 d25.1 d25.2,fun wl a b lo os H1 s1 ew md wd elo=>?_⟩
 refine ⟨wl,_,rfl,SqL.of ew,rfl,?_⟩
 refine ⟨_,_,rfl,_,_,rfl,_,_,rfl,rfl,?_⟩
 and_intros
 refine ⟨_,(h:Int),rfl,d75.1,d75.2,by omega,by omega,fun ol on H2 s2 eo pon=>?_⟩
 rw [Int.toNat_natCast] at pon
 have pos:=md.pm
 have rn:=GV pon
 have osl:os.length=h:=by rw [pos.length_eq,Bc]
 and_intros
 refine ⟨fun σ' J=>σ'=[some (.ref p),some (.int c),some (.int (h:Int)),some (.int (sn:Int)),some (.ref a),some (.ref b),some (.ref lo),some (.ref ol),none,none,none,none,none,none]/\Ao H2 J,?_,?_⟩
 ·and_intros
  refine ⟨lo,h,sn,os,_,rfl,s2 _ _ elo,pos,h1,h12,by omega,by omega,O2 d375.1 d375.2,fun H3 s3=>?_⟩
  and_intros
  exact s3
 rintro σ' H3 ⟨rfl,s3⟩
 and_intros
 have s03:=((s0.trans s1).trans s2).trans s3
 refine ⟨p,ns,2,16,(h:Int),rfl,s03.seq hS,h63,rfl,rfl,by omega,by omega,fun l vo H4 s4 e4 l16 gv nv=>?_⟩
 rw [Int.toNat_natCast] at gv
 and_intros
 refine ⟨l,vo,h,rfl,e4,gv,by omega,nv,h12,fun sb ls H5 s5 es gl l60 nl ts=>?_⟩
 replace e4:=s5 _ _ e4
 have gv5:=gv.same s5
 have s35:=(s3.trans s4).trans s5
 have s15:=s2.trans s35
 replace md:=md.same s15
 replace wd:=wd.same s15
 replace elo:=s15 _ _ elo
 replace eo:=s35 _ _ eo
 have lt:LT ad.lP H5:=.inl ((s03.trans (s4.trans s5)) _ _ hP)
 clear s0 s1 s2 s3 s35 s15 s03 ew e0
 and_intros
 refine ⟨⟨_,SqL.of e4⟩,?_⟩
 refine JJ (zs:=vvo vo) rfl rfl (by rw [Es];exact A5 (by omega)) (fun D i ys J=>∃vo':Vo,ys=vvo vo'/\vo'.length=i/\J D=some (.lst ys)/\Ao H5 J/\EJ h J vo'/\Mo vo'/\(∀q∈vo',q.1≠D/\q.2.1≠D)/\∀(k:Nat) (q q':Addr × Addr × List Int × Int),vo[k]?=some q->vo'[k]?=some q'->q'.2.2.2=q.2.2.2/\IA h (piN on) q.2.2.1 q'.2.2.1) (fun D hD=>⟨[],rfl,rfl,Ab,Ad hD _,(fun _ m=>nomatch m),(fun _ m=>nomatch m),(fun _ m=>nomatch m),fun k q q' _ e=>by cases e⟩) (fun D i ys J ⟨vo',f1,f2,f3,_⟩=>⟨f3,by rw [f1,Es,f2];exact Nat.le_refl _⟩) (fun D i ys J hD ⟨_,_,_,_,f4,_⟩=>SqL.of (f4 _ _ e4)) ?_ ?_
 ·rintro D i w ys J K1 K2 hD hw ⟨vo',rfl,f2,f3,f4,f5,f6,f7,f8⟩ kk1 kk2
  obtain ⟨f,hf,rfl,fm,_⟩:=Kv hw
  obtain ⟨g1,g2,g3⟩:=gv5 f fm
  obtain ⟨n0,n1,n2⟩:=nv f fm
  refine ⟨f.1,_,_,rfl,SqT.of (f4 _ _ g1),yes (ifT rfl ?_)⟩
  refine ⟨_,rfl,_,rfl,f.2.1,ol,f.2.2.1,on,h,rfl,f4 _ _ g2,f4 _ _ eo,g3,pon,h12,fun lr rs' H6 hlr s5 e5 t5 sub5=>?_⟩
  refine ⟨_,rfl,(by show 2<=sizeLine;decide),fun t ht=>?_⟩
  have s6:=Ad ht (.tup [V.ref lr,V.int f.2.2.2])
  have e6:(upd H6 t (.tup [V.ref lr,V.int f.2.2.2])) t=some (.tup [V.ref lr,V.int f.2.2.2]):=Ab
  have tD:t≠D:=fun z=>by rw [z,s5 _ _ f3] at ht;cases ht
  have lD:lr≠D:=fun z=>by rw [z,f3] at hlr;cases hlr
  have s56:=s5.trans s6
  have e56:=s6 _ _ e5
  generalize upd H6 t (.tup [V.ref lr,V.int f.2.2.2])=H7 at s56 e6 e56 ⊢
  refine kk1 _ _ (s56 _ _ f3) ⟨vo'++[(t,lr,rs',f.2.2.2)],by unfold vvo;rw [List.map_append];rfl,by rw [List.length_append,f2];rfl,Ab,A9 (f4.trans s56) hD,fun q m=>?_,fun q m=>?_,fun q m=>?_,fun k q q' e1 e2=>?_⟩
  ·rcases List.mem_append.mp m with m | m
   ·obtain ⟨a1,a2,a3⟩:=f5 q m
    exact ⟨by rw [Ai (f7 q m).1];exact s56 _ _ a1,by rw [Ai (f7 q m).2];exact s56 _ _ a2,a3⟩
   ·rw [List.mem_singleton.mp m]
    exact ⟨by rw [Ai tD];exact e6,by rw [Ai lD];exact e56,t5.1⟩
  ·rcases List.mem_append.mp m with m | m
   ·exact f6 q m
   ·rw [List.mem_singleton.mp m];exact ⟨n0,n1,fun z m=>n2 z (sub5 z m)⟩
  ·rcases List.mem_append.mp m with m | m
   ·exact f7 q m
   ·rw [List.mem_singleton.mp m];exact ⟨tD,lD⟩
  ·by_cases cc:k < vo'.length
   ·rw [List.getElem?_append_left cc] at e2
    exact f8 k q q' e1 e2
   ·rw [List.getElem?_append_right (by omega)] at e2
    have ek:k=i:=by
     have:=(List.getElem?_eq_some_iff.mp e2).1
     rw [List.length_singleton] at this
     omega
    rw [ek,f2,Nat.sub_self] at e2
    cases Option.some.inj e2
    rw [ek,hf] at e1
    cases Option.some.inj e1
    exact ⟨rfl,t5⟩
 rintro D ys H6 hD ⟨vo',rfl,f2,f3,f4,f5,f6,f7,f8⟩
 rw [Es] at f2
 have du:=fun {x y:Nat} (hx:x < h) (hy:y < h)=>P1 (h:=h) f2 f8 hx hy
 clear f7 f8
 refine ⟨D,vo',h,rfl,f3,f5,by omega,f6,h12,fun sb' ls' H7 s7 es' gl' l60' nl' ts'=>?_⟩
 have s57:=f4.trans s7
 replace md:=md.same s57
 replace wd:=wd.same s57
 replace elo:=s57 _ _ elo
 replace eo:=s57 _ _ eo
 replace lt:=lt.same s57
 replace es:=s57 _ _ es
 replace gl:=gl.same s57
 have eov:∀{x y:Nat},x < h->y < h->ovF ls x y=duF vo x y:=fun {x y} hx hy=>by unfold ovF;rw [ts];exact FW gv nv hx hy
 have eov':∀{x y:Nat},x < h->y < h->ovF ls' x y=duF vo' x y:=fun {x y} hx hy=>by unfold ovF;rw [ts'];exact FW f5 f6 hx hy
 have ren:∀x y,x < h->y < h->CW ls' (piN on x) (piN on y)=CW ls x y:=fun x y hx hy=>by unfold CW;rw [eov' (rn.lt x hx) (rn.lt y hy),eov' (rn.lt y hy) (rn.lt x hx),eov hx hy,eov hy hx,du hx hy,du hy hx]
 clear eov eov' du f2 f3 f4 f5 f6 ts ts' gv nv gv5 e4 hD s57 s4 s5 s7
 and_intros
 refine ⟨⟨_,SqL.of elo⟩,?_⟩
 refine AV (xs:=os.map V.int) (by rw [List.length_map];exact A5 (by omega)) (fun D i ys J=>ys=((os.take i).map (AN (piN on))).map V.int/\J=upd H7 D (.lst ys)) (fun D hD=>⟨rfl,rfl⟩) (fun D i ys J ⟨f1,f2⟩=>⟨by rw [f2];exact Ab,by rw [f1,List.length_map,List.length_map];exact List.length_take_le _ _⟩) (fun D i ys J hD ⟨_,f2⟩=>by rw [f2];exact SqL.of (Ad hD _ _ _ elo)) ?_ ?_
 ·rintro D i x ys J K1 K2 hD hx ⟨f1,rfl⟩ kk1 kk2
  obtain ⟨z,hz,rfl⟩:=int_at hx
  refine yes (ifT rfl ?_)
  refine ⟨_,rfl,_,rfl,ol,_,_,_,rfl,rfl,SqL.of (Ad hD _ _ _ eo),Nb pon ((fun z m=>pos.mem_iff.mp m) z (List.mem_of_getElem? hz)),?_⟩
  refine kk1 _ _ Ab ⟨?_,by rw [Bf]⟩
  rw [f1,List.take_add_one,hz,List.map_append,List.map_append]
  rfl
 rintro D2 ys H8 hD2 ⟨f1,rfl⟩
 rw [List.length_map,List.take_of_length_le (Nat.le_refl _)] at f1
 subst f1
 have s8:=Ad hD2 ((.lst ((os.map (AN (piN on))).map V.int)))
 have e8:(upd H7 D2 ((.lst ((os.map (AN (piN on))).map V.int)))) D2=some ((.lst ((os.map (AN (piN on))).map V.int))):=Ab
 generalize upd H7 D2 ((.lst ((os.map (AN (piN on))).map V.int)))=H8 at s8 e8 ⊢
 have pos':=M8 pos pon
 have hh:1<=(h:Int)/\(h:Int)<=12:=by omega
 and_intros
 intro A3 DX3 hA3 hDX3 neA3
 have sm3:=AX (C:=ad.c_Pairs) hA3 hDX3 neA3
 have good3:B5 (upd (upd H8 DX3 (.own A3)) A3 (.ins ad.c_Pairs DX3 [])) (.int (h:Int)) (.int (sn:Int)) (.ref D2) (h:Int) (sn:Int) (os.map (AN (piN on))):=⟨rfl,rfl,hh.1,hh.2,by omega,by omega,.inr ⟨D2,rfl,sm3 _ _ e8,pos'⟩⟩
 refine ⟨A3,ad.c_Pairs,DX3,_,_,_,rfl,Ab,T.cl_Pairs,T.na_Pairs_hands,T.na_Pairs_seats,T.na_Pairs_lots,Wh.int _,Wh.int _,.ints (sm3 _ _ e8) (by rw [List.length_map];omega),fun h' s'' ns' g lA3 K3 la3 hl3 g3 a3 l3=>⟨rfl,?_⟩,fun no=>absurd good3 (no _ _ _)⟩
 obtain ⟨eh,es,en⟩:=good3.uniq g
 replace es:=es.symm
 replace en:=en.symm
 subst eh es en
 clear g
 have S3:=By hA3 hDX3 neA3 g3
 replace hl3:=BC sm3 hl3
 clear good3 sm3 g3
 have sK:=s8.trans S3
 have hd:Ir ad.c_Pairs K3 a b A3 sb sb' ol h sn os (os.map (AN (piN on))) on ls ls':=⟨md.same sK,wd.same sK,⟨⟨DX3,lA3,a3,l3⟩,pos',h1,h12,by omega,by omega⟩,sK _ _ es,gl.same sK,sK _ _ es',gl'.same sK,sK _ _ eo⟩
 replace lt:=lt.same sK
 clear md wd es gl es' gl' eo elo e8 a3 l3 s8 S3 sK hl3 hDX3 hA3 neA3
 obtain ⟨dxpp,lapp,mm1,mm2⟩:=id hd.w.is
 and_intros
 refine ⟨a,dxpp,_,rfl,mm1,rfl,?_⟩
 and_intros
 refine ⟨a,sb,h,sn,os,ls,rfl,hd.w,hd.e,hd.g,l60,lt,fun pp F H9 sm9 _ lq9 hpp pap _=>?_⟩
 clear mm1 mm2
 replace hd:=hd.sm sm9
 obtain ⟨_,_,pk,_,_,q1,_,_,_,_,_,q7⟩:=pap.is
 have st:=pap.strong
 obtain ⟨pk1,pk2,pk3⟩:=Dh st sn pos
 refine ⟨pp,_,_,_,rfl,rfl,SqT.of q1,rfl,?_⟩
 clear pap q1 sm9 hpp lt
 generalize ep:Ap F sn os=ps at pk1 pk2 pk3 q7
 have pl:(ps.map V.int).length=min sn h:=by rw [List.length_map];exact pk3
 have psl:ps.length<=12:=by omega
 have sub:∀z∈os,∃i:Nat,i < h/\z=(i:Int):=fun z m=>Dz (pos.mem_iff.mp m)
 and_intros
 refine ⟨fun σ' J=>σ'=[some (.ref p),some (.int c),some (.int (h:Int)),some (.int (sn:Int)),some (.ref a),some (.ref b),some (.ref lo),some (.ref ol),some (.ref l),some (.ref sb),some (.ref sb'),some (.ref A3),some (.ref pk),none]/\Ao H9 J,?_,?_⟩
 ·and_intros
  refine ifF (JE (by rw [pl];split <;> omega)) ?_
  and_intros
  refine ⟨⟨_,SqL.of q7⟩,?_⟩
  refine AV (xs:=ps.map V.int) (by rw [List.length_map];exact A5 (by omega)) (fun D i ys J=>ys=(List.replicate i true).map V.bl/\J=upd H9 D (.lst ys)) (fun D hD=>⟨rfl,rfl⟩) (fun D i ys J ⟨f1,f2⟩=>⟨by rw [f2];exact Ab,by rw [f1,List.length_map,List.length_replicate];exact Nat.le_refl _⟩) (fun D i ys J hD ⟨_,f2⟩=>by rw [f2];exact SqL.of (Ad hD _ _ _ q7)) ?_ ?_
  ·rintro D i x ys J K1 K2 hD hx ⟨f1,rfl⟩ kk1 kk2
   obtain ⟨z,hz,rfl⟩:=int_at hx
   obtain ⟨j,hj,rfl⟩:=Dz (pk1 z (List.mem_of_getElem? hz))
   refine yes (ifT rfl ?_)
   refine ⟨_,rfl,(j:Int),rfl,?_⟩
   refine ⟨_,rfl,?_⟩
   refine ifT rfl ?_
   and_intros
   dsimp only
   rw [show decide ((j:Int) < (h:Int))=true from decide_eq_true (by omega)]
   refine kk1 _ _ Ab ⟨?_,by rw [Bf]⟩
   rw [f1,List.replicate_succ',List.map_append]
   rfl
  rintro D3 ys H10 hD3 ⟨rfl,rfl⟩
  have s10:=Ad hD3 (.lst ((List.replicate (ps.map V.int).length true).map V.bl))
  have e10:(upd H9 D3 (.lst ((List.replicate (ps.map V.int).length true).map V.bl))) D3=some (.lst ((List.replicate (ps.map V.int).length true).map V.bl)):=Ab
  generalize upd H9 D3 (.lst ((List.replicate (ps.map V.int).length true).map V.bl))=H10 at s10 e10 ⊢
  refine ⟨D3,_,rfl,SqL.of e10,?_⟩
  rw [show ∀n,(List.replicate n true).all id=true from fun n=>List.all_eq_true.mpr fun b m=>(List.mem_replicate.mp m).2]
  and_intros
  exact s10
 rintro σ' H10 ⟨rfl,s10⟩
 replace hd:=hd.same s10
 replace q7:=s10 _ _ q7
 replace lq9:=lq9.same s10
 clear s10
 obtain ⟨dxpp2,lapp2,mm1,mm2⟩:=id hd.r.is
 and_intros
 refine ⟨A3,dxpp2,_,rfl,mm1,rfl,?_⟩
 and_intros
 refine ⟨A3,sb',h,sn,os.map (AN (piN on)),ls',rfl,hd.r,hd.e',hd.g',l60',lq9.1,fun pp2 F2 H11 _ sq11 lq11 hpp2 pap2 _=>?_⟩
 clear mm1 mm2
 have s11:=sq11 lq9
 replace hd:=hd.same s11
 replace q7:=s11 _ _ q7
 obtain ⟨_,_,pk',_,_,r1,_,_,_,_,_,r7⟩:=pap2.is
 have e2:=EA rn st (fun x y hx hy=>AK.ren rn st pap2.strong ren hx hy) sn os sub
 rw [ep] at e2
 rw [e2] at r7
 refine ⟨pp2,_,_,_,rfl,rfl,SqT.of r1,rfl,?_⟩
 clear e2 pap2 r1 sq11 s11 hpp2
 and_intros
 refine ⟨⟨_,SqL.of q7⟩,?_⟩
 refine AV (xs:=ps.map V.int) (by rw [List.length_map];exact A5 (by omega)) (fun D i ys J=>ys=((ps.take i).map (AN (piN on))).map V.int/\J=upd H11 D (.lst ys)) (fun D hD=>⟨rfl,rfl⟩) (fun D i ys J ⟨f1,f2⟩=>⟨by rw [f2];exact Ab,by rw [f1,List.length_map,List.length_map];exact List.length_take_le _ _⟩) (fun D i ys J hD ⟨_,f2⟩=>by rw [f2];exact SqL.of (Ad hD _ _ _ q7)) ?_ ?_
 ·rintro D i x ys J K1 K2 hD hx ⟨f1,rfl⟩ kk1 kk2
  obtain ⟨z,hz,rfl⟩:=int_at hx
  refine yes (ifT rfl ?_)
  refine ⟨_,rfl,_,rfl,ol,_,_,_,rfl,rfl,SqL.of (Ad hD _ _ _ hd.o),Nb pon (pk1 z (List.mem_of_getElem? hz)),?_⟩
  refine kk1 _ _ Ab ⟨?_,by rw [Bf]⟩
  rw [f1,List.take_add_one,hz,List.map_append,List.map_append]
  rfl
 rintro D4 ys H12 hD4 ⟨f1,rfl⟩
 rw [List.length_map,List.take_of_length_le (Nat.le_refl _)] at f1
 subst f1
 have s12:=Ad hD4 ((.lst ((ps.map (AN (piN on))).map V.int)))
 have e12:(upd H11 D4 ((.lst ((ps.map (AN (piN on))).map V.int)))) D4=some ((.lst ((ps.map (AN (piN on))).map V.int))):=Ab
 generalize upd H11 D4 ((.lst ((ps.map (AN (piN on))).map V.int)))=H12 at s12 e12 ⊢
 refine ⟨.list ((ps.map (AN (piN on))).map .int),.list ((ps.map (AN (piN on))).map .int),.lst (SqL.of (s12 _ _ r7)) (.ints _),.lst (SqL.of e12) (.ints _),(At _).2,(At _).2,?_⟩
 rw [Ja]
 replace hd:=hd.same s12
 replace q7:=s12 _ _ q7
 replace lq11:=lq11.same s12
 clear e12 s12 r7
 and_intros
 refine ⟨fun σ' J=>σ'=[some (.ref p),some (.int c),some (.int (h:Int)),some (.int (sn:Int)),some (.ref a),some (.ref b),some (.ref lo),some (.ref ol),some (.ref l),some (.ref sb),some (.ref sb'),some (.ref A3),some (.ref pk),none]/\Ir ad.c_Pairs J a b A3 sb sb' ol h sn os (os.map (AN (piN on))) on ls ls'/\J pk=some (.lst (ps.map V.int))/\C3 ad.lP h J,?_,?_⟩
 ·skip
  obtain ⟨dxr3,lar3,mm1,mm2⟩:=id hd.r.is
  and_intros
  refine ⟨A3,dxr3,_,rfl,mm1,rfl,?_⟩
  and_intros
  refine ⟨A3,sb',h,sn,os.map (AN (piN on)),ls',rfl,hd.r,hd.e',hd.g',l60',lq11.1,fun r3 F3 H13 _ sq13 lq13 er3 st3=>?_⟩
  clear mm1 mm2
  have s13:=sq13 lq11
  replace hd:=hd.same s13
  replace q7:=s13 _ _ q7
  clear sq13 s13
  obtain ⟨dxr4,lar4,mm1,mm2⟩:=id hd.w.is
  and_intros
  refine ⟨a,dxr4,_,rfl,mm1,rfl,?_⟩
  and_intros
  refine ⟨a,sb,h,sn,os,ls,rfl,hd.w,hd.e,hd.g,l60,lq13.1,fun r4 F4 H14 _ sq14 lq14 er4 st4=>?_⟩
  clear mm1 mm2
  have s14:=sq14 lq13
  replace hd:=hd.same s14
  replace q7:=s14 _ _ q7
  replace er3:=s14 _ _ er3
  and_intros
  refine ⟨r4,ol,Dc h (Ap F4 sn os),on,h,rfl,er4,hd.o,MW _ _,pon,h12,fun l5 rs5 H15 hl5 s15 e15 rv15 _=>?_⟩
  have e3:=EA rn st4 (fun x y hx hy=>AK.ren rn st4 st3 ren hx hy) sn os sub
  have t3:=LK rn (pk:=Ap F4 sn os) (fun z m=>Dz ((Dh st4 sn pos).1 z m))
  rw [<- e3] at t3
  have e5:=L8 rn t3 rv15
  rw [<- e5] at e15
  refine ⟨.list ((Dc h (Ap F3 sn (os.map (AN (piN on))))).map .int),.list ((Dc h (Ap F3 sn (os.map (AN (piN on))))).map .int),.lst (SqL.of (s15 _ _ er3)) (.ints _),.lst (SqL.of e15) (.ints _),(At _).2,(At _).2,?_⟩
  rw [Ja]
  replace hd:=hd.same s15
  replace q7:=s15 _ _ q7
  replace lq14:=lq14.same s15
  and_intros
  exact ⟨hd,q7,lq14⟩
 rintro σ' H15 ⟨rfl,hd,q7,lq14⟩
 obtain ⟨dxpp5,lapp5,mm1,mm2⟩:=id hd.v.is
 and_intros
 refine ⟨b,dxpp5,_,rfl,mm1,rfl,?_⟩
 and_intros
 refine ⟨b,sb,h,sn+1,os,ls,rfl,hd.v,hd.e,hd.g,l60,lq14.1,fun pp5 F5 H16 _ sq16 lq16 hpp5 pap5 _=>?_⟩
 clear mm1 mm2
 have s16:=sq16 lq14
 replace hd:=hd.same s16
 replace q7:=s16 _ _ q7
 obtain ⟨_,_,pk5,_,_,u1,_,_,_,_,_,u7⟩:=pap5.is
 obtain ⟨pm1,pm2,pm3⟩:=Dh pap5.strong (sn+1) pos
 have tk:(Ap F5 (sn+1) os).take ps.length=ps:=by
  have a1:Ap F sn os=Ap F5 sn os:=EO (fun x y hx hy=>st.uniq pap5.strong hx hy) sn os sub
  rw [ep,FN F5 sn (sn+1) os (by omega)] at a1
  rw [a1]
  exact J0
 have pl5:((Ap F5 (sn+1) os).map V.int).length=min (sn+1) h:=by rw [List.length_map];exact pm3
 refine ⟨pp5,_,_,_,rfl,rfl,SqT.of u1,rfl,?_⟩
 clear pap5 u1 sq16 s16 hpp5 pm1 pm2
 and_intros
 refine ⟨fun σ' J=>σ'=[some (.ref p),some (.int c),some (.int (h:Int)),some (.int (sn:Int)),some (.ref a),some (.ref b),some (.ref lo),some (.ref ol),some (.ref l),some (.ref sb),some (.ref sb'),some (.ref A3),some (.ref pk),some (.ref pk5)]/\Ao H16 J,?_,?_⟩
 ·skip
  and_intros
  refine ifF (JE (by rw [pl5];split <;> omega)) ?_
  and_intros
  refine ⟨pk5,_,rfl,SqL.of u7,fun d6 hd6=>?_⟩
  rw [List.length_map,Pe,<- List.map_take,tk]
  have s17:=Ad hd6 ((.lst (ps.map V.int)))
  have e17:(upd H16 d6 ((.lst (ps.map V.int)))) d6=some ((.lst (ps.map V.int))):=Ab
  generalize upd H16 d6 ((.lst (ps.map V.int)))=H17 at s17 e17 ⊢
  refine ⟨_,rfl,?_⟩
  refine ⟨.list (ps.map .int),.list (ps.map .int),.lst (SqL.of e17) (.ints _),.lst (SqL.of (s17 _ _ q7)) (.ints _),(At _).2,(At _).2,?_⟩
  rw [Ja]
  and_intros
  exact s17
 rintro σ' H17 ⟨rfl,s17⟩
 replace hd:=hd.same s17
 replace lq16:=lq16.same s17
 and_intros
 intro A6 DX6 hA6 hDX6 neA6
 have sm6:=AX (C:=ad.c_Pairs) hA6 hDX6 neA6
 have good6:B5 (upd (upd H17 DX6 (.own A6)) A6 (.ins ad.c_Pairs DX6 [])) (.int (h:Int)) (.int ((h:Int)+(sn:Int))) .non (h:Int) ((h:Int)+(sn:Int)) (ups h):=⟨rfl,rfl,hh.1,hh.2,by omega,by omega,.inl ⟨rfl,rfl⟩⟩
 refine ⟨A6,ad.c_Pairs,DX6,_,_,_,rfl,Ab,T.cl_Pairs,T.na_Pairs_hands,T.na_Pairs_seats,T.na_Pairs_lots,Wh.int _,Wh.int _,.non,fun h' s'' ns' g lA6 K6 la6 hl6 g6 a6 l6=>⟨rfl,?_⟩,fun no=>absurd good6 (no _ _ _)⟩
 obtain ⟨eh,es,en⟩:=good6.uniq g
 replace es:=es.symm
 replace en:=en.symm
 subst eh es en
 clear g
 have S6:=By hA6 hDX6 neA6 g6
 replace hl6:=BC sm6 hl6
 clear good6 sm6 g6
 have M6:C4 ad.c_Pairs K6 A6 h (h+sn) (ups h):=⟨⟨DX6,lA6,a6,l6⟩,List.Perm.refl _,h1,h12,by omega,by omega⟩
 replace hd:=hd.same S6
 have ll6:=lq16.same S6
 and_intros
 refine ⟨A6,DX6,_,rfl,a6,rfl,?_⟩
 and_intros
 refine ⟨A6,sb,h,(h+sn),ups h,ls,rfl,M6,hd.e,hd.g,l60,ll6.1,fun u6 F6 J6 _ sq6 lq6 er6 st6=>?_⟩
 obtain ⟨w16,w26,w36⟩:=Dh st6 (h+sn) (List.Perm.refl _)
 have ta6:=IM w26 w16 (by rw [w36];omega)
 rw [ta6] at er6
 replace hd:=hd.same (sq6 ll6)
 clear ta6 w16 w26 w36 a6 l6
 and_intros
 refine ⟨(by show 1<=sizeLine;decide),fun o16 ho16=>?_⟩
 have p16:=Ad ho16 ((.lst [V.int 1]))
 have r16:(upd J6 o16 ((.lst [V.int 1]))) o16=some ((.lst [V.int 1])):=Ab
 generalize upd J6 o16 ((.lst [V.int 1]))=O16 at p16 r16 ⊢
 refine ⟨_,rfl,o16,(h:Int),_,rfl,rfl,r16,by omega,by omega,A5 (by show 1*Int.toNat (h:Int)<=1000;omega),fun o26 ho26=>?_⟩
 rw [Int.toNat_natCast,FD]
 have p26:=Ad ho26 ((.lst ((List.replicate h (1:Int)).map V.int)))
 have r26:(upd O16 o26 ((.lst ((List.replicate h (1:Int)).map V.int)))) o26=some ((.lst ((List.replicate h (1:Int)).map V.int))):=Ab
 generalize upd O16 o26 ((.lst ((List.replicate h (1:Int)).map V.int)))=Z6 at p26 r26 ⊢
 have z6:=p16.trans p26
 refine ⟨.list ((List.replicate h (1:Int)).map .int),.list ((List.replicate h (1:Int)).map .int),.lst (SqL.of (z6 _ _ er6)) (.ints _),.lst (SqL.of r26) (.ints _),(At _).2,(At _).2,?_⟩
 rw [Ja]
 replace hd:=hd.same z6
 replace lq6:=lq6.same z6
 and_intros
 intro A7 DX7 hA7 hDX7 neA7
 have sm7:=AX (C:=ad.c_Pairs) hA7 hDX7 neA7
 have good7:B5 (upd (upd Z6 DX7 (.own A7)) A7 (.ins ad.c_Pairs DX7 [])) (.int (h:Int)) (.int (h:Int)) .non (h:Int) (h:Int) (ups h):=⟨rfl,rfl,hh.1,hh.2,by omega,by omega,.inl ⟨rfl,rfl⟩⟩
 refine ⟨A7,ad.c_Pairs,DX7,_,_,_,rfl,Ab,T.cl_Pairs,T.na_Pairs_hands,T.na_Pairs_seats,T.na_Pairs_lots,Wh.int _,Wh.int _,.non,fun h' s'' ns' g lA7 K7 la7 hl7 g7 a7 l7=>⟨rfl,?_⟩,fun no=>absurd good7 (no _ _ _)⟩
 obtain ⟨eh,es,en⟩:=good7.uniq g
 replace es:=es.symm
 replace en:=en.symm
 subst eh es en
 clear g
 have S7:=By hA7 hDX7 neA7 g7
 replace hl7:=BC sm7 hl7
 clear good7 sm7 g7
 have M7:C4 ad.c_Pairs K7 A7 h h (ups h):=⟨⟨DX7,lA7,a7,l7⟩,List.Perm.refl _,h1,h12,by omega,by omega⟩
 replace hd:=hd.same S7
 have ll7:=lq6.same S7
 and_intros
 refine ⟨A7,DX7,_,rfl,a7,rfl,?_⟩
 and_intros
 refine ⟨A7,sb',h,h,ups h,ls',rfl,M7,hd.e',hd.g',l60',ll7.1,fun u7 F7 J7 _ sq7 lq7 er7 st7=>?_⟩
 obtain ⟨w17,w27,w37⟩:=Dh st7 h (List.Perm.refl _)
 have ta7:=IM w27 w17 (by rw [w37];omega)
 rw [ta7] at er7
 replace hd:=hd.same (sq7 ll7)
 clear ta7 w17 w27 w37 a7 l7
 and_intros
 refine ⟨(by show 1<=sizeLine;decide),fun o17 ho17=>?_⟩
 have p17:=Ad ho17 ((.lst [V.int 1]))
 have r17:(upd J7 o17 ((.lst [V.int 1]))) o17=some ((.lst [V.int 1])):=Ab
 generalize upd J7 o17 ((.lst [V.int 1]))=O17 at p17 r17 ⊢
 refine ⟨_,rfl,o17,(h:Int),_,rfl,rfl,r17,by omega,by omega,A5 (by show 1*Int.toNat (h:Int)<=1000;omega),fun o27 ho27=>?_⟩
 rw [Int.toNat_natCast,FD]
 have p27:=Ad ho27 ((.lst ((List.replicate h (1:Int)).map V.int)))
 have r27:(upd O17 o27 ((.lst ((List.replicate h (1:Int)).map V.int)))) o27=some ((.lst ((List.replicate h (1:Int)).map V.int))):=Ab
 generalize upd O17 o27 ((.lst ((List.replicate h (1:Int)).map V.int)))=Z7 at p27 r27 ⊢
 have z7:=p17.trans p27
 refine ⟨.list ((List.replicate h (1:Int)).map .int),.list ((List.replicate h (1:Int)).map .int),.lst (SqL.of (z7 _ _ er7)) (.ints _),.lst (SqL.of r27) (.ints _),(At _).2,(At _).2,?_⟩
 rw [Ja]
 exact q _
end
theorem all_mk {l:PySem.W.OpenLaw} {w:World} {K:PySem.W.Frag} {h:Heap} {mg:Str->Option Value} {fa f1 f2 f3 f4 f5 f6 f7 f8 f9 f10 f11 f12 f13 f14 f15 f16 f17 f18 f19 f20 f21 f22 f23 f24 f25 f26 f27 f28 f29 f30 f31 f32 f33 f34 c_NoWay c_Torn c_TooHard c_NoSheet c_NoRow c_NoNumber c_NoChange c_NoBundle c_NoBallot c_Ended c_WrongNumber c_PollError c_Pairs c_Way lf lc lP:Addr} (X:K.In h) (G:h.Ns mainGlobals mg) (hfa:mg "law"=some (.ref fa)) (hlf:mg "reached_from"=some (.ref lf)) (hlT:∃o fd,h.get? lf=some o/\o.data=.func fd/\fd.code=.ref lc)
 {od1 an1 od2 an2 od3 an3 od4 an4 od5 an5 od6 an6 od7 an7 od8 an8 od9 an9 od10 an10 od11 an11 od12 an12 od13 an13 od14 an14 od15 an15 od16 an16 od17 an17 od18 an18 od19 an19 od20 an20 od21 an21 od22 an22 od23 an23 od24 an24 od25 an25 od26 an26 od27 an27 od28 an28 od29 an29 od30 an30 od31 an31 od32 an32 od33 an33 od34 an34:Option Addr} {sl1 sl2 sl3 sl4 sl5 sl6 sl7 sl8 sl9 sl10 sl11 sl12 sl13 sl14 sl15 sl16 sl17 sl18 sl19 sl20 sl21 sl22 sl23 sl24 sl25 sl26 sl27 sl28 sl29 sl30 sl31 sl32 sl33 sl34:Array (Option Value)} {oc1 kV1 dc1 pm1 cd1 ct1 oc2 kV2 dc2 pm2 cd2 ct2 oc3 kV3 dc3 pm3 cd3 ct3 oc4 kV4 dc4 pm4 cd4 ct4 oc5 kV5 dc5 pm5 cd5 ct5 oc6 kV6 dc6 pm6 cd6 ct6 oc7 kV7 dc7 pm7 cd7 ct7 oc8 kV8 dc8 pm8 cd8 ct8 oc9 kV9 dc9 pm9 cd9 ct9 oc10 kV10 dc10 pm10 cd10 ct10 oc11 kV11 dc11 pm11 cd11 ct11 oc12 kV12 dc12 pm12 cd12 ct12 oc13 kV13 dc13 pm13 cd13 ct13 oc14 kV14 dc14 pm14 cd14 ct14 oc15 kV15 dc15 pm15 cd15 ct15 oc16 kV16 dc16 pm16 cd16 ct16 oc17 kV17 dc17 pm17 cd17 ct17 oc18 kV18 dc18 pm18 cd18 ct18 oc19 kV19 dc19 pm19 cd19 ct19 oc20 kV20 dc20 pm20 cd20 ct20 oc21 kV21 dc21 pm21 cd21 ct21 oc22 kV22 dc22 pm22 cd22 ct22 oc23 kV23 dc23 pm23 cd23 ct23 oc24 kV24 dc24 pm24 cd24 ct24 oc25 kV25 dc25 pm25 cd25 ct25 oc26 kV26 dc26 pm26 cd26 ct26 oc27 kV27 dc27 pm27 cd27 ct27 oc28 kV28 dc28 pm28 cd28 ct28 oc29 kV29 dc29 pm29 cd29 ct29 oc30 kV30 dc30 pm30 cd30 ct30 oc31 kV31 dc31 pm31 cd31 ct31 oc32 kV32 dc32 pm32 cd32 ct32 oc33 kV33 dc33 pm33 cd33 ct33 oc34 kV34 dc34 pm34 cd34 ct34:Value} {dT28:Addr} {dcl28:Value} {ddi28:Option Addr} {dn28:Nat} {dsl28:Array (Option Value)} {t_MOST_HANDS t_MOST_SEATS:Tok}
 (a1:PySem.W.nsIn K mainGlobals "all_of"=some (some (.ref f1)))
 (l1:K.lookup f1=some ⟨oc1,od1,.func (PySem.W.fnOf "all_of" "all_of" (Al CZ) (Ak CZ) (Ae CZ) .none kV1 dc1 pm1 an1 cd1 ct1),sl1⟩) (c1:PySem.W.codeIn K cd1 "all_of"=true) (k1:PySem.W.keepIn K (.ref f1)=true)
 (a2:PySem.W.nsIn K mainGlobals "with_one"=some (some (.ref f2)))
 (l2:K.lookup f2=some ⟨oc2,od2,.func (PySem.W.fnOf "with_one" "with_one" (Al Cq) (Ak Cq) (Ae Cq) .none kV2 dc2 pm2 an2 cd2 ct2),sl2⟩) (c2:PySem.W.codeIn K cd2 "with_one"=true) (k2:PySem.W.keepIn K (.ref f2)=true)
 (a3:PySem.W.nsIn K mainGlobals "members"=some (some (.ref f3)))
 (l3:K.lookup f3=some ⟨oc3,od3,.func (PySem.W.fnOf "members" "members" (Al Cl) (Ak Cl) (Ae Cl) .none kV3 dc3 pm3 an3 cd3 ct3),sl3⟩) (c3:PySem.W.codeIn K cd3 "members"=true) (k3:PySem.W.keepIn K (.ref f3)=true)
 (a4:PySem.W.nsIn K mainGlobals "hands_of"=some (some (.ref f4)))
 (l4:K.lookup f4=some ⟨oc4,od4,.func (PySem.W.fnOf "hands_of" "hands_of" (Al Cu) (Ak Cu) (Ae Cu) .none kV4 dc4 pm4 an4 cd4 ct4),sl4⟩) (c4:PySem.W.codeIn K cd4 "hands_of"=true) (k4:PySem.W.keepIn K (.ref f4)=true)
 (a5:PySem.W.nsIn K mainGlobals "way_by"=some (some (.ref f5)))
 (l5:K.lookup f5=some ⟨oc5,od5,.func (PySem.W.fnOf "way_by" "way_by" (Al De) (Ak De) (Ae De) .none kV5 dc5 pm5 an5 cd5 ct5),sl5⟩) (c5:PySem.W.codeIn K cd5 "way_by"=true) (k5:PySem.W.keepIn K (.ref f5)=true)
 (a6:PySem.W.nsIn K mainGlobals "is_whole"=some (some (.ref f6)))
 (l6:K.lookup f6=some ⟨oc6,od6,.func (PySem.W.fnOf "is_whole" "is_whole" (Al Cm) (Ak Cm) (Ae Cm) .none kV6 dc6 pm6 an6 cd6 ct6),sl6⟩) (c6:PySem.W.codeIn K cd6 "is_whole"=true) (k6:PySem.W.keepIn K (.ref f6)=true)
 (a7:PySem.W.nsIn K mainGlobals "is_beaten"=some (some (.ref f7)))
 (l7:K.lookup f7=some ⟨oc7,od7,.func (PySem.W.fnOf "is_beaten" "is_beaten" (Al B8) (Ak B8) (Ae B8) .none kV7 dc7 pm7 an7 cd7 ct7),sl7⟩) (c7:PySem.W.codeIn K cd7 "is_beaten"=true) (k7:PySem.W.keepIn K (.ref f7)=true)
 (a8:PySem.W.nsIn K mainGlobals "_law_whole"=some (some (.ref f8)))
 (l8:K.lookup f8=some ⟨oc8,od8,.func (PySem.W.fnOf "_law_whole" "_law_whole" (Al BR) (Ak BR) (Ae BR) .none kV8 dc8 pm8 an8 cd8 ct8),sl8⟩) (c8:PySem.W.codeIn K cd8 "_law_whole"=true) (k8:PySem.W.keepIn K (.ref f8)=true)
 (a9:PySem.W.nsIn K mainGlobals "_law_cell"=some (some (.ref f9)))
 (l9:K.lookup f9=some ⟨oc9,od9,.func (PySem.W.fnOf "_law_cell" "_law_cell" (Al Ct) (Ak Ct) (Ae Ct) .none kV9 dc9 pm9 an9 cd9 ct9),sl9⟩) (c9:PySem.W.codeIn K cd9 "_law_cell"=true) (k9:PySem.W.keepIn K (.ref f9)=true)
 (a10:PySem.W.nsIn K mainGlobals "_law_mixed"=some (some (.ref f10)))
 (l10:K.lookup f10=some ⟨oc10,od10,.func (PySem.W.fnOf "_law_mixed" "_law_mixed" (Al BY) (Ak BY) (Ae BY) .none kV10 dc10 pm10 an10 cd10 ct10),sl10⟩) (c10:PySem.W.codeIn K cd10 "_law_mixed"=true) (k10:PySem.W.keepIn K (.ref f10)=true)
 (a11:PySem.W.nsIn K mainGlobals "_law_order"=some (some (.ref f11)))
 (l11:K.lookup f11=some ⟨oc11,od11,.func (PySem.W.fnOf "_law_order" "_law_order" (Al BV) (Ak BV) (Ae BV) .none kV11 dc11 pm11 an11 cd11 ct11),sl11⟩) (c11:PySem.W.codeIn K cd11 "_law_order"=true) (k11:PySem.W.keepIn K (.ref f11)=true)
 (a12:PySem.W.nsIn K mainGlobals "_law_slip"=some (some (.ref f12)))
 (l12:K.lookup f12=some ⟨oc12,od12,.func (PySem.W.fnOf "_law_slip" "_law_slip" (Al BA) (Ak BA) (Ae BA) .none kV12 dc12 pm12 an12 cd12 ct12),sl12⟩) (c12:PySem.W.codeIn K cd12 "_law_slip"=true) (k12:PySem.W.keepIn K (.ref f12)=true)
 (a13:PySem.W.nsIn K mainGlobals "_law_renamed"=some (some (.ref f13)))
 (l13:K.lookup f13=some ⟨oc13,od13,.func (PySem.W.fnOf "_law_renamed" "_law_renamed" (Al Bz) (Ak Bz) (Ae Bz) .none kV13 dc13 pm13 an13 cd13 ct13),sl13⟩) (c13:PySem.W.codeIn K cd13 "_law_renamed"=true) (k13:PySem.W.keepIn K (.ref f13)=true)
 (l14:K.lookup f14=some ⟨oc14,od14,.func (PySem.W.fnOf "ahead" "Way.ahead" (Al BS) (Ak BS) (Ae BS) .none kV14 dc14 pm14 an14 cd14 ct14),sl14⟩) (c14:PySem.W.codeIn K cd14 "Way.ahead"=true) (k14:PySem.W.keepIn K (.ref f14)=true)
 (l15:K.lookup f15=some ⟨oc15,od15,.func (PySem.W.fnOf "told_by" "Pairs.told_by" (Al AS) (Ak AS) (Ae AS) .none kV15 dc15 pm15 an15 cd15 ct15),sl15⟩) (c15:PySem.W.codeIn K cd15 "Pairs.told_by"=true) (k15:PySem.W.keepIn K (.ref f15)=true)
 (a16:PySem.W.nsIn K mainGlobals "overs"=some (some (.ref f16)))
 (l16:K.lookup f16=some ⟨oc16,od16,.func (PySem.W.fnOf "overs" "overs" (Al CL) (Ak CL) (Ae CL) .none kV16 dc16 pm16 an16 cd16 ct16),sl16⟩) (c16:PySem.W.codeIn K cd16 "overs"=true) (k16:PySem.W.keepIn K (.ref f16)=true)
 (a17:PySem.W.nsIn K mainGlobals "leads_of"=some (some (.ref f17)))
 (l17:K.lookup f17=some ⟨oc17,od17,.func (PySem.W.fnOf "leads_of" "leads_of" (Al B7) (Ak B7) (Ae B7) .none kV17 dc17 pm17 an17 cd17 ct17),sl17⟩) (c17:PySem.W.codeIn K cd17 "leads_of"=true) (k17:PySem.W.keepIn K (.ref f17)=true)
 (a18:PySem.W.nsIn K mainGlobals "reached_from"=some (some (.ref f18)))
 (l18:K.lookup f18=some ⟨oc18,od18,.func (PySem.W.fnOf "reached_from" "reached_from" (Al AE) (Ak AE) (Ae AE) .none kV18 dc18 pm18 an18 cd18 ct18),sl18⟩) (c18:PySem.W.codeIn K cd18 "reached_from"=true) (k18:PySem.W.keepIn K (.ref f18)=true)
 (a19:PySem.W.nsIn K mainGlobals "cut_by"=some (some (.ref f19)))
 (l19:K.lookup f19=some ⟨oc19,od19,.func (PySem.W.fnOf "cut_by" "cut_by" (Al Df) (Ak Df) (Ae Df) .none kV19 dc19 pm19 an19 cd19 ct19),sl19⟩) (c19:PySem.W.codeIn K cd19 "cut_by"=true) (k19:PySem.W.keepIn K (.ref f19)=true)
 (a20:PySem.W.nsIn K mainGlobals "are_hands"=some (some (.ref f20)))
 (l20:K.lookup f20=some ⟨oc20,od20,.func (PySem.W.fnOf "are_hands" "are_hands" (Al BX) (Ak BX) (Ae BX) .none kV20 dc20 pm20 an20 cd20 ct20),sl20⟩) (c20:PySem.W.codeIn K cd20 "are_hands"=true) (k20:PySem.W.keepIn K (.ref f20)=true)
 (a21:PySem.W.nsIn K mainGlobals "are_seats"=some (some (.ref f21)))
 (l21:K.lookup f21=some ⟨oc21,od21,.func (PySem.W.fnOf "are_seats" "are_seats" (Al BQ) (Ak BQ) (Ae BQ) .none kV21 dc21 pm21 an21 cd21 ct21),sl21⟩) (c21:PySem.W.codeIn K cd21 "are_seats"=true) (k21:PySem.W.keepIn K (.ref f21)=true)
 (a22:PySem.W.nsIn K mainGlobals "are_lots"=some (some (.ref f22)))
 (l22:K.lookup f22=some ⟨oc22,od22,.func (PySem.W.fnOf "are_lots" "are_lots" (Al BP) (Ak BP) (Ae BP) .none kV22 dc22 pm22 an22 cd22 ct22),sl22⟩) (c22:PySem.W.codeIn K cd22 "are_lots"=true) (k22:PySem.W.keepIn K (.ref f22)=true)
 (a23:PySem.W.nsIn K mainGlobals "_law_ranks"=some (some (.ref f23)))
 (l23:K.lookup f23=some ⟨oc23,od23,.func (PySem.W.fnOf "_law_ranks" "_law_ranks" (Al Bu) (Ak Bu) (Ae Bu) .none kV23 dc23 pm23 an23 cd23 ct23),sl23⟩) (c23:PySem.W.codeIn K cd23 "_law_ranks"=true) (k23:PySem.W.keepIn K (.ref f23)=true)
 (a24:PySem.W.nsIn K mainGlobals "_law_sheet"=some (some (.ref f24)))
 (l24:K.lookup f24=some ⟨oc24,od24,.func (PySem.W.fnOf "_law_sheet" "_law_sheet" (Al BD) (Ak BD) (Ae BD) .none kV24 dc24 pm24 an24 cd24 ct24),sl24⟩) (c24:PySem.W.codeIn K cd24 "_law_sheet"=true) (k24:PySem.W.keepIn K (.ref f24)=true)
 (l25:K.lookup f25=some ⟨oc25,od25,.func (PySem.W.fnOf "picks_by" "Pairs.picks_by" (Al AL) (Ak AL) (Ae AL) .none kV25 dc25 pm25 an25 cd25 ct25),sl25⟩) (c25:PySem.W.codeIn K cd25 "Pairs.picks_by"=true) (k25:PySem.W.keepIn K (.ref f25)=true)
 (a26:PySem.W.nsIn K mainGlobals "shown_from"=some (some (.ref f26)))
 (l26:K.lookup f26=some ⟨oc26,od26,.func (PySem.W.fnOf "shown_from" "shown_from" (Al Bi) (Ak Bi) (Ae Bi) .none kV26 dc26 pm26 an26 cd26 ct26),sl26⟩) (c26:PySem.W.codeIn K cd26 "shown_from"=true) (k26:PySem.W.keepIn K (.ref f26)=true)
 (a27:PySem.W.nsIn K mainGlobals "_law_votes"=some (some (.ref f27)))
 (l27:K.lookup f27=some ⟨oc27,od27,.func (PySem.W.fnOf "_law_votes" "_law_votes" (Al BW) (Ak BW) (Ae BW) .none kV27 dc27 pm27 an27 cd27 ct27),sl27⟩) (c27:PySem.W.codeIn K cd27 "_law_votes"=true) (k27:PySem.W.keepIn K (.ref f27)=true)
 (l28:K.lookup f28=some ⟨oc28,od28,.func (PySem.W.fnOf "__init__" "Way.__init__" (Al AR) (Ak AR) (Ae AR) (.ref dT28) kV28 dc28 pm28 an28 cd28 ct28),sl28⟩) (c28:PySem.W.codeIn K cd28 "Way.__init__"=true) (k28:PySem.W.keepIn K (.ref f28)=true)
 (dl28:K.lookup dT28=some ⟨dcl28,ddi28,.seq #[.none] dn28,dsl28⟩)
 (l29:K.lookup f29=some ⟨oc29,od29,.func (PySem.W.fnOf "counted" "Pairs.counted" (Al Bd) (Ak Bd) (Ae Bd) .none kV29 dc29 pm29 an29 cd29 ct29),sl29⟩) (c29:PySem.W.codeIn K cd29 "Pairs.counted"=true) (k29:PySem.W.keepIn K (.ref f29)=true)
 (a30:PySem.W.nsIn K mainGlobals "_law_ways"=some (some (.ref f30)))
 (l30:K.lookup f30=some ⟨oc30,od30,.func (PySem.W.fnOf "_law_ways" "_law_ways" (Al Cn) (Ak Cn) (Ae Cn) .none kV30 dc30 pm30 an30 cd30 ct30),sl30⟩) (c30:PySem.W.codeIn K cd30 "_law_ways"=true) (k30:PySem.W.keepIn K (.ref f30)=true)
 (a31:PySem.W.nsIn K mainGlobals "_law_refused"=some (some (.ref f31)))
 (l31:K.lookup f31=some ⟨oc31,od31,.func (PySem.W.fnOf "_law_refused" "_law_refused" (Al B0) (Ak B0) (Ae B0) .none kV31 dc31 pm31 an31 cd31 ct31),sl31⟩) (c31:PySem.W.codeIn K cd31 "_law_refused"=true) (k31:PySem.W.keepIn K (.ref f31)=true)
 (l32:K.lookup f32=some ⟨oc32,od32,.func (PySem.W.fnOf "outcome" "Way.outcome" (Al B2) (Ak B2) (Ae B2) .none kV32 dc32 pm32 an32 cd32 ct32),sl32⟩) (c32:PySem.W.codeIn K cd32 "Way.outcome"=true) (k32:PySem.W.keepIn K (.ref f32)=true)
 (a33:PySem.W.nsIn K mainGlobals "_law_like_a_way"=some (some (.ref f33)))
 (l33:K.lookup f33=some ⟨oc33,od33,.func (PySem.W.fnOf "_law_like_a_way" "_law_like_a_way" (Al AW) (Ak AW) (Ae AW) .none kV33 dc33 pm33 an33 cd33 ct33),sl33⟩) (c33:PySem.W.codeIn K cd33 "_law_like_a_way"=true) (k33:PySem.W.keepIn K (.ref f33)=true)
 (a34:PySem.W.nsIn K mainGlobals "law"=some (some (.ref f34)))
 (l34:K.lookup f34=some ⟨oc34,od34,.func (PySem.W.fnOf "law" "law" (Al Di) (Ak Di) (Ae Di) .none kV34 dc34 pm34 an34 cd34 ct34),sl34⟩) (c34:PySem.W.codeIn K cd34 "law"=true) (k34:PySem.W.keepIn K (.ref f34)=true)
 (z0:PySem.W.nsIn K mainGlobals "ValueError"=some none)
 (z1:PySem.W.nsIn K mainGlobals "all"=some none)
 (z2:PySem.W.nsIn K mainGlobals "any"=some none)
 (z3:PySem.W.nsIn K mainGlobals "bool"=some none)
 (z4:PySem.W.nsIn K mainGlobals "enumerate"=some none)
 (z5:PySem.W.nsIn K mainGlobals "int"=some none)
 (z6:PySem.W.nsIn K mainGlobals "isinstance"=some none)
 (z7:PySem.W.nsIn K mainGlobals "len"=some none)
 (z8:PySem.W.nsIn K mainGlobals "list"=some none)
 (z9:PySem.W.nsIn K mainGlobals "max"=some none)
 (z10:PySem.W.nsIn K mainGlobals "min"=some none)
 (z11:PySem.W.nsIn K mainGlobals "range"=some none)
 (z12:PySem.W.nsIn K mainGlobals "set"=some none)
 (z13:PySem.W.nsIn K mainGlobals "sorted"=some none)
 (z14:PySem.W.nsIn K mainGlobals "sum"=some none)
 (z15:PySem.W.nsIn K mainGlobals "tuple"=some none)
 (kc_MOST_HANDS:PySem.W.nsIn K mainGlobals "MOST_HANDS"=some (some (.int 12 t_MOST_HANDS)))
 (kc_MOST_SEATS:PySem.W.nsIn K mainGlobals "MOST_SEATS"=some (some (.int 60 t_MOST_SEATS)))
 (mc_NoWay:PySem.W.nsIn K mainGlobals "NoWay"=some (some (.ref c_NoWay))) (ty_NoWay:PySem.W.typeIn K (.ref c_NoWay)=some (.type "type")) (be_NoWay:PySem.W.mroIn K c_NoWay (.type "BaseException")=some true)
 (mc_Torn:PySem.W.nsIn K mainGlobals "Torn"=some (some (.ref c_Torn))) (ty_Torn:PySem.W.typeIn K (.ref c_Torn)=some (.type "type")) (be_Torn:PySem.W.mroIn K c_Torn (.type "BaseException")=some true)
 (mc_TooHard:PySem.W.nsIn K mainGlobals "TooHard"=some (some (.ref c_TooHard))) (ty_TooHard:PySem.W.typeIn K (.ref c_TooHard)=some (.type "type")) (be_TooHard:PySem.W.mroIn K c_TooHard (.type "BaseException")=some true)
 (mc_NoSheet:PySem.W.nsIn K mainGlobals "NoSheet"=some (some (.ref c_NoSheet))) (ty_NoSheet:PySem.W.typeIn K (.ref c_NoSheet)=some (.type "type")) (be_NoSheet:PySem.W.mroIn K c_NoSheet (.type "BaseException")=some true)
 (mc_NoRow:PySem.W.nsIn K mainGlobals "NoRow"=some (some (.ref c_NoRow))) (ty_NoRow:PySem.W.typeIn K (.ref c_NoRow)=some (.type "type")) (be_NoRow:PySem.W.mroIn K c_NoRow (.type "BaseException")=some true)
 (mc_NoNumber:PySem.W.nsIn K mainGlobals "NoNumber"=some (some (.ref c_NoNumber))) (ty_NoNumber:PySem.W.typeIn K (.ref c_NoNumber)=some (.type "type")) (be_NoNumber:PySem.W.mroIn K c_NoNumber (.type "BaseException")=some true)
 (mc_NoChange:PySem.W.nsIn K mainGlobals "NoChange"=some (some (.ref c_NoChange))) (ty_NoChange:PySem.W.typeIn K (.ref c_NoChange)=some (.type "type")) (be_NoChange:PySem.W.mroIn K c_NoChange (.type "BaseException")=some true)
 (mc_NoBundle:PySem.W.nsIn K mainGlobals "NoBundle"=some (some (.ref c_NoBundle))) (ty_NoBundle:PySem.W.typeIn K (.ref c_NoBundle)=some (.type "type")) (be_NoBundle:PySem.W.mroIn K c_NoBundle (.type "BaseException")=some true)
 (mc_NoBallot:PySem.W.nsIn K mainGlobals "NoBallot"=some (some (.ref c_NoBallot))) (ty_NoBallot:PySem.W.typeIn K (.ref c_NoBallot)=some (.type "type")) (be_NoBallot:PySem.W.mroIn K c_NoBallot (.type "BaseException")=some true)
 (mc_Ended:PySem.W.nsIn K mainGlobals "Ended"=some (some (.ref c_Ended))) (ty_Ended:PySem.W.typeIn K (.ref c_Ended)=some (.type "type")) (be_Ended:PySem.W.mroIn K c_Ended (.type "BaseException")=some true)
 (mc_WrongNumber:PySem.W.nsIn K mainGlobals "WrongNumber"=some (some (.ref c_WrongNumber))) (ty_WrongNumber:PySem.W.typeIn K (.ref c_WrongNumber)=some (.type "type")) (be_WrongNumber:PySem.W.mroIn K c_WrongNumber (.type "BaseException")=some true)
 (mc_PollError:PySem.W.nsIn K mainGlobals "PollError"=some (some (.ref c_PollError))) (ty_PollError:PySem.W.typeIn K (.ref c_PollError)=some (.type "type")) (be_PollError:PySem.W.mroIn K c_PollError (.type "BaseException")=some true)
 (mc_Pairs:PySem.W.nsIn K mainGlobals "Pairs"=some (some (.ref c_Pairs))) (pg_Pairs:PySem.W.plainGet K c_Pairs Str.empty=true) (hd_Pairs:PySem.W.hasDictIn K c_Pairs=true) (po_Pairs:PySem.W.plainOver K c_Pairs=true) (sa_Pairs:PySem.W.findIn K (.ref c_Pairs) "__setattr__"=some (some (.builtin "object.__setattr__")))
 (mm_Pairs:PySem.W.makesIn K c_Pairs=true) (mi_Pairs:PySem.W.findIn K (.ref c_Pairs) "__init__"=some (some (.ref f28))) (mf_Pairs:PySem.W.isFn K (.ref f28)=true) (mk_Pairs:PySem.W.keepIn K (.ref c_Pairs)=true)
 (ma_Pairs_ahead:PySem.W.findIn K (.ref c_Pairs) "ahead"=some (some (.ref f14))) (mn_Pairs_ahead:PySem.W.isFn K (.ref f14)=true)
 (ma_Pairs_picks_by:PySem.W.findIn K (.ref c_Pairs) "picks_by"=some (some (.ref f25))) (mn_Pairs_picks_by:PySem.W.isFn K (.ref f25)=true)
 (ma_Pairs_counted:PySem.W.findIn K (.ref c_Pairs) "counted"=some (some (.ref f29))) (mn_Pairs_counted:PySem.W.isFn K (.ref f29)=true)
 (ma_Pairs_told_by:PySem.W.findIn K (.ref c_Pairs) "told_by"=some (some (.ref f15))) (mn_Pairs_told_by:PySem.W.isFn K (.ref f15)=true)
 (ma_Pairs_outcome:PySem.W.findIn K (.ref c_Pairs) "outcome"=some (some (.ref f32))) (mn_Pairs_outcome:PySem.W.isFn K (.ref f32)=true)
 (na_Pairs_hands:PySem.W.findIn K (.ref c_Pairs) "hands"=some none)
 (na_Pairs_seats:PySem.W.findIn K (.ref c_Pairs) "seats"=some none)
 (na_Pairs_lots:PySem.W.findIn K (.ref c_Pairs) "lots"=some none)
 (ja_Pairs_Way:PySem.W.findIn K (.ref c_Pairs) "__class__"=some (some (.builtin "object.__class__"))) (jb_Pairs_Way:PySem.W.specialIn K (.builtin "object.__class__") "__get__"=some (some (.builtin "getset_descriptor.__get__"))) (jc_Pairs_Way:PySem.W.takesIn K (.builtin "object.__class__")=some true) (jd_Pairs_Way:PySem.W.mroIn K c_Pairs (.type "object")=some true) (je_Pairs_Way:PySem.W.kitOne K (.ref c_Pairs) (.ref c_Way)=some true)
 (mc_Way:PySem.W.nsIn K mainGlobals "Way"=some (some (.ref c_Way))) (pg_Way:PySem.W.plainGet K c_Way Str.empty=true) (hd_Way:PySem.W.hasDictIn K c_Way=true) (po_Way:PySem.W.plainOver K c_Way=true) (sa_Way:PySem.W.findIn K (.ref c_Way) "__setattr__"=some (some (.builtin "object.__setattr__")))
 (gt0:PySem.W.specialIn K (.builtin "object.__class__") "__get__"=some (some (.builtin "getset_descriptor.__get__"))) (tk0:PySem.W.takesIn K (.builtin "object.__class__")=some true)
 (xq_NoWay:PySem.W.excIn K c_NoWay [.type "ValueError",.type "Exception",.type "BaseException",.type "object"] "ValueError.__new__"=true)
 (ga_NoWay:PySem.W.findIn K (.ref c_NoWay) "__getattribute__"=some (some (.builtin "BaseException.__getattribute__"))) (gh_NoWay:PySem.W.findIn K (.ref c_NoWay) "__getattr__"=some none) (cl_NoWay:PySem.W.findIn K (.ref c_NoWay) "__class__"=some (some (.builtin "object.__class__"))) (ob_NoWay:PySem.W.mroIn K c_NoWay (.type "object")=some true) (ve_NoWay:PySem.W.subIn K (.ref c_NoWay) (.type "ValueError")=some true)
 (su_NoWay_NoWay:PySem.W.subIn K (.ref c_NoWay) (.ref c_NoWay)=some true)
 (su_NoWay_Torn:PySem.W.subIn K (.ref c_NoWay) (.ref c_Torn)=some false)
 (su_NoWay_TooHard:PySem.W.subIn K (.ref c_NoWay) (.ref c_TooHard)=some false)
 (su_NoWay_NoSheet:PySem.W.subIn K (.ref c_NoWay) (.ref c_NoSheet)=some false)
 (su_NoWay_NoRow:PySem.W.subIn K (.ref c_NoWay) (.ref c_NoRow)=some false)
 (su_NoWay_NoNumber:PySem.W.subIn K (.ref c_NoWay) (.ref c_NoNumber)=some false)
 (su_NoWay_NoChange:PySem.W.subIn K (.ref c_NoWay) (.ref c_NoChange)=some false)
 (su_NoWay_NoBundle:PySem.W.subIn K (.ref c_NoWay) (.ref c_NoBundle)=some false)
 (su_NoWay_NoBallot:PySem.W.subIn K (.ref c_NoWay) (.ref c_NoBallot)=some false)
 (su_NoWay_Ended:PySem.W.subIn K (.ref c_NoWay) (.ref c_Ended)=some false)
 (su_NoWay_WrongNumber:PySem.W.subIn K (.ref c_NoWay) (.ref c_WrongNumber)=some false)
 (su_NoWay_PollError:PySem.W.subIn K (.ref c_NoWay) (.ref c_PollError)=some true) :
 ∃fd:FuncData,(∀(s:Shared) (v:Value),BindsTo s fd ⟨[v],[]⟩ [("_law_script",v)])/\∀base:Heap,K.In base->base.Ns mainGlobals mg->Ft base mg lc lP->AT l.prog w K mg base CX0 7 fa fd ["_law_script"] (KH K lP):=by
 have e:=hfa.symm.trans (PySem.W.mg_of X G a34)
 cases e
 have F1:=AA (st:=CZ) l1 c1 k1
 have b1:=F1.binds (ps:=["hands"]) fun _ _ _ _ _ _ us hl=>match us,hl with | [_],_=>rfl
 have F2:=AA (st:=Cq) l2 c2 k2
 have b2:=F2.binds (ps:=["mask","hand"]) fun _ _ _ _ _ _ us hl=>match us,hl with | [_,_],_=>rfl
 have F3:=AA (st:=Cl) l3 c3 k3
 have b3:=F3.binds (ps:=["mask"]) fun _ _ _ _ _ _ us hl=>match us,hl with | [_],_=>rfl
 have F4:=AA (st:=Cu) l4 c4 k4
 have b4:=F4.binds (ps:=["leads"]) fun _ _ _ _ _ _ us hl=>match us,hl with | [_],_=>rfl
 have F5:=AA (st:=De) l5 c5 k5
 have b5:=F5.binds (ps:=["reached","x","y"]) fun _ _ _ _ _ _ us hl=>match us,hl with | [_,_,_],_=>rfl
 have F6:=AA (st:=Cm) l6 c6 k6
 have b6:=F6.binds (ps:=["thing"]) fun _ _ _ _ _ _ us hl=>match us,hl with | [_],_=>rfl
 have F7:=AA (st:=B8) l7 c7 k7
 have b7:=F7.binds (ps:=["strengths","hand","others"]) fun _ _ _ _ _ _ us hl=>match us,hl with | [_,_,_],_=>rfl
 have F8:=AA (st:=BR) l8 c8 k8
 have b8:=F8.binds (ps:=["_law_found"]) fun _ _ _ _ _ _ us hl=>match us,hl with | [_],_=>rfl
 have F9:=AA (st:=Ct) l9 c9 k9
 have b9:=F9.binds (ps:=["_law_script","_law_k"]) fun _ _ _ _ _ _ us hl=>match us,hl with | [_,_],_=>rfl
 have F10:=AA (st:=BY) l10 c10 k10
 have b10:=F10.binds (ps:=["_law_cell_here","_law_by"]) fun _ _ _ _ _ _ us hl=>match us,hl with | [_,_],_=>rfl
 have F11:=AA (st:=BV) l11 c11 k11
 have b11:=F11.binds (ps:=["_law_cell_here","_law_hands"]) fun _ _ _ _ _ _ us hl=>match us,hl with | [_,_],_=>rfl
 have F12:=AA (st:=BA) l12 c12 k12
 have b12:=F12.binds (ps:=["_law_ranks_here"]) fun _ _ _ _ _ _ us hl=>match us,hl with | [_],_=>rfl
 have F13:=AA (st:=Bz) l13 c13 k13
 have b13:=F13.binds (ps:=["_law_ranks_here","_law_order_here"]) fun _ _ _ _ _ _ us hl=>match us,hl with | [_,_],_=>rfl
 have F14:=AA (st:=BS) l14 c14 k14
 have b14:=F14.binds (ps:=["self","one","other"]) fun _ _ _ _ _ _ us hl=>match us,hl with | [_,_,_],_=>rfl
 have F15:=AA (st:=AS) l15 c15 k15
 have b15:=F15.binds (ps:=["self","paper"]) fun _ _ _ _ _ _ us hl=>match us,hl with | [_,_],_=>rfl
 have F16:=AA (st:=CL) l16 c16 k16
 have b16:=F16.binds (ps:=["sheet","hands"]) fun _ _ _ _ _ _ us hl=>match us,hl with | [_,_],_=>rfl
 have F17:=AA (st:=B7) l17 c17 k17
 have b17:=F17.binds (ps:=["many"]) fun _ _ _ _ _ _ us hl=>match us,hl with | [_],_=>rfl
 have F18:=AA (st:=AE) l18 c18 k18
 have b18:=F18.binds (ps:=["leads","x"]) fun _ _ _ _ _ _ us hl=>match us,hl with | [_,_],_=>rfl
 have F19:=AA (st:=Df) l19 c19 k19
 have b19:=F19.binds (ps:=["reached","x","y"]) fun _ _ _ _ _ _ us hl=>match us,hl with | [_,_,_],_=>rfl
 have F20:=AA (st:=BX) l20 c20 k20
 have b20:=F20.binds (ps:=["thing"]) fun _ _ _ _ _ _ us hl=>match us,hl with | [_],_=>rfl
 have F21:=AA (st:=BQ) l21 c21 k21
 have b21:=F21.binds (ps:=["thing"]) fun _ _ _ _ _ _ us hl=>match us,hl with | [_],_=>rfl
 have F22:=AA (st:=BP) l22 c22 k22
 have b22:=F22.binds (ps:=["thing","hands"]) fun _ _ _ _ _ _ us hl=>match us,hl with | [_,_],_=>rfl
 have F23:=AA (st:=Bu) l23 c23 k23
 have b23:=F23.binds (ps:=["_law_cell_here","_law_hands"]) fun _ _ _ _ _ _ us hl=>match us,hl with | [_,_],_=>rfl
 have F24:=AA (st:=BD) l24 c24 k24
 have b24:=F24.binds (ps:=["_law_votes_here"]) fun _ _ _ _ _ _ us hl=>match us,hl with | [_],_=>rfl
 have F25:=AA (st:=AL) l25 c25 k25
 have b25:=F25.binds (ps:=["self","strengths"]) fun _ _ _ _ _ _ us hl=>match us,hl with | [_,_],_=>rfl
 have F26:=AA (st:=Bi) l26 c26 k26
 have b26:=F26.binds (ps:=["reached","x"]) fun _ _ _ _ _ _ us hl=>match us,hl with | [_,_],_=>rfl
 have F27:=AA (st:=BW) l27 c27 k27
 have b27:=F27.binds (ps:=["_law_script","_law_start","_law_most","_law_hands"]) fun _ _ _ _ _ _ us hl=>match us,hl with | [_,_,_,_],_=>rfl
 have F28:=OH (st:=AR) l28 c28 k28
 have b28_0:A0 K _ ["self","hands","seats","lots"] []:=fun s us X hl=>match us,(show us.length=4 from Nat.add_right_cancel (m:=0) ((List.length_append ..).symm.trans hl)) with | [_,_,_,_],_=>PySem.W.binds_K (fd:=PySem.W.fnOf "__init__" "Way.__init__" (Al AR) (Ak AR) (Ae AR) (.ref dT28) kV28 dc28 pm28 an28 cd28 ct28) X rfl dl28 rfl rfl rfl
 have b28_1:A0 K _ ["self","hands","seats","lots"] [.none]:=fun s us X hl=>match us,(show us.length=3 from Nat.add_right_cancel (m:=1) ((List.length_append ..).symm.trans hl)) with | [_,_,_],_=>PySem.W.binds_K (fd:=PySem.W.fnOf "__init__" "Way.__init__" (Al AR) (Ak AR) (Ae AR) (.ref dT28) kV28 dc28 pm28 an28 cd28 ct28) X rfl dl28 rfl rfl rfl
 have F29:=AA (st:=Bd) l29 c29 k29
 have b29:=F29.binds (ps:=["self","sheet"]) fun _ _ _ _ _ _ us hl=>match us,hl with | [_,_],_=>rfl
 have F30:=AA (st:=Cn) l30 c30 k30
 have b30:=F30.binds (ps:=["_law_hands","_law_seats","_law_lots","_law_cell_here"]) fun _ _ _ _ _ _ us hl=>match us,hl with | [_,_,_,_],_=>rfl
 have F31:=AA (st:=B0) l31 c31 k31
 have b31:=F31.binds (ps:=["_law_hands","_law_seats","_law_lots"]) fun _ _ _ _ _ _ us hl=>match us,hl with | [_,_,_],_=>rfl
 have F32:=AA (st:=B2) l32 c32 k32
 have b32:=F32.binds (ps:=["self","sheet"]) fun _ _ _ _ _ _ us hl=>match us,hl with | [_,_],_=>rfl
 have F33:=AA (st:=AW) l33 c33 k33
 have b33:=F33.binds (ps:=["_law_hands","_law_seats","_law_lots","_law_cell_here"]) fun _ _ _ _ _ _ us hl=>match us,hl with | [_,_,_,_],_=>rfl
 have F34:=AA (st:=Di) l34 c34 k34
 have b34:=F34.binds (ps:=["_law_script"]) fun _ _ _ _ _ _ us hl=>match us,hl with | [_],_=>rfl
 have e:=hlf.symm.trans (PySem.W.mg_of X G a18)
 cases e
 obtain ⟨_,_,e1,e2,e3⟩:=hlT
 rw [X _ _ l18] at e1
 cases e1
 cases e2
 have T:∀base:Heap,Ft base mg lc lP->Tx K mg base (⟨f1,_,f2,_,f3,_,f4,_,f5,_,f6,_,f7,_,f8,_,f9,_,f10,_,f11,_,f12,_,f13,_,f14,_,f15,_,f16,_,f17,_,f18,_,f19,_,f20,_,f21,_,f22,_,f23,_,f24,_,f25,_,f26,_,f27,_,f28,_,f29,_,f30,_,f31,_,f32,_,f33,_,fa,_,c_NoWay,c_Torn,c_TooHard,c_NoSheet,c_NoRow,c_NoNumber,c_NoChange,c_NoBundle,c_NoBallot,c_Ended,c_WrongNumber,c_PollError,c_Pairs,c_Way,t_MOST_HANDS,t_MOST_SEATS,lc,lP⟩:Ads):=fun base LB=>⟨F1,b1,PySem.W.mg_of X G a1,F2,b2,PySem.W.mg_of X G a2,F3,b3,PySem.W.mg_of X G a3,F4,b4,PySem.W.mg_of X G a4,F5,b5,PySem.W.mg_of X G a5,F6,b6,PySem.W.mg_of X G a6,F7,b7,PySem.W.mg_of X G a7,F8,b8,PySem.W.mg_of X G a8,F9,b9,PySem.W.mg_of X G a9,F10,b10,PySem.W.mg_of X G a10,F11,b11,PySem.W.mg_of X G a11,F12,b12,PySem.W.mg_of X G a12,F13,b13,PySem.W.mg_of X G a13,F14,b14,F15,b15,F16,b16,PySem.W.mg_of X G a16,F17,b17,PySem.W.mg_of X G a17,F18,b18,PySem.W.mg_of X G a18,F19,b19,PySem.W.mg_of X G a19,F20,b20,PySem.W.mg_of X G a20,F21,b21,PySem.W.mg_of X G a21,F22,b22,PySem.W.mg_of X G a22,F23,b23,PySem.W.mg_of X G a23,F24,b24,PySem.W.mg_of X G a24,F25,b25,F26,b26,PySem.W.mg_of X G a26,F27,b27,PySem.W.mg_of X G a27,F28,b28_0,b28_1,F29,b29,F30,b30,PySem.W.mg_of X G a30,F31,b31,PySem.W.mg_of X G a31,F32,b32,F33,b33,PySem.W.mg_of X G a33,F34,b34,PySem.W.mg_of X G a34,PySem.W.mg_none_of X G z0,PySem.W.mg_none_of X G z1,PySem.W.mg_none_of X G z2,PySem.W.mg_none_of X G z3,PySem.W.mg_none_of X G z4,PySem.W.mg_none_of X G z5,PySem.W.mg_none_of X G z6,PySem.W.mg_none_of X G z7,PySem.W.mg_none_of X G z8,PySem.W.mg_none_of X G z9,PySem.W.mg_none_of X G z10,PySem.W.mg_none_of X G z11,PySem.W.mg_none_of X G z12,PySem.W.mg_none_of X G z13,PySem.W.mg_none_of X G z14,PySem.W.mg_none_of X G z15,PySem.W.mg_of X G kc_MOST_HANDS,PySem.W.mg_of X G kc_MOST_SEATS,PySem.W.mg_of X G mc_NoWay,⟨ty_NoWay,be_NoWay⟩,PySem.W.mg_of X G mc_Torn,⟨ty_Torn,be_Torn⟩,PySem.W.mg_of X G mc_TooHard,⟨ty_TooHard,be_TooHard⟩,PySem.W.mg_of X G mc_NoSheet,⟨ty_NoSheet,be_NoSheet⟩,PySem.W.mg_of X G mc_NoRow,⟨ty_NoRow,be_NoRow⟩,PySem.W.mg_of X G mc_NoNumber,⟨ty_NoNumber,be_NoNumber⟩,PySem.W.mg_of X G mc_NoChange,⟨ty_NoChange,be_NoChange⟩,PySem.W.mg_of X G mc_NoBundle,⟨ty_NoBundle,be_NoBundle⟩,PySem.W.mg_of X G mc_NoBallot,⟨ty_NoBallot,be_NoBallot⟩,PySem.W.mg_of X G mc_Ended,⟨ty_Ended,be_Ended⟩,PySem.W.mg_of X G mc_WrongNumber,⟨ty_WrongNumber,be_WrongNumber⟩,PySem.W.mg_of X G mc_PollError,⟨ty_PollError,be_PollError⟩,PySem.W.mg_of X G mc_Pairs,⟨pg_Pairs,hd_Pairs,po_Pairs,sa_Pairs⟩,⟨mm_Pairs,mi_Pairs,mf_Pairs,mk_Pairs⟩,⟨ma_Pairs_ahead,mn_Pairs_ahead,k14⟩,⟨ma_Pairs_picks_by,mn_Pairs_picks_by,k25⟩,⟨ma_Pairs_counted,mn_Pairs_counted,k29⟩,⟨ma_Pairs_told_by,mn_Pairs_told_by,k15⟩,⟨ma_Pairs_outcome,mn_Pairs_outcome,k32⟩,na_Pairs_hands,na_Pairs_seats,na_Pairs_lots,⟨ja_Pairs_Way,jb_Pairs_Way,jc_Pairs_Way,jd_Pairs_Way,je_Pairs_Way⟩,PySem.W.mg_of X G mc_Way,⟨pg_Way,hd_Way,po_Way,sa_Way⟩,xq_NoWay,⟨⟨ga_NoWay,gh_NoWay,be_NoWay⟩,cl_NoWay,gt0,tk0,ob_NoWay⟩,ve_NoWay,su_NoWay_NoWay,su_NoWay_Torn,su_NoWay_TooHard,su_NoWay_NoSheet,su_NoWay_NoRow,su_NoWay_NoNumber,su_NoWay_NoChange,su_NoWay_NoBundle,su_NoWay_NoBallot,su_NoWay_Ended,su_NoWay_WrongNumber,su_NoWay_PollError,LB,e3⟩
 exact ⟨PySem.W.fnOf "law" "law" (Al Di) (Ak Di) (Ae Di) .none kV34 dc34 pm34 an34 cd34 ct34,fun s v=>.of_eq rfl,fun base _ _ LB=>PD (T base LB)⟩
theorem walk {l:PySem.W.OpenLaw} {q:Program} {loose:List Str} {XP:(Str->Option Value)->Heap->Prop} {YP:World->Heap->Prop} {d dn:DefRec} {K:Params->PySem.W.Frag} (hn:l.most=some 63) (hdf:d.params.defaults=[])
 (hY:∀(w:World) (h:Heap),YP w h->(K w.params).In h) (hnt:∀p,K5 (K p)=true) (hdn:(PyProof.Rows.recsOf q).find? (fun e=>e.name == ("reached_from":Str))=some dn)
 (F:∀(w:World) (mg:Str->Option Value) (fa f c Pt:Addr) (h:Heap),(K w.params).In h->h.Ns mainGlobals mg->mg d.name=some (.ref fa)->mg "reached_from"=some (.ref f)->(∃o fd,h.get? f=some o/\o.data=.func fd/\fd.code=.ref c) ->
  ∃fd:FuncData,(∀(s:Shared) (u:Value),BindsTo s fd ⟨[u],[]⟩ [("_law_script",u)])/\∀base:Heap,(K w.params).In base->base.Ns mainGlobals mg->Ft base mg c Pt->AT l.prog w (K w.params) mg base CX0 7 fa fd ["_law_script"] (KH (K w.params) Pt)) :
 PySem.W.WalkO q loose XP YP l.row.toRowW d [] (fun f vs=>PySem.call f vs) :=
 L2.walk_of1 (n:=63) (k:=7) (x:="_law_script") (dn:=dn) (CX:=fun _=>CX0) (sp:=fun w Pt=>KH (K w.params) Pt) hn (by decide) hdf ⟨rfl,by decide,by decide⟩ hY hnt (List.mem_of_find?_eq_some hdn) (fun w mg fa f c Pt h k1 k2 k3 k4 k5=>F w mg fa f c Pt h k1 k2 k3 (by rw [<- show dn.name="reached_from" from beq_iff_eq.mp (List.find?_some (p:=fun e:DefRec=>e.name == ("reached_from":Str)) hdn)];exact k4) k5) (fun _ _ _ a ns hl hP hS=>⟨a,ns,rfl,hS,hl,hP,fun _=>rfl⟩) fun _ _ _ _ _ z=>z
end Law
open PySem PySem.W PyProof.Rows
set_option maxRecDepth 100000 in
set_option maxHeartbeats 0 in
theorem PySem.Challenge.cw_pollproof_k59_names_and_seats_holds : PySem.Challenge.rw_pollproof_k59_names_and_seats.Holds := by
 refine Head.top ?_
 k_fill
 refine Law.walk (l:=PySem.Challenge.rw_pollproof_k59_names_and_seats) (dn:=((recsOf Head.q0).find? fun e=>e.name == ("reached_from":Str)).get (by decide +kernel)) rfl rfl (fun w h Y=>PySem.W.km_in_of Y) ?nt (Option.some_get _).symm ?F
 case nt=>exact fun p=>by kernel_rfl
 case F =>
  intro w mg fa lf lc lP h KX G hmg hlf hlT
  refine' Law.all_mk KX G hmg hlf hlT ?a1 ?l1 ?c1 ?k1 ?a2 ?l2 ?c2 ?k2 ?a3 ?l3 ?c3 ?k3 ?a4 ?l4 ?c4 ?k4 ?a5 ?l5 ?c5 ?k5 ?a6 ?l6 ?c6 ?k6 ?a7 ?l7 ?c7 ?k7 ?a8 ?l8 ?c8 ?k8 ?a9 ?l9 ?c9 ?k9 ?a10 ?l10 ?c10 ?k10 ?a11 ?l11 ?c11 ?k11 ?a12 ?l12 ?c12 ?k12 ?a13 ?l13 ?c13 ?k13 ?l14 ?c14 ?k14 ?l15 ?c15 ?k15 ?a16 ?l16 ?c16 ?k16 ?a17 ?l17 ?c17 ?k17 ?a18 ?l18 ?c18 ?k18 ?a19 ?l19 ?c19 ?k19 ?a20 ?l20 ?c20 ?k20 ?a21 ?l21 ?c21 ?k21 ?a22 ?l22 ?c22 ?k22 ?a23 ?l23 ?c23 ?k23 ?a24 ?l24 ?c24 ?k24 ?l25 ?c25 ?k25 ?a26 ?l26 ?c26 ?k26 ?a27 ?l27 ?c27 ?k27 ?l28 ?c28 ?k28 ?dl28 ?l29 ?c29 ?k29 ?a30 ?l30 ?c30 ?k30 ?a31 ?l31 ?c31 ?k31 ?l32 ?c32 ?k32 ?a33 ?l33 ?c33 ?k33 ?a34 ?l34 ?c34 ?k34 ?z0 ?z1 ?z2 ?z3 ?z4 ?z5 ?z6 ?z7 ?z8 ?z9 ?z10 ?z11 ?z12 ?z13 ?z14 ?z15 ?kc_MOST_HANDS ?kc_MOST_SEATS ?mc_NoWay ?ty_NoWay ?be_NoWay ?mc_Torn ?ty_Torn ?be_Torn ?mc_TooHard ?ty_TooHard ?be_TooHard ?mc_NoSheet ?ty_NoSheet ?be_NoSheet ?mc_NoRow ?ty_NoRow ?be_NoRow ?mc_NoNumber ?ty_NoNumber ?be_NoNumber ?mc_NoChange ?ty_NoChange ?be_NoChange ?mc_NoBundle ?ty_NoBundle ?be_NoBundle ?mc_NoBallot ?ty_NoBallot ?be_NoBallot ?mc_Ended ?ty_Ended ?be_Ended ?mc_WrongNumber ?ty_WrongNumber ?be_WrongNumber ?mc_PollError ?ty_PollError ?be_PollError ?mc_Pairs ?pg_Pairs ?hd_Pairs ?po_Pairs ?sa_Pairs ?mm_Pairs ?mi_Pairs ?mf_Pairs ?mk_Pairs ?ma_Pairs_ahead ?mn_Pairs_ahead ?ma_Pairs_picks_by ?mn_Pairs_picks_by ?ma_Pairs_counted ?mn_Pairs_counted ?ma_Pairs_told_by ?mn_Pairs_told_by ?ma_Pairs_outcome ?mn_Pairs_outcome ?na_Pairs_hands ?na_Pairs_seats ?na_Pairs_lots ?ja_Pairs_Way ?jb_Pairs_Way ?jc_Pairs_Way ?jd_Pairs_Way ?je_Pairs_Way ?mc_Way ?pg_Way ?hd_Way ?po_Way ?sa_Way ?gt0 ?tk0 ?xq_NoWay ?ga_NoWay ?gh_NoWay ?cl_NoWay ?ob_NoWay ?ve_NoWay ?su_NoWay_NoWay ?su_NoWay_Torn ?su_NoWay_TooHard ?su_NoWay_NoSheet ?su_NoWay_NoRow ?su_NoWay_NoNumber ?su_NoWay_NoChange ?su_NoWay_NoBundle ?su_NoWay_NoBallot ?su_NoWay_Ended ?su_NoWay_WrongNumber ?su_NoWay_PollError
  (case a1=>k_is)
  (case l1=>k_is)
  (case c1=>k_is)
  (case k1=>k_is)
  (case a2=>k_is)
  (case l2=>k_is)
  (case c2=>k_is)
  (case k2=>k_is)
  (case a3=>k_is)
  (case l3=>k_is)
  (case c3=>k_is)
  (case k3=>k_is)
  (case a4=>k_is)
  (case l4=>k_is)
  (case c4=>k_is)
  (case k4=>k_is)
  (case a5=>k_is)
  (case l5=>k_is)
  (case c5=>k_is)
  (case k5=>k_is)
  (case a6=>k_is)
  (case l6=>k_is)
  (case c6=>k_is)
  (case k6=>k_is)
  (case a7=>k_is)
  (case l7=>k_is)
  (case c7=>k_is)
  (case k7=>k_is)
  (case a8=>k_is)
  (case l8=>k_is)
  (case c8=>k_is)
  (case k8=>k_is)
  (case a9=>k_is)
  (case l9=>k_is)
  (case c9=>k_is)
  (case k9=>k_is)
  (case a10=>k_is)
  (case l10=>k_is)
  (case c10=>k_is)
  (case k10=>k_is)
  (case a11=>k_is)
  (case l11=>k_is)
  (case c11=>k_is)
  (case k11=>k_is)
  (case a12=>k_is)
  (case l12=>k_is)
  (case c12=>k_is)
  (case k12=>k_is)
  (case a13=>k_is)
  (case l13=>k_is)
  (case c13=>k_is)
  (case k13=>k_is)
  (case a16=>k_is)
  (case l16=>k_is)
  (case c16=>k_is)
  (case k16=>k_is)
  (case a17=>k_is)
  (case l17=>k_is)
  (case c17=>k_is)
  (case k17=>k_is)
  (case a18=>k_is)
  (case l18=>k_is)
  (case c18=>k_is)
  (case k18=>k_is)
  (case a19=>k_is)
  (case l19=>k_is)
  (case c19=>k_is)
  (case k19=>k_is)
  (case a20=>k_is)
  (case l20=>k_is)
  (case c20=>k_is)
  (case k20=>k_is)
  (case a21=>k_is)
  (case l21=>k_is)
  (case c21=>k_is)
  (case k21=>k_is)
  (case a22=>k_is)
  (case l22=>k_is)
  (case c22=>k_is)
  (case k22=>k_is)
  (case a23=>k_is)
  (case l23=>k_is)
  (case c23=>k_is)
  (case k23=>k_is)
  (case a24=>k_is)
  (case l24=>k_is)
  (case c24=>k_is)
  (case k24=>k_is)
  (case a26=>k_is)
  (case l26=>k_is)
  (case c26=>k_is)
  (case k26=>k_is)
  (case a27=>k_is)
  (case l27=>k_is)
  (case c27=>k_is)
  (case k27=>k_is)
  (case a30=>k_is)
  (case l30=>k_is)
  (case c30=>k_is)
  (case k30=>k_is)
  (case a31=>k_is)
  (case l31=>k_is)
  (case c31=>k_is)
  (case k31=>k_is)
  (case a33=>k_is)
  (case l33=>k_is)
  (case c33=>k_is)
  (case k33=>k_is)
  (case a34=>k_is)
  (case l34=>k_is)
  (case c34=>k_is)
  (case k34=>k_is)
  (case z0=>k_is)
  (case z1=>k_is)
  (case z2=>k_is)
  (case z3=>k_is)
  (case z4=>k_is)
  (case z5=>k_is)
  (case z6=>k_is)
  (case z7=>k_is)
  (case z8=>k_is)
  (case z9=>k_is)
  (case z10=>k_is)
  (case z11=>k_is)
  (case z12=>k_is)
  (case z13=>k_is)
  (case z14=>k_is)
  (case z15=>k_is)
  (case kc_MOST_HANDS=>k_is)
  (case kc_MOST_SEATS=>k_is)
  (case mc_NoWay=>k_is)
  (case ty_NoWay=>k_is)
  (case be_NoWay=>k_is)
  (case mc_Torn=>k_is)
  (case ty_Torn=>k_is)
  (case be_Torn=>k_is)
  (case mc_TooHard=>k_is)
  (case ty_TooHard=>k_is)
  (case be_TooHard=>k_is)
  (case mc_NoSheet=>k_is)
  (case ty_NoSheet=>k_is)
  (case be_NoSheet=>k_is)
  (case mc_NoRow=>k_is)
  (case ty_NoRow=>k_is)
  (case be_NoRow=>k_is)
  (case mc_NoNumber=>k_is)
  (case ty_NoNumber=>k_is)
  (case be_NoNumber=>k_is)
  (case mc_NoChange=>k_is)
  (case ty_NoChange=>k_is)
  (case be_NoChange=>k_is)
  (case mc_NoBundle=>k_is)
  (case ty_NoBundle=>k_is)
  (case be_NoBundle=>k_is)
  (case mc_NoBallot=>k_is)
  (case ty_NoBallot=>k_is)
  (case be_NoBallot=>k_is)
  (case mc_Ended=>k_is)
  (case ty_Ended=>k_is)
  (case be_Ended=>k_is)
  (case mc_WrongNumber=>k_is)
  (case ty_WrongNumber=>k_is)
  (case be_WrongNumber=>k_is)
  (case mc_PollError=>k_is)
  (case ty_PollError=>k_is)
  (case be_PollError=>k_is)
  (case mc_Pairs=>k_is)
  (case pg_Pairs=>k_is)
  (case hd_Pairs=>k_is)
  (case po_Pairs=>k_is)
  (case sa_Pairs=>k_is)
  (case mm_Pairs=>k_is)
  (case mi_Pairs=>k_is)
  (case mf_Pairs=>k_is)
  (case mk_Pairs=>k_is)
  (case ma_Pairs_ahead=>k_is)
  (case mn_Pairs_ahead=>k_is)
  (case ma_Pairs_picks_by=>k_is)
  (case mn_Pairs_picks_by=>k_is)
  (case ma_Pairs_counted=>k_is)
  (case mn_Pairs_counted=>k_is)
  (case ma_Pairs_told_by=>k_is)
  (case mn_Pairs_told_by=>k_is)
  (case ma_Pairs_outcome=>k_is)
  (case mn_Pairs_outcome=>k_is)
  (case na_Pairs_hands=>k_is)
  (case na_Pairs_seats=>k_is)
  (case na_Pairs_lots=>k_is)
  (case ja_Pairs_Way=>k_is)
  (case jb_Pairs_Way=>k_is)
  (case jc_Pairs_Way=>k_is)
  (case jd_Pairs_Way=>k_is)
  (case je_Pairs_Way=>kernel_rfl)
  (case mc_Way=>k_is)
  (case pg_Way=>k_is)
  (case hd_Way=>k_is)
  (case po_Way=>k_is)
  (case sa_Way=>k_is)
  (case gt0=>k_is)
  (case tk0=>k_is)
  (case xq_NoWay=>k_exc)
  (case ga_NoWay=>k_is)
  (case gh_NoWay=>k_is)
  (case cl_NoWay=>k_is)
  (case ob_NoWay=>k_is)
  (case ve_NoWay=>k_is)
  (case su_NoWay_NoWay=>k_is)
  (case su_NoWay_Torn=>k_is)
  (case su_NoWay_TooHard=>k_is)
  (case su_NoWay_NoSheet=>k_is)
  (case su_NoWay_NoRow=>k_is)
  (case su_NoWay_NoNumber=>k_is)
  (case su_NoWay_NoChange=>k_is)
  (case su_NoWay_NoBundle=>k_is)
  (case su_NoWay_NoBallot=>k_is)
  (case su_NoWay_Ended=>k_is)
  (case su_NoWay_WrongNumber=>k_is)
  (case su_NoWay_PollError=>k_is)
  (case l14=>k_is)
  (case c14=>k_is)
  (case k14=>k_is)
  (case l15=>k_is)
  (case c15=>k_is)
  (case k15=>k_is)
  (case l25=>k_is)
  (case c25=>k_is)
  (case k25=>k_is)
  (case l28=>k_is)
  (case c28=>k_is)
  (case k28=>k_is)
  (case dl28=>k_is)
  (case l29=>k_is)
  (case c29=>k_is)
  (case k29=>k_is)
  (case l32=>k_is)
  (case c32=>k_is)
  (case k32=>k_is)
#print axioms PySem.Challenge.cw_pollproof_k59_names_and_seats_holds
