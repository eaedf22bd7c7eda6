import PyProof.Rows.All
import Wide.All
import OpenK.AllK
import Wide.FinOn
import Lean
import PyProof.EqAt
import PyProof.EqKinds
import PyProof.TupleCall
import PySem.Challenge.RW_pollproof_k49_papers_of_seats_let_by
open List
set_option Elab.async false
set_option linter.all false
set_option compiler.extract_closed false
set_option maxRecDepth 100000
namespace Head
open PySem PySem.W PyProof.Rows
def QY (p:Program) (w:World) (n0:Nat) (ann:Option Value):Nat->SharedT->Thread->Option SharedT
 | 0,_,_=>none
 | n+1,s,t=>match through t with
   | true=>some s
   | false=>match stepOk n0 ann t with
     | false=>none
     | true=>match stepT (denote treeTable) p w s t with
       | some (s',t')=>QY p w n0 ann n s' t'
       | none=>none
theorem Nr {p:Program} {w:World} {n0:Nat} {ann:Option Value}:∀{n:Nat} {s s':SharedT} {t:Thread},QY p w n0 ann n s t=some s'->topRun treeTable p w n0 ann n s.abs t=some s'.abs
 | 0,_,_,_,h=>by cases h
 | n+1,s,s',t,h=>by
   unfold QY at h
   unfold topRun
   cases he:through t with
   | true=>rw [he] at h;cases h;rfl
   | false =>
     rw [he] at h
     cases hk:stepOk n0 ann t with
     | false=>rw [hk] at h;cases h
     | true =>
       rw [hk] at h
       cases hs:stepT (denote treeTable) p w s t with
       | none=>rw [hs] at h;cases h
       | some r=>obtain ⟨s2,t2⟩:=r;rw [hs] at h;rw [stepT_spec hs];exact Nr h
def Od:List Obj->Nat->BT->Option BT
 | [],_,t=>some t
 | o :: os,n,t=>match ((t.ins n o).get n).isSome with
   | true=>Od os (n+1) (t.ins n o)
   | false=>none
theorem Nf {life:Life}:∀{os:List Obj} {n:Nat} {t t':BT} {xs:List Obj},(absHeap t n life)=⟨xs.toArray,life⟩->Od os n t=some t'->absHeap t' (n+os.length) life=⟨(xs++os).toArray,life⟩
 | [],n,t,t',xs,a,h=>by
   cases h
   rw [append_nil]
   exact a
 | o :: os,n,t,t',xs,a,h=>by
   unfold Od at h
   cases g:((t.ins n o).get n).isSome with
   | false=>rw [g] at h;cases h
   | true =>
     rw [g] at h
     have b:absHeap (t.ins n o) (n+1) life=⟨(xs++[o]).toArray,life⟩:=by
      rw [absHeap_ins g,a]
      show (⟨xs.toArray.push o,life⟩:Heap)=_
      rw [push_toArray]
     have c:=Nf b h
     rw [append_assoc] at c
     rw [length_cons,show n+(os.length+1)=n+1+os.length by omega]
     exact c
theorem Pk {H:Heap} {T:BT} (h:Od H.objs.toList 0 .nil=some T):absHeap T H.objs.size H.life=H:=by
 have c:=Nf (life:=H.life) (n:=0) (t:=.nil) (xs:=[]) rfl h
 rw [Nat.zero_add,Array.length_toList] at c
 rw [c]
 obtain ⟨a,l⟩:=H
 show (⟨([]++a.toList).toArray,l⟩:Heap)=⟨a,l⟩
 rw [nil_append,Array.toArray_toList]
theorem left {p q:Program} {loose:List PySem.Str} {Xt:Shared->Bool} {α:Type} {Yf:Shared->α} {Ya:World->α} {N:Nat} {g0:Bool}
 (e:opening p=plainProg p.main.scope.names) (hN:Nat.ble 600 N=true) (f:∀s,fenceModules? p s=some s)
 (h:∀(w:World) (os:OsState),((Od (boot_heap w.params).objs.toList 0 .nil).bind fun T=>(QY p w (boot_heap w.params).objs.size ((boot_heap w.params).nsMap mainGlobals "__annotations__") N ⟨T,(boot_heap w.params).objs.size,(boot_heap w.params).life,Array.mk [],boot_drawn,boot_toks,os⟩ (topStub p)).map fun s =>
  (((boot_heap w.params).isNs mainGlobals,staticsOk (importedModules p.main.body) (boot_heap w.params) s.abs.heap && namesBound p s.abs.heap && gensDone s.abs && laidKept (boot_heap w.params) s.abs.heap),openSeen q loose (importedModules p.main.body) Xt g0 s.abs,Yf s.abs)) =
  some ((true,true),openGood q loose,Ya w)):LeftO p q loose Xt Yf Ya N g0:=fun w=>by
 obtain ⟨⟨hp,gs,d,k,os⟩,e1,e2⟩:=Option.map_eq_some_iff.mp (boot_open e hN f w)
 obtain ⟨rfl,rfl,rfl,rfl⟩:hp=boot_heap w.params/\gs=Array.mk []/\d=boot_drawn/\k=boot_toks:=by simpa using e2
 have z:=h w os
 cases gT:Od (boot_heap w.params).objs.toList 0 .nil with
 | none=>rw [gT] at z;cases z
 | some T =>
   rw [gT] at z
   obtain ⟨s,r,y⟩:=Option.map_eq_some_iff.mp z
   have r':=Nr r
   injection y with y1 y2
   injection y1 with y3 y4
   injection y2 with y5 y6
   have a:(⟨T,(boot_heap w.params).objs.size,(boot_heap w.params).life,Array.mk [],boot_drawn,boot_toks,os⟩:SharedT).abs=⟨boot_heap w.params,Array.mk [],boot_drawn,boot_toks,os⟩:=by
    unfold SharedT.abs
    rw [Pk gT]
   rw [a] at r'
   unfold openEnds
   rw [e1]
   show (topFrom treeTable p w N _).map _=_
   have t:topFrom treeTable p w N ⟨boot_heap w.params,Array.mk [],boot_drawn,boot_toks,os⟩=some s.abs:=by
    unfold topFrom
    dsimp only
    rw [y3,r']
    show (match staticsOk (importedModules p.main.body) (boot_heap w.params) s.abs.heap && namesBound p s.abs.heap && gensDone s.abs && laidKept (boot_heap w.params) s.abs.heap with | true=>_ | false=>_)=_
    rw [y4]
   rw [t]
   exact congrArg some (Prod.ext y5 y6)
end Head
namespace Head
open PySem PySem.W PyProof.Rows
abbrev q0:Program:=view PySem.Challenge.pw_pollproof_k49_papers_of_seats_let_by [64]
abbrev r0:OpenRow:=OpenLaw.row PySem.Challenge.rw_pollproof_k49_papers_of_seats_let_by
local macro_rules | `(tactic| o_head $H)=>do
 let (hl,hw,hc):=(Lean.mkIdent `hl,Lean.mkIdent `hw,Lean.mkIdent `hc)
 `(tactic| (
   refine holds_open (r:=r0) (q:=q0) (loose:=[PySem.Str.ofString "_wall",PySem.Str.ofString "PollError",PySem.Str.ofString "NoNumber",PySem.Str.ofString "NoWay",PySem.Str.ofString "is_whole",PySem.Str.ofString "divisor",PySem.Str.ofString "MOST_HANDS",PySem.Str.ofString "MOST_SEATS",PySem.Str.ofString "are_hands",PySem.Str.ofString "are_seats",PySem.Str.ofString "are_lots",PySem.Str.ofString "Way",PySem.Str.ofString "Checker",PySem.Str.ofString "SeatsChecker",PySem.Str.ofString "all_of",PySem.Str.ofString "holds",PySem.Str.ofString "without",PySem.Str.ofString "size",PySem.Str.ofString "members",PySem.Str.ofString "lies",PySem.Str.ofString "fraction",PySem.Str.ofString "minus",PySem.Str.ofString "times",PySem.Str.ofString "parted",PySem.Str.ofString "under",PySem.Str.ofString "begin",PySem.Str.ofString "even_part",PySem.Str.ofString "table_row",PySem.Str.ofString "table",PySem.Str.ofString "common_bottom",PySem.Str.ofString "weighed",PySem.Str.ofString "tallies",PySem.Str.ofString "share_at",PySem.Str.ofString "part_kept",PySem.Str.ofString "with_kept",PySem.Str.ofString "kept_by",PySem.Str.ofString "state_behind",PySem.Str.ofString "ballots_in",PySem.Str.ofString "MOST_PLACES",PySem.Str.ofString "Seats",PySem.Str.ofString "_law_cell",PySem.Str.ofString "_law_mixed",PySem.Str.ofString "_law_lots",PySem.Str.ofString "_law_mask",PySem.Str.ofString "_law_slip",PySem.Str.ofString "_law_number",PySem.Str.ofString "_law_sheet",PySem.Str.ofString "_law_copy",PySem.Str.ofString "_law_other",PySem.Str.ofString "_law_deed",PySem.Str.ofString "_law_longer",PySem.Str.ofString "_law_rounds",PySem.Str.ofString "_law_spoilt"]) (N:=100000)
    (Xt:=fun s=>xlAt q0 [] s && recOk (RowW.records (OpenRow.toRowW r0)) s)
    (XP:=XL q0 []) (Yf:=Hook.obs $H) (Ya:=Hook.val $H) (YP:=Hook.says $H)
    ?$hl (Hook.of $H) (Hook.keeps $H) (fun s e=>xl_of s (Bool.and_eq_true_iff.mp e).1) XL.keeps
    (by rfl) (by rfl) (by rfl) (fun s e=>recFacts_of (Bool.and_eq_true_iff.mp e).2) (by rfl) (by assumption)
    (by decide +kernel) ⟨rfl,rfl,rfl,rfl,rfl,by decide +kernel⟩ ?$hw ?$hc;
   (next=>(exact left (by kernel_rfl) (by decide) (fun s=>by kernel_rfl) (fun w os=>by kernel_rfl)))))
set_option maxRecDepth 100000 in
set_option maxHeartbeats 0 in
open_top top for PySem.Challenge.rw_pollproof_k49_papers_of_seats_let_by
end Head
namespace L2
open PySem PySem.Spec PyProof.Rows
abbrev Key:=Sum Int Str
def G8:Key->Value->Bool
 | .inl k,v=>Value.isInt k v
 | .inr x,v=>Value.isStrOf x v
def TC (w:World):Key->Int
 | .inl k=>hashInt k
 | .inr x=>hashStr w x
theorem Bb:∀{k:Key} {v:Value},G8 k v=true->(∃i t,k=Sum.inl i/\v=Value.int i t)\/(∃x t,k=Sum.inr x/\v=Value.str x t)
 | .inl i,v,h=>by
   obtain ⟨t,e⟩:=Value.isInt_shape (k:=i) (v:=v) h
   exact .inl ⟨i,t,rfl,e⟩
 | .inr x,v,h=>by
   obtain ⟨t,e⟩:=Value.isStrOf_shape (x:=x) (v:=v) h
   exact .inr ⟨x,t,rfl,e⟩
theorem NL (i:Int) (t:Tok):G8 (.inl i) (.int i t)=true:=by simp [G8,Value.isInt]
theorem Oe (x:Str) (t:Tok):G8 (.inr x) (.str x t)=true:=by simp [G8,Value.isStrOf]
theorem SX (a b:Int):decide ((Sum.inl a:Key)=Sum.inl b)=(a == b):=by
 by_cases e:a=b
 ·subst e;simp
 ·have h:¬ (Sum.inl a:Key)=Sum.inl b:=fun q=>e (Sum.inl.inj q)
  rw [decide_eq_false h]
  exact (beq_eq_false_iff_ne.mpr e).symm
theorem RW (a b:Str):decide ((Sum.inr a:Key)=Sum.inr b)=decide (a=b):=by
 by_cases e:a=b
 ·subst e;simp
 ·have h:¬ (Sum.inr a:Key)=Sum.inr b:=fun q=>e (Sum.inr.inj q)
  rw [decide_eq_false h,decide_eq_false e]
theorem Sw (a:Int) (b:Str):decide ((Sum.inl a:Key)=Sum.inr b)=false:=decide_eq_false (fun q=>nomatch q)
theorem Sc (a:Str) (b:Int):decide ((Sum.inr a:Key)=Sum.inl b)=false:=decide_eq_false (fun q=>nomatch q)
def AL (prog:Program) (w:World):PySem.KeyKind prog w Key where
 is:=G8
 hash:=TC w
 inj:=fun v a b ha hb=>by
  rcases Bb ha with ⟨i,t,rfl,rfl⟩ | ⟨x,t,rfl,rfl⟩
  ·rcases Bb hb with ⟨j,u,rfl,e⟩ | ⟨y,u,rfl,e⟩
   ·injection e with e1 _;rw [e1]
   ·exact nomatch e
  ·rcases Bb hb with ⟨j,u,rfl,e⟩ | ⟨y,u,rfl,e⟩
   ·exact nomatch e
   ·injection e with e1 _;rw [e1]
 byValue:=fun k v h=>by
  rcases Bb h with ⟨i,t,rfl,rfl⟩ | ⟨x,t,rfl,rfl⟩ <;> rfl
 pyHash:=fun hv h=>by
  rcases Bb hv with ⟨i,t,rfl,rfl⟩ | ⟨x,t,rfl,rfl⟩
  ·exact wpAny_pyHash_int h
  ·exact wpAny_pyHash_str h
 eqBool:=fun hu hv h=>by
  rcases Bb hu with ⟨i,t,rfl,rfl⟩ | ⟨x,t,rfl,rfl⟩
  ·rcases Bb hv with ⟨j,u,rfl,rfl⟩ | ⟨y,u,rfl,rfl⟩
   ·rw [SX] at h;exact wpAny_eqBool_int h
   ·rw [Sw] at h;exact SeqAt.EqAt.int_str i t y u _ _ _ _ h
  ·rcases Bb hv with ⟨j,u,rfl,rfl⟩ | ⟨y,u,rfl,rfl⟩
   ·rw [Sc] at h;exact SeqAt.EqAt.str_int x t j u _ _ _ _ h
   ·rw [RW] at h;exact wpAny_eqBool_str h
 «strs»:=fun k x t v h=>by
  rcases Bb h with ⟨i,u,rfl,e⟩ | ⟨y,u,rfl,e⟩
  ·exact nomatch e
  ·injection e with e1 _
   subst e1
   cases v <;> rfl
theorem KR (prog:Program) (w:World) (i:Int) (t:Tok):(AL prog w).is (.inl i) (.int i t)=true:=NL i t
theorem Lw (prog:Program) (w:World) (x:Str) (t:Tok):(AL prog w).is (.inr x) (.str x t)=true:=Oe x t
end L2
namespace L2
open PySem PySem.Spec PyProof.Rows
inductive V where
 | non | bl (b:Bool) | int (i:Int) | str (x:Str) | byt (b:Array UInt8) | flt (b:UInt64) | ref (a:Addr) | ty (n:String)
 deriving DecidableEq
def AE:V->Value->Prop
 | .non,u=>u=Value.none
 | .bl b,u=>u=Value.bool b
 | .int i,u=>∃t,u=Value.int i t
 | .str x,u=>∃t,u=Value.str x t
 | .byt b,u=>∃t,u=Value.bytes b t
 | .flt b,u=>∃t,u=Value.float b t
 | .ref a,u=>u=Value.ref a
 | .ty n,u=>u=Value.type n
abbrev A9:List V->List Value->Prop:=Paired AE
theorem A9.length {xs:List V} {us:List Value} (r:A9 xs us):xs.length=us.length:=Paired.length r
theorem A9.get:∀{xs:List V} {us:List Value} {i:Nat} {x:V},A9 xs us->xs[i]?=some x->∃u,us[i]?=some u/\AE x u
 | _,_,_,_,.nil,e=>by simp at e
 | _,_,0,_,.cons r _,e=>by simp at e;subst e;exact ⟨_,rfl,r⟩
 | _,_,i+1,x,.cons _ t,e=>by
   obtain ⟨u,h1,h2⟩:=A9.get (i:=i) (x:=x) t (by simpa using e)
   exact ⟨u,by simpa using h1,h2⟩
theorem A9.set {x:V} {u:Value} (r:AE x u):∀{xs:List V} {us:List Value} (i:Nat),A9 xs us->A9 (xs.set i x) (us.set i u)
 | _,_,_,.nil=>.nil
 | _,_,0,.cons _ t=>.cons r t
 | _,_,i+1,.cons q t=>.cons q (A9.set r i t)
theorem A9.append:∀{xs ys:List V} {us ws:List Value},A9 xs us->A9 ys ws->A9 (xs++ys) (us++ws)
 | _,_,_,_,.nil,s=>s
 | _,_,_,_,.cons r t,s=>.cons r (A9.append t s)
theorem A9.take:∀{xs:List V} {us:List Value} (n:Nat),A9 xs us->A9 (xs.take n) (us.take n)
 | _,_,0,_=>.nil
 | _,_,_+1,.nil=>.nil
 | _,_,n+1,.cons r t=>.cons r (A9.take n t)
theorem A9.drop:∀{xs:List V} {us:List Value} (n:Nat),A9 xs us->A9 (xs.drop n) (us.drop n)
 | _,_,0,r=>r
 | _,_,_+1,.nil=>.nil
 | _,_,n+1,.cons _ t=>A9.drop n t
def Eh:Option V->Option Value->Prop
 | some v,some u=>AE v u
 | none,none=>True
 | _,_=>False
def KV {κ:Type}:List (κ × V)->List (κ × Value)->Prop:=Paired fun (p:κ × V) (q:κ × Value)=>p.1=q.1/\AE p.2 q.2
def kV:Key->V
 | .inl i=>.int i
 | .inr x=>.str x
inductive HO where
 | lst (xs:List V)
 | tup (xs:List V)
 | dK (kvs:List (Key × V)) | dT (kvs:List (List Key × V))
 | set (S:Int->Bool) (n:Nat)
 | ins (C dx:Addr) (fs:List (Str × V))
 | own (x:Addr)
 | xd (fs:List (Str × V))
 | met (f x:Addr)
 | rng (lo hi:Int)
 | frz (o:Obj) (u:HO)
 | tbl (ps:Array Value)
 | ext (φ:Heap->Prop)
abbrev Hp:=Addr->Option HO
def upd (H:Hp) (a:Addr) (o:HO):Hp:=fun b=>if b=a then some o else H b
theorem Ab {H:Hp} {a:Addr} {o:HO}:upd H a o a=some o:=by unfold upd;rw [if_pos rfl]
theorem Al {H:Hp} {a b:Addr} {o:HO} (h:b≠a):upd H a o b=H b:=by unfold upd;rw [if_neg h]
theorem Dk {H:Hp} {a:Addr} {o u:HO}:upd (upd H a o) a u=upd H a u:=by
 funext b;unfold upd;split <;> rfl
theorem Cw {H:Hp} {a b:Addr} {o u:HO} (h:H a=some o) (h':H b=some u) (d:o≠u):a≠b:=by
 intro e;subst e;rw [h] at h';exact d (Option.some.inj h')
theorem AY {H:Hp} {a b:Addr} {o:HO} (h:H a=some o) (h':H b=none):a≠b:=by
 intro e;subst e;rw [h] at h';cases h'
section
variable (P:Program) (w:World)
def AN (H:Hp) (h:Heap) (a:Addr):HO->Prop
 | .lst xs=>xs.length<=sizeLine/\∃(its:List Value) (n:Nat),A9 xs its/\h.get? a=some { cls:=.type "list",data:=.seq its.toArray n }
 | .tup xs=>xs.length<=sizeLine/\∃its:List Value,A9 xs its/\IsTup h a its.toArray
 | .dK kvs=>kvs.length<=sizeLine/\(a == sysModules)=false/\∃vs,KV kvs vs/\h.DictOf (AL P w) a vs
 | .dT kvs=>kvs.length<=sizeLine/\(a == sysModules)=false/\∃xs:List (List Key × Addr × Value),
  Paired (fun (p:List Key × V) (q:List Key × Addr × Value)=>p.1=q.1/\H q.2.1=some (.tup (p.1.map kV))/\AE p.2 q.2.2) kvs xs /\
  ∃o es ep,h.get? a=some o/\o.ExactDict/\o.data=.dict es ep/\es.toList=xs.map (entryOfKey (tupleKind (AL P w)))/\(xs.map (·.1)).Nodup
 | .set S n=>h.SetOf (intKind P w) a S n
 | .ins C dx fs=>H dx=some (.own a)/\fs.length<=1000/\dx≠a/\h.get? a=some (PySem.W.instObj C dx) /\
  ∃mA,h.Ns1 dx mA/\(∀f,Eh (fs.lookup f) (mA f))/\PySem.Within mA (fs.map (·.1))
 | .own _=>∃o,h.get? a=some o
 | .xd fs=>∃mA,h.Ns1 a mA/\∀f,Eh (fs.lookup f) (mA f)
 | .rng lo hi=>∃t u v,h.get? a=some { cls:=.type "range",data:=.fields #[.int lo t,.int hi u,.int 1 v] }
 | .frz o u=>h.get? a=some o/\AN H h a u
 | .tbl ps=>h.get? a=some { cls:=.none,data:=.fields ps }
 | .met f x=>h.get? a=some (PySem.W.methodObj (.ref f) (.ref x))
 | .ext φ=>φ h/\(∃o,h.get? a=some o)/\∀h1 h2:Heap,φ h1->(∀o,h1.get? a=some o->h2.get? a=some o)->φ h2
def HOk (H:Hp) (h:Heap):Prop:=∀a o,H a=some o->AN P w H h a o
end
section
variable {P:Program} {w:World} {H H':Hp} {h h':Heap} {a:Addr} {o:HO}
theorem AN.lt (x:AN P w H h a o):a < h.objs.size:=by
 cases o with
 | lst xs=>obtain ⟨_,_,_,_,e⟩:=x;exact Heap.lt_size e
 | tup xs=>obtain ⟨_,_,_,p⟩:=x;exact p.lt
 | dK kvs=>obtain ⟨_,_,_,_,o,_,_,e,_⟩:=x;exact Heap.lt_size e
 | dT kvs=>obtain ⟨_,_,_,_,o,_,_,e,_⟩:=x;exact Heap.lt_size e
 | set S n=>obtain ⟨o,_,_,_,e,_⟩:=x;exact Heap.lt_size e
 | ins C dx fs=>obtain ⟨_,_,_,e,_⟩:=x;exact Heap.lt_size e
 | own y=>obtain ⟨_,e⟩:=x;exact Heap.lt_size e
 | xd fs=>obtain ⟨_,⟨_,_,_,e,_⟩,_⟩:=x;exact Heap.lt_size e
 | rng lo hi=>obtain ⟨_,_,_,e⟩:=x;exact Heap.lt_size e
 | frz ob u=>obtain ⟨e,_⟩:=x;exact Heap.lt_size e
 | tbl ps=>exact Heap.lt_size (show h.get? a=some _ from x)
 | met f y=>exact Heap.lt_size (show h.get? a=some _ from x)
 | ext φ=>obtain ⟨_,⟨_,e⟩,_⟩:=x;exact Heap.lt_size e
theorem Paired.mapP {α β:Type} {F G:α->β->Prop}:∀{l₁:List α} {l₂:List β},Paired F l₁ l₂->(∀a b,F a b->G a b)->Paired G l₁ l₂
 | _,_,.nil,_=>.nil
 | _,_,.cons r t,f=>.cons (f _ _ r) (Paired.mapP t f)
theorem AN.stay (x:AN P w H h a o) (k:∀b u,(b=a\/H b=some (.own a))->h.get? b=some u->h'.get? b=some u)
 (ho:∀b,H b=some (.own a)->H' b=some (.own a)) (ht:∀b xs,H b=some (.tup xs)->H' b=some (.tup xs)):AN P w H' h' a o:=by
 induction o with
 | lst xs=>obtain ⟨z,its,n,r,e⟩:=x;exact ⟨z,its,n,r,k _ _ (.inl rfl) e⟩
 | tup xs=>obtain ⟨z,its,r,ob,e,c⟩:=x;exact ⟨z,its,r,ob,k _ _ (.inl rfl) e,c⟩
 | dK kvs=>obtain ⟨z,y,vs,r,ob,es,ep,e,c⟩:=x;exact ⟨z,y,vs,r,ob,es,ep,k _ _ (.inl rfl) e,c⟩
 | dT kvs =>
   obtain ⟨z,y,xs,r,ob,es,ep,e,c⟩:=x
   exact ⟨z,y,xs,Paired.mapP r fun p q z=>⟨z.1,ht _ _ z.2.1,z.2.2⟩,ob,es,ep,k _ _ (.inl rfl) e,c⟩
 | set S n=>obtain ⟨ob,es,ep,t,e,c⟩:=x;exact ⟨ob,es,ep,t,k _ _ (.inl rfl) e,c⟩
 | ins C dx fs =>
   obtain ⟨d,z,ne,e,mA,⟨od,es,ep,e2,c⟩,r⟩:=x
   exact ⟨ho _ d,z,ne,k _ _ (.inl rfl) e,mA,⟨od,es,ep,k _ _ (.inr d) e2,c⟩,r⟩
 | own y=>obtain ⟨ob,e⟩:=x;exact ⟨ob,k _ _ (.inl rfl) e⟩
 | xd fs=>obtain ⟨mA,⟨od,es,ep,e,c⟩,r⟩:=x;exact ⟨mA,⟨od,es,ep,k _ _ (.inl rfl) e,c⟩,r⟩
 | rng lo hi=>obtain ⟨t,u,v,e⟩:=x;exact ⟨t,u,v,k _ _ (.inl rfl) e⟩
 | frz ob u ih=>obtain ⟨e,q⟩:=x;exact ⟨k _ _ (.inl rfl) e,ih q⟩
 | tbl ps =>
   have e:h.get? a=some { cls:=.none,data:=.fields ps }:=x
   show h'.get? a=some { cls:=.none,data:=.fields ps }
   exact k a _ (.inl rfl) e
 | met f y =>
   have e:h.get? a=some (PySem.W.methodObj (.ref f) (.ref y)):=x
   show h'.get? a=some (PySem.W.methodObj (.ref f) (.ref y))
   exact k a _ (.inl rfl) e
 | ext φ=>obtain ⟨p,⟨o,e⟩,st⟩:=x;exact ⟨st _ _ p fun o q=>k _ _ (.inl rfl) q,⟨o,k _ _ (.inl rfl) e⟩,st⟩
theorem HOk.lt (x:HOk P w H h) (e:H a=some o):a < h.objs.size:=(x a o e).lt
theorem HOk.fresh (x:HOk P w H h) (e:h.objs.size<=a):H a=none:=by
 cases q:H a with
 | none=>rfl
 | some u=>exact absurd (Nat.lt_of_lt_of_le (x.lt q) e) (Nat.lt_irrefl _)
theorem HOk.kept (x:HOk P w H h) (k:∀b u,h.get? b=some u->h'.get? b=some u):HOk P w H h':=fun a o e =>
 (x a o e).stay (fun b u _ q=>k b u q) (fun _ q=>q) fun _ _ q=>q
theorem HOk.laid (x:HOk P w H h) (k:∀b u,h.get? b=some u->h'.get? b=some u) (hp:h.objs.size<=a) (new:AN P w (upd H a o) h' a o):HOk P w (upd H a o) h':=fun b u e=>by
 have hn:=x.fresh hp
 by_cases hb:b=a
 ·subst hb;rw [Ab] at e;cases e;exact new
 ·rw [Al hb] at e
  exact (x b u e).stay (fun c v _ q=>k c v q) (fun c q=>by rw [Al (AY q hn)];exact q) fun c xs q=>by rw [Al (AY q hn)];exact q
end
def Rd (H:Hp) (a:Addr) (u:HO):Prop:=H a=some u\/∃o,H a=some (.frz o u)
theorem Rd.ok {P:Program} {w:World} {H:Hp} {h:Heap} {a:Addr} {u:HO} (r:Rd H a u) (x:HOk P w H h):AN P w H h a u:=by
 rcases r with r | ⟨o,r⟩
 ·exact x a u r
 ·obtain ⟨_,q⟩:=x a _ r
  exact q
def Mut:Option HO->Prop
 | some (.lst _)=>True
 | some (.dK _)=>True
 | some (.dT _)=>True
 | some (.set _ _)=>True
 | some (.ins _ _ _)=>True
 | some (.ext _)=>True
 | _=>False
section
variable {P:Program} {w:World} {H:Hp} {h h':Heap} {x e:Addr} {o':HO}
theorem HOk.write (ok:HOk P w H h) (mu:Mut (H x)) (he:e=x\/H e=some (.own x)) (k:∀b u,b≠e->h.get? b=some u->h'.get? b=some u) (heo:∃u,h'.get? e=some u)
 (new:AN P w (upd H x o') h' x o'):HOk P w (upd H x o') h':=fun b u q=>by
 have nown:∀c y,H c=some (.own y)->c≠x:=fun c y r z=>by subst z;rw [r] at mu;exact mu
 have ntup:∀c xs,H c=some (.tup xs)->c≠x:=fun c xs r z=>by subst z;rw [r] at mu;exact mu
 by_cases hb:b=x
 ·subst hb;rw [Ab] at q;cases q;exact new
 ·rw [Al hb] at q
  by_cases hbe:b=e
  ·have q':H b=some (.own x):=by
    rcases he with z | z
    ·exact absurd (hbe.trans z) hb
    ·rw [hbe];exact z
   rw [q] at q';cases q'
   obtain ⟨v,hv⟩:=heo
   exact ⟨v,by rw [hbe];exact hv⟩
  ·refine (ok b u q).stay (fun c v hc r=>k c v ?_ r) (fun c r=>by rw [Al (nown c b r)];exact r) fun c xs r=>by rw [Al (ntup c xs r)];exact r
   rcases hc with rfl | hc
   ·exact hbe
   ·rintro rfl
    rcases he with z | z
    ·exact nown c b hc z
    ·rw [hc] at z;cases z;exact hb rfl
end
structure Un (fs ex:List Addr) (H H':Hp) (h h':Heap):Prop where
 keep:∀b o,h.get? b=some o->H b=none->b ∉ fs->b ∉ ex->h'.get? b=some o
 slot:∀b o,h.get? b=some o->H b=none->b∈fs->b ∉ ex->∃sl,h'.get? b=some { o with slots:=sl }
 free:∀b o,h.get? b=some o->H b=none->b ∉ ex->H' b=none
 there:∀b o,h.get? b=some o->b ∉ ex->∃o',h'.get? b=some o'
 tups:∀b xs,H b=some (.tup xs)->H' b=some (.tup xs)
 frzs:∀b o u,H b=some (.frz o u)->H' b=some (.frz o u)
 tbls:∀b ps,H b=some (.tbl ps)->∃more,H' b=some (.tbl (ps++more))
section
variable {fs fs' ex ex':List Addr} {H H1 H2:Hp} {h h1 h2 h':Heap} {a x e:Addr} {o:HO}
theorem Un.any (u:Un fs ex H H1 h h1) {b:Addr} {ob:Obj} (q:h.get? b=some ob) (n:H b=none) (hx:b ∉ ex):∃sl,h1.get? b=some { ob with slots:=sl }:=by
 by_cases hb:b∈fs
 ·exact u.slot b ob q n hb hx
 ·exact ⟨ob.slots,u.keep b ob q n hb hx⟩
theorem Un.kept (k:∀b u,h.get? b=some u->h'.get? b=some u):Un fs ex H H h h' :=
 ⟨fun b ob q _ _ _=>k b ob q,fun b ob q _ _ _=>⟨ob.slots,k b ob q⟩,fun _ _ _ n _=>n,fun b ob q _=>⟨ob,k b ob q⟩,fun _ _ q=>q,fun _ _ _ q=>q,fun _ ps q=>⟨#[],by rw [q];simp⟩⟩
theorem Un.refl:Un fs ex H H h h:=Un.kept fun _ _ q=>q
theorem Un.laid (k:∀b u,h.get? b=some u->h'.get? b=some u) (hp:h.objs.size<=a) (hn:H a=none):Un fs ex H (upd H a o) h h' where
 keep:=fun b u q _ _ _=>k b u q
 slot:=fun b u q _ _ _=>⟨u.slots,k b u q⟩
 free:=fun b u q n _=>by rw [Al (Nat.ne_of_lt (Nat.lt_of_lt_of_le (Heap.lt_size q) hp))];exact n
 there:=fun b u q _=>⟨u,k b u q⟩
 tups:=fun b xs q=>by rw [Al (AY q hn)];exact q
 frzs:=fun b u xs q=>by rw [Al (AY q hn)];exact q
 tbls:=fun b ps q=>⟨#[],by rw [Al (AY q hn),q];simp⟩
theorem Un.write (mu:Mut (H x)) (he:e=x\/H e=some (.own x)) (k:∀b u,b≠e->h.get? b=some u->h'.get? b=some u) (heo:∃u,h'.get? e=some u):Un fs ex H (upd H x o) h h':=by
 have hx:∀b,H b=none->b≠x:=fun b n z=>by subst z;rw [n] at mu;exact mu
 have hb:∀b,H b=none->b≠e:=fun b n z=>by
  subst z
  rcases he with r | r
  ·exact hx b n r
  ·rw [n] at r;cases r
 have hm:∀b u,H b=some u->¬ Mut (some u)->b≠x:=fun b u q nm z=>by subst z;rw [q] at mu;exact nm mu
 refine ⟨fun b u q n _ _=>k b u (hb b n) q,fun b u q n _ _=>⟨u.slots,k b u (hb b n) q⟩,fun b u q n _=>by rw [Al (hx b n)];exact n,fun b u q _=>?_,
  fun b xs q=>by rw [Al (hm b _ q fun z=>z)];exact q,fun b u xs q=>by rw [Al (hm b _ q fun z=>z)];exact q,fun b ps q=>⟨#[],by rw [Al (hm b _ q fun z=>z),q];simp⟩⟩
 by_cases hbe:b=e
 ·subst hbe;exact heo
 ·exact ⟨u,k b u hbe q⟩
end
def trk (h:Heap) (H:Hp):List Addr:=(List.range h.objs.size).filter fun a=>(H a).isSome
def Jx (h:Heap) (H:Hp):Heap:=PySem.W.hideAll h (trk h H)
theorem Ny (h:Heap) (H:Hp):(Jx h H).objs.size=h.objs.size:=PySem.W.hideAll_size _ _
theorem Py {h:Heap} {H:Hp} {b:Addr} {o:Obj} (e:h.get? b=some o) (n:H b=none):(Jx h H).get? b=some o :=
 PySem.W.hideAll_get _ e fun hm=>by
  have q:(H b).isSome=true:=(mem_filter.mp hm).2
  rw [n] at q;simp at q
theorem Rf {h:Heap} {H:Hp} {b:Addr} {o:Obj} (e:(Jx h H).get? b=some o):h.get? b=some o/\H b=none:=by
 have e':h.get? b=some o:=PySem.W.of_hideAll (trk h H) e
 refine ⟨e',?_⟩
 cases q:H b with
 | none=>rfl
 | some x =>
   have hm:b∈trk h H:=mem_filter.mpr ⟨mem_range.mpr (Heap.lt_size e'),by simp [q]⟩
   have z:(Jx h H).get? b=none:=PySem.W.hideAll_none (trk h H) hm
   rw [z] at e;cases e
end L2
namespace L2
open PySem PySem.Spec PyProof.Rows
structure Mod (K:PySem.W.Frag) (mg:Str->Option Value) (base:Heap):Prop where
 kin:K.In base
 glob:base.Ns mainGlobals mg
 blt:∃mb,base.Ns builtinsNs mb/\∀x:Str,x≠"__name__"->mb x=bootBuiltins x
 nolimit:base.NoLimit
structure Cx where
 prog:Program
 w:World
 K:PySem.W.Frag
 mg:Str->Option Value
 base:Heap
 A:Around
 N:List Str
 s₀:Shared
 H₀:Hp
 env:Env
 outer:List Env
 stack:List Env
 ex:List Addr
 fn:Str->Bool
 calm:Bool
 pn:List (Addr × Obj)
 xe:Value->Shared->Prop
def frs (l:List Env):List Addr:=l.filterMap (·.frame)
abbrev Cx.fs (X:Cx):List Addr:=frs X.outer
def Vis (sc:Scope) (x:Str):Prop:=sc.names.lookup x=some .local\/sc.names.lookup x=some .cell\/sc.names.lookup x=some .free
def Loc (sc:Scope) (x:Str):Prop:=sc.names.lookup x=some .local\/sc.names.lookup x=some .cell
def TR (env:Env) (h:Heap) (m:Str->Option Value) (x:Str) (u:Value):Prop :=
 (env.kindOf x=some .local/\m x=some u)\/((env.kindOf x=some .cell\/env.kindOf x=some .free)/\∃c,env.cells.lookup x=some c/\h.IsCell c (some u))
structure Cx.Ok (X:Cx):Prop where
 mod:Mod X.K X.mg X.base
 kind:X.env.scope.kind=.function
 glob:X.env.globals=mainGlobals
 blt:X.env.builtins=builtinsNs
 above:X.s₀.heap.objs.size<=X.env.locals
 inj:∀x y c,X.env.cells.lookup x=some c->X.env.cells.lookup y=some c->x=y
 has:∀x,(X.env.kindOf x=some .cell\/X.env.kindOf x=some .free)->∃c,X.env.cells.lookup x=some c
 cab:∀x c,X.fn x=true->X.env.cells.lookup x=some c->X.s₀.heap.objs.size<=c
 hd:X.calm=true->X.A.handled=none
 frames:X.A.frames=some X.stack
 stk:X.stack=X.outer\/(X.stack=X.env :: X.outer/\X.env.frame=some X.env.locals)
 exf:∀b∈X.ex,b≠X.env.locals/\∀x c,X.env.cells.lookup x=some c->c≠b
 bs:∀b o,X.base.get? b=some o->X.s₀.heap.get? b=some o/\X.H₀ b=none
 bsz:X.base.objs.size<=X.s₀.heap.objs.size
 noex:∀b o,X.base.get? b=some o->b ∉ X.ex
 exfs:∀b∈X.ex,b ∉ X.fs
 funs:X.s₀.heap.FunFrames X.base X.outer
 frf:∀b∈X.fs,X.H₀ b=none
structure Inv (X:Cx) (pins:List (Addr × Obj)) (σ:List (Option V)) (H:Hp) (s:Shared):Prop where
 ok:X.Ok
 os:s.os=X.s₀.os
 bare:AllBare s.gens
 base:Un X.fs X.ex X.H₀ H X.s₀.heap s.heap
 loc:∃m,s.heap.Ns X.env.locals m/\∀(i:Nat) (x:Str) (v:V),X.N[i]?=some x->σ[i]?=some (some v)->Vis X.env.scope x->∃u,AE v u/\TR X.env s.heap m x u
 cell:∀x c,X.env.cells.lookup x=some c->∃v,s.heap.IsCell c v
 free:H X.env.locals=none
 freeC:∀x c,X.env.cells.lookup x=some c->H c=none
 pin:∀p∈X.pn++pins,s.heap.get? p.1=some p.2/\H p.1=none/\p.1≠X.env.locals/\p.1 ∉ X.fs/\∀v,p.2.data≠.cell v
 hok:HOk X.prog X.w H s.heap
 len:σ.length=X.N.length
section
variable {X:Cx} {pins:List (Addr × Obj)} {σ:List (Option V)} {H H':Hp} {s:Shared} {h':Heap}
theorem Cx.Ok.nofr (ok:X.Ok) {b:Addr} {o:Obj} (e:X.base.get? b=some o):b ∉ X.fs:=fun hb=>by
 have:=(ok.funs.mem hb).1
 rw [e] at this;cases this
theorem Inv.bs (I:Inv X pins σ H s):∀b o,X.base.get? b=some o->s.heap.get? b=some o/\H b=none:=fun b o e =>
 ⟨I.base.keep b o (I.ok.bs b o e).1 (I.ok.bs b o e).2 (I.ok.nofr e) (I.ok.noex b o e),I.base.free b o (I.ok.bs b o e).1 (I.ok.bs b o e).2 (I.ok.noex b o e)⟩
theorem Inv.bk (I:Inv X pins σ H s):∀b o,X.base.get? b=some o->s.heap.get? b=some o:=fun b o e=>(I.bs b o e).1
theorem Inv.mod (I:Inv X pins σ H s):Mod X.K X.mg X.base:=I.ok.mod
theorem Inv.kIn (I:Inv X pins σ H s):X.K.In s.heap:=I.ok.mod.kin.keeps I.bk
theorem Inv.lt (I:Inv X pins σ H s):X.env.locals < s.heap.objs.size:=let ⟨_,hn,_⟩:=I.loc;hn.lt
theorem Inv.sz (I:Inv X pins σ H s):X.s₀.heap.objs.size<=s.heap.objs.size:=Nat.le_trans I.ok.above (Nat.le_of_lt I.lt)
theorem Inv.nofs (I:Inv X pins σ H s) {a:Addr} (h:s.heap.objs.size<=a):a ∉ X.fs:=fun hb=>by
 obtain ⟨_,o,ho,_⟩:=I.ok.funs.mem hb
 exact absurd (Nat.lt_of_lt_of_le (Heap.lt_size ho) (Nat.le_trans I.sz h)) (Nat.lt_irrefl _)
theorem Inv.cne (I:Inv X pins σ H s):∀x c,X.env.cells.lookup x=some c->c≠X.env.locals:=fun x c e z=>by
 obtain ⟨v,o,ho,hd⟩:=I.cell x c e
 obtain ⟨m,⟨o',es,ep,ho',hd',_⟩,_⟩:=I.loc
 rw [z,ho'] at ho;cases ho;rw [hd'] at hd;cases hd
theorem Inv.funs (I:Inv X pins σ H s):s.heap.FunFrames X.base X.outer:=by
 have all:∀(l:List Env),(∀b∈frs l,b∈X.fs)->X.s₀.heap.FunFrames X.base l->s.heap.FunFrames X.base l:=by
  intro l
  induction l with
  | nil=>intro _ _;trivial
  | cons env r ih =>
    intro hs hl
    obtain ⟨hk,⟨L,o,hf,hn,ho,hd⟩,hr⟩:=hl
    have hL:L∈X.fs:=hs L (by unfold frs;rw [filterMap_cons,hf];exact mem_cons_self)
    obtain ⟨sl,e⟩:=I.base.slot L o ho (I.ok.frf L hL) hL fun z=>I.ok.exfs L z hL
    exact ⟨hk,⟨L,_,hf,hn,e,hd⟩,ih (fun b hb=>hs b (by unfold frs;rw [filterMap_cons,hf];exact mem_cons_of_mem _ hb)) hr⟩
 exact all X.outer (fun _ hb=>hb) I.ok.funs
theorem Inv.stack (I:Inv X pins σ H s):s.heap.FunFrames X.base X.stack:=by
 rcases I.ok.stk with e | ⟨e,hf⟩
 ·rw [e];exact I.funs
 ·rw [e]
  obtain ⟨m,hn,_⟩:=I.loc
  refine .cons (by rw [I.ok.kind];decide) hf hn ?_ I.funs
  exact Heap.get?_none_of_le (Nat.le_trans I.ok.bsz I.ok.above)
theorem Inv.stkSub (I:Inv X pins σ H s):∀b∈frs X.stack,b∈X.env.locals :: X.fs:=fun b hb=>by
 rcases I.ok.stk with e | ⟨e,hf⟩
 ·rw [e] at hb;exact mem_cons_of_mem _ hb
 ·rw [e] at hb
  unfold frs at hb
  rw [filterMap_cons,hf] at hb
  exact hb
theorem Inv.stkFree (I:Inv X pins σ H s):∀b∈frs X.stack,H b=none:=fun b hb=>by
 rcases mem_cons.mp (I.stkSub b hb) with e | hb
 ·rw [e];exact I.free
 ·obtain ⟨_,o,ho,_⟩:=I.ok.funs.mem hb
  exact I.base.free b o ho (I.ok.frf b hb) fun z=>I.ok.exfs b z hb
theorem Inv.step {g':Array GenState} {t':Nat} {d':Drawn} {ch:List Addr} (I:Inv X pins σ H s)
 (hch:∀b∈ch,(b∈X.ex\/X.s₀.heap.objs.size<=b)/\b≠X.env.locals/\(∀x c,X.env.cells.lookup x=some c->c≠b)/\∀p∈X.pn++pins,p.1≠b)
 (keep:∀b o,b≠X.env.locals->b ∉ X.fs->b ∉ ch->s.heap.get? b=some o->H b=none->h'.get? b=some o)
 (slot:∀b o,b≠X.env.locals->b∈X.fs->b ∉ ch->s.heap.get? b=some o->H b=none->∃sl,h'.get? b=some { o with slots:=sl }) (free:∀b o,b ∉ ch->s.heap.get? b=some o->H b=none->H' b=none)
 (there:∀b o,b ∉ ch->s.heap.get? b=some o->∃o',h'.get? b=some o')
 (tups:∀b xs,H b=some (.tup xs)->H' b=some (.tup xs)) (frzs:∀b o u,H b=some (.frz o u)->H' b=some (.frz o u)) (tbls:∀b ps,H b=some (.tbl ps)->∃more,H' b=some (.tbl (ps++more)))
 (ns:∀m,s.heap.Ns X.env.locals m->h'.Ns X.env.locals m) (hok:HOk X.prog X.w H' h') (hg:AllBare g') :
 Inv X pins σ H' { s with heap:=h',gens:=g',drawn:=d',toks:=t' }:=by
 have neL:∀b o,X.s₀.heap.get? b=some o->b≠X.env.locals:=fun b o e=>Nat.ne_of_lt (Nat.lt_of_lt_of_le (Heap.lt_size e) I.ok.above)
 have neC:∀b o,X.s₀.heap.get? b=some o->b ∉ X.ex->b ∉ ch:=fun b o e hx hb=>by
  rcases (hch b hb).1 with z | z
  ·exact hx z
  ·exact absurd (Nat.lt_of_lt_of_le (Heap.lt_size e) z) (Nat.lt_irrefl _)
 have cellK:∀x c,X.env.cells.lookup x=some c->∀v,s.heap.IsCell c v->h'.IsCell c v:=fun x c e v ⟨o,ho,hd⟩=>by
  have nch:c ∉ ch:=fun z=>(hch c z).2.2.1 x c e rfl
  by_cases hc:c∈X.fs
  ·obtain ⟨sl,q⟩:=slot c o (I.cne x c e) hc nch ho (I.freeC x c e)
   exact ⟨_,q,hd⟩
  ·exact ⟨o,keep c o (I.cne x c e) hc nch ho (I.freeC x c e),hd⟩
 refine ⟨I.ok,I.os,hg,⟨fun b o e n hb hx=>?_,fun b o e n hb hx=>?_,fun b o e n hx=>?_,fun b o e hx=>?_,fun b xs e=>tups b xs (I.base.tups b xs e),fun b o xs e=>frzs b o xs (I.base.frzs b o xs e),fun b ps e=>?_⟩,?_,fun x c e=>?_,?_,fun x c e=>?_,fun p hp=>?_,hok,I.len⟩
 ·exact keep b o (neL b o e) hb (neC b o e hx) (I.base.keep b o e n hb hx) (I.base.free b o e n hx)
 ·obtain ⟨sl,e1⟩:=I.base.slot b o e n hb hx
  obtain ⟨sl',e2⟩:=slot b _ (neL b o e) hb (neC b o e hx) e1 (I.base.free b o e n hx)
  exact ⟨sl',e2⟩
 ·obtain ⟨o',e1⟩:=I.base.there b o e hx
  exact free b o' (neC b o e hx) e1 (I.base.free b o e n hx)
 ·obtain ⟨o',e1⟩:=I.base.there b o e hx
  exact there b o' (neC b o e hx) e1
 ·obtain ⟨m1,e1⟩:=I.base.tbls b ps e
  obtain ⟨m2,e2⟩:=tbls b _ e1
  exact ⟨m1++m2,by rw [e2,Array.append_assoc]⟩
 ·obtain ⟨m,hn,hl⟩:=I.loc
  refine ⟨m,ns m hn,fun i x v e1 e2 e3=>?_⟩
  obtain ⟨u,r,l⟩:=hl i x v e1 e2 e3
  refine ⟨u,r,?_⟩
  rcases l with l | ⟨k,c,e,z⟩
  ·exact .inl l
  ·exact .inr ⟨k,c,e,cellK x c e _ z⟩
 ·obtain ⟨v,z⟩:=I.cell x c e
  exact ⟨v,cellK x c e v z⟩
 ·obtain ⟨m,⟨o,_,_,ho,_⟩,_⟩:=I.loc
  exact free _ o (fun z=>(hch _ z).2.1 rfl) ho I.free
 ·obtain ⟨v,o,ho,hd⟩:=I.cell x c e
  exact free c o (fun z=>(hch c z).2.2.1 x c e rfl) ho (I.freeC x c e)
 ·obtain ⟨e,n,ne,nf,d⟩:=I.pin p hp
  have nch:p.1 ∉ ch:=fun z=>(hch p.1 z).2.2.2 p hp rfl
  exact ⟨keep p.1 p.2 ne nf nch e n,free p.1 p.2 nch e n,ne,nf,d⟩
theorem Inv.un {t':Nat} (I:Inv X pins σ H s) (u:Un X.fs [] H H' s.heap h') (hok:HOk X.prog X.w H' h'):Inv X pins σ H' { s with heap:=h',toks:=t' }:=by
 obtain ⟨m,⟨o,es,ep,ho,r⟩,_⟩:=id I.loc
 obtain ⟨sl,hL⟩:=u.any ho I.free (by simp)
 exact I.step (g':=s.gens) (d':=s.drawn) (ch:=[]) (fun _ z=>by cases z) (fun b o _ hb _ e n=>u.keep b o e n hb (by simp)) (fun b o _ hb _ e n=>u.slot b o e n hb (by simp)) (fun b o _ e n=>u.free b o e n (by simp)) (fun b o _ e=>u.there b o e (by simp)) u.tups u.frzs u.tbls (fun m' hm=>by
  obtain ⟨o',es',ep',ho',r'⟩:=hm
  rw [ho] at ho';cases ho'
  exact ⟨_,es',ep',hL,r'⟩) hok I.bare
theorem Inv.call {g':Array GenState} {t':Nat} {d':Drawn} {ch:List Addr} (I:Inv X pins σ H s) (u:Un (frs X.stack) ch H H' s.heap h') (hok:HOk X.prog X.w H' h') (hg:AllBare g')
 (hch:∀b∈ch,(b∈X.ex\/X.s₀.heap.objs.size<=b)/\b≠X.env.locals/\(∀x c,X.env.cells.lookup x=some c->c≠b)/\∀p∈X.pn++pins,p.1≠b) :
 Inv X pins σ H' { s with heap:=h',gens:=g',drawn:=d',toks:=t' }:=by
 obtain ⟨m,⟨o,es,ep,ho,r⟩,_⟩:=id I.loc
 obtain ⟨sl,hL⟩:=u.any ho I.free fun z=>(hch _ z).2.1 rfl
 exact I.step (ch:=ch) hch (fun b o hL hb hc e n=>u.keep b o e n (fun z=>(mem_cons.mp (I.stkSub b z)).elim hL hb) hc) (fun b o _ _ hc e n=>u.any e n hc) (fun b o hc e n=>u.free b o e n hc) (fun b o hc e=>u.there b o e hc) u.tups u.frzs u.tbls (fun m' hm=>by
  obtain ⟨o',es',ep',ho',r'⟩:=hm
  rw [ho] at ho';cases ho'
  exact ⟨_,es',ep',hL,r'⟩) hok hg
theorem Inv.turned {t':Nat} {it:Addr} (I:Inv X pins σ H s) (k:∀b o,b≠it->s.heap.get? b=some o->h'.get? b=some o) (hn:H it=none) (hL:it≠X.env.locals)
 (h1:it∈X.ex\/X.s₀.heap.objs.size<=it) (h2:∀x c,X.env.cells.lookup x=some c->c≠it) (h3:∀p∈X.pn++pins,p.1≠it):Inv X pins σ H { s with heap:=h',toks:=t' }:=by
 have nit:∀b u,H b=some u->b≠it:=fun b u e z=>by rw [z,hn] at e;cases e
 refine I.step (g':=s.gens) (d':=s.drawn) (ch:=[it]) (fun b hb=>?_) (fun b o _ _ hc e _=>k b o (fun z=>hc (by simp [z])) e) (fun b o _ _ hc e _=>⟨o.slots,k b o (fun z=>hc (by simp [z])) e⟩) (fun _ _ _ _ n=>n)
  (fun b o hc e=>⟨o,k b o (fun z=>hc (by simp [z])) e⟩) (fun _ _ e=>e) (fun _ _ _ e=>e) (fun b ps e=>⟨#[],by rw [e];simp⟩) (fun m hm=>?_) (fun b u e=>?_) I.bare
 ·have e:b=it:=by simpa using hb
  subst e
  exact ⟨h1,hL,h2,h3⟩
 ·obtain ⟨o,es,ep,ho,r⟩:=hm
  exact ⟨o,es,ep,k _ o (Ne.symm hL) ho,r⟩
 ·refine (I.hok b u e).stay (fun c v hc q=>k c v ?_ q) (fun _ q=>q) fun _ _ q=>q
  rcases hc with z | z
  ·rw [z];exact nit b u e
  ·exact nit c _ z
theorem Inv.tok (I:Inv X pins σ H s) (t:Nat):Inv X pins σ H { s with toks:=t }:=I.un (h':=s.heap) (t':=t) Un.refl I.hok
theorem Inv.kept {t':Nat} (I:Inv X pins σ H s) (k:∀b u,s.heap.get? b=some u->h'.get? b=some u):Inv X pins σ H { s with heap:=h',toks:=t' }:=I.un (Un.kept k) (I.hok.kept k)
theorem Inv.laid {a:Addr} {o:HO} {t':Nat} (I:Inv X pins σ H s) (k:∀b u,s.heap.get? b=some u->h'.get? b=some u) (hp:s.heap.objs.size<=a) (new:AN X.prog X.w (upd H a o) h' a o) :
 Inv X pins σ (upd H a o) { s with heap:=h',toks:=t' }:=I.un (Un.laid k hp (I.hok.fresh hp)) (I.hok.laid k hp new)
theorem Inv.write {x e:Addr} {o:HO} {t':Nat} (I:Inv X pins σ H s) (mu:Mut (H x)) (he:e=x\/H e=some (.own x)) (k:∀b u,b≠e->s.heap.get? b=some u->h'.get? b=some u) (heo:∃u,h'.get? e=some u)
 (new:AN X.prog X.w (upd H x o) h' x o):Inv X pins σ (upd H x o) { s with heap:=h',toks:=t' }:=I.un (Un.write mu he k heo) (I.hok.write mu he k heo new)
theorem Inv.pins_of {pins':List (Addr × Obj)} (I:Inv X pins σ H s) (h:∀p∈pins',s.heap.get? p.1=some p.2/\H p.1=none/\p.1≠X.env.locals/\p.1 ∉ X.fs/\∀v,p.2.data≠.cell v):Inv X pins' σ H s :=
 ⟨I.ok,I.os,I.bare,I.base,I.loc,I.cell,I.free,I.freeC,fun p hp=>(mem_append.mp hp).elim (fun z=>I.pin p (mem_append_left _ z)) (h p),I.hok,I.len⟩
theorem Ln {N:List Str} (hN:N.Nodup) {i j:Nat} {x:Str} (a:N[i]?=some x) (b:N[j]?=some x):i=j:=by
 obtain ⟨h1,e1⟩:=List.getElem?_eq_some_iff.mp a
 obtain ⟨h2,e2⟩:=List.getElem?_eq_some_iff.mp b
 exact (getElem_inj hN).mp (e1.trans e2.symm)
theorem Gq {M:Model} {A:Around} {E:Value->Shared->Prop} {i:Nat} {x:Str} {v:V} {u:Value} {Q:Unit->Shared->Prop} (I:Inv X pins σ H s) (hN:X.N.Nodup) (hi:X.N[i]?=some x) (hx:Loc X.env.scope x) (r:AE v u)
 (h:∀s',Inv X pins (σ.set i (some v)) H s'->(∃a,Heap.SameBut a s.heap s'.heap/\(a=X.env.locals\/X.env.cells.lookup x=some a))->Q () s') (hf:X.fn x=true\/X.env.scope.names.lookup x=some .local:=by first | exact .inl rfl | exact .inr rfl | assumption):wpAny M A (storeName X.env x u) Q E s:=by
 obtain ⟨m,hn,hl⟩:=id I.loc
 have hcls:(X.env.scope.kind == .class || (X.env.scope.kind == .module && X.env.locals != X.env.globals))=false:=by rw [I.ok.kind];rfl
 have hiσ:i < σ.length:=by rw [I.len];exact (List.getElem?_eq_some_iff.mp hi).1
 have cne:=I.cne
 have tracked:∀{a:Addr} {h':Heap},(∃o,s.heap.get? a=some o/\H a=none)->Heap.SameBut a s.heap h'->HOk X.prog X.w H h':=fun {a h'} ha hs b ob e=>by
  obtain ⟨_,_,hfree⟩:=ha
  refine (I.hok b ob e).stay (fun c w' hc q=>(hs.2 c ?_).trans q) (fun _ q=>q) fun _ _ q=>q
  rintro rfl
  rcases hc with rfl | hc
  ·rw [hfree] at e;cases e
  ·rw [hfree] at hc;cases hc
 rcases hx with hk | hk
 ·refine wpAny_storeName_local hk hn (fun h' hn' hs=>?_) hcls
  obtain ⟨oL,_,_,hoL,_⟩:=id hn
  refine h _ ⟨I.ok,I.os,I.bare,⟨fun b o e n hb hx=>?_,fun b o e n hb hx=>?_,I.base.free,fun b o e hx=>?_,I.base.tups,I.base.frzs,I.base.tbls⟩,⟨_,hn',fun j y v' e1 e2 e3=>?_⟩,fun y c e=>?_,I.free,I.freeC,fun p hp=>?_,tracked ⟨oL,hoL,I.free⟩ hs,by simpa using I.len⟩ ⟨_,hs,.inl rfl⟩
  ·exact (hs.2 b (Nat.ne_of_lt (Nat.lt_of_lt_of_le (Heap.lt_size e) I.ok.above))).trans (I.base.keep b o e n hb hx)
  ·obtain ⟨sl,e1⟩:=I.base.slot b o e n hb hx
   exact ⟨sl,(hs.2 b (Nat.ne_of_lt (Nat.lt_of_lt_of_le (Heap.lt_size e) I.ok.above))).trans e1⟩
  ·obtain ⟨o',e1⟩:=I.base.there b o e hx
   exact ⟨o',(hs.2 b (Nat.ne_of_lt (Nat.lt_of_lt_of_le (Heap.lt_size e) I.ok.above))).trans e1⟩
  ·by_cases hj:j=i
   ·subst hj
    rw [hi] at e1;cases e1
    rw [List.getElem?_set_self hiσ] at e2
    cases e2
    exact ⟨u,r,.inl ⟨hk,by simp⟩⟩
   ·rw [List.getElem?_set_ne (Ne.symm hj)] at e2
    obtain ⟨u',r',q⟩:=hl j y v' e1 e2 e3
    refine ⟨u',r',?_⟩
    rcases q with ⟨k,e⟩ | ⟨k,c,e,z⟩
    ·refine .inl ⟨k,?_⟩
     have:y≠x:=fun e=>hj (Ln hN e1 (e ▸ hi))
     simp [this,e]
    ·exact .inr ⟨k,c,e,z.sameBut hs (cne y c e)⟩
  ·obtain ⟨w',z⟩:=I.cell y c e
   exact ⟨w',z.sameBut hs (cne y c e)⟩
  ·obtain ⟨e,n,ne,nf,d⟩:=I.pin p hp
   exact ⟨(hs.2 p.1 ne).trans e,n,ne,nf,d⟩
 ·have hfn:X.fn x=true:=by
   rcases hf with z | z
   ·exact z
   ·rw [z] at hk;cases hk
  obtain ⟨c,hc⟩:=I.ok.has x (.inl hk)
  obtain ⟨w',z⟩:=I.cell x c hc
  refine wpAny_storeName_cell I.ok.kind hk hc z (fun h' hc' hs=>?_)
  obtain ⟨oc,hoc,hocd⟩:=id z
  refine h { s with heap:=h' } ⟨I.ok,I.os,I.bare,⟨fun b o e n hb hx=>?_,fun b o e n hb hx=>?_,I.base.free,fun b o e hx=>?_,I.base.tups,I.base.frzs,I.base.tbls⟩,⟨m,hn.sameBut hs (Ne.symm (cne x c hc)),fun j y v' e1 e2 e3=>?_⟩,fun y c' e=>?_,I.free,I.freeC,fun p hp=>?_,tracked ⟨oc,hoc,I.freeC x c hc⟩ hs,by simpa using I.len⟩ ⟨c,hs,.inr hc⟩
  ·exact (hs.2 b (Nat.ne_of_lt (Nat.lt_of_lt_of_le (Heap.lt_size e) (I.ok.cab x c hfn hc)))).trans (I.base.keep b o e n hb hx)
  ·obtain ⟨sl,e1⟩:=I.base.slot b o e n hb hx
   exact ⟨sl,(hs.2 b (Nat.ne_of_lt (Nat.lt_of_lt_of_le (Heap.lt_size e) (I.ok.cab x c hfn hc)))).trans e1⟩
  ·obtain ⟨o',e1⟩:=I.base.there b o e hx
   exact ⟨o',(hs.2 b (Nat.ne_of_lt (Nat.lt_of_lt_of_le (Heap.lt_size e) (I.ok.cab x c hfn hc)))).trans e1⟩
  ·by_cases hj:j=i
   ·subst hj
    rw [hi] at e1;cases e1
    rw [List.getElem?_set_self hiσ] at e2
    cases e2
    exact ⟨u,r,.inr ⟨.inl hk,c,hc,hc'⟩⟩
   ·rw [List.getElem?_set_ne (Ne.symm hj)] at e2
    obtain ⟨u',r',q⟩:=hl j y v' e1 e2 e3
    refine ⟨u',r',?_⟩
    rcases q with q | ⟨k,c',e,z'⟩
    ·exact .inl q
    ·refine .inr ⟨k,c',e,z'.sameBut hs ?_⟩
     rintro rfl
     exact hj (Ln hN e1 (I.ok.inj _ _ _ e hc ▸ hi))
  ·by_cases hcc:c'=c
   ·subst hcc;exact ⟨_,hc'⟩
   ·obtain ⟨w2,z2⟩:=I.cell y c' e
    exact ⟨w2,z2.sameBut hs hcc⟩
  ·obtain ⟨e,n,ne,nf,d⟩:=I.pin p hp
   refine ⟨(hs.2 p.1 ?_).trans e,n,ne,nf,d⟩
   intro q
   rw [q,hoc] at e
   have q':oc=p.2:=Option.some.inj e
   exact d w' (by rw [<- q'];exact hocd)
theorem Lr {M:Model} {A:Around} {E:Value->Shared->Prop} {i:Nat} {x:Str} {v:V} {u:Value} {Q:Unit->Shared->Prop} (I:Inv X pins σ H s) (hN:X.N.Nodup) (hi:X.N[i]?=some x) (hx:Loc X.env.scope x) (r:AE v u)
 (h:∀s',Inv X pins (σ.set i (some v)) H s'->Q () s') (hf:X.fn x=true\/X.env.scope.names.lookup x=some .local:=by first | exact .inl rfl | exact .inr rfl | assumption):wpAny M A (storeName X.env x u) Q E s :=
 Gq I hN hi hx r (fun s' I' _=>h s' I') hf
theorem Inv.call' {s':Shared} {ch:List Addr} (I:Inv X pins σ H s) (ho:s'.os=s.os) (u:Un (frs X.stack) ch H H' s.heap s'.heap) (hok:HOk X.prog X.w H' s'.heap) (hg:AllBare s'.gens)
 (hch:∀b∈ch,(b∈X.ex\/X.s₀.heap.objs.size<=b)/\b≠X.env.locals/\(∀x c,X.env.cells.lookup x=some c->c≠b)/\∀p∈X.pn++pins,p.1≠b):Inv X pins σ H' s':=by
 obtain ⟨h',g',d',t',o'⟩:=s'
 have e:o'=s.os:=ho
 subst e
 exact I.call (g':=g') (t':=t') (d':=d') u hok hg hch
end
abbrev XK:=Value->Option Addr->Hp->Prop
abbrev St:=List (Option V)
abbrev VK:=V->Hp->Prop
abbrev TE:=St->Hp->VK->Prop
abbrev TT:=St->Hp->(Bool->Hp->Prop)->Prop
abbrev TA:=St->Hp->(List V->Hp->Prop)->Prop
structure IE where
 nx:St->Hp->Prop
 rt:VK
 bk:St->Hp->Prop:=fun _ _=>False
 ct:St->Hp->Prop:=fun _ _=>False
abbrev TS:=IE->St->Hp->Prop
def EP (X:Cx) (pins:List (Addr × Obj)) (σ:St) (Q:VK) (u:Value) (s':Shared):Prop:=∃v H',Inv X pins σ H' s'/\AE v u/\Q v H'
def TP (X:Cx) (pins:List (Addr × Obj)) (σ:St) (Q:Bool->Hp->Prop) (b:Bool) (s':Shared):Prop:=∃H',Inv X pins σ H' s'/\Q b H'
def AP (X:Cx) (pins:List (Addr × Obj)) (σ:St) (Q:List V->Hp->Prop) (us:List Value) (s':Shared):Prop:=∃vs H',Inv X pins σ H' s'/\A9 vs us/\Q vs H'
def SP (X:Cx) (pins:List (Addr × Obj)) (D:IE) (f:Flow) (s':Shared):Prop :=
 match f with
 | .next=>∃σ' H',Inv X pins σ' H' s'/\D.nx σ' H'
 | .brk=>∃σ' H',Inv X pins σ' H' s'/\D.bk σ' H'
 | .cont=>∃σ' H',Inv X pins σ' H' s'/\D.ct σ' H'
 | .ret u=>∃v σ' H',Inv X pins σ' H' s'/\AE v u/\D.rt v H'
def PE (X:Cx) (e:Expr) (t:TE):Prop :=
 ∀(pins:List (Addr × Obj)) (s:Shared) (σ:St) (H:Hp) (Q:VK),Inv X pins σ H s->t σ H Q->wpAny (model X.prog X.w) X.A (eval e X.env) (EP X pins σ Q) X.xe s
def PT (X:Cx) (e:Expr) (t:TT):Prop :=
 ∀(pins:List (Addr × Obj)) (s:Shared) (σ:St) (H:Hp) (Q:Bool->Hp->Prop),Inv X pins σ H s->t σ H Q->wpAny (model X.prog X.w) X.A (isTrue e X.env (eval e X.env)) (TP X pins σ Q) X.xe s
def PW (X:Cx) (e:Expr) (t:TT):Prop :=
 ∀(whole:Sem Value) (pins:List (Addr × Obj)) (s:Shared) (σ:St) (H:Hp) (Q:Bool->Hp->Prop),Inv X pins σ H s->t σ H Q->wpAny (model X.prog X.w) X.A (isTrue e X.env whole) (TP X pins σ Q) X.xe s
theorem PW.pt {X:Cx} {e:Expr} {t:TT} (h:PW X e t):PT X e t:=h _
def PA (X:Cx) (es:List Expr) (t:TA):Prop :=
 ∀(pos:Pos) (pins:List (Addr × Obj)) (s:Shared) (σ:St) (H:Hp) (Q:List V->Hp->Prop),Inv X pins σ H s->t σ H Q->wpAny (model X.prog X.w) X.A (spliced (backTo pos (starEach es X.env))) (AP X pins σ Q) X.xe s
def PS (X:Cx) (st:Stmt) (t:TS):Prop :=
 ∀(pins:List (Addr × Obj)) (s:Shared) (σ:St) (H:Hp) (D:IE),Inv X pins σ H s->t D σ H->wpAny (model X.prog X.w) X.A (exec st X.env) (SP X pins D) X.xe s
def PSs (X:Cx) (st:List Stmt) (t:TS):Prop :=
 ∀(pins:List (Addr × Obj)) (s:Shared) (σ:St) (H:Hp) (D:IE),Inv X pins σ H s->t D σ H->wpAny (model X.prog X.w) X.A (execs st X.env) (SP X pins D) X.xe s
theorem thn {α:Type} {t:Sem α} {Q Q':α->Shared->Prop} {M:Model} {A:Around} {E:Value->Shared->Prop} {s:Shared} (h:wpAny M A t Q E s) (hQ:∀a s,Q a s->Q' a s):wpAny M A t Q' E s:=wpAny_mono h hQ fun _ _ x=>x
end L2
namespace L2
open PySem PySem.Spec PyProof.Rows
section
variable {X:Cx}
def Rs (i:Nat):TE:=fun σ H Q=>∃v,σ[i]?=some (some v)/\Q v H
def tC (v:V):TE:=fun _ H Q=>Q v H
theorem S9 {i:Nat} {x:Str} {pos:Pos} (hN:X.N[i]?=some x) (hv:Vis X.env.scope x) (hd:(x == ("__debug__":Str))=false:=by decide) (hcd:(x == ("__classdict__":Str))=false:=by decide):PE X (.Name x pos) (Rs i):=by
 intro pins s σ H Q I h
 obtain ⟨v,e,h⟩:=h
 obtain ⟨m,hn,hl⟩:=I.loc
 obtain ⟨u,r,l⟩:=hl i x v hN e hv
 have fin:EP X pins σ Q u s:=⟨v,H,I,r,h⟩
 rcases l with ⟨hk,hm⟩ | ⟨hk,c,hc,hcell⟩
 ·exact wpAny_Name (wpAny_loadName_local I.ok.kind hk hn hm fin) hd
 ·rcases hk with hk | hk
  ·exact wpAny_Name (wpAny_loadName_cell I.ok.kind hk hc hcell fin) hd
  ·exact wpAny_Name (wpAny_loadName_free I.ok.kind hk hc hcell fin hcd) hd
theorem Af {i j pos}:PE X (.Constant (.int i) j pos) (tC (.int i)):=fun _ _ _ H _ I h=>wpAny_Constant_int ⟨.int i,H,I.tok _,⟨_,rfl⟩,h⟩
theorem Cn {b j pos}:PE X (.Constant (.bool b) j pos) (tC (.bl b)):=fun _ _ _ H _ I h=>Constant_bool ⟨.bl b,H,I,rfl,h⟩
theorem FA {j pos}:PE X (.Constant .none j pos) (tC .non):=fun _ _ _ H _ I h=>Constant_none ⟨.non,H,I,rfl,h⟩
theorem Dr {x j pos}:PE X (.Constant (.str x) j pos) (tC (.str x)):=fun _ _ _ H _ I h=>Calls.Constant_str ⟨.str x,H,I.tok _,⟨_,rfl⟩,h⟩
def Gl (X:Cx) (x:Str):Prop:=X.env.kindOf x=some .globalImplicit
theorem GU {E:Value->Shared->Prop} {pins:List (Addr × Obj)} {s:Shared} {σ:St} {H:Hp} {x:Str} {u:Value} {pos:Pos} {Q:Value->Shared->Prop} (I:Inv X pins σ H s) (hg:Gl X x) (hm:X.mg x=some u) (h:Q u s)
 (hd:(x == ("__debug__":Str))=false:=by decide):wpAny (model X.prog X.w) X.A (eval (.Name x pos) X.env) Q E s :=
 Calls.Name_function_global I.ok.kind hg (Calls.loadGlobal_global (by rw [I.ok.glob];exact I.mod.glob.keeps I.bk) hm h) hd
theorem DU {E:Value->Shared->Prop} {pins:List (Addr × Obj)} {s:Shared} {σ:St} {H:Hp} {x:Str} {u:Value} {pos:Pos} {Q:Value->Shared->Prop} (I:Inv X pins σ H s) (hg:Gl X x) (hm:X.mg x=none) (hv:bootBuiltins x=some u) (h:Q u s)
 (hn:x≠"__name__":=by decide) (hd:(x == ("__debug__":Str))=false:=by decide):wpAny (model X.prog X.w) X.A (eval (.Name x pos) X.env) Q E s:=by
 obtain ⟨mb,h1,h2⟩:=I.mod.blt
 exact Calls.Name_function_global I.ok.kind hg (Calls.loadGlobal_builtin (by rw [I.ok.glob];exact I.mod.glob.keeps I.bk) hm (by rw [I.ok.blt];exact h1.keeps I.bk) ((h2 x hn).trans hv) h) hd
theorem JK {x:Str} {v:V} {u:Value} {pos:Pos} (hg:Gl X x) (hm:X.mg x=some u) (r:AE v u) (hd:(x == ("__debug__":Str))=false:=by decide):PE X (.Name x pos) (tC v) :=
 fun _ _ _ H _ I h=>GU I hg hm ⟨v,H,I,r,h⟩ hd
theorem Kc {x:Str} {v:V} {u:Value} {pos:Pos} (hg:Gl X x) (hm:X.mg x=none) (hv:bootBuiltins x=some u) (r:AE v u) (hn:x≠"__name__":=by decide) (hd:(x == ("__debug__":Str))=false:=by decide):PE X (.Name x pos) (tC v) :=
 fun _ _ _ H _ I h=>DU I hg hm hv ⟨v,H,I,r,h⟩ hn hd
variable {a b:Expr} {ta tb:TE} {pos:Pos}
def tB (t:TE):TT:=fun σ H Q=>t σ H fun x H1=>∃c,x=.bl c/\Q c H1
theorem CD {e:Expr} {t:TE} (h:PE X e t) (he:∀whole,isTrue e X.env whole=(do let v <- whole;standAt e.pos;holding [v] (truthy v)):=by intro _;rfl):PT X e (tB t):=by
 intro pins s σ H Q I hw
 refine isTrue_plain (thn (h pins s σ H _ I hw) fun v s1 ⟨x,H1,I1,r1,q1⟩=>?_) (he _)
 obtain ⟨d,rfl,q⟩:=q1
 cases r1
 exact wpAny_truthy_bool ⟨H1,I1,q⟩
variable {tA tB':TT} {rest:List Expr}
def Uf (t u:TT):TT:=fun σ H Q=>t σ H fun c H1=>if c=true then u σ H1 Q else Q false H1
def tOr (t u:TT):TT:=fun σ H Q=>t σ H fun c H1=>if c=true then Q true H1 else u σ H1 Q
def Ug (t:TT):TT:=fun σ H Q=>t σ H fun c H1=>Q (!c) H1
theorem JG (ha:PT X a tA):PW X (.BoolOp .And [a] pos) tA:=by
 intro wh pins s σ H Q I h
 refine isTrue_and (thn (ha pins s σ H Q I h) fun c s1 e=>?_)
 cases c with
 | true=>exact isTrue_and_nil e
 | false=>exact e
theorem HE (ha:PT X a tA):PW X (.BoolOp .Or [a] pos) tA:=by
 intro wh pins s σ H Q I h
 refine isTrue_or (thn (ha pins s σ H Q I h) fun c s1 e=>?_)
 cases c with
 | false=>exact isTrue_or_nil e
 | true=>exact e
theorem LI (ha:PT X a tA) (hb:PW X (.BoolOp .And (b :: rest) pos) tB'):PW X (.BoolOp .And (a :: b :: rest) pos) (Uf tA tB'):=by
 intro wh pins s σ H Q I h
 refine isTrue_and (thn (ha pins s σ H _ I h) fun c s1 ⟨H1,I1,q1⟩=>?_)
 cases c with
 | true=>exact hb wh pins s1 σ H1 Q I1 q1
 | false=>exact ⟨H1,I1,q1⟩
theorem Kx (ha:PT X a tA) (hb:PW X (.BoolOp .Or (b :: rest) pos) tB'):PW X (.BoolOp .Or (a :: b :: rest) pos) (tOr tA tB'):=by
 intro wh pins s σ H Q I h
 refine isTrue_or (thn (ha pins s σ H _ I h) fun c s1 ⟨H1,I1,q1⟩=>?_)
 cases c with
 | true=>exact ⟨H1,I1,q1⟩
 | false=>exact hb wh pins s1 σ H1 Q I1 q1
theorem DX (ha:PT X a tA):PT X (.UnaryOp .Not a pos) (Ug tA):=by
 intro pins s σ H Q I h
 exact isTrue_not (ha pins s σ H (fun c H1=>Q (!c) H1) I h)
def T5 (ta tb:TE):TE:=fun σ H Q=>ta σ H fun x H1=>∃c,x=.bl c/\if c=true then tb σ H1 Q else Q (.bl false) H1
def Ti (ta:TE):TE:=fun σ H Q=>ta σ H fun x H1=>∃c,x=.bl c/\Q (.bl (!c)) H1
theorem HN {op} {t:TE} (h:PE X a t):PE X (.BoolOp op [a] pos) t:=fun pins s σ H Q I hw=>BoolOp_one (h pins s σ H Q I hw)
theorem Gx (ha:PE X a ta) (hb:PE X (.BoolOp .And (b :: rest) pos) tb):PE X (.BoolOp .And (a :: b :: rest) pos) (T5 ta tb):=by
 intro pins s σ H Q I h
 refine BoolOp_and (thn (ha pins s σ H _ I h) fun v s1 ⟨x,H1,I1,r1,q1⟩=>?_)
 obtain ⟨c,rfl,q1⟩:=q1
 cases r1
 refine wpAny_truthy_bool ?_
 cases c with
 | true=>exact hb pins s1 σ H1 Q I1 q1
 | false=>exact ⟨.bl false,H1,I1,rfl,q1⟩
theorem Sg (ha:PE X a ta):PE X (.UnaryOp .Not a pos) (Ti ta):=by
 intro pins s σ H Q I h
 refine UnaryOp_ (thn (ha pins s σ H _ I h) fun v s1 ⟨x,H1,I1,r1,q1⟩=>?_)
 obtain ⟨c,rfl,q1⟩:=q1
 cases r1
 exact not_of (wpAny_truthy_bool ⟨.bl (!c),H1,I1,rfl,q1⟩)
def tIf (t:TT) (ta tb:TE):TE:=fun σ H Q=>t σ H fun c H1=>if c=true then ta σ H1 Q else tb σ H1 Q
theorem KI {c:Expr} (hc:PT X c tA) (ha:PE X a ta) (hb:PE X b tb):PE X (.IfExp c a b pos) (tIf tA ta tb):=by
 intro pins s σ H Q I h
 refine wpAny_IfExp (thn (hc pins s σ H _ I h) fun d s1 ⟨H1,I1,q1⟩=>?_)
 cases d with
 | true=>exact ha pins s1 σ H1 Q I1 q1
 | false=>exact hb pins s1 σ H1 Q I1 q1
end
end L2
namespace L2
open PySem PySem.Spec PyProof.Rows
def SqL (K:PySem.W.Frag) (H:Hp) (a:Addr) (xs:List V):Prop :=
 Rd H a (.lst xs) \/
  ∃(o:Obj) (its:Array Value) (n:Nat),K.lookup a=some o/\o.cls=.type "list"/\o.dict=none/\o.data=.seq its n/\its.size<=sizeLine/\A9 xs its.toList
def SqT (K:PySem.W.Frag) (H:Hp) (a:Addr) (xs:List V):Prop :=
 Rd H a (.tup xs) \/
  ∃(o:Obj) (its:Array Value) (n:Nat),K.lookup a=some o/\o.cls=.type "tuple"/\o.data=.seq its n/\its.size<=sizeLine/\A9 xs its.toList
def TM:Value->Option V
 | .none=>some .non
 | .bool b=>some (.bl b)
 | .int i _=>some (.int i)
 | .str x _=>some (.str x)
 | .bytes b _=>some (.byt b)
 | .float b _=>some (.flt b)
 | .ref a=>some (.ref a)
 | .type n=>some (.ty n)
 | _=>none
theorem AE.abs {x:V} {u:Value} (r:AE x u):TM u=some x:=by
 cases x with
 | non=>cases r;rfl
 | bl _=>cases r;rfl
 | int _=>obtain ⟨t,rfl⟩:=r;rfl
 | str _=>obtain ⟨t,rfl⟩:=r;rfl
 | byt _=>obtain ⟨t,rfl⟩:=r;rfl
 | flt _=>obtain ⟨t,rfl⟩:=r;rfl
 | ref _=>cases r;rfl
 | ty _=>cases r;rfl
theorem AE.inj {x y:V} {u:Value} (r:AE x u) (q:AE y u):x=y:=Option.some.inj (r.abs.symm.trans q.abs)
theorem A9.inj:∀{xs ys:List V} {us:List Value},A9 xs us->A9 ys us->xs=ys
 | _,_,_,.nil,.nil=>rfl
 | _,_,_,.cons r t,.cons r' t'=>by rw [r.inj r',A9.inj t t']
section
variable {X:Cx} {pins:List (Addr × Obj)} {σ:St} {H:Hp} {s:Shared} {a:Addr} {xs ys:List V}
theorem SqL.of {K:PySem.W.Frag} (h:H a=some (.lst xs)):SqL K H a xs:=.inl (.inl h)
theorem SqT.of {K:PySem.W.Frag} (h:H a=some (.tup xs)):SqT K H a xs:=.inl (.inl h)
theorem Inv.list (I:Inv X pins σ H s) (h:SqL X.K H a xs):∃its:List Value,A9 xs its/\PlainL s.heap a its.toArray/\xs.length<=sizeLine:=by
 rcases h with h | ⟨o,its,n,hk,hc,hd,hs,hz,r⟩
 ·obtain ⟨z,its,n,r,e⟩:=h.ok I.hok
  exact ⟨its,r,⟨_,n,e,rfl,rfl,rfl⟩,z⟩
 ·refine ⟨its.toList,r,⟨o,n,I.kIn a o hk,hc,hd,by simpa using hs⟩,?_⟩
  have e:=r.length
  simp only [Array.length_toList] at e
  omega
theorem Inv.tuple (I:Inv X pins σ H s) (h:SqT X.K H a xs):∃its:List Value,A9 xs its/\IsTup s.heap a its.toArray/\xs.length<=sizeLine:=by
 rcases h with h | ⟨o,its,n,hk,hc,hs,hz,r⟩
 ·obtain ⟨z,its,r,p⟩:=h.ok I.hok
  exact ⟨its,r,p,z⟩
 ·refine ⟨its.toList,r,⟨o,I.kIn a o hk,hc,n,by simpa using hs⟩,?_⟩
  have e:=r.length
  simp only [Array.length_toList] at e
  omega
theorem Inv.list_inj (I:Inv X pins σ H s) (h:SqL X.K H a xs) (h':SqL X.K H a ys):xs=ys:=by
 obtain ⟨its,r,⟨o,n,e,_,_,d⟩,_⟩:=I.list h
 obtain ⟨its',r',⟨o',n',e',_,_,d'⟩,_⟩:=I.list h'
 rw [e] at e';cases e'
 rw [d] at d'
 injection d' with d1 _
 have:its=its':=by simpa using congrArg Array.toList d1
 subst this
 exact r.inj r'
theorem Inv.tuple_inj (I:Inv X pins σ H s) (h:SqT X.K H a xs) (h':SqT X.K H a ys):xs=ys:=by
 obtain ⟨its,r,⟨o,e,_,n,d⟩,_⟩:=I.tuple h
 obtain ⟨its',r',⟨o',e',_,n',d'⟩,_⟩:=I.tuple h'
 rw [e] at e';cases e'
 rw [d] at d'
 injection d' with d1 _
 have:its=its':=by simpa using congrArg Array.toList d1
 subst this
 exact r.inj r'
end
abbrev Cx.wish (X:Cx) (E:Value->Shared->Prop):Cx:={ X with xe:=E }
abbrev Cx.nox (X:Cx):Cx:=X.wish fun _ _=>False
theorem Cx.Ok.wish {X:Cx} (ok:X.Ok) (E:Value->Shared->Prop):(X.wish E).Ok :=
 ⟨ok.mod,ok.kind,ok.glob,ok.blt,ok.above,ok.inj,ok.has,ok.cab,ok.hd,ok.frames,ok.stk,ok.exf,ok.bs,ok.bsz,ok.noex,ok.exfs,ok.funs,ok.frf⟩
theorem Cx.Ok.unwish {X:Cx} {E:Value->Shared->Prop} (ok:(X.wish E).Ok):X.Ok :=
 ⟨ok.mod,ok.kind,ok.glob,ok.blt,ok.above,ok.inj,ok.has,ok.cab,ok.hd,ok.frames,ok.stk,ok.exf,ok.bs,ok.bsz,ok.noex,ok.exfs,ok.funs,ok.frf⟩
section
variable {X:Cx} {pins:List (Addr × Obj)} {σ:St} {H:Hp} {s:Shared} {E:Value->Shared->Prop}
theorem Inv.wish (I:Inv X pins σ H s) (E:Value->Shared->Prop):Inv (X.wish E) pins σ H s:=⟨I.ok.wish E,I.os,I.bare,I.base,I.loc,I.cell,I.free,I.freeC,I.pin,I.hok,I.len⟩
theorem Inv.unwish (I:Inv (X.wish E) pins σ H s):Inv X pins σ H s:=⟨I.ok.unwish,I.os,I.bare,I.base,I.loc,I.cell,I.free,I.freeC,I.pin,I.hok,I.len⟩
theorem SP.unwish {D:IE} {f:Flow} {s':Shared} (h:SP (X.wish E) pins D f s'):SP X pins D f s':=by
 cases f with
 | next=>obtain ⟨σ',H',I,q⟩:=h;exact ⟨σ',H',I.unwish,q⟩
 | brk=>obtain ⟨σ',H',I,q⟩:=h;exact ⟨σ',H',I.unwish,q⟩
 | cont=>obtain ⟨σ',H',I,q⟩:=h;exact ⟨σ',H',I.unwish,q⟩
 | ret u=>obtain ⟨v,σ',H',I,r,q⟩:=h;exact ⟨v,σ',H',I.unwish,r,q⟩
theorem PSs.nox {st:List Stmt} {t:TS} (h:PSs X.nox st t):PSs X st t:=fun pins s σ H D I hw =>
 wpAny_mono (h pins s σ H D (I.wish _) hw) (fun _ _ q=>q.unwish) fun _ _ z=>False.elim z
end
section
variable {X:Cx} {st:Stmt} {rest:List Stmt} {t u:TS} {e:Expr} {te:TE} {pos:Pos}
def Te:TS:=fun D σ H=>D.nx σ H
def T6 (t u:TS):TS:=fun D σ H=>t { D with nx:=u D } σ H
theorem As:PSs X [] Te:=fun _ _ σ H _ I h=>wpAny_execs_nil ⟨σ,H,I,h⟩
theorem Ac (h1:PS X st t) (h2:PSs X rest u):PSs X (st :: rest) (T6 t u):=by
 intro pins s σ H D I h
 refine wpAny_execs_cons (thn (h1 pins s σ H { D with nx:=u D } I h) fun f s1 q=>?_)
 cases f with
 | next =>
   obtain ⟨σ',H',I',q⟩:=q
   exact h2 pins s1 σ' H' D I' q
 | ret v=>exact q
 | brk=>exact q
 | cont=>exact q
theorem Ah (h1:PS X st t):PSs X [st] t:=by
 intro pins s σ H D I h
 refine wpAny_execs_cons (thn (h1 pins s σ H D I h) fun f s1 q=>?_)
 cases f with
 | next=>exact wpAny_execs_nil q
 | ret v=>exact q
 | brk=>exact q
 | cont=>exact q
theorem Inv.quiet {pins:List (Addr × Obj)} {σ:St} {H:Hp} {s:Shared} (I:Inv X pins σ H s):interactive X.env=false:=by simp [interactive,I.ok.kind]
def T1 (te:TE):TS:=fun D σ H=>te σ H fun _ H1=>D.nx σ H1
theorem BE (he:PE X e te) (hs:swapsWith e none pos.line X.env=pure false:=by rfl):PS X (.Expr e pos) (T1 te):=by
 intro pins s σ H D I h
 exact wpAny_Expr_any (thn (he pins s σ H _ I h) fun v s1 ⟨x,H1,I1,r1,q1⟩=>⟨σ,H1,I1,q1⟩) I.quiet hs
def Ud (te:TE):TS:=fun D σ H=>te σ H D.rt
theorem Ao (he:PE X e te):PS X (.Return (some e) pos) (Ud te):=by
 intro pins s σ H D I h
 exact wpAny_Return_some (thn (he pins s σ H _ I h) fun v s1 ⟨x,H1,I1,r1,q1⟩=>⟨x,σ,H1,I1,r1,q1⟩)
def TJ (c:TT) (t u:TS):TS:=fun D σ H=>c σ H fun b H1=>if b=true then t D σ H1 else u D σ H1
theorem AS {c:Expr} {a b:List Stmt} {tc:TT} (hc:PT X c tc) (ha:PSs X a t) (hb:PSs X b u):PS X (.If c a b pos) (TJ tc t u):=by
 intro pins s σ H D I h
 refine wpAny_If (thn (hc pins s σ H _ I h) fun d s1 ⟨H1,I1,q1⟩=>?_)
 cases d with
 | true=>exact ha pins s1 σ H1 D I1 q1
 | false=>exact hb pins s1 σ H1 D I1 q1
def SU:TS:=fun _ _ _=>False
theorem EG:PS X st SU:=fun _ _ _ _ _ _ h=>h.elim
end
abbrev TG:=V->St->Hp->(St->Hp->Prop)->Prop
abbrev TGs:=List V->St->Hp->(St->Hp->Prop)->Prop
def PG (X:Cx) (target:Expr) (t:TG):Prop :=
 ∀(pins:List (Addr × Obj)) (s:Shared) (σ:St) (H:Hp) (v:V) (u:Value) (Q:St->Hp->Prop),Inv X pins σ H s->AE v u->t v σ H Q ->
  wpAny (model X.prog X.w) X.A (assign target X.env u) (fun _ s'=>∃σ' H',Inv X pins σ' H' s'/\Q σ' H') X.xe s
def PGs (X:Cx) (ts:List Expr) (t:TGs):Prop :=
 ∀(pins:List (Addr × Obj)) (s:Shared) (σ:St) (H:Hp) (vs:List V) (us:List Value) (Q:St->Hp->Prop),Inv X pins σ H s->A9 vs us->t vs σ H Q ->
  wpAny (model X.prog X.w) X.A (assignInOrder ((assignEach ts X.env).map (·.2)) us) (fun _ s'=>∃σ' H',Inv X pins σ' H' s'/\Q σ' H') X.xe s
abbrev Sk:=V->V->V->Hp->(Hp->Prop)->Prop
def Tn (X:Cx) (t:Sk):Prop :=
 ∀(pins:List (Addr × Obj)) (s:Shared) (σ:St) (H:Hp) (o i v:V) (ov iv u:Value) (Q:Hp->Prop),Inv X pins σ H s->AE o ov->AE i iv->AE v u->t o i v H Q ->
  wpAny (model X.prog X.w) X.A (setItem ov iv u) (fun _ s'=>∃H',Inv X pins σ H' s'/\Q H') X.xe s
section
variable {X:Cx} {pos:Pos}
def B4 (i:Nat):TG:=fun v σ H Q=>Q (σ.set i (some v)) H
theorem Bg {i:Nat} {x:Str} (hN:X.N.Nodup) (hi:X.N[i]?=some x) (hx:Loc X.env.scope x) (hf:X.fn x=true\/X.env.scope.names.lookup x=some .local:=by first | exact .inl rfl | exact .inr rfl | assumption):PG X (.Name x pos) (B4 i):=by
 intro pins s σ H v u Q I r h
 exact wpAny_assign_Name (Lr I hN hi hx r (fun s' I'=>⟨_,H,I',h⟩) hf)
def KW:TGs:=fun vs σ H Q=>vs=[]/\Q σ H
def Dl (t:TG) (u:TGs):TGs:=fun vs σ H Q=>∃v r,vs=v :: r/\t v σ H fun σ' H'=>u r σ' H' Q
theorem E4:PGs X [] KW:=by
 intro pins s σ H vs us Q I r h
 obtain ⟨e,h⟩:=h
 subst e
 cases r
 exact assignInOrder_nil ⟨σ,H,I,h⟩
theorem Be {e:Expr} {es:List Expr} {t:TG} {u:TGs} (h1:PG X e t) (h2:PGs X es u)
 (hs:(assignEach (e :: es) X.env).map (·.2)=assign e X.env :: (assignEach es X.env).map (·.2):=by rfl):PGs X (e :: es) (Dl t u):=by
 intro pins s σ H vs us Q I r h
 obtain ⟨v,vr,e1,h⟩:=h
 subst e1
 cases r with
 | cons r rr =>
   rw [hs]
   refine assignInOrder_cons (thn (h1 pins s σ H _ _ _ I r h) fun _ s1 ⟨σ1,H1,I1,q1⟩=>?_)
   exact h2 pins s1 σ1 H1 _ _ Q I1 rr q1
def K5 (K:PySem.W.Frag) (n:Nat) (t:TGs):TG:=fun v σ H Q=>∃a xs,v=.ref a/\SqT K H a xs/\xs.length=n/\t xs σ H Q
theorem Fw {es:List Expr} {k:Nat} {t:TGs} {n:Nat} (hc:X.calm=true) (h:PGs X es t)
 (hn:(assignEach es X.env).length=n:=by rfl) (hst:(assignEach es X.env).findIdx? (·.1)=none:=by rfl):PG X (.Tuple es k pos) (K5 X.K n t):=by
 intro pins s σ H v u Q I r hw
 obtain ⟨a,xs,e1,hq,hl,hw⟩:=hw
 subst e1
 cases r
 obtain ⟨its,rv,ht,hz⟩:=I.tuple hq
 refine assign_Tuple_tuple (I.ok.hd hc) ht (by simp [hn,<- hl,rv.length]) hst fun h' hx=>?_
 have I1:Inv X pins σ H { s with heap:=h' }:=I.kept (t':=s.toks) fun b o e=>hx b o (Nat.ne_of_lt (Heap.lt_size e)) e
 exact h pins _ σ H xs _ Q I1 (by simpa using rv) hw
def TF (to ti:TE) (t:Sk):TG:=fun v σ H Q=>to σ H fun o H1=>ti σ H1 fun i H2=>t o i v H2 fun H3=>Q σ H3
theorem EE {o i:Expr} {to ti:TE} {t:Sk} (ho:PE X o to) (hi:PE X i ti) (hs:Tn X t)
 (ha:∀v,assign (.Subscript o i pos) X.env v=(do
  let ov <- holding [v] (eval o X.env)
  let iv <- holding [v,ov] (eval i X.env)
  standAt pos
  holding [v,ov,iv] (setItem ov iv v)
  release [v,ov,iv] []):=by intro _;rfl):PG X (.Subscript o i pos) (TF to ti t):=by
 intro pins s σ H v u Q I r h
 rw [ha]
 refine wpAny_bind (wpAny_holding (thn (ho pins s σ H _ I h) fun ov s1 ⟨x,H1,I1,r1,q1⟩=>?_))
 refine wpAny_bind (wpAny_holding (thn (hi pins s1 σ H1 _ I1 q1) fun iv s2 ⟨y,H2,I2,r2,q2⟩=>?_))
 refine wpAny_bind (wpAny_standAt (wpAny_bind (wpAny_holding (thn (hs pins s2 σ H2 x y v ov iv u _ I2 r1 r2 r q2) fun _ s3 ⟨H3,I3,q3⟩=>?_))))
 exact wpAny_release ⟨σ,H3,I3,q3⟩
def Ow (te:TE) (g:TG):TS:=fun D σ H=>te σ H fun x H1=>g x σ H1 D.nx
theorem Eu {tg e:Expr} {te:TE} {g:TG} (he:PE X e te) (hg:PG X tg g) (hs:swapsWithSole [tg] e pos.line X.env=pure false:=by rfl) (hw:swappedStores [tg] e X.env=pure none:=by rfl)
 (h1:(assignEach [tg] X.env).map (·.2)=[assign tg X.env]:=by rfl):PS X (.Assign [tg] e pos) (Ow te g):=by
 intro pins s σ H D I h
 refine wpAny_Assign_stores (thn (he pins s σ H _ I h) fun v s1 ⟨x,H1,I1,r1,q1⟩=>?_) hs hw
 rw [h1]
 exact thn (hg pins s1 σ H1 x v _ I1 r1 q1) fun _ s2 q=>q
theorem Ak {i:Nat} {x:Str} {e:Expr} {te:TE} {pos':Pos} (hN:X.N.Nodup) (hi:X.N[i]?=some x) (hx:Loc X.env.scope x) (he:PE X e te) (hs:swapsWith e (some (.Name x pos')) pos.line X.env=pure false:=by rfl) (hf:X.fn x=true\/X.env.scope.names.lookup x=some .local:=by first | exact .inl rfl | exact .inr rfl | assumption) :
 PS X (.Assign [.Name x pos'] e pos) (Ow te (B4 i)):=by
 intro pins s σ H D I h
 refine wpAny_Assign_Name (thn (he pins s σ H _ I h) fun v s1 ⟨y,H1,I1,r1,q1⟩=>?_) hs
 exact Lr I1 hN hi hx r1 (fun s2 I2=>⟨_,H1,I2,q1⟩) hf
end
section
variable {X:Cx} {pos:Pos}
def Qt (c:TT) (tb:TS):TS:=fun D σ H=>∃W:Nat->St->Hp->Prop,(∃m,W m σ H)/\∀m σ H,W m σ H ->
 c σ H fun b H1=>if b=true then ∃N:St->Hp->Prop,(∀σ' H',N σ' H'->∃m',m' < m/\W m' σ' H')/\tb { D with nx:=N,ct:=N,bk:=D.nx } σ H1 else D.nx σ H1
theorem Ks {c:Expr} {body:List Stmt} {tc:TT} {tb:TS} (hp:PassesOwn (model X.prog X.w) X.A X.env X.xe) (hc:PT X c tc) (hb:PSs X body tb):PS X (.While c body [] pos) (Qt tc tb):=by
 intro pins s σ H D I h
 obtain ⟨W,⟨m0,w0⟩,turn⟩:=h
 refine wpAny_While (codeAny_whileLoop (fun n s'=>∃σ' H',Inv X pins σ' H' s'/\W n σ' H') ?_ m0 ⟨σ,H,I,w0⟩)
 rintro n s1 ⟨σ1,H1,I1,w1⟩
 refine wpAny_passesOwn hp (thn (hc pins s1 σ1 H1 _ I1 (turn n σ1 H1 w1)) fun b s2 ⟨H2,I2,q2⟩=>?_)
 cases b with
 | true =>
   obtain ⟨N,hN,q2⟩:=q2
   rw [if_pos rfl]
   refine wpAny_passesOwn hp (thn (hb pins s2 σ1 H2 _ I2 q2) fun f s3 q3=>?_)
   cases f with
   | next =>
     obtain ⟨σ3,H3,I3,n3⟩:=q3
     obtain ⟨m',hm,w3⟩:=hN σ3 H3 n3
     exact ⟨m',hm,σ3,H3,I3,w3⟩
   | cont =>
     obtain ⟨σ3,H3,I3,n3⟩:=q3
     obtain ⟨m',hm,w3⟩:=hN σ3 H3 n3
     exact ⟨m',hm,σ3,H3,I3,w3⟩
   | brk=>exact q3
   | ret v=>exact q3
 | false =>
   rw [if_neg Bool.false_ne_true]
   exact wpAny_execs_nil ⟨σ1,H2,I2,q2⟩
end
structure It where
 go:Nat->Hp->Prop
 yld:Nat->Hp->V->Hp->Prop
 stop:Nat->Hp->Prop
def GO (X:Cx) (pins:List (Addr × Obj)) (H:Hp) (b:Addr):Prop :=
 H b=none/\b≠X.env.locals/\b ∉ X.fs/\(b∈X.ex\/X.s₀.heap.objs.size<=b)/\(∀x c,X.env.cells.lookup x=some c->c≠b)/\∀p∈X.pn++pins,p.1≠b
theorem Inv.fpOk {X:Cx} {pins:List (Addr × Obj)} {σ:St} {H H':Hp} {s:Shared} {b:Addr} (I:Inv X pins σ H s) (hb:s.heap.objs.size<=b) (hn:H' b=none):GO X pins H' b:=by
 refine ⟨hn,Nat.ne_of_gt (Nat.lt_of_lt_of_le I.lt hb),I.nofs hb,.inr (Nat.le_trans I.sz hb),fun x c e z=>?_,fun p hp z=>?_⟩
 ·obtain ⟨v,q⟩:=I.cell x c e
  exact absurd (Nat.lt_of_lt_of_le q.lt (by rw [z];exact hb)) (Nat.lt_irrefl _)
 ·exact absurd (Nat.lt_of_lt_of_le (Heap.lt_size (I.pin p hp).1) (by rw [z];exact hb)) (Nat.lt_irrefl _)
structure KS (P:Program) (w:World) (K:PySem.W.Frag) (tg:Expr) (J:It) (fp:List Addr) (it:Addr) (tn:Nat->Heap->Prop):Prop where
 mem:it∈fp
 obj:∀i h,tn i h->∀b∈fp,∃o,h.get? b=some o/\∀v,o.data≠.cell v
 keep:∀i h h',tn i h->(∀b∈fp,∀o,h.get? b=some o->h'.get? b=some o)->tn i h'
 item:∀(X:Cx),X.prog=P->X.w=w->X.K=K->X.calm=true->∀(i:Nat) (pins:List (Addr × Obj)) (s:Shared) (σ:St) (H:Hp) (E:Value->Shared->Prop),Inv X pins σ H s->(∀b∈fp,GO X pins H b)->tn i s.heap->J.go i H ->
  wpAny (model P w) X.A (pyNext (.ref it)) (fun r s1=>∃u,r=some u /\
   wpAny (model P w) X.A (letOwnedTupleGo tg (.ref it) u) (fun _ s2=>∃x H',Inv X pins σ H' s2/\AE x u/\J.yld i H x H'/\tn (i+1) s2.heap/\∀b∈fp,H' b=none) E s1) E s
 done:∀(X:Cx),X.prog=P->X.w=w->X.K=K->X.calm=true->∀(i:Nat) (pins:List (Addr × Obj)) (s:Shared) (σ:St) (H:Hp) (E:Value->Shared->Prop),Inv X pins σ H s->(∀b∈fp,GO X pins H b)->tn i s.heap->J.stop i H ->
  wpAny (model P w) X.A (pyNext (.ref it)) (fun r s1=>r=none/\Inv X pins σ H s1) E s
 self:∀(A:Around) (i:Nat) (s:Shared) (Q:Value->Shared->Prop) (E:Value->Shared->Prop),tn i s.heap->Q (.ref it) s->wpAny (model P w) A (pyIter (.ref it)) Q E s
abbrev TI:=St->Hp->(It->Hp->Prop)->Prop
def PIE (X:Cx) (pins:List (Addr × Obj)) (σ:St) (tg:Expr) (R:It->Hp->Prop) (itv:Value) (s2:Shared):Prop :=
 ∃(it:Addr) (fp:List Addr) (tn:Nat->Heap->Prop) (J:It) (H':Hp),itv=.ref it/\Inv X pins σ H' s2/\KS X.prog X.w X.K tg J fp it tn/\tn 0 s2.heap/\(∀b∈fp,GO X pins H' b)/\R J H'
def PI (X:Cx) (tg iter:Expr) (wi:TI):Prop :=
 ∀(pins:List (Addr × Obj)) (s:Shared) (σ:St) (H:Hp) (R:It->Hp->Prop),Inv X pins σ H s->wi σ H R ->
  wpAny (model X.prog X.w) X.A (eval iter X.env) (fun v s1=>wpAny (model X.prog X.w) X.A (pyIter v) (PIE X pins σ tg R) X.xe s1) X.xe s
theorem PQ {M:Model} {A:Around} {E:Value->Shared->Prop} {s:Shared} {tg:Expr} {it:Addr} {u:Value} {o:Obj} {n:String} {vs:Array Value} {Q:Unit->Shared->Prop} (ho:s.heap.get? it=some o) (hc:o.cls=.type n) (hd:o.data=.fields vs)
 (hn:["enumerate","zip","dict_itemiterator","dict_reverseitemiterator","odict_iterator","itertools.zip_longest","itertools.pairwise"].contains n=false) (hQ:Q () s):wpAny M A (letOwnedTupleGo tg (.ref it) u) Q E s:=by
 unfold letOwnedTupleGo
 cases tg <;> first
  | exact wpAny_pure hQ
  | (cases u <;> first
   | exact wpAny_pure hQ
   | (refine wpAny_bind (wpAny_load ho ?_)
      rw [hc,hd]
      show wpAny M A (if (["enumerate","zip","dict_itemiterator","dict_reverseitemiterator","odict_iterator","itertools.zip_longest","itertools.pairwise"].contains n && vs[0]? == some (rawInt _))=true then _ else _) Q E s
      rw [if_neg (by intro h;rw [hn,Bool.false_and] at h;cases h)]
      exact wpAny_pure hQ))
def Itl (K:PySem.W.Frag) (a:Addr):It :=
 ⟨fun i H=>∃xs x,SqL K H a xs/\xs[i]?=some x,fun i H x H'=>H'=H/\∀xs,SqL K H a xs->xs[i]?=some x,fun i H=>∃xs,SqL K H a xs/\xs.length<=i⟩
def Itt (K:PySem.W.Frag) (a:Addr):It :=
 ⟨fun i H=>∃xs x,SqT K H a xs/\xs[i]?=some x,fun i H x H'=>H'=H/\∀xs,SqT K H a xs->xs[i]?=some x,fun i H=>∃xs,SqT K H a xs/\xs.length<=i⟩
def Itr (lo:Int) (n:Nat):It:=⟨fun i _=>i < n,fun i H x H'=>H'=H/\x=.int (lo+i),fun i _=>n<=i⟩
theorem ND {P:Program} {w:World} {K:PySem.W.Frag} {tg:Expr} (a it:Addr):KS P w K tg (Itl K a) [it] it (fun i h=>h.IsListIter it a i) where
 mem:=by simp
 obj:=fun i h st b hb=>by
  have e:b=it:=by simpa using hb
  subst e
  obtain ⟨o,e,c,d⟩:=st
  exact ⟨o,e,fun v z=>by rw [d] at z;cases z⟩
 keep:=fun i h h' st k=>st.at fun o e=>k it (by simp) o e
 item:=by
  intro X hP hw hK hc i pins s σ H E I hf st hg
  subst hP hw hK
  obtain ⟨xs,x,hq,hx⟩:=hg
  obtain ⟨its,rv,p,hz⟩:=I.list hq
  obtain ⟨u,hu,ru⟩:=rv.get hx
  obtain ⟨f0,f1,f2,f3,f4,f5⟩:=hf it (by simp)
  refine wpAny_pyNext_list_item st p.isList (x:=u) (by simpa using hu) fun h' st' sb=>?_
  have I1:Inv X pins σ H { s with heap:=h' }:=I.turned (t':=s.toks) (fun b o hb e=>(sb.2 b hb).trans e) f0 f1 f3 f4 f5
  obtain ⟨o,e,c,d⟩:=id st'
  exact ⟨u,rfl,PQ (s:={ s with heap:=h' }) e c d (by decide) ⟨x,H,I1,ru,⟨rfl,fun ys hy=>by rw [I.list_inj hy hq];exact hx⟩,st',fun b hb=>(hf b hb).1⟩⟩
 done:=by
  intro X hP hw hK hc i pins s σ H E I hf st hg
  subst hP hw hK
  obtain ⟨xs,hq,hx⟩:=hg
  obtain ⟨its,rv,p,hz⟩:=I.list hq
  obtain ⟨f0,f1,f2,f3,f4,f5⟩:=hf it (by simp)
  have hl:=rv.length
  exact wpAny_pyNext_list_end (I.ok.hd hc) st p.isList (by simp;omega) fun h' eb=>⟨rfl,I.turned (t':=s.toks) (fun b o hb e=>eb b o hb e) f0 f1 f3 f4 f5⟩
 self:=fun _ _ _ _ _ st h=>wpAny_pyIter_listiter st h
theorem LG {P:Program} {w:World} {K:PySem.W.Frag} {tg:Expr} (a it:Addr):KS P w K tg (Itt K a) [it] it (fun i h=>h.IsTupleIter it a i) where
 mem:=by simp
 obj:=fun i h st b hb=>by
  have e:b=it:=by simpa using hb
  subst e
  obtain ⟨o,e,c,d⟩:=st
  exact ⟨o,e,fun v z=>by rw [d] at z;cases z⟩
 keep:=fun i h h' st k=>st.at fun o e=>k it (by simp) o e
 item:=by
  intro X hP hw hK hc i pins s σ H E I hf st hg
  subst hP hw hK
  obtain ⟨xs,x,hq,hx⟩:=hg
  obtain ⟨its,rv,p,hz⟩:=I.tuple hq
  obtain ⟨u,hu,ru⟩:=rv.get hx
  obtain ⟨f0,f1,f2,f3,f4,f5⟩:=hf it (by simp)
  refine wpAny_pyNext_tuple_item st (show s.heap.IsTuple a its.toArray from p) (x:=u) (by simpa using hu) fun h' st' sb=>?_
  have I1:Inv X pins σ H { s with heap:=h' }:=I.turned (t':=s.toks) (fun b o hb e=>(sb.2 b hb).trans e) f0 f1 f3 f4 f5
  obtain ⟨o,e,c,d⟩:=id st'
  exact ⟨u,rfl,PQ (s:={ s with heap:=h' }) e c d (by decide) ⟨x,H,I1,ru,⟨rfl,fun ys hy=>by rw [I.tuple_inj hy hq];exact hx⟩,st',fun b hb=>(hf b hb).1⟩⟩
 done:=by
  intro X hP hw hK hc i pins s σ H E I hf st hg
  subst hP hw hK
  obtain ⟨xs,hq,hx⟩:=hg
  obtain ⟨its,rv,p,hz⟩:=I.tuple hq
  obtain ⟨f0,f1,f2,f3,f4,f5⟩:=hf it (by simp)
  have hl:=rv.length
  exact wpAny_pyNext_tuple_end (I.ok.hd hc) st (show s.heap.IsTuple a its.toArray from p) (by simp;omega) fun h' eb=>⟨rfl,I.turned (t':=s.toks) (fun b o hb e=>eb b o hb e) f0 f1 f3 f4 f5⟩
 self:=fun _ _ _ _ _ st h=>wpAny_pyIter_tupleiter st h
theorem LU {P:Program} {w:World} {K:PySem.W.Frag} {tg:Expr} (it:Addr) (lo:Int) (n:Nat):KS P w K tg (Itr lo n) [it] it (fun i h=>IsRangeIter h it (lo+(i:Nat)*1) ((n:Int) - (i:Nat)) 1) where
 mem:=by simp
 obj:=fun i h st b hb=>by
  have e:b=it:=by simpa using hb
  subst e
  exact ⟨_,st,fun v z=>by
   have z':Data.fields _=Data.cell v:=z
   cases z'⟩
 keep:=fun i h h' st k=>k it (by simp) _ st
 item:=by
  intro X hP hw hK hc i pins s σ H E I hf st hg
  subst hP hw hK
  obtain ⟨f0,f1,f2,f3,f4,f5⟩:=hf it (by simp)
  have W:=Walks.range (prog:=X.prog) (w:=X.w) (I.ok.hd hc) it lo 1 n
  refine W.item i s _ _ hg st fun v h' tk hv st' kk=>?_
  obtain ⟨t,rfl⟩:=hv
  have I1:Inv X pins σ H { s with heap:=h',toks:=tk }:=I.turned (fun b o hb e=>kk b o (by simpa using hb) e) f0 f1 f3 f4 f5
  refine ⟨_,rfl,PQ (s:={ s with heap:=h',toks:=tk }) (n:="range_iterator") st' rfl rfl (by decide) ⟨.int (lo+i),H,I1,⟨t,?_⟩,⟨rfl,rfl⟩,st',fun b hb=>(hf b hb).1⟩⟩
  rw [Int.mul_one]
 done:=by
  intro X hP hw hK hc i pins s σ H E I hf st hg
  subst hP hw hK
  obtain ⟨f0,f1,f2,f3,f4,f5⟩:=hf it (by simp)
  exact wpAny_pyNext_range_end (I.ok.hd hc) st (by have:n<=i:=hg;omega) fun h' eb=>⟨rfl,I.turned (t':=s.toks) (fun b o hb e=>eb b o hb e) f0 f1 f3 f4 f5⟩
 self:=fun _ _ _ _ _ st h=>wpAny_pyIter_rangeiter st h
end L2
namespace L2
open PySem PySem.Spec PyProof.Rows
section
variable {X:Cx} {tg:Expr}
def RU (K:PySem.W.Frag) (tl:TE):TI:=fun σ H R=>tl σ H fun x H1=>∃a,x=.ref a/\(∃xs,SqL K H1 a xs)/\R (Itl K a) H1
def TK (K:PySem.W.Frag) (tl:TE):TI:=fun σ H R=>tl σ H fun x H1=>∃a,x=.ref a/\(∃xs,SqT K H1 a xs)/\R (Itt K a) H1
theorem B1 {l:Expr} {tl:TE} (hl:PE X l tl):PI X tg l (RU X.K tl):=by
 intro pins s σ H R I h
 refine thn (hl pins s σ H _ I h) fun v s1 ⟨x,H1,I1,r1,q1⟩=>?_
 obtain ⟨a,e,⟨xs,hq⟩,q⟩:=q1
 subst e
 cases r1
 obtain ⟨its,rv,p,hz⟩:=I1.list hq
 refine wpAny_pyIter_list p.isList ?_
 refine ⟨s1.heap.objs.size,[s1.heap.objs.size],_,_,H1,rfl,I1.kept (t':=s1.toks) fun b o e=>Heap.get?_push_of_some _ e,ND a _,⟨_,Heap.get?_push_size _ rfl,rfl,rfl⟩,fun b hb=>?_,q⟩
 have e:b=s1.heap.objs.size:=by simpa using hb
 subst e
 exact I1.fpOk (Nat.le_refl _) (I1.hok.fresh (Nat.le_refl _))
theorem SA {l:Expr} {tl:TE} (hl:PE X l tl):PI X tg l (TK X.K tl):=by
 intro pins s σ H R I h
 refine thn (hl pins s σ H _ I h) fun v s1 ⟨x,H1,I1,r1,q1⟩=>?_
 obtain ⟨a,e,⟨xs,hq⟩,q⟩:=q1
 subst e
 cases r1
 obtain ⟨its,rv,p,hz⟩:=I1.tuple hq
 refine wpAny_pyIter_tuple (show s1.heap.IsTuple a its.toArray from p) ?_
 refine ⟨s1.heap.objs.size,[s1.heap.objs.size],_,_,H1,rfl,I1.kept (t':=s1.toks) fun b o e=>Heap.get?_push_of_some _ e,LG a _,⟨_,Heap.get?_push_size _ rfl,rfl,rfl⟩,fun b hb=>?_,q⟩
 have e:b=s1.heap.objs.size:=by simpa using hb
 subst e
 exact I1.fpOk (Nat.le_refl _) (I1.hok.fresh (Nat.le_refl _))
theorem OI {pins:List (Addr × Obj)} {σ:St} {H:Hp} {s:Shared} {R:It->Hp->Prop} {E:Value->Shared->Prop} {lo hi:Int} {t u v:Tok} {tk:Nat} (I:Inv X pins σ H s) (h1:-(2 ^ 62)<=lo) (h2:lo < 2 ^ 62) (h3:-(2 ^ 62)<=hi) (h4:hi < 2 ^ 62)
 (q:R (Itr lo (hi - lo).toNat) H):wpAny (model X.prog X.w) X.A (pyIter (.ref s.heap.objs.size)) (PIE X pins σ tg R) E { s with heap:=s.heap.push { cls:=.type "range",data:=.fields #[.int lo t,.int hi u,.int 1 v] },toks:=tk }:=by
 refine wpAny_pyIter_range (IsRange.new ..) (small_one h1 h2 h3 h4) ?_
 have I1:Inv X pins σ H { s with heap:=s.heap.push { cls:=.type "range",data:=.fields #[.int lo t,.int hi u,.int 1 v] },toks:=tk }:=I.kept fun b o e=>Heap.get?_push_of_some _ e
 refine ⟨(s.heap.push { cls:=.type "range",data:=.fields #[.int lo t,.int hi u,.int 1 v] }).objs.size,[(s.heap.push { cls:=.type "range",data:=.fields #[.int lo t,.int hi u,.int 1 v] }).objs.size],_,_,H,rfl,
  I1.kept (t':=tk) fun b o e=>Heap.get?_push_of_some _ e,LU _ lo (hi - lo).toNat,?_,fun b hb=>?_,q⟩
 ·have e1:lo+((0:Nat):Int)*1=lo:=by simp
  have e2:(((hi - lo).toNat:Nat):Int) - ((0:Nat):Int)=Builtin.Range.rangeSize lo hi 1:=by rw [rangeSize_one];split <;> omega
  show IsRangeIter _ _ (lo+((0:Nat):Int)*1) ((((hi - lo).toNat:Nat):Int) - ((0:Nat):Int)) 1
  rw [e1,e2]
  exact Heap.get?_push_size _ rfl
 ·have e:b=(s.heap.push { cls:=.type "range",data:=.fields #[.int lo t,.int hi u,.int 1 v] }).objs.size:=by simpa using hb
  subst e
  exact I1.fpOk (Nat.le_refl _) (I1.hok.fresh (Nat.le_refl _))
def Ta (ta:TA):TI:=fun σ H R=>ta σ H fun vs H1=>∃j:Int,vs=[.int j]/\-(2 ^ 62)<=j/\j < 2 ^ 62/\R (Itr 0 j.toNat) H1
theorem Ce {a:Expr} {ta:TA} {p pos:Pos} (hg:Gl X "range") (hm:X.mg "range"=none) (ha:PA X [a] ta) (hs:starEach [a] X.env=[(false,eval a X.env)]:=by rfl):PI X tg (.Call (.Name "range" p) [a] [] pos) (Ta ta):=by
 intro pins s σ H R I h
 refine Call_ (DU I hg hm boot_range (PyProof.Rows.callWith_type1 (thn (ha pos pins s σ H _ I h) fun us s1 ⟨vs,H1,I1,r1,q1⟩=>?_) hs rfl))
 obtain ⟨j,e,q1,q2,q⟩:=q1
 subst e
 cases r1 with
 | cons r rr =>
   cases rr
   obtain ⟨t,rfl⟩:=r
   exact call_range_1 (OI I1 (by omega) (by omega) q1 q2 (by simpa using q))
def T8 (wi:TI) (g:TG) (tb:TS):TS:=fun D σ H=>wi σ H fun J H1=>∃W:Nat->Nat->St->Hp->Prop,(∃m,W 0 m σ H1)/\∀i m σ H,W i m σ H ->
 (J.stop i H/\D.nx σ H)\/(J.go i H/\∃N:St->Hp->Prop,(∀σ' H',N σ' H'->∃m',m' < m/\W (i+1) m' σ' H')/\∀x H',J.yld i H x H'->g x σ H' fun σ2 H2=>tb { D with nx:=N,ct:=N,bk:=D.nx } σ2 H2)
def G3 (fp:List Addr) (h:Heap):List (Addr × Obj):=fp.filterMap fun b=>(h.get? b).map fun o=>(b,o)
theorem CO {fp:List Addr} {h:Heap} {b:Addr} {o:Obj} (hb:b∈fp) (e:h.get? b=some o):(b,o)∈G3 fp h:=mem_filterMap.mpr ⟨b,hb,by rw [e];rfl⟩
theorem Ob {fp:List Addr} {h:Heap} {p:Addr × Obj} (hp:p∈G3 fp h):p.1∈fp/\h.get? p.1=some p.2:=by
 obtain ⟨b,hb,e⟩:=mem_filterMap.mp hp
 cases q:h.get? b with
 | none=>rw [q] at e;cases e
 | some o =>
   rw [q] at e
   have e':(b,o)=p:=Option.some.inj e
   subst e'
   exact ⟨hb,q⟩
theorem Inv.pinned {pins:List (Addr × Obj)} {σ:St} {H:Hp} {s:Shared} {fp:List Addr} (I:Inv X pins σ H s) (hf:∀b∈fp,GO X pins H b) (ho:∀b∈fp,∃o,s.heap.get? b=some o/\∀v,o.data≠.cell v):Inv X (pins++G3 fp s.heap) σ H s :=
 I.pins_of fun p hp=>(mem_append.mp hp).elim (fun z=>I.pin p (mem_append_right _ z)) fun z=>by
  obtain ⟨hb,e⟩:=Ob z
  obtain ⟨f0,f1,f2,_⟩:=hf p.1 hb
  obtain ⟨o,e',d⟩:=ho p.1 hb
  rw [e] at e';cases e'
  exact ⟨e,f0,f1,f2,d⟩
theorem Inv.unpinned {pins pl:List (Addr × Obj)} {σ:St} {H:Hp} {s:Shared} (I:Inv X (pins++pl) σ H s):Inv X pins σ H s:=I.pins_of fun p hp=>I.pin p (mem_append_right _ (mem_append_left _ hp))
theorem D9 {iter:Expr} {body:List Stmt} {wi:TI} {g:TG} {tb:TS} {pos:Pos} (hp:PassesOwn (model X.prog X.w) X.A X.env X.xe) (hc:X.calm=true) (hi:PI X tg iter wi) (hg:PG X tg g) (hb:PSs X body tb)
 (hs:∀x,foldedSetIterable iter X.env x=pure x:=by intro _;rfl):PS X (.For tg iter body [] pos) (T8 wi g tb):=by
 intro pins s σ H D I h
 refine wpAny_For (thn (hi pins s σ H _ I h) fun v s1 h1=>thn h1 fun itv s2 h2=>?_) hs
 obtain ⟨it,fp,tn,J,H2,e,I2,T,st2,f2,W,⟨m0,w0⟩,turn⟩:=h2
 subst e
 have stat:∀{H':Hp},(∀b∈fp,H' b=none)->∀b∈fp,GO X pins H' b:=fun hn b hb=>⟨hn b hb,(f2 b hb).2⟩
 refine codeAny_forLoop_any (fun n s'=>∃i σ' H',Inv X pins σ' H' s'/\tn i s'.heap/\(∀b∈fp,H' b=none)/\W i n σ' H') ?_ m0 ⟨0,σ,H2,I2,st2,fun b hb=>(f2 b hb).1,w0⟩
 rintro n s3 ⟨i,σ3,H3,I3,st3,fr3,w3⟩
 rcases turn i n σ3 H3 w3 with ⟨stop,qn⟩ | ⟨go,N,hN,step⟩
 ·refine wpAny_passesOwn hp (thn (T.done X rfl rfl rfl hc i pins s3 σ3 H3 X.xe I3 (stat fr3) st3 stop) fun r s4 ⟨hr,I4⟩=>?_)
  subst hr
  exact wpAny_execs_nil ⟨σ3,H3,I4,qn⟩
 ·refine wpAny_passesOwn hp (thn (T.item X rfl rfl rfl hc i pins s3 σ3 H3 X.xe I3 (stat fr3) st3 go) fun r s4 ⟨u,hr,h4⟩=>?_)
  subst hr
  refine wpAny_passesOwn hp (thn h4 fun _ s5 ⟨x,H5,I5,r5,y5,st5,fr5⟩=>?_)
  have I5':=I5.pinned (stat fr5) (T.obj _ _ st5)
  refine wpAny_passesOwn hp (thn (hg _ s5 σ3 H5 x u _ I5' r5 (step x H5 y5)) fun _ s6 ⟨σ6,H6,I6,q6⟩=>?_)
  refine wpAny_passesOwn hp (thn (hb _ s6 σ6 H6 _ I6 q6) fun f s7 q7=>?_)
  have again:∀{σ7:St} {H7:Hp},Inv X (pins++G3 fp s5.heap) σ7 H7 s7->N σ7 H7->∃m,m < n/\∃i σ' H',Inv X pins σ' H' s7/\tn i s7.heap/\(∀b∈fp,H' b=none)/\W i m σ' H':=fun {σ7 H7} I7 n7=>by
   obtain ⟨m',hm,w7⟩:=hN σ7 H7 n7
   refine ⟨m',hm,i+1,σ7,H7,I7.unpinned,T.keep _ _ _ st5 fun b hb o e=>(I7.pin (b,o) (mem_append_right _ (mem_append_right _ (CO hb e)))).1,fun b hb=>?_,w7⟩
   obtain ⟨o,e,d⟩:=T.obj _ _ st5 b hb
   exact (I7.pin (b,o) (mem_append_right _ (mem_append_right _ (CO hb e)))).2.1
  cases f with
  | next=>obtain ⟨σ7,H7,I7,n7⟩:=q7;exact again I7 n7
  | cont=>obtain ⟨σ7,H7,I7,n7⟩:=q7;exact again I7 n7
  | brk=>obtain ⟨σ7,H7,I7,q7⟩:=q7;exact ⟨σ7,H7,I7.unpinned,q7⟩
  | ret v=>obtain ⟨x7,σ7,H7,I7,r7,q7⟩:=q7;exact ⟨x7,σ7,H7,I7.unpinned,r7,q7⟩
end
theorem EQ {K:PySem.W.Frag} {a:Addr} {xs:List V} {g:TG} {tb:TS} {D:IE} {σ:St} {H:Hp} (Pv:Nat->St->Hp->Prop) (h0:Pv 0 σ H) (hl:∀i σ H,i<=xs.length->Pv i σ H->SqL K H a xs)
 (hs:∀i x σ H,xs[i]?=some x->Pv i σ H->g x σ H fun σ2 H2=>tb { D with nx:=Pv (i+1),ct:=Pv (i+1),bk:=D.nx } σ2 H2) (hd:∀σ H,Pv xs.length σ H->D.nx σ H) :
 ∃W:Nat->Nat->St->Hp->Prop,(∃m,W 0 m σ H)/\∀i m σ H,W i m σ H ->
  ((Itl K a).stop i H/\D.nx σ H)\/((Itl K a).go i H/\∃N:St->Hp->Prop,(∀σ' H',N σ' H'->∃m',m' < m/\W (i+1) m' σ' H')/\∀x H',(Itl K a).yld i H x H'->g x σ H' fun σ2 H2=>tb { D with nx:=N,ct:=N,bk:=D.nx } σ2 H2):=by
 refine ⟨fun i m σ H=>m=xs.length - i/\i<=xs.length/\Pv i σ H,⟨xs.length,by simp,Nat.zero_le _,h0⟩,?_⟩
 rintro i m σ H ⟨rfl,hi,p⟩
 have q:=hl i σ H hi p
 by_cases hlt:i < xs.length
 ·refine .inr ⟨⟨xs,xs[i],q,by simp [hlt]⟩,Pv (i+1),fun σ' H' p'=>⟨xs.length - (i+1),by omega,rfl,hlt,p'⟩,fun x H' y=>?_⟩
  obtain ⟨e,y⟩:=y
  subst e
  exact hs i x σ _ (y xs q) p
 ·have e:i=xs.length:=by omega
  subst e
  exact .inl ⟨⟨xs,q,Nat.le_refl _⟩,hd σ H p⟩
theorem Ro {K:PySem.W.Frag} {a:Addr} {xs:List V} {g:TG} {tb:TS} {D:IE} {σ:St} {H:Hp} (Pv:Nat->St->Hp->Prop) (h0:Pv 0 σ H) (hl:∀i σ H,i<=xs.length->Pv i σ H->SqT K H a xs)
 (hs:∀i x σ H,xs[i]?=some x->Pv i σ H->g x σ H fun σ2 H2=>tb { D with nx:=Pv (i+1),ct:=Pv (i+1),bk:=D.nx } σ2 H2) (hd:∀σ H,Pv xs.length σ H->D.nx σ H) :
 ∃W:Nat->Nat->St->Hp->Prop,(∃m,W 0 m σ H)/\∀i m σ H,W i m σ H ->
  ((Itt K a).stop i H/\D.nx σ H)\/((Itt K a).go i H/\∃N:St->Hp->Prop,(∀σ' H',N σ' H'->∃m',m' < m/\W (i+1) m' σ' H')/\∀x H',(Itt K a).yld i H x H'->g x σ H' fun σ2 H2=>tb { D with nx:=N,ct:=N,bk:=D.nx } σ2 H2):=by
 refine ⟨fun i m σ H=>m=xs.length - i/\i<=xs.length/\Pv i σ H,⟨xs.length,by simp,Nat.zero_le _,h0⟩,?_⟩
 rintro i m σ H ⟨rfl,hi,p⟩
 have q:=hl i σ H hi p
 by_cases hlt:i < xs.length
 ·refine .inr ⟨⟨xs,xs[i],q,by simp [hlt]⟩,Pv (i+1),fun σ' H' p'=>⟨xs.length - (i+1),by omega,rfl,hlt,p'⟩,fun x H' y=>?_⟩
  obtain ⟨e,y⟩:=y
  subst e
  exact hs i x σ _ (y xs q) p
 ·have e:i=xs.length:=by omega
  subst e
  exact .inl ⟨⟨xs,q,Nat.le_refl _⟩,hd σ H p⟩
theorem Gp {lo:Int} {n:Nat} {g:TG} {tb:TS} {D:IE} {σ:St} {H:Hp} (Pv:Nat->St->Hp->Prop) (h0:Pv 0 σ H)
 (hs:∀i σ H,i < n->Pv i σ H->g (.int (lo+i)) σ H fun σ2 H2=>tb { D with nx:=Pv (i+1),ct:=Pv (i+1),bk:=D.nx } σ2 H2) (hd:∀σ H,Pv n σ H->D.nx σ H) :
 ∃W:Nat->Nat->St->Hp->Prop,(∃m,W 0 m σ H)/\∀i m σ H,W i m σ H ->
  ((Itr lo n).stop i H/\D.nx σ H)\/((Itr lo n).go i H/\∃N:St->Hp->Prop,(∀σ' H',N σ' H'->∃m',m' < m/\W (i+1) m' σ' H')/\∀x H',(Itr lo n).yld i H x H'->g x σ H' fun σ2 H2=>tb { D with nx:=N,ct:=N,bk:=D.nx } σ2 H2):=by
 refine ⟨fun i m σ H=>m=n - i/\i<=n/\Pv i σ H,⟨n,by simp,Nat.zero_le _,h0⟩,?_⟩
 rintro i m σ H ⟨rfl,hi,p⟩
 by_cases hlt:i < n
 ·refine .inr ⟨hlt,Pv (i+1),fun σ' H' p'=>⟨n - (i+1),by omega,rfl,hlt,p'⟩,fun x H' y=>?_⟩
  obtain ⟨e,y⟩:=y
  subst e y
  exact hs i σ _ hlt p
 ·have e:i=n:=by omega
  subst e
  exact .inl ⟨Nat.le_refl _,hd σ H p⟩
theorem Lc {c:TT} {tb:TS} {D:IE} {σ:St} {H:Hp} (Pv:St->Hp->Prop) (μ:St->Hp->Nat) (h0:Pv σ H)
 (hs:∀σ H,Pv σ H->c σ H fun b H1=>if b=true then tb { D with nx:=fun σ' H'=>Pv σ' H'/\μ σ' H' < μ σ H,ct:=fun σ' H'=>Pv σ' H'/\μ σ' H' < μ σ H,bk:=D.nx } σ H1 else D.nx σ H1)
 (mono:∀σ H Q Q',(∀b H1,Q b H1->Q' b H1)->c σ H Q->c σ H Q'):Qt c tb D σ H:=by
 refine ⟨fun m σ H=>m=μ σ H/\Pv σ H,⟨_,rfl,h0⟩,?_⟩
 rintro m σ H ⟨rfl,p⟩
 refine mono σ H _ _ (fun b H1 q=>?_) (hs σ H p)
 cases b with
 | true=>exact ⟨_,fun σ' H' ⟨p',l⟩=>⟨_,l,rfl,p'⟩,q⟩
 | false=>exact q
end L2
namespace L2
open PySem PySem.Spec PyProof.Rows
abbrev R2:=V->V->Hp->VK->Prop
def OpR (X:Cx) (f:Value->Value->Sem Value) (r:R2):Prop :=
 ∀(pins:List (Addr × Obj)) (s:Shared) (σ:St) (H:Hp) (x y:V) (v u:Value) (Q:VK),Inv X pins σ H s->AE x v->AE y u->r x y H Q ->
  wpAny (model X.prog X.w) X.A (f v u) (EP X pins σ Q) X.xe s
def UnR (X:Cx) (f:Value->Sem Value) (r:V->Hp->VK->Prop):Prop :=
 ∀(pins:List (Addr × Obj)) (s:Shared) (σ:St) (H:Hp) (x:V) (v:Value) (Q:VK),Inv X pins σ H s->AE x v->r x H Q ->
  wpAny (model X.prog X.w) X.A (f v) (EP X pins σ Q) X.xe s
def DG (X:Cx) (f:Value) (r:List V->Hp->VK->Prop):Prop :=
 ∀(pins:List (Addr × Obj)) (s:Shared) (σ:St) (H:Hp) (xs:List V) (us:List Value) (Q:VK),Inv X pins σ H s->A9 xs us->r xs H Q ->
  wpAny (model X.prog X.w) X.A (call f us) (EP X pins σ Q) X.xe s
def tOp (r:R2) (ta tb:TE):TE:=fun σ H Q=>ta σ H fun x H1=>tb σ H1 fun y H2=>r x y H2 Q
def tUn (r:V->Hp->VK->Prop) (ta:TE):TE:=fun σ H Q=>ta σ H fun x H1=>r x H1 Q
def rI (C:Int->Int->Prop) (g:Int->Int->V):R2:=fun x y H Q=>∃i j,x=.int i/\y=.int j/\C i j/\Q (g i j) H
def rI0 (g:Int->Int->V):R2:=fun x y H Q=>∃i j,x=.int i/\y=.int j/\Q (g i j) H
def rU (g:Int->V):V->Hp->VK->Prop:=fun x H Q=>∃i,x=.int i/\Q (g i) H
section
variable {X:Cx} {a b c:Expr} {ta tb tc:TE} {pos:Pos}
theorem SY (ha:PE X a ta) (hb:PE X b tb) {pins:List (Addr × Obj)} {s:Shared} {σ:St} {H:Hp} {R:V->V->Hp->Prop} (I:Inv X pins σ H s)
 (h:ta σ H fun x H1=>tb σ H1 fun y H2=>R x y H2) {Q:Value->Shared->Prop} {f:Value->Value->Sem Value}
 (hf:∀v u s2 x y H2,Inv X pins σ H2 s2->AE x v->AE y u->R x y H2->wpAny (model X.prog X.w) X.A (f v u) Q X.xe s2) :
 wpAny (model X.prog X.w) X.A (eval a X.env) (fun v s₁=>wpAny (model X.prog X.w) X.A (eval b X.env) (fun u s₂=>wpAny (model X.prog X.w) X.A (f v u) Q X.xe s₂) X.xe s₁) X.xe s:=by
 refine thn (ha pins s σ H _ I h) fun v s1 ⟨x,H1,I1,r1,q1⟩=>?_
 refine thn (hb pins s1 σ H1 _ I1 q1) fun u s2 ⟨y,H2,I2,r2,q2⟩=>?_
 exact hf v u s2 x y H2 I2 r1 r2 q2
theorem Ai {op:Operator} {r:R2} (ho:OpR X (binaryOp op) r) (ha:PE X a ta) (hb:PE X b tb):PE X (.BinOp a op b pos) (tOp r ta tb):=by
 intro pins s σ H Q I h
 exact wpAny_BinOp (SY ha hb I h fun v u s2 x y H2 I2 rx ry q=>ho pins s2 σ H2 x y v u Q I2 rx ry q)
theorem M7 {op:UnaryOp} {r:V->Hp->VK->Prop} (ho:UnR X (unaryOp op) r) (ha:PE X a ta):PE X (.UnaryOp op a pos) (tUn r ta):=by
 intro pins s σ H Q I h
 exact UnaryOp_ (thn (ha pins s σ H _ I h) fun v s1 ⟨x,H1,I1,r1,q1⟩=>ho pins s1 σ H1 x v Q I1 r1 q1)
theorem opI {f:Value->Value->Sem Value} {C:Int->Int->Prop} {g:Int->Int->Int}
 (rule:∀(i j:Int) (t u:Tok) (s:Shared) (Q:Value->Shared->Prop) (E:Value->Shared->Prop),C i j->Q (.int (g i j) s.toks) { s with toks:=s.toks+1 }->wpAny (model X.prog X.w) X.A (f (.int i t) (.int j u)) Q E s) :
 OpR X f (rI C fun i j=>.int (g i j)):=by
 intro pins s σ H x y v u Q I rx ry h
 obtain ⟨i,j,rfl,rfl,hc,q⟩:=h
 obtain ⟨t,rfl⟩:=rx
 obtain ⟨t',rfl⟩:=ry
 exact rule i j t t' s _ _ hc ⟨.int (g i j),H,I.tok _,⟨_,rfl⟩,q⟩
theorem SL {f:Value->Value->Sem Value} {g:Int->Int->Int}
 (rule:∀(i j:Int) (t u:Tok) (s:Shared) (Q:Value->Shared->Prop) (E:Value->Shared->Prop),Q (.int (g i j) s.toks) { s with toks:=s.toks+1 }->wpAny (model X.prog X.w) X.A (f (.int i t) (.int j u)) Q E s) :
 OpR X f (rI0 fun i j=>.int (g i j)):=by
 intro pins s σ H x y v u Q I rx ry h
 obtain ⟨i,j,rfl,rfl,q⟩:=h
 obtain ⟨t,rfl⟩:=rx
 obtain ⟨t',rfl⟩:=ry
 exact rule i j t t' s _ _ ⟨.int (g i j),H,I.tok _,⟨_,rfl⟩,q⟩
theorem Rj {f:Value->Value->Sem Value} {g:Int->Int->Bool}
 (rule:∀(i j:Int) (t u:Tok) (s:Shared) (Q:Value->Shared->Prop) (E:Value->Shared->Prop),Q (.bool (g i j)) s->wpAny (model X.prog X.w) X.A (f (.int i t) (.int j u)) Q E s) :
 OpR X f (rI0 fun i j=>.bl (g i j)):=by
 intro pins s σ H x y v u Q I rx ry h
 obtain ⟨i,j,rfl,rfl,q⟩:=h
 obtain ⟨t,rfl⟩:=rx
 obtain ⟨t',rfl⟩:=ry
 exact rule i j t t' s _ _ ⟨.bl (g i j),H,I,rfl,q⟩
def QL (i j:Int):Prop:=0<=j/\j<=1000000/\i.natAbs < 2 ^ 64
theorem Mo (k:Nat):(0:Int)<=2 ^ k:=by
 rw [two_pow_cast]
 exact Int.natCast_nonneg _
theorem AQ:OpR X (binaryOp .Add) (rI0 fun i j=>.int (i+j)):=SL fun _ _ _ _ _ _ _ q=>add_int q
theorem EI:OpR X (binaryOp .Sub) (rI0 fun i j=>.int (i - j)):=SL fun _ _ _ _ _ _ _ q=>sub_int q
theorem A0:OpR X (binaryOp .Mod) (rI (fun _ j=>j≠0) fun i j=>.int (i.fmod j)):=opI fun _ _ _ _ _ _ _ hc q=>mod_int' hc q
theorem Km:OpR X (binaryOp .Pow) (rI QL fun i j=>.int (i ^ j.toNat)):=opI fun _ _ _ _ _ _ _ hc q=>pow_int_small hc.1 hc.2.1 hc.2.2 q
theorem LB:OpR X (binaryOp .LShift) (rI QL fun i j=>.int (i*2 ^ j.toNat)):=opI fun _ _ _ _ _ _ _ hc q=>lshift_int_small hc.1 hc.2.1 hc.2.2 q
theorem OL:OpR X (binaryOp .RShift) (rI (fun _ j=>0<=j) fun i j=>.int (i / 2 ^ j.toNat)):=opI fun i j _ _ _ _ _ hc q =>
 rshift_int hc (by rw [Int.fdiv_eq_ediv_of_nonneg i (Mo _)];exact q)
theorem Hu:OpR X (binaryOp .BitAnd) (rI0 fun i j=>.int (Builtin.bitAnd i j)):=SL fun _ _ _ _ _ _ _ q=>and_int q
theorem unI {f:Value->Sem Value} {g:Int->Int}
 (rule:∀(i:Int) (t:Tok) (s:Shared) (Q:Value->Shared->Prop) (E:Value->Shared->Prop),Q (.int (g i) s.toks) { s with toks:=s.toks+1 }->wpAny (model X.prog X.w) X.A (f (.int i t)) Q E s) :
 UnR X f (rU fun i=>.int (g i)):=by
 intro pins s σ H x v Q I rx h
 obtain ⟨i,rfl,q⟩:=h
 obtain ⟨t,rfl⟩:=rx
 exact rule i t s _ _ ⟨.int (g i),H,I.tok _,⟨_,rfl⟩,q⟩
theorem LH:UnR X (unaryOp .USub) (rU fun i=>.int (-i)):=unI fun _ _ _ _ _ q=>neg_int q
theorem S3:UnR X (unaryOp .Invert) (rU fun i=>.int (Builtin.bitNot i)):=unI fun _ _ _ _ _ q=>invert_int q
end
def Ty:V->V->Bool
 | .non,.non=>true | .non,.int _=>true | .int _,.non=>true | .non,.bl _=>true | .bl _,.non=>true | .non,.str _=>true | .str _,.non=>true
 | .int _,.int _=>true | .bl _,.bl _=>true | .str _,.str _=>true | .byt _,.byt _=>true
 | .int _,.str _=>true | .str _,.int _=>true | .bl _,.str _=>true | .str _,.bl _=>true
 | _,_=>false
def rEq:R2:=fun x y H Q=>Ty x y=true/\Q (.bl (decide (x=y))) H
def rNe:R2:=fun x y H Q=>Ty x y=true/\Q (.bl (!decide (x=y))) H
theorem Nq {i j:Int}:decide (V.int i=V.int j)=(i == j):=by
 rw [Bool.eq_iff_iff]
 simp
theorem PH {i j:Bool}:decide (V.bl i=V.bl j)=(i == j):=by
 rw [Bool.eq_iff_iff]
 simp
theorem M5 {i j:Str}:decide (V.str i=V.str j)=(i == j):=by
 rw [Bool.eq_iff_iff]
 simp
theorem MR {i j:Array UInt8}:decide (V.byt i=V.byt j)=(i.toList == j.toList):=by
 rw [Bool.eq_iff_iff]
 cases i
 cases j
 simp
section
variable {X:Cx} {a b c:Expr} {ta tb tc:TE} {pos:Pos}
theorem AM {pins:List (Addr × Obj)} {σ:St} {H:Hp} {s:Shared} {Q:VK} {k k':Bool} (I:Inv X pins σ H s) (q:Q (.bl k) H) (e:k=k'):EP X pins σ Q (.bool k') s:=by
 subst e
 exact ⟨.bl k,H,I,rfl,q⟩
theorem By:OpR X (compareOp .Eq) rEq:=by
 intro pins s σ H x y v u Q I rx ry h
 obtain ⟨hs,q⟩:=h
 cases x with
 | non =>
   cases rx
   cases y with
   | non=>cases ry;exact PySem.EqNone.eq_none_none (AM I q (by simp))
   | bl j=>cases ry;exact PySem.EqNone.eq_none_bool (AM I q (by simp))
   | int j=>obtain ⟨t',rfl⟩:=ry;exact PySem.EqNone.eq_none_int (AM I q (by simp))
   | str j=>obtain ⟨t',rfl⟩:=ry;exact PySem.EqNone.eq_none_str (AM I q (by simp))
   | _=>exact absurd (show false=true from hs) Bool.false_ne_true
 | bl i =>
   cases rx
   cases y with
   | non=>cases ry;exact PySem.EqNone.eq_bool_none (AM I q (by simp))
   | bl j=>cases ry;exact eq_bool (AM I q PH)
   | str j=>obtain ⟨t',rfl⟩:=ry;exact PySem.EqMixed.eq_bool_str (AM I q (by simp))
   | _=>exact absurd (show false=true from hs) Bool.false_ne_true
 | int i =>
   obtain ⟨t,rfl⟩:=rx
   cases y with
   | non=>cases ry;exact PySem.EqNone.eq_int_none (AM I q (by simp))
   | int j=>obtain ⟨t',rfl⟩:=ry;exact eq_int (AM I q Nq)
   | str j=>obtain ⟨t',rfl⟩:=ry;exact PySem.EqMixed.eq_int_str (AM I q (by simp))
   | _=>exact absurd (show false=true from hs) Bool.false_ne_true
 | str i =>
   obtain ⟨t,rfl⟩:=rx
   cases y with
   | non=>cases ry;exact PySem.EqNone.eq_str_none (AM I q (by simp))
   | bl j=>cases ry;exact PySem.EqMixed.eq_str_bool (AM I q (by simp))
   | int j=>obtain ⟨t',rfl⟩:=ry;exact PySem.EqMixed.eq_str_int (AM I q (by simp))
   | str j=>obtain ⟨t',rfl⟩:=ry;exact eq_str (AM I q M5)
   | _=>exact absurd (show false=true from hs) Bool.false_ne_true
 | byt i =>
   obtain ⟨t,rfl⟩:=rx
   cases y with
   | byt j=>obtain ⟨t',rfl⟩:=ry;exact PySem.W.eq_bytes (AM I q MR)
   | _=>exact absurd (show false=true from hs) Bool.false_ne_true
 | _=>cases y <;> exact absurd (show false=true from hs) Bool.false_ne_true
theorem MH:OpR X (compareOp .NotEq) rNe:=by
 intro pins s σ H x y v u Q I rx ry h
 obtain ⟨hs,q⟩:=h
 cases x with
 | non =>
   cases rx
   cases y with
   | non=>cases ry;exact PySem.EqNone.ne_none_none (AM I q (by simp))
   | bl j=>cases ry;exact PySem.EqNone.ne_none_bool (AM I q (by simp))
   | int j=>obtain ⟨t',rfl⟩:=ry;exact PySem.EqNone.ne_none_int (AM I q (by simp))
   | str j=>obtain ⟨t',rfl⟩:=ry;exact PySem.EqNone.ne_none_str (AM I q (by simp))
   | _=>exact absurd (show false=true from hs) Bool.false_ne_true
 | bl i =>
   cases rx
   cases y with
   | non=>cases ry;exact PySem.EqNone.ne_bool_none (AM I q (by simp))
   | bl j=>cases ry;exact ne_bool (AM I q (congrArg not PH))
   | str j=>obtain ⟨t',rfl⟩:=ry;exact PySem.EqMixed.ne_bool_str (AM I q (by simp))
   | _=>exact absurd (show false=true from hs) Bool.false_ne_true
 | int i =>
   obtain ⟨t,rfl⟩:=rx
   cases y with
   | non=>cases ry;exact PySem.EqNone.ne_int_none (AM I q (by simp))
   | int j=>obtain ⟨t',rfl⟩:=ry;exact ne_int (AM I q (congrArg not Nq))
   | str j=>obtain ⟨t',rfl⟩:=ry;exact PySem.EqMixed.ne_int_str (AM I q (by simp))
   | _=>exact absurd (show false=true from hs) Bool.false_ne_true
 | str i =>
   obtain ⟨t,rfl⟩:=rx
   cases y with
   | non=>cases ry;exact PySem.EqNone.ne_str_none (AM I q (by simp))
   | bl j=>cases ry;exact PySem.EqMixed.ne_str_bool (AM I q (by simp))
   | int j=>obtain ⟨t',rfl⟩:=ry;exact PySem.EqMixed.ne_str_int (AM I q (by simp))
   | str j=>obtain ⟨t',rfl⟩:=ry;exact ne_str (AM I q (congrArg not M5))
   | _=>exact absurd (show false=true from hs) Bool.false_ne_true
 | byt i =>
   obtain ⟨t,rfl⟩:=rx
   cases y with
   | byt j=>obtain ⟨t',rfl⟩:=ry;exact PySem.W.ne_bytes (AM I q (congrArg not MR))
   | _=>exact absurd (show false=true from hs) Bool.false_ne_true
 | _=>cases y <;> exact absurd (show false=true from hs) Bool.false_ne_true
theorem MF:OpR X (compareOp .Lt) (rI0 fun i j=>.bl (decide (i < j))):=Rj fun _ _ _ _ _ _ _ q=>lt_int q
theorem Lk:OpR X (compareOp .LtE) (rI0 fun i j=>.bl (decide (i<=j))):=Rj fun _ _ _ _ _ _ _ q=>le_int q
theorem MZ:OpR X (compareOp .Gt) (rI0 fun i j=>.bl (decide (j < i))):=Rj fun _ _ _ _ _ _ _ q=>gt_int q
theorem RN:OpR X (compareOp .GtE) (rI0 fun i j=>.bl (decide (j<=i))):=Rj fun _ _ _ _ _ _ _ q=>ge_int q
theorem PV:OpR X (compareOp .Is) (fun x y H Q=>y=.non/\Q (.bl (decide (x=.non))) H):=by
 intro pins s σ H x y v u Q I rx ry h
 obtain ⟨rfl,q⟩:=h
 cases ry
 refine is_none_gen (AM I q ?_)
 cases x <;> first
  | (cases rx;rfl)
  | (obtain ⟨t,rfl⟩:=rx;rfl)
theorem R1:OpR X (compareOp .IsNot) (fun x y H Q=>y=.non/\Q (.bl (!decide (x=.non))) H):=by
 intro pins s σ H x y v u Q I rx ry h
 obtain ⟨rfl,q⟩:=h
 cases ry
 refine isnot_none_gen (AM I q ?_)
 cases x <;> first
  | (cases rx;rfl)
  | (obtain ⟨t,rfl⟩:=rx;rfl)
theorem Aw (b:Expr) {op:CmpOp} (h:op≠.In:=by decide) (h2:op≠.NotIn:=by decide):behindInMarks op b=false:=by
 have e1:(op == CmpOp.In)=false:=by cases op <;> first | rfl | exact absurd rfl h
 have e2:(op == CmpOp.NotIn)=false:=by cases op <;> first | rfl | exact absurd rfl h2
 cases b <;> simp [behindInMarks,e1,e2]
theorem DL {op:CmpOp} {r:R2} (ho:OpR X (compareOp op) r) (ha:PE X a ta) (hb:PE X b tb) (hm:behindInMarks op b=false):PE X (.Compare a [op] [b] pos) (tOp r ta tb):=by
 intro pins s σ H Q I h
 exact wpAny_Compare1 (SY ha hb I h fun v u s2 x y H2 I2 rx ry q=>ho pins s2 σ H2 x y v u Q I2 rx ry q) hm
def Oq (t:TE):TT:=fun σ H Q=>t σ H fun x H'=>∃k,x=.bl k/\Q k H'
theorem Aq {op:CmpOp} {r:R2} (ho:OpR X (compareOp op) r) (ha:PE X a ta) (hb:PE X b tb) (hm:behindInMarks op b=false):PT X (.Compare a [op] [b] pos) (Oq (tOp r ta tb)):=by
 intro pins s σ H Q I h
 refine wpAny_isTrue_Compare1 (thn (ha pins s σ H _ I h) fun v s1 ⟨x,H1,I1,r1,q1⟩=>thn (hb pins s1 σ H1 _ I1 q1) fun u s2 ⟨y,H2,I2,r2,q2⟩ =>
  thn (ho pins s2 σ H2 x y v u _ I2 r1 r2 q2) fun c s3 ⟨z,H3,I3,r3,k,e,q3⟩=>?_) hm
 subst e
 cases r3
 exact wpAny_truthy_bool ⟨H3,I3,q3⟩
def S8 (r r':R2) (ta tb tc:TE):TE:=fun σ H Q=>ta σ H fun x H1=>tb σ H1 fun y H2=>r x y H2 fun z H3=>∃k,z=.bl k /\
 (if k=true then tc σ H3 fun w' H4=>r' y w' H4 Q else Q (.bl false) H3)
theorem K8 {op op':CmpOp} {r r':R2} (ho:OpR X (compareOp op) r) (ho':OpR X (compareOp op') r') (ha:PE X a ta) (hb:PE X b tb) (hc:PE X c tc)
 (hm:lastMarks [op,op'] [b,c]=false:=by with_unfolding_all rfl):PE X (.Compare a [op,op'] [b,c] pos) (S8 r r' ta tb tc):=by
 intro pins s σ H Q I h
 refine Compare_chain (thn (ha pins s σ H _ I h) fun v s1 ⟨x,H1,I1,r1,q1⟩=>chain_link (thn (hb pins s1 σ H1 _ I1 q1) fun u s2 ⟨y,H2,I2,r2,q2⟩ =>
  thn (ho pins s2 σ H2 x y v u _ I2 r1 r2 q2) fun d s3 ⟨z,H3,I3,r3,k,e,q3⟩=>?_)) hm
 subst e
 cases r3
 refine wpAny_truthy_bool ?_
 cases k with
 | false=>exact ite_ff ⟨.bl false,H3,I3,rfl,q3⟩
 | true=>exact ite_tt (chain_last (thn (hc pins s3 σ H3 _ I3 q3) fun w' s4 ⟨z',H4,I4,r4,q4⟩=>ho' pins s4 σ H4 y z' u w' Q I4 r2 r4 q4))
theorem JV:(sizeLine:Nat) < 2 ^ 63:=by rw [sizeLine_eq];decide
theorem FW {x:V} {us:List Value} (r:A9 [x] us):∃u,us=[u]/\AE x u:=by
 cases r with
 | cons r1 r2=>cases r2;exact ⟨_,rfl,r1⟩
theorem P4 {x y:V} {us:List Value} (r:A9 [x,y] us):∃u w',us=[u,w']/\AE x u/\AE y w':=by
 cases r with
 | cons r1 r2 =>
   cases r2 with
   | cons r3 r4=>cases r4;exact ⟨_,_,rfl,r1,r3⟩
theorem Le:DG X (.builtin "abs") (fun xs H Q=>∃i,xs=[.int i]/\Q (.int (if i < 0 then -i else i)) H):=by
 intro pins s σ H xs us Q I r h
 obtain ⟨i,rfl,q⟩:=h
 obtain ⟨u,rfl,t,rfl⟩:=FW r
 exact call_abs_int fun u tk=>⟨.int (if i < 0 then -i else i),H,I.tok _,⟨_,rfl⟩,q⟩
theorem NJ (hc:X.calm=true):DG X (.builtin "max") (fun xs H Q=>∃i j,xs=[.int i,.int j]/\Q (.int (if j > i then j else i)) H):=by
 intro pins s σ H xs us Q I r h
 obtain ⟨i,j,rfl,q⟩:=h
 obtain ⟨u,w',rfl,⟨t,rfl⟩,⟨t',rfl⟩⟩:=P4 r
 refine max_two_ints (I.ok.hd hc) fun h' tk k=>⟨_,H,I.kept k,?_,q⟩
 by_cases hj:j > i
 ·rw [if_pos hj,if_pos hj];exact ⟨_,rfl⟩
 ·rw [if_neg hj,if_neg hj];exact ⟨_,rfl⟩
theorem NQ (hc:X.calm=true):DG X (.builtin "min") (fun xs H Q=>∃i j,xs=[.int i,.int j]/\Q (.int (if j < i then j else i)) H):=by
 intro pins s σ H xs us Q I r h
 obtain ⟨i,j,rfl,q⟩:=h
 obtain ⟨u,w',rfl,⟨t,rfl⟩,⟨t',rfl⟩⟩:=P4 r
 refine min_two_ints (I.ok.hd hc) fun h' tk k=>⟨_,H,I.kept k,?_,q⟩
 by_cases hj:j < i
 ·rw [if_pos hj,if_pos hj];exact ⟨_,rfl⟩
 ·rw [if_neg hj,if_neg hj];exact ⟨_,rfl⟩
end
end L2
namespace L2
open PySem PySem.Spec PyProof.Rows
structure LA (h:Heap) (x dx C:Addr) (mA:Str->Option Value):Prop where
 obj:h.get? x=some (PySem.W.instObj C dx)
 ns:h.Ns1 dx mA
 ne:dx≠x
theorem NC {h:Heap} {dx:Addr} {mA:Str->Option Value} (n:h.Ns1 dx mA):∃od,h.get? dx=some od/\∀name,PySem.W.lookIn name od=some (mA name):=by
 obtain ⟨o,es,ep,ho,hd,hk,_,hm⟩:=n
 refine ⟨o,ho,fun name=>?_⟩
 have e:=hm name
 unfold nsFind findBy at e
 rw [<- Array.find?_toList] at e
 unfold PySem.W.lookIn
 rw [hd]
 dsimp only
 split
 ·rename_i y q
  rw [q] at e
  exact congrArg some e
 ·rename_i q
  rw [q] at e
  have a:es.toList.any (·.refKey)=false:=by
   rw [any_eq_false]
   intro y hy
   obtain ⟨z,t,hkey⟩:=hk y (Array.mem_toList_iff.mp hy)
   simp [DictEntry.refKey,hkey]
  have a':¬ es.toList.any (·.refKey)=true:=by rw [a];exact Bool.false_ne_true
  rw [if_neg a']
  exact congrArg some e
theorem LA.look {h:Heap} {x dx C:Addr} {mA:Str->Option Value} (I:LA h x dx C mA):∃od,PySem.W.InstAt h x (PySem.W.instObj C dx) C (some od)/\∀name,PySem.W.lookIn name od=some (mA name) :=
 let ⟨od,ho,hl⟩:=NC I.ns
 ⟨od,⟨I.obj,rfl,rfl,ho⟩,hl⟩
section
variable {prog:Program} {w:World} {A:Around} {E:Value->Shared->Prop} {s:Shared} {K:PySem.W.Frag} {x dx C f:Addr} {mA:Str->Option Value} {name:Str} {v:Value}
theorem Rh {expr:Bool} {Q:Value->Shared->Prop} (X:K.In s.heap) (I:LA s.heap x dx C mA) (hg:PySem.W.plainGet K C name=true) (hh:PySem.W.hasDictIn K C=true)
 (ha:PySem.W.findIn K (.ref C) name=some none) (hv:mA name=some v) (hv':PySem.W.handedIn v=true) (h:Q v { s with toks:=s.toks+1 }) :
 wpAny (model prog w) A (getAttr (.ref x) name expr) Q E s:=by
 obtain ⟨od,J,hl⟩:=I.look
 exact PySem.W.get_value X J (PySem.W.plainGet_of hg).1 (PySem.W.findObj_own hh ha rfl (by rw [hl,hv])) hv' h
theorem Qs {pl:Sem Bool} {Q:Value × List Value->Shared->Prop} (X:K.In s.heap) (I:LA s.heap x dx C mA) (hg:PySem.W.plainGet K C name=true)
 (hf:PySem.W.findIn K (.ref C) name=some (some (.ref f))) (ht:PySem.W.isFn K (.ref f)=true) (hv:mA name=none) (h:Q (.ref f,[.ref x]) s) :
 wpAny (model prog w) A (getMethod (.ref x) name pl) Q E s:=by
 obtain ⟨od,J,hl⟩:=I.look
 exact PySem.W.method_fn X J (PySem.W.plainGet_of hg).1 (PySem.W.plainGet_of hg).2 hf (beq_iff_eq.mp ht) (by show (PySem.W.lookIn name od).map (·.isSome)=some false;rw [hl,hv];rfl) h
theorem QV {ns:List Str} {Q:Unit->Shared->Prop} (X:K.In s.heap) (I:LA s.heap x dx C mA)
 (hs:PySem.W.findIn K (.ref C) "__setattr__"=some (some (.builtin "object.__setattr__"))) (hp:PySem.W.plainOver K C=true) (ht:PySem.W.takerIn K C name=some none) (hh:PySem.W.hasDictIn K C=true)
 (hw:PySem.Within mA ns) (hsz:ns.length<=sizeLine)
 (h:∀h',LA h' x dx C (fun y=>if y=name then some v else mA y)->Heap.SameBut dx s.heap h'->Q () { s with heap:=h',toks:=s.toks+2 }) :
 wpAny (model prog w) A (setAttr (.ref x) name v) Q E s:=by
 obtain ⟨od,J,hl⟩:=I.look
 refine PySem.W.set_plain X J hs (PySem.W.osa_open (s:={ s with toks:=s.toks+1 }) (r:=none) X J hp ht fun b=>?_)
 obtain ⟨cd,hc,hd'⟩:=PySem.W.any_some hh
 have hx:s.heap.get? x=some ⟨.ref C,some dx,.plain,#[]⟩:=I.obj
 refine wpAny_bind (wpAny_pure (wpAny_bind (wpAny_bind (wpAny_loadPart hx (wpAny_bind (PySem.W.Looks.here (s:={ s with toks:=s.toks+1 }) (PySem.W.looks_clsIn X hc) ?_))))))
 rw [hd']
 refine wpAny_pure (a:=some dx) (wpAny_bind (wpAny_pure (wpAny_bind ?_)))
 refine wpAny_nsSet1 (s:={ s with toks:=s.toks+1 }) I.ns fun h' hn2 hs2=>?_
 obtain ⟨oD,esD,epD,hoD,hdD,hcD⟩:=hn2.count (PySem.Within.cons name v hw)
 refine wpAny_bind (wpAny_lookBehind hoD (by rw [hdD];exact pastItsLine_dict (Nat.le_trans hcD (by rw [length_cons];omega))) ?_)
 exact wpAny_pure (h _ ⟨(hs2.2 _ (Ne.symm I.ne)).trans I.obj,hn2,I.ne⟩ hs2)
theorem OV {R:Result->Shared->Prop} {vs:List Value} {kw:List (Str × Value)} (X:K.In s.heap) (hm:PySem.W.makesIn K C=true)
 (hi:PySem.W.findIn K (.ref C) "__init__"=some (some (.ref f))) (hf:PySem.W.typeIn K (.ref f)=some (.type "function"))
 (h:codeAny (model prog w) (A.under (.builtin "type.__call__" ⟨.ref C :: vs,kw⟩)) (.call (.ref f) ⟨.ref (s.heap.objs.size+1) :: vs,kw⟩) (PySem.W.InitBack (s.heap.objs.size+1) R)
  { s with heap:=(s.heap.push PySem.W.emptyDict).push (PySem.W.instObj C s.heap.objs.size) }) :
 codeAny (model prog w) A (.call (.ref C) ⟨vs,kw⟩) R s:=by
 obtain ⟨hh,g,d,t,os⟩:=s
 exact PySem.W.make_core (PySem.W.makes_of X hm) (PySem.W.looks_findIn X hi) (fun self=>PySem.W.bind_fn X self hf) (.inl rfl) h
end
def DE (f:Str) (v:V):List (Str × V)->List (Str × V)
 | []=>[(f,v)]
 | (g,x) :: r=>if g=f then (g,v) :: r else (g,x) :: DE f v r
theorem G9 (f g:Str) (v:V):∀fs:List (Str × V),(DE f v fs).lookup g=if g=f then some v else fs.lookup g
 | []=>by
   show List.lookup g [(f,v)]=_
   by_cases h:g=f
   ·have hb:(g == f)=true:=beq_iff_eq.mpr h
    simp only [List.lookup,hb,if_pos h]
   ·have hb:(g == f)=false:=beq_eq_false_iff_ne.mpr h
    simp only [List.lookup,hb,if_neg h]
 | (k,x) :: r=>by
   have ih:=G9 f g v r
   rw [show DE f v ((k,x) :: r)=(if k=f then (k,v) :: r else (k,x) :: DE f v r) from rfl]
   by_cases hk:k=f
   ·rw [if_pos hk]
    by_cases h:g=k
    ·have hb:(g == k)=true:=beq_iff_eq.mpr h
     simp only [List.lookup,hb,if_pos (h.trans hk)]
    ·have hb:(g == k)=false:=beq_eq_false_iff_ne.mpr h
     simp only [List.lookup,hb,if_neg (fun e:g=f=>h (e.trans hk.symm))]
   ·rw [if_neg hk]
    by_cases h:g=k
    ·have hb:(g == k)=true:=beq_iff_eq.mpr h
     simp only [List.lookup,hb,if_neg (fun e:g=f=>hk (h.symm.trans e))]
    ·have hb:(g == k)=false:=beq_eq_false_iff_ne.mpr h
     simp only [List.lookup,hb]
     exact ih
theorem Gz (f:Str) (v:V):∀fs:List (Str × V),f∈(DE f v fs).map (·.1)/\∀g,g∈fs.map (·.1)->g∈(DE f v fs).map (·.1)
 | []=>⟨by simp [DE],fun g h=>by simp at h⟩
 | (k,x) :: r=>by
   obtain ⟨i1,i2⟩:=Gz f v r
   rw [show DE f v ((k,x) :: r)=(if k=f then (k,v) :: r else (k,x) :: DE f v r) from rfl]
   by_cases hk:k=f
   ·rw [if_pos hk]
    subst hk
    exact ⟨by simp,fun g h=>by simpa using h⟩
   ·rw [if_neg hk]
    refine ⟨?_,fun g h=>?_⟩
    ·rw [map_cons]
     exact mem_cons_of_mem _ i1
    ·rw [map_cons] at h ⊢
     rcases mem_cons.mp h with e | e
     ·exact mem_cons.mpr (.inl e)
     ·exact mem_cons_of_mem _ (i2 g e)
theorem G6 (f:Str) (v:V):∀fs:List (Str × V),(DE f v fs).length<=fs.length+1
 | []=>by simp [DE]
 | (k,x) :: r=>by
   have ih:=G6 f v r
   rw [show DE f v ((k,x) :: r)=(if k=f then (k,v) :: r else (k,x) :: DE f v r) from rfl]
   by_cases hk:k=f
   ·rw [if_pos hk,length_cons,length_cons];omega
   ·rw [if_neg hk,length_cons,length_cons];omega
theorem Eh.some_of {v:V} {o:Option Value} (r:Eh (some v) o):∃u,o=some u/\AE v u:=by
 cases o with
 | none=>exact (show False from r).elim
 | some u=>exact ⟨u,rfl,r⟩
theorem Eh.none_of {o:Option Value} (r:Eh none o):o=none:=by
 cases o with
 | none=>rfl
 | some u=>exact (show False from r).elim
theorem Og {v:V} {u:Value} (r:AE v u):PySem.W.handedIn u=true:=by
 cases v with
 | non=>cases (show u=Value.none from r);rfl
 | bl b=>cases (show u=Value.bool b from r);rfl
 | int i=>obtain ⟨t,e⟩:=(show ∃t,u=Value.int i t from r);cases e;rfl
 | str x=>obtain ⟨t,e⟩:=(show ∃t,u=Value.str x t from r);cases e;rfl
 | byt b=>obtain ⟨t,e⟩:=(show ∃t,u=Value.bytes b t from r);cases e;rfl
 | flt b=>obtain ⟨t,e⟩:=(show ∃t,u=Value.float b t from r);cases e;rfl
 | ref a=>cases (show u=Value.ref a from r);rfl
 | ty n=>cases (show u=Value.type n from r);rfl
section
variable {P:Program} {w:World} {H H':Hp} {h h':Heap} {a C dx:Addr} {fs fs':List (Str × V)}
theorem GV (hok:HOk P w H h) (e:H a=some (.ins C dx fs)):∃mA,LA h a dx C mA/\(∀f,Eh (fs.lookup f) (mA f))/\PySem.Within mA (fs.map (·.1))/\fs.length<=1000/\H dx=some (.own a):=by
 obtain ⟨d,z,ne,ob,mA,n,r,q⟩:=(show AN P w H h a (.ins C dx fs) from hok a _ e)
 exact ⟨mA,⟨ob,n,ne⟩,r,q,z,d⟩
end
structure Cls (K:PySem.W.Frag) (C:Addr):Prop where
 pg:PySem.W.plainGet K C Str.empty=true
 hd:PySem.W.hasDictIn K C=true
 po:PySem.W.plainOver K C=true
 sa:PySem.W.findIn K (.ref C) "__setattr__"=some (some (.builtin "object.__setattr__"))
theorem Cls.get {K:PySem.W.Frag} {C:Addr} (c:Cls K C) (f:Str):PySem.W.plainGet K C f=true:=c.pg
def BP (K:PySem.W.Frag) (C:Addr) (f:Str):Prop:=PySem.W.findIn K (.ref C) f=some none
theorem BP.taker {K:PySem.W.Frag} {C:Addr} {f:Str} (n:BP K C f):PySem.W.takerIn K C f=some none:=by
 unfold PySem.W.takerIn
 rw [show PySem.W.findIn K (.ref C) f=some none from n]
 rfl
structure FS (K:PySem.W.Frag) (C:Addr) (m:Str) (f:Addr):Prop where
 at_:PySem.W.findIn K (.ref C) m=some (some (.ref f))
 fn:PySem.W.isFn K (.ref f)=true
 kp:PySem.W.keepIn K (.ref f)=true
section
variable {X:Cx} {pins:List (Addr × Obj)} {σ:St} {H:Hp} {s:Shared} {a C dx:Addr} {fs:List (Str × V)} {f:Str} {v:V} {A:Around} {E:Value->Shared->Prop}
theorem LN {b:Bool} {Q:Value->Shared->Prop} (I:Inv X pins σ H s) (e:H a=some (.ins C dx fs)) (c:Cls X.K C) (n:BP X.K C f) (l:fs.lookup f=some v)
 (h:∀u s',Inv X pins σ H s'->AE v u->Q u s'):wpAny (model X.prog X.w) A (getAttr (.ref a) f b) Q E s:=by
 obtain ⟨mA,O,r,_,_,_⟩:=GV I.hok e
 obtain ⟨u,hu,ru⟩:=Eh.some_of (v:=v) (o:=mA f) (by rw [<- l];exact r f)
 exact Rh I.kIn O (c.get f) c.hd n hu (Og ru) (h u _ (I.tok _) ru)
theorem L6 {m:Str} {g:Addr} {pl:Sem Bool} {Q:Value × List Value->Shared->Prop} (I:Inv X pins σ H s) (e:H a=some (.ins C dx fs)) (c:Cls X.K C) (k:FS X.K C m g) (l:fs.lookup m=none)
 (h:Q (.ref g,[.ref a]) s):wpAny (model X.prog X.w) A (getMethod (.ref a) m pl) Q E s:=by
 obtain ⟨mA,O,r,_,_,_⟩:=GV I.hok e
 have hn:mA m=none:=Eh.none_of (by rw [<- l];exact r m)
 exact Qs I.kIn O (c.get m) k.at_ k.fn hn h
theorem Mb {y:V} {u:Value} {Q:Unit->Shared->Prop} (I:Inv X pins σ H s) (e:H a=some (.ins C dx fs)) (c:Cls X.K C) (n:BP X.K C f) (hl:fs.length < 1000) (ry:AE y u)
 (h:∀s',Inv X pins σ (upd H a (.ins C dx (DE f y fs))) s'->Q () s'):wpAny (model X.prog X.w) A (setAttr (.ref a) f u) Q E s:=by
 obtain ⟨mA,O,r,wi,_,ho⟩:=GV I.hok e
 have hz:(fs.map (·.1)).length<=sizeLine:=by rw [length_map,sizeLine_eq];omega
 refine QV I.kIn O c.sa c.po n.taker c.hd wi hz fun h' O' sb=>h _ ?_
 have hd:∃o,h'.get? dx=some o:=let ⟨o,_,_,e',_⟩:=O'.ns;⟨o,e'⟩
 refine I.write (x:=a) (e:=dx) (by rw [e];exact True.intro) (.inr ho) (fun b q hb z=>(sb.2 b hb).trans z) hd ?_
 refine ⟨by rw [Al O.ne];exact ho,?_,O.ne,O'.obj,_,O'.ns,fun g=>?_,fun g hg=>?_⟩
 ·have:=G6 f y fs;omega
 ·show Eh ((DE f y fs).lookup g) (if g=f then some u else mA g)
  rw [G9]
  by_cases q:g=f
  ·rw [if_pos q,if_pos q];exact ry
  ·rw [if_neg q,if_neg q];exact r g
 ·by_cases q:g=f
  ·rw [q];exact (Gz f y fs).1
  ·refine (Gz f y fs).2 g (wi g fun z=>hg ?_)
   show (if g=f then some u else mA g)=none
   rw [if_neg q];exact z
theorem Inv.made (I:Inv X pins σ H s):Inv X pins σ (upd (upd H s.heap.objs.size (.own (s.heap.objs.size+1))) (s.heap.objs.size+1) (.ins C s.heap.objs.size []))
 { s with heap:=(s.heap.push PySem.W.emptyDict).push (PySem.W.instObj C s.heap.objs.size) }:=by
 have e1:(s.heap.push PySem.W.emptyDict).get? s.heap.objs.size=some PySem.W.emptyDict:=Heap.get?_push_size s.heap rfl
 have e2:((s.heap.push PySem.W.emptyDict).push (PySem.W.instObj C s.heap.objs.size)).get? (s.heap.objs.size+1)=some (PySem.W.instObj C s.heap.objs.size):=by
  have:=Heap.get?_push_size (s.heap.push PySem.W.emptyDict) (o:=PySem.W.instObj C s.heap.objs.size) rfl
  rwa [Heap.size_push] at this
 have e3:(s.heap.push PySem.W.emptyDict).Ns s.heap.objs.size (fun _=>none):=⟨PySem.W.emptyDict,#[],_,e1,rfl,(fun e he=>absurd he (by simp)),fun _=>rfl⟩
 have I1:=I.laid (a:=s.heap.objs.size) (o:=.own (s.heap.objs.size+1)) (h':=s.heap.push PySem.W.emptyDict) (t':=s.toks) (fun b u q=>Heap.get?_push_of_some _ q) (Nat.le_refl _) ⟨_,e1⟩
 refine I1.laid (a:=s.heap.objs.size+1) (o:=.ins C s.heap.objs.size []) (t':=s.toks) (fun b u q=>Heap.get?_push_of_some _ q) (Nat.le_of_eq (Heap.size_push _ _)) ?_
 have ne:s.heap.objs.size≠s.heap.objs.size+1:=Nat.ne_of_lt (Nat.lt_succ_self _)
 refine ⟨by rw [Al ne,Ab],Nat.zero_le _,ne,e2,fun _=>none,(Heap.Ns1.of_empty e3).at fun o q=>Heap.get?_push_of_some _ q,fun _=>True.intro,fun y hy=>absurd rfl hy⟩
theorem RA {prog:Program} {w:World} {env:Env} {e:Expr} {f:Str} {pos:Pos} {s:Shared} {Q:Value->Shared->Prop} (hb:attributeBase e f env (eval e env)=eval e env)
 (h:wpAny (model prog w) A (eval e env) (fun o s₁=>wpAny (model prog w) A (getAttr o f true) Q E s₁) E s):wpAny (model prog w) A (eval (.Attribute e f pos) env) Q E s :=
 Attribute_any_ h (by rw [arm_eval_Attribute,hb])
end
def TW (K:PySem.W.Frag) (ta:TE) (f:Str):TE:=fun σ H Q=>ta σ H fun x H1=>∃a C dx fs v,x=.ref a/\H1 a=some (.ins C dx fs)/\Cls K C/\BP K C f/\fs.lookup f=some v/\Q v H1
def TD (K:PySem.W.Frag) (ta tv:TE) (f:Str):TS:=fun D σ H=>tv σ H fun y H1=>ta σ H1 fun x H2=>∃a C dx fs,x=.ref a/\H2 a=some (.ins C dx fs)/\Cls K C/\BP K C f/\fs.length < 1000 /\
 D.nx σ (upd H2 a (.ins C dx (DE f y fs)))
section
variable {X:Cx} {o e value:Expr} {f:Str} {pos pos' tpos:Pos} {ta tv:TE}
theorem Dv (he:PE X e ta) (hb:attributeBase e f X.env (eval e X.env)=eval e X.env):PE X (.Attribute e f pos) (TW X.K ta f):=by
 intro pins s σ H Q I h
 refine RA hb (thn (he pins s σ H _ I h) fun u s1 ⟨x,H1,I1,rx,a,C,dx,fs,v,ex,ea,c,n,l,q⟩=>?_)
 subst ex
 obtain rfl:u=Value.ref a:=rx
 exact LN I1 ea c n l fun u' s2 I2 ru=>⟨v,H1,I2,ru,q⟩
theorem JQ (ha:PE X o ta) (hv:PE X value tv) (hs:swapsWith value (some (.Attribute o f pos')) pos.line X.env=pure false):PS X (.Assign [.Attribute o f pos'] value pos) (TD X.K ta tv f):=by
 intro pins s σ H D I h
 refine plainObj_wpAny_Assign_Attribute (thn (hv pins s σ H _ I h) fun u s1 ⟨y,H1,I1,ry,q⟩=>thn (ha pins s1 σ H1 _ I1 q) fun ov s2 ⟨x,H2,I2,rx,a,C,dx,fs,ex,ea,c,n,l,q2⟩=>?_) hs
 subst ex
 obtain rfl:ov=Value.ref a:=rx
 exact Mb I2 ea c n l ry fun s3 I3=>⟨σ,_,I3,q2⟩
end
section
variable {X:Cx} {pins:List (Addr × Obj)} {σ:St} {H:Hp} {s:Shared} {A:Around} {E:Value->Shared->Prop} {Q:Value->Shared->Prop} {c:Value} {b:Bool}
inductive Fi (K:PySem.W.Frag) (H:Hp):V->Value->Prop where
 | non:Fi K H .non (.type "NoneType")
 | bl (x:Bool):Fi K H (.bl x) (.type "bool")
 | int (i:Int):Fi K H (.int i) (.type "int")
 | str (x:Str):Fi K H (.str x) (.type "str")
 | flt (x:UInt64):Fi K H (.flt x) (.type "float")
 | lst {a:Addr} {xs:List V} (e:H a=some (.lst xs)):Fi K H (.ref a) (.type "list")
 | frz {a:Addr} {o:Obj} {xs:List V} (e:H a=some (.frz o (.lst xs))):Fi K H (.ref a) (.type "list")
 | tup {a:Addr} {xs:List V} (e:H a=some (.tup xs)):Fi K H (.ref a) (.type "tuple")
 | dK {a:Addr} {kvs:List (Key × V)} (e:H a=some (.dK kvs)):Fi K H (.ref a) (.type "dict")
 | dT {a:Addr} {kvs:List (List Key × V)} (e:H a=some (.dT kvs)):Fi K H (.ref a) (.type "dict")
 | ins {a C dx:Addr} {fs:List (Str × V)} (e:H a=some (.ins C dx fs)) (cl:Cls K C) (ha:PySem.W.findIn K (.ref C) "__class__"=some (some (.builtin "object.__class__")))
  (hn:PySem.W.specialIn K (.builtin "object.__class__") "__get__"=some (some (.builtin "getset_descriptor.__get__"))) (htk:PySem.W.takesIn K (.builtin "object.__class__")=some true)
  (hm:PySem.W.mroIn K C (.type "object")=some true):Fi K H (.ref a) (.ref C)
theorem N8 {x:V} {u t:Value} (I:Inv X pins σ H s) (rx:AE x u) (ty:Fi X.K H x t) (e:PySem.W.kitOne X.K t c=some b) (h:∀tk,Q (.bool b) { s with toks:=tk }) :
 wpAny (model X.prog X.w) A (call (.builtin "isinstance") [u,c]) Q E s:=by
 cases ty with
 | non=>cases (show u=Value.none from rx);exact PySem.W.kia_one PySem.W.kitx_none I.kIn True.intro e (fun z=>by cases z) h
 | bl y=>cases (show u=Value.bool y from rx);exact PySem.W.kia_one PySem.W.kitx_bool I.kIn True.intro e (fun z=>by cases z) h
 | int i=>obtain ⟨t,q⟩:=(show ∃t,u=Value.int i t from rx);cases q;exact PySem.W.kia_one PySem.W.kitx_int I.kIn True.intro e (fun z=>by cases z) h
 | str y=>obtain ⟨t,q⟩:=(show ∃t,u=Value.str y t from rx);cases q;exact PySem.W.kia_one PySem.W.kitx_str I.kIn True.intro e (fun z=>by cases z) h
 | flt y=>obtain ⟨t,q⟩:=(show ∃t,u=Value.float y t from rx);cases q;exact PySem.W.kia_one PySem.W.kitx_float I.kIn True.intro e (fun z=>by cases z) h
 | @lst a xs ea =>
   cases (show u=Value.ref a from rx)
   obtain ⟨_,_,n,_,h1⟩:=(show AN X.prog X.w H s.heap a (.lst xs) from I.hok a _ ea)
   exact PySem.W.kia_one PySem.W.kitx_list I.kIn ⟨_,h1,rfl⟩ e (fun z=>by cases z) h
 | @frz a ob xs ea =>
   cases (show u=Value.ref a from rx)
   obtain ⟨_,_,_,n,_,h1⟩:=(show AN X.prog X.w H s.heap a (.frz ob (.lst xs)) from I.hok a _ ea)
   exact PySem.W.kia_one PySem.W.kitx_list I.kIn ⟨_,h1,rfl⟩ e (fun z=>by cases z) h
 | @tup a xs ea =>
   cases (show u=Value.ref a from rx)
   obtain ⟨_,_,_,p⟩:=(show AN X.prog X.w H s.heap a (.tup xs) from I.hok a _ ea)
   obtain ⟨o,h1,h2,_⟩:=p
   exact PySem.W.kia_one PySem.W.kitx_tuple I.kIn ⟨o,h1,h2⟩ e (fun z=>by cases z) h
 | @dK a kvs ea =>
   cases (show u=Value.ref a from rx)
   obtain ⟨_,_,vs,_,p⟩:=(show AN X.prog X.w H s.heap a (.dK kvs) from I.hok a _ ea)
   obtain ⟨o,es,ep,h1,h2,_⟩:=p
   exact PySem.W.kia_one PySem.W.kitx_dict I.kIn ⟨o,h1,h2.1⟩ e (fun z=>by cases z) h
 | @dT a kvs ea =>
   cases (show u=Value.ref a from rx)
   obtain ⟨_,_,xs,_,o,es,ep,h1,h2,_⟩:=(show AN X.prog X.w H s.heap a (.dT kvs) from I.hok a _ ea)
   exact PySem.W.kia_one PySem.W.kitx_dict I.kIn ⟨o,h1,h2.1⟩ e (fun z=>by cases z) h
 | @ins a C dx fs ea cl ha hn htk hm =>
   cases (show u=Value.ref a from rx)
   obtain ⟨mA,O,_⟩:=GV I.hok ea
   obtain ⟨od,J,_⟩:=O.look
   exact PySem.W.kia_one (PySem.W.kitx_own (cl.get _) cl.hd ha hn htk hm) I.kIn J e (fun z=>by cases z) h
end
end L2
namespace L2
open PySem PySem.Spec PyProof.Rows
structure Du (k:Nat) (A:Around):Prop where
 hd:A.handled=none
 dp:A.depth+3*k+5 < recursionLimit
 un:A.units+16*k+200 < cLine
theorem Du.mono {j k:Nat} {A:Around} (r:Du k A) (h:j<=k):Du j A:=⟨r.hd,by have:=r.dp;omega,by have:=r.un;omega⟩
theorem Du.deeper {k:Nat} {A:Around} (r:Du (k+1) A) (env:Env):Du k (A.deeper env) :=
 ⟨r.hd,by have:=r.dp;show A.depth+1+3*k+5 < _;omega,by have:=r.un;show A.units+3+16*k+200 < _;omega⟩
theorem Mn {A:Around} {C:Addr} {us:List Value} {kw:List (Str × Value)}:(A.under (.builtin "type.__call__" ⟨.ref C :: us,kw⟩)).depth=A.depth+1:=by
 first | rfl | simp [Around.under,Code.weight,Code.isCreation,Code.isGuard,Code.isCaller,Code.frames,Code.isFrame,guardIds]
theorem LO {A:Around} {C:Addr} {us:List Value} {kw:List (Str × Value)}:(A.under (.builtin "type.__call__" ⟨.ref C :: us,kw⟩)).units=A.units+1:=by
 first | rfl | simp [Around.under,Code.cUnits,Code.frames,Code.isFrame]
theorem Du.make {k:Nat} {A:Around} (r:Du (k+1) A) (C:Addr) (us:List Value) (kw:List (Str × Value)):Du k (A.under (.builtin "type.__call__" ⟨.ref C :: us,kw⟩)) :=
 ⟨r.hd,by have:=r.dp;rw [Mn];omega,by have:=r.un;rw [LO];omega⟩
theorem Du.depth {k:Nat} {A:Around} (r:Du k A):A.depth < recursionLimit:=by have:=r.dp;omega
theorem Du.units {k:Nat} {A:Around} (r:Du k A):A.units+64 < cLine:=by have:=r.un;omega
def TQ:TA:=fun _ H Q=>Q [] H
def Tw (ta:TE) (tr:TA):TA:=fun σ H Q=>ta σ H fun x H1=>tr σ H1 fun xs H2=>Q (x :: xs) H2
section
variable {X:Cx} {e:Expr} {es:List Expr} {te:TE} {t:TA} {pos:Pos}
theorem Ae:PA X [] TQ:=fun _ _ _ _ H Q I h=>Calls.spliced_nil ⟨[],H,I,.nil,h⟩
theorem Aa (ha:PE X e te) (hr:PA X es t) (hs:starEach (e :: es) X.env=(false,eval e X.env) :: starEach es X.env:=by rfl):PA X (e :: es) (Tw te t):=by
 intro pos pins s σ H Q I h
 rw [hs]
 show wpAny _ _ (spliced ((false,eval e X.env) :: backTo pos (starEach es X.env))) _ _ s
 refine Calls.spliced_cons (thn (ha pins s σ H _ I h) fun u s1 ⟨x,H1,I1,r1,q1⟩=>?_)
 exact thn (hr pos pins s1 σ H1 _ I1 q1) fun us s2 ⟨xs,H2,I2,r2,q2⟩=>⟨x :: xs,H2,I2,.cons r1 r2,q2⟩
def Ue (t:TA):TE:=fun σ H Q=>t σ H fun xs H1=>xs.length<=sizeLine/\∀p,H1 p=none->Q (.ref p) (upd H1 p (.tup xs))
def Uc (t:TA):TE:=fun σ H Q=>t σ H fun xs H1=>xs.length<=sizeLine/\∀p,H1 p=none->Q (.ref p) (upd H1 p (.lst xs))
theorem AI {x1} (h:PA X es t):PE X (.Tuple es x1 pos) (Ue t):=by
 intro pins s σ H Q I hq
 refine wpAny_Tuple_spliced (thn (h pos pins s σ H _ I hq) fun us s1 ⟨xs,H1,I1,r,z,q⟩=>⟨by rw [<- r.length];exact z,?_⟩)
 have hf:H1 s1.heap.objs.size=none:=I1.hok.fresh (Nat.le_refl _)
 refine ⟨.ref s1.heap.objs.size,upd H1 s1.heap.objs.size (.tup xs),I1.laid (t':=s1.toks) (fun b u e=>Heap.get?_push_of_some _ e) (Nat.le_refl _) ?_,rfl,q _ hf⟩
 exact ⟨z,us,r,⟨_,Heap.get?_push_size _ rfl,rfl,_,rfl⟩⟩
theorem BU (h:PA X es t):PE X (.List es pos) (Uc t):=by
 intro pins s σ H Q I hq
 refine wpAny_List_spliced (thn (h pos pins s σ H _ I hq) fun us s1 ⟨xs,H1,I1,r,z,q⟩=>⟨by rw [<- r.length];exact z,?_⟩)
 have hf:H1 s1.heap.objs.size=none:=I1.hok.fresh (Nat.le_refl _)
 refine ⟨.ref s1.heap.objs.size,upd H1 s1.heap.objs.size (.lst xs),I1.laid (t':=s1.toks) (fun b u e=>Heap.get?_push_of_some _ e) (Nat.le_refl _) ?_,rfl,q _ hf⟩
 exact ⟨z,us,0,r,Heap.get?_push_size _ rfl⟩
end
abbrev Sp:=List V->Hp->VK->XK->Prop
abbrev CXT:=List Env->Hp->Shared->XK->Value->Shared->Prop
structure Mi (P:Program) (w:World) (K:PySem.W.Frag) (mg:Str->Option Value) (base:Heap) (A:Around) (outer:List Env) (s:Shared) (H:Hp):Prop where
 frames:A.frames=some outer
 mod:Mod K mg base
 bs:∀b o,base.get? b=some o->s.heap.get? b=some o/\H b=none
 bsz:base.objs.size<=s.heap.objs.size
 funs:s.heap.FunFrames base outer
 frf:∀b∈frs outer,H b=none
 hok:HOk P w H s.heap
 bare:AllBare s.gens
def CE (outer:List Env) (P:Program) (w:World) (H:Hp) (s:Shared) (Q:VK) (u:Value) (s':Shared):Prop :=
 ∃v H',s'.os=s.os/\AllBare s'.gens/\Un (frs outer) [] H H' s.heap s'.heap/\HOk P w H' s'.heap/\AE v u/\Q v H'
def CR (CX:CXT) (outer:List Env) (P:Program) (w:World) (H:Hp) (s:Shared) (Q:VK) (E:XK) (r:Result) (s':Shared):Prop :=
 match r with
 | .ok (.ret u)=>CE outer P w H s Q u s'
 | .ok _=>False
 | .error e=>CX outer H s E e s'
structure AG (P:Program) (w:World) (K:PySem.W.Frag) (mg:Str->Option Value) (base:Heap) (CX:CXT) (k:Nat) (f:Addr) (fd:FuncData) (ps:List Str) (sp:Sp):Prop where
 len:∀vs H Q E,sp vs H Q E->vs.length=ps.length
 run:∀(A:Around) (outer:List Env) (s:Shared) (H:Hp) (args:Args) (us:List Value) (vs:List V) (Q:VK) (E:XK),Du k A->Mi P w K mg base A outer s H->BindsTo s fd args (ps.zip us)->A9 vs us->sp vs H Q E ->
  codeAny (model P w) A (.call (.ref f) args) (CR CX outer P w H s Q E) s
theorem Mi.make {P:Program} {w:World} {K:PySem.W.Frag} {mg:Str->Option Value} {base:Heap} {A:Around} {outer:List Env} {s:Shared} {H:Hp} (e:Mi P w K mg base A outer s H) (C:Addr) (us:List Value) (kw:List (Str × Value)) :
 Mi P w K mg base (A.under (.builtin "type.__call__" ⟨.ref C :: us,kw⟩)) outer s H:=⟨by first | exact e.frames | (simpa [Around.under,Code.envs,Code.isFrame,pushEnvs] using e.frames),e.mod,e.bs,e.bsz,e.funs,e.frf,e.hok,e.bare⟩
section
variable {X:Cx} {pins:List (Addr × Obj)} {σ:St} {H:Hp} {s s':Shared}
theorem Inv.env0 (I:Inv X pins σ H s):Mi X.prog X.w X.K X.mg X.base X.A X.stack s H :=
 ⟨I.ok.frames,I.ok.mod,I.bs,Nat.le_trans I.ok.bsz I.sz,I.stack,I.stkFree,I.hok,I.bare⟩
theorem Inv.after {Q:VK} {u:Value} (I:Inv X pins σ H s) (h:CE X.stack X.prog X.w H s Q u s'):EP X pins σ Q u s':=by
 obtain ⟨v,H',os,bare,un,hok,r,q⟩:=h
 obtain ⟨hh,g,d,t,os'⟩:=s'
 obtain rfl:os'=s.os:=os
 exact ⟨v,H',I.call (h':=hh) (g':=g) (d':=d) (t':=t) (ch:=[]) un hok bare (fun b z=>absurd z (by simp)),r,q⟩
end
def RT (sp:Sp) (dvs:List V) (E:XK) (t:TA):TE:=fun σ H Q=>t σ H fun vs H1=>sp (vs++dvs) H1 Q E
def Tf (C:Addr) (m:Str) (sp:Sp) (dvs:List V) (E:XK) (ta:TE) (t:TA):TE:=fun σ H Q=>ta σ H fun x H1=>∃a dx fs,x=.ref a/\H1 a=some (.ins C dx fs)/\fs.lookup m=none /\
 t σ H1 fun vs H2=>sp (x :: (vs++dvs)) H2 Q E
def Tz (C:Addr) (sp:Sp) (dvs:List V) (E:XK) (t:TA):TE:=fun σ H Q=>t σ H fun vs H1=>∀x dx,H1 x=none->H1 dx=none->dx≠x ->
 sp (.ref x :: (vs++dvs)) (upd (upd H1 dx (.own x)) x (.ins C dx [])) (fun v H2=>v=.non/\Q (.ref x) H2) E
def Az (K:PySem.W.Frag) (fd:FuncData) (ps:List Str) (ds:List Value):Prop :=
 ∀(s:Shared) (us:List Value),K.In s.heap->(us++ds).length=ps.length->BindsTo s fd ⟨us,[]⟩ (ps.zip (us++ds))
theorem Az.all {K:PySem.W.Frag} {fd:FuncData} {ps:List Str} (h:∀us:List Value,us.length=ps.length->bindArgs fd ⟨us,[]⟩=pure (ps.zip us)):Az K fd ps []:=fun s us _ hl=>by
 rw [append_nil] at hl ⊢
 exact .of_eq (h us hl)
def Fm (CX:CXT) (X:Cx) (E:XK):Prop:=∀(pins:List (Addr × Obj)) (σ:St) (H:Hp) (s:Shared) (e:Value) (s':Shared),Inv X pins σ H s->CX X.stack H s E e s'->X.xe e s'
section
variable {X:Cx} {CX:CXT} {k:Nat} {f C:Addr} {fd:FuncData} {ps:List Str} {sp:Sp} {dvs:List V} {ds:List Value} {E:XK} {x m:Str} {p pos apos:Pos} {e o:Expr} {es:List Expr} {ta:TE} {t:TA}
theorem Mh {pins:List (Addr × Obj)} {σ:St} {H:Hp} {s:Shared} {Q:VK} {us:List Value} {vs:List V} (F:AG X.prog X.w X.K X.mg X.base CX k f fd ps sp) (hr:Du k X.A) (hb:Az X.K fd ps ds) (hd:A9 dvs ds) (hx:Fm CX X E)
 (I:Inv X pins σ H s) (r:A9 vs us) (h:sp (vs++dvs) H Q E):wpAny (model X.prog X.w) X.A (call (.ref f) us) (EP X pins σ Q) X.xe s:=by
 have r2:A9 (vs++dvs) (us++ds):=r.append hd
 have hl:(us++ds).length=ps.length:=by rw [<- r2.length];exact F.len _ _ _ _ h
 refine wpAny_call (codeAny_mono (F.run X.A X.stack s H ⟨us,[]⟩ (us++ds) (vs++dvs) Q E hr I.env0 (hb s us I.kIn hl) r2 h) fun r s' hq=>?_)
 cases r with
 | error e=>exact hx pins σ H s e s' I hq
 | ok fl =>
   cases fl with
   | ret u=>exact I.after hq
   | next=>exact False.elim hq
   | brk=>exact False.elim hq
   | cont=>exact False.elim hq
theorem Aj (F:AG X.prog X.w X.K X.mg X.base CX k f fd ps sp) (hr:Du k X.A) (hg:Gl X x) (hm:X.mg x=some (.ref f)) (hk:PySem.W.keepIn X.K (.ref f)=true) (hb:Az X.K fd ps ds) (hd:A9 dvs ds) (hx:Fm CX X E)
 (ha:PA X (e :: es) t) (hdb:(x == ("__debug__":Str))=false:=by decide) (he:starEach (e :: es) X.env=(false,eval e X.env) :: starEach es X.env:=by rfl) (hpl:(backTo pos (starEach es X.env)).any (·.1)=false:=by rfl) :
 PE X (.Call (.Name x p) (e :: es) [] pos) (RT sp dvs E t):=by
 intro pins s σ H Q I h
 refine wpAny_Call_Name_kw (GU I hg hm ?_ hdb)
 refine PySem.W.callWith_K (h₀:=X.base) I.ok.mod.kin hk (thn (ha pos pins s σ H _ I h) fun us s1 ⟨vs,H1,I1,r,q⟩=>⟨I1.kIn,?_⟩) he hpl
 exact Mh F hr hb hd hx I1 r q
theorem AV {pl:Sem Bool} (he:PE X o ta) (c:Cls X.K C) (hm:FS X.K C m f) (F:AG X.prog X.w X.K X.mg X.base CX k f fd ps sp) (hr:Du k X.A) (hb:Az X.K fd ps ds) (hd:A9 dvs ds) (hx:Fm CX X E) (ha:PA X (e :: es) t)
 (hst:starEach (e :: es) X.env=(false,eval e X.env) :: starEach es X.env:=by rfl) (hpl:(backTo pos (starEach es X.env)).any (·.1)=false:=by rfl)
 (ht:eval (.Call (.Attribute o m apos) (e :: es) [] pos) X.env=(do
  let ov <- eval o X.env
  standAt apos.atName
  let (f,first) <- holding [ov] (getMethod ov m pl)
  callWith pos f first (backTo pos (starEach (e :: es) X.env)) (backToKw pos (keywordEach [] X.env))):=by rfl) :
 PE X (.Call (.Attribute o m apos) (e :: es) [] pos) (Tf C m sp dvs E ta t):=by
 intro pins s σ H Q I h
 refine PySem.W.methodCall_KW (pl:=pl) (thn (he pins s σ H _ I h) fun u s1 ⟨x,H1,I1,rx,a,dx,fs,ex,ea,l,q⟩=>?_) ht
 subst ex
 obtain rfl:u=Value.ref a:=rx
 refine L6 I1 ea c hm l ?_
 refine PySem.W.callWith_K (first:=[.ref a]) (h₀:=X.base) I.ok.mod.kin hm.kp (thn (ha pos pins s1 σ H1 _ I1 q) fun us s2 ⟨vs,H2,I2,r,q2⟩=>⟨I2.kIn,?_⟩) hst hpl
 exact Mh (us:=.ref a :: us) (vs:=.ref a :: vs) F hr hb hd hx I2 (.cons rfl r) q2
structure Mk (K:PySem.W.Frag) (C f:Addr):Prop where
 makes:PySem.W.makesIn K C=true
 init:PySem.W.findIn K (.ref C) "__init__"=some (some (.ref f))
 fn:PySem.W.isFn K (.ref f)=true
 kp:PySem.W.keepIn K (.ref C)=true
theorem PN {pins:List (Addr × Obj)} {σ:St} {H:Hp} {s:Shared} {Q:VK} {us:List Value} {vs:List V} (M:Mk X.K C f) (F:AG X.prog X.w X.K X.mg X.base CX k f fd ps sp) (hr:Du (k+1) X.A) (hb:Az X.K fd ps ds) (hd:A9 dvs ds)
 (hx:Fm CX X E) (I:Inv X pins σ H s) (r:A9 vs us)
 (h:∀x dx,H x=none->H dx=none->dx≠x->sp (.ref x :: (vs++dvs)) (upd (upd H dx (.own x)) x (.ins C dx [])) (fun v H2=>v=.non/\Q (.ref x) H2) E) :
 wpAny (model X.prog X.w) X.A (call (.ref C) us) (EP X pins σ Q) X.xe s:=by
 have hq:=h (s.heap.objs.size+1) s.heap.objs.size (I.hok.fresh (Nat.le_succ _)) (I.hok.fresh (Nat.le_refl _)) (Nat.ne_of_lt (Nat.lt_succ_self _))
 have I2:=Inv.made (C:=C) I
 have r2:A9 (V.ref (s.heap.objs.size+1) :: (vs++dvs)) (Value.ref (s.heap.objs.size+1) :: (us++ds)):=.cons rfl (r.append hd)
 have hl:(Value.ref (s.heap.objs.size+1) :: us++ds).length=ps.length:=by
  have e:=r2.length
  rw [F.len _ _ _ _ hq] at e
  exact e.symm
 refine wpAny_call (OV (f:=f) I.kIn M.makes M.init (beq_iff_eq.mp M.fn) (codeAny_mono (F.run _ X.stack _ _ ⟨Value.ref (s.heap.objs.size+1) :: us,[]⟩ (Value.ref (s.heap.objs.size+1) :: (us++ds)) _ _ E (hr.make C us [])
  (I2.env0.make C us []) (hb _ (Value.ref (s.heap.objs.size+1) :: us) I2.kIn hl) r2 hq) fun r s' hq'=>?_))
 cases r with
 | error e=>exact hx pins σ _ _ e s' I2 hq'
 | ok fl =>
   cases fl with
   | ret u =>
     obtain ⟨v,H',I3,rv,ev,q3⟩:=I2.after hq'
     subst ev
     exact ⟨rv,⟨V.ref (s.heap.objs.size+1),H',I3,rfl,q3⟩⟩
   | next=>exact False.elim hq'
   | brk=>exact False.elim hq'
   | cont=>exact False.elim hq'
theorem Jt (M:Mk X.K C f) (F:AG X.prog X.w X.K X.mg X.base CX k f fd ps sp) (hr:Du (k+1) X.A) (hg:Gl X x) (hm:X.mg x=some (.ref C)) (hb:Az X.K fd ps ds) (hd:A9 dvs ds) (hx:Fm CX X E)
 (ha:PA X (e :: es) t) (hdb:(x == ("__debug__":Str))=false:=by decide) (he:starEach (e :: es) X.env=(false,eval e X.env) :: starEach es X.env:=by rfl) (hpl:(backTo pos (starEach es X.env)).any (·.1)=false:=by rfl) :
 PE X (.Call (.Name x p) (e :: es) [] pos) (Tz C sp dvs E t):=by
 intro pins s σ H Q I h
 refine wpAny_Call_Name_kw (GU I hg hm ?_ hdb)
 refine PySem.W.callWith_K (h₀:=X.base) I.ok.mod.kin M.kp (thn (ha pos pins s σ H _ I h) fun us s1 ⟨vs,H1,I1,r,q⟩=>⟨I1.kIn,?_⟩) he hpl
 exact PN M F hr hb hd hx I1 r q
end
section
variable {X:Cx} {CX:CXT} {k:Nat} {f C:Addr} {fd:FuncData} {ps ks:List Str} {sp:Sp} {E:XK} {x m:Str} {p pos apos kpos:Pos} {e o:Expr} {es:List Expr} {kws:List Keyword} {te ta:TE} {t tk:TA} {nm:Option Str}
variable {g:List Value->List Value->List Value} {gV:List V->List V->List V}
end
structure Ap (N P:List Str) (sc:Scope):Prop where
 kind:sc.kind=.function
 co:sc.isCoroutine=false
 gen:sc.isGenerator=false
 nd:N.Nodup
 pre:N.take P.length=P
 par:∀x∈P,sc.names.lookup x=some .local\/sc.names.lookup x=some .cell
 nofree:∀y∈sc.names,y.2≠.free
theorem Jf {kindOf:Str->Option NameKind} {x:Str}:∀{binds:List (Str × Value)} {m:Str->Option Value},(∀v,(x,v) ∉ binds)->bindL kindOf binds m x=m x
 | [],_,_=>rfl
 | (n,v) :: r,m,h=>by
   unfold bindL
   rw [Jf fun w hw=>h w (mem_cons_of_mem _ hw)]
   split
   ·have:x≠n:=by rintro rfl;exact h v mem_cons_self
    simp [this]
   ·rfl
theorem Jg {kindOf:Str->Option NameKind} {x:Str}:∀{binds:List (Str × Value)} {m:Str->Option Value},(∀v,(x,v) ∉ binds)->bindC kindOf binds m x=m x
 | [],_,_=>rfl
 | (n,v) :: r,m,h=>by
   unfold bindC
   rw [Jg fun w hw=>h w (mem_cons_of_mem _ hw)]
   split
   ·rfl
   ·have:x≠n:=by rintro rfl;exact h v mem_cons_self
    simp [this]
theorem Je {kindOf:Str->Option NameKind} {x:Str} {v:Value}:∀{P:List Str} {vs:List Value} {i:Nat} {m:Str->Option Value},P.Nodup->P[i]?=some x->vs[i]?=some v->kindOf x=some .local ->
 bindL kindOf (P.zip vs) m x=some v
 | [],_,_,_,_,h,_,_=>by simp at h
 | _ :: _,[],_,_,_,_,h,_=>by simp at h
 | p :: P,w :: vs,0,m,nd,h1,h2,hk=>by
   simp at h1 h2;subst h1;subst h2
   show bindL kindOf ((p,w) :: P.zip vs) m p=_
   unfold bindL
   rw [Jf fun v hv=>(nodup_cons.mp nd).1 (of_mem_zip hv).1,if_pos hk]
   simp
 | p :: P,w :: vs,i+1,m,nd,h1,h2,hk=>by
   show bindL kindOf ((p,w) :: P.zip vs) m x=_
   unfold bindL
   exact Je (i:=i) (nodup_cons.mp nd).2 (by simpa using h1) (by simpa using h2) hk
theorem Jh {kindOf:Str->Option NameKind} {x:Str} {v:Value}:∀{P:List Str} {vs:List Value} {i:Nat} {m:Str->Option Value},P.Nodup->P[i]?=some x->vs[i]?=some v->kindOf x≠some .local ->
 bindC kindOf (P.zip vs) m x=some v
 | [],_,_,_,_,h,_,_=>by simp at h
 | _ :: _,[],_,_,_,_,h,_=>by simp at h
 | p :: P,w :: vs,0,m,nd,h1,h2,hk=>by
   simp at h1 h2;subst h1;subst h2
   show bindC kindOf ((p,w) :: P.zip vs) m p=_
   unfold bindC
   rw [Jg fun v hv=>(nodup_cons.mp nd).1 (of_mem_zip hv).1,if_neg hk]
   simp
 | p :: P,w :: vs,i+1,m,nd,h1,h2,hk=>by
   show bindC kindOf ((p,w) :: P.zip vs) m x=_
   unfold bindC
   exact Jh (i:=i) (nodup_cons.mp nd).2 (by simpa using h1) (by simpa using h2) hk
def FY (N:List Str) (vs:List V):St:=vs.map some++List.replicate (N.length - vs.length) none
def Mj (CX:CXT) (P:Program) (w:World) (K:PySem.W.Frag) (mg:Str->Option Value) (base:Heap) (N:List Str) (qual:Str) (scope:Scope) (f:Addr) (cd:Value) (A:Around) (outer:List Env) (s:Shared) (H:Hp) (E:XK):Cx where
 prog:=P
 w:=w
 K:=K
 mg:=mg
 base:=base
 A:=A.deeper (envOfC qual scope s.heap.objs.size f cd)
 N:=N
 s₀:=s
 H₀:=H
 env:=envOfC qual scope s.heap.objs.size f cd
 outer:=outer
 stack:=envOfC qual scope s.heap.objs.size f cd :: outer
 ex:=[]
 calm:=true
 fn:=fun _=>true
 pn:=[]
 xe:=fun e s'=>wpAny (model P w) (A.deeper (envOfC qual scope s.heap.objs.size f cd)) (leaving (envOfC qual scope s.heap.objs.size f cd) e) (fun _ s''=>CX outer H s E e s'') (fun e' s''=>CX outer H s E e' s'') s'
theorem Lu {sc:Scope} {n:Nat} {x:Str} (h:sc.names.lookup x=some .cell):∃c,(cellsFrom n sc.names []).lookup x=some c:=by
 have q:=PySem.W.cellsFrom_some sc.names n [] (.inl h)
 exact Option.isSome_iff_exists.mp q
theorem NI {CX:CXT} {P:Program} {w:World} {K:PySem.W.Frag} {mg:Str->Option Value} {base:Heap} {N ps:List Str} {qual:Str} {scope:Scope} {f:Addr} {cd:Value} {A:Around} {outer:List Env} {s s1:Shared} {H:Hp} {E:XK} {us:List Value} {vs:List V}
 (S:Ap N ps scope) (hd:A.handled=none) (e0:Mi P w K mg base A outer s H) (hl:vs.length=ps.length) (r:A9 vs us)
 (x:InCallC s s.heap.objs.size (bindL (envOfC qual scope s.heap.objs.size f cd).kindOf (ps.zip us) fun _=>none) (cellsFrom (s.heap.objs.size+1) scope.names []) (bindC (envOfC qual scope s.heap.objs.size f cd).kindOf (ps.zip us) fun _=>none) s1) :
 Inv (Mj CX P w K mg base N qual scope f cd A outer s H E) [] (FY N vs) H s1:=by
 have hpl:ps.length<=N.length:=by have:=congrArg List.length S.pre;rw [length_take] at this;omega
 obtain ⟨h1,tk,rfl,hk⟩:=x.done
 have noA:∀b:Addr,b ∉ (Mj CX P w K mg base N qual scope f cd A outer s H E).ex:=fun b z=>absurd (show b∈([]:List Addr) from z) (by simp)
 refine ⟨⟨e0.mod,S.kind,rfl,rfl,Nat.le_refl _,fun y z c h1 h2=>?_,fun y hy=>?_,fun y c _ h=>?_,fun _=>hd,Around.frames_deeper e0.frames,.inr ⟨rfl,rfl⟩,fun b z=>absurd z (noA b),e0.bs,e0.bsz,fun b _ _=>noA b,fun b z=>absurd z (noA b),e0.funs,e0.frf⟩,
  rfl,e0.bare,Un.kept hk,⟨_,x.toInCall.ns,fun i y v h1 h2 h3=>?_⟩,fun y c h=>⟨_,x.cell y c h⟩,e0.hok.fresh (Nat.le_refl _),fun y c h=>?_,fun p hp=>absurd (show p∈([]:List (Addr × Obj)) from hp) (by simp),e0.hok.kept hk,?_⟩
 ·exact name_of_addr x.apart (PySem.mem_of_lookup h1) (PySem.mem_of_lookup h2)
 ·have hy:scope.names.lookup y=some .cell\/scope.names.lookup y=some .free:=hy
  rcases hy with hy | hy
  ·exact Lu hy
  ·exact absurd rfl (S.nofree _ (PySem.mem_of_lookup hy))
 ·exact Nat.le_of_lt (x.above y c (PySem.mem_of_lookup h))
 ·have hi:i < vs.length:=by
   unfold FY at h2
   by_cases hi:i < vs.length
   ·exact hi
   ·rw [List.getElem?_append_right (by simpa using hi)] at h2
    rw [List.getElem?_replicate] at h2
    split at h2 <;> cases h2
  have ha:vs[i]?=some v:=by
   unfold FY at h2
   rw [List.getElem?_append_left (by simpa using hi),List.getElem?_map] at h2
   cases e:vs[i]? with
   | none=>rw [e] at h2;cases h2
   | some a=>rw [e] at h2;cases h2;rfl
  obtain ⟨u,hu,rv⟩:=r.get ha
  have hp:ps[i]?=some y:=by
   rw [<- S.pre,List.getElem?_take_of_lt (by omega)];exact h1
  have ndP:ps.Nodup:=by rw [<- S.pre];exact S.nd.sublist (take_sublist _ _)
  refine ⟨u,rv,?_⟩
  rcases S.par y (mem_of_getElem? hp) with k | k
  ·exact .inl ⟨k,Je ndP hp hu k⟩
  ·obtain ⟨c,e⟩:=Lu (n:=s.heap.objs.size+1) k
   refine .inr ⟨.inl k,c,e,?_⟩
   have q:=x.cell y c e
   rw [Jh ndP hp hu (by show scope.names.lookup y≠_;rw [k];decide)] at q
   exact q
 ·exact e0.hok.fresh (Nat.le_of_lt (x.above y c (PySem.mem_of_lookup h)))
 ·unfold FY
  show _=N.length
  rw [length_append,length_map,length_replicate]
  omega
theorem RP {CX:CXT} {P:Program} {w:World} {K:PySem.W.Frag} {mg:Str->Option Value} {base:Heap} {k:Nat} {f:Addr} {name qual:Str} {params:Arguments} {body:List Stmt} {scope:Scope} {dV kV doc pm cdv ct oc:Value} {an od:Option Addr}
 {osl:Array (Option Value)} {N ps:List Str} {sp:Sp} (lk:K.lookup f=some ⟨oc,od,.func (PySem.W.fnOf name qual params body scope dV kV doc pm an cdv ct),osl⟩) (hcd:PySem.W.codeIn K cdv qual=true) (S:Ap N ps scope)
 (len:∀vs H Q E,sp vs H Q E->vs.length=ps.length)
 (hbody:∀(A:Around) (outer:List Env) (s:Shared) (H:Hp) (vs:List V) (Q:VK) (E:XK),Du k (A.deeper (envOfC qual scope s.heap.objs.size f cdv))->sp vs H Q E ->
  ∃t,PSs (Mj CX P w K mg base N qual scope f cdv A outer s H E) body t/\t { nx:=fun _ H'=>Q .non H',rt:=Q } (FY N vs) H) :
 AG P w K mg base CX (k+1) f (PySem.W.fnOf name qual params body scope dV kV doc pm an cdv ct) ps sp:=by
 refine ⟨len,fun A outer s H args us vs Q E hr e0 hb r hsp=>?_⟩
 have hl:=len _ _ _ _ hsp
 have KX:K.In s.heap:=e0.mod.kin.keeps fun b o e=>(e0.bs b o e).1
 have lim:s.heap.NoLimit:=e0.mod.nolimit.keeps fun b o e=>(e0.bs b o e).1
 have hkind:∀y∈ps.zip us,scope.names.lookup y.1=some .local\/(scope.names.lookup y.1=some .cell/\((cellsFrom (s.heap.objs.size+1) scope.names []).lookup y.1).isSome=true):=fun ⟨n,v⟩ hy=>by
  rcases S.par n (of_mem_zip hy).1 with q | q
  ·exact .inl q
  ·exact .inr ⟨q,PySem.W.cellsFrom_some _ _ _ (.inl q)⟩
 refine codeAny_call_function hr.depth (KX _ _ lk) rfl S.co S.gen rfl (PySem.W.codeRec_of KX hcd) (hb _ _ _ _ ?_)
 refine wpAny_newFunctionEnv_cells S.kind hkind fun env he s1 x=>?_
 subst he
 refine ⟨lim.keeps x.toInCall.keep,codeAny_func ?_⟩
 obtain ⟨t,ht,hq⟩:=hbody A outer s H vs Q E (hr.deeper _) hsp
 have I:Inv (Mj CX P w K mg base N qual scope f cdv A outer s H E) [] (FY N vs) H s1:=NI S hr.hd e0 hl r x
 refine wpAny_mono (ht [] s1 (FY N vs) H _ I hq) (fun fl s' hs=>?_) fun e s' hs=>hs
 have fin:∀{σ':St} {H':Hp} {v:V} {u:Value},Inv (Mj CX P w K mg base N qual scope f cdv A outer s H E) [] σ' H' s'->AE v u->Q v H'->CE outer P w H s Q u s' :=
  fun {σ' H' v u} J rv q=>⟨v,H',J.os,J.bare,J.base,J.hok,rv,q⟩
 cases fl with
 | ret u =>
   obtain ⟨v,σ',H',J,rv,q⟩:=hs
   exact fin J rv q
 | next =>
   obtain ⟨σ',H',J,q⟩:=hs
   exact fin (v:=V.non) (u:=Value.none) J rfl q
 | brk =>
   obtain ⟨_,_,_,q⟩:=hs
   exact False.elim q
 | cont =>
   obtain ⟨_,_,_,q⟩:=hs
   exact False.elim q
end L2
namespace L2
open PySem PySem.Spec PyProof.Rows
section
variable {X:Cx} {x:Str} {p pos:Pos} {e:Expr} {es:List Expr} {t:TA} {id T:String} {r:List V->Hp->VK->Prop}
def tCB (r:List V->Hp->VK->Prop) (t:TA):TE:=fun σ H Q=>t σ H fun vs H1=>r vs H1 Q
theorem A2 (hc:DG X (.builtin id) r) (hg:Gl X x) (hm:X.mg x=none) (hv:bootBuiltins x=some (.builtin id)) (ha:PA X (e :: es) t) (hn:x≠"__name__":=by decide) (hdb:(x == ("__debug__":Str))=false:=by decide)
 (he:starEach (e :: es) X.env=(false,eval e X.env) :: starEach es X.env:=by rfl) (hpl:(backTo pos (starEach es X.env)).any (·.1)=false:=by rfl):PE X (.Call (.Name x p) (e :: es) [] pos) (tCB r t):=by
 intro pins s σ H Q I h
 refine wpAny_Call_Name_kw (DU I hg hm hv ?_ hn hdb)
 exact PyProof.Rows.callWith_builtin1 (thn (ha pos pins s σ H _ I h) fun us s1 ⟨vs,H1,I1,r1,q1⟩=>hc pins s1 σ H1 vs us Q I1 r1 q1) he hpl
theorem Bt (hc:DG X (.type T) r) (hg:Gl X x) (hm:X.mg x=none) (hv:bootBuiltins x=some (.type T)) (ha:PA X (e :: es) t) (hn:x≠"__name__":=by decide) (hdb:(x == ("__debug__":Str))=false:=by decide)
 (he:starEach (e :: es) X.env=(false,eval e X.env) :: starEach es X.env:=by rfl) (hpl:(backTo pos (starEach es X.env)).any (·.1)=false:=by rfl):PE X (.Call (.Name x p) (e :: es) [] pos) (tCB r t):=by
 intro pins s σ H Q I h
 refine wpAny_Call_Name_kw (DU I hg hm hv ?_ hn hdb)
 exact PyProof.Rows.callWith_type1 (thn (ha pos pins s σ H _ I h) fun us s1 ⟨vs,H1,I1,r1,q1⟩=>hc pins s1 σ H1 vs us Q I1 r1 q1) he hpl
end
end L2
namespace HT
open PySem PyProof.Rows
def lexLt:List Int->List Int->Bool
 | [],[]=>false
 | [],_ :: _=>true
 | _ :: _,[]=>false
 | x :: xs,y :: ys=>if x=y then lexLt xs ys else decide (x < y)
theorem lexLt_cons (x y:Int) (xs ys:List Int):lexLt (x :: xs) (y :: ys)=if x=y then lexLt xs ys else decide (x < y):=rfl
theorem Iv:lexLt [] []=false:=rfl
theorem Hr (y:Int) (ys:List Int):lexLt [] (y :: ys)=true:=rfl
theorem Id (x:Int) (xs:List Int):lexLt (x :: xs) []=false:=rfl
theorem Qc (A:Around) (s:Shared) (a:Int) (t:Tok) (c:Int) (u:Tok):∃e,SeqAt.EqAt A s (.int a t) (.int c u) e/\(e=true↔a=c) :=
 ⟨(a == c),SeqAt.EqAt.int_int a t c u,by simp⟩
theorem Qf (A:Around) (s:Shared) (a:Int) (t:Tok) (c:Int) (u:Tok) (prog:Program) (w:World) (E:Value->Shared->Prop) (Q:Value->Shared->Prop) (h:Q (.bool (decide (a < c))) s) :
 wpAny (model prog w) A (richCompare .Lt (.int a t) (.int c u)) Q E s :=
 (PyProof.Rows.lt_int h:wpAny (model prog w) A (compareOp .Lt (.int a t) (.int c u)) Q E s)
section
open PySem.SeqAt
open PySem.AutoSeq1 (wpAny_loadPart')
open PySem.MeetsSeq PySem.MeetsSeq2 PySem.MeetsSeq3
theorem tuple_lt_ints (l b:Addr) (items items2:Array Value) (n n2:Nat) (dd dd2:Option Addr) (sl sl2:Array (Option Value)) (ns ms:List Int) (hi:IntsAre items.toList ns) (hj:IntsAre items2.toList ms) :
 Meets (Builtin.«tuple.__lt__» ⟨[.ref l,.ref b],[]⟩)
  (fun _ R s=>s.heap.get? l=some { cls:=.type "tuple",dict:=dd,data:=.seq items n,slots:=sl }/\s.heap.get? b=some { cls:=.type "tuple",dict:=dd2,data:=.seq items2 n2,slots:=sl2 } /\
   R (.ok (.ret (.bool (lexLt ns ms)))) s) :=
 .of_wp fun prog w A R s h=>by
  obtain ⟨hp,g,d,tk,os⟩:=s;obtain ⟨hl,hb,h⟩:=h
  have f2:=AutoSeq1.sub_tuple_tuple
  have z1:items.size=ns.length:=by rw [<- hi.length];simp
  have z2:items2.size=ms.length:=by rw [<- hj.length];simp
  wp_walk using wpAny_loadPart' hl,wpAny_loadPart' hb,wpAny_forIn_list _ (fun rest b s'=>b.1=none/\s'=⟨hp,g,d,tk,os⟩/\∃(vs ws:List Value) (ns' ms':List Int),rest=vs.zip ws /\
   IntsAre vs ns'/\IntsAre ws ms'/\ns'.length+items2.size=ms'.length+items.size/\R (.ok (.ret (.bool (lexLt ns' ms')))) ⟨hp,g,d,tk,os⟩) _
  case turn =>
   rintro ⟨y,x⟩ rest b s' ⟨hb',rfl,vs,ws,ns',ms',hz,hvi,hwi,hlen,hR⟩
   cases hvi with
   | nil=>rw [zip_nil_left] at hz;cases hz
   | cons a t hvi' =>
     cases hwi with
     | nil=>rw [zip_nil_right] at hz;cases hz
     | cons c u hwi' =>
       rw [zip_cons_cons] at hz
       injection hz with hyx hrest
       injection hyx with hy hx
       subst hy hx
       rw [lexLt_cons] at hR
       simp only [length_cons] at hlen
       obtain ⟨e,he,hiff⟩:=Qc A.in1 ⟨hp,g,d,tk,os⟩ a t c u
       refine wpAny_bind (he prog w _ _ ?_)
       cases e with
       | true =>
         rw [if_pos (hiff.mp rfl)] at hR
         wp_walk
         exact ⟨rfl,rfl,_,_,_,_,hrest,hvi',hwi',by omega,hR⟩
       | false =>
         rw [if_neg (fun q=>absurd (hiff.mpr q) Bool.false_ne_true)] at hR
         have hri:=Qf A.in1 ⟨hp,g,d,tk,os⟩ a t c u prog w
         wp_walk using hri
         exact ⟨_,rfl,by simpa using hR⟩
  case fin =>
   rintro ⟨b1,b2⟩ s' ⟨hb',rfl,vs,ws,ns',ms',hz,hvi,hwi,hlen,hR⟩
   simp only at hb'
   subst hb'
   have hv:lexLt ns' ms'=decide (items.size < items2.size):=by
    cases hvi with
    | nil =>
      cases hwi with
      | nil =>
        simp only [length_nil] at hlen
        rw [Iv]
        exact (decide_eq_false (by omega)).symm
      | cons c u hw =>
        simp only [length_nil,length_cons] at hlen
        rw [Hr]
        exact (decide_eq_true (by omega)).symm
    | cons a t hv =>
      cases hwi with
      | nil =>
        simp only [length_nil,length_cons] at hlen
        rw [Id]
        exact (decide_eq_false (by omega)).symm
      | cons c u hw =>
        rw [zip_cons_cons] at hz
        cases hz
   rw [hv] at hR
   wp_walk
   exact ⟨_,rfl,by simpa [Builtin.Tuple.tupleCompareSizes] using hR⟩
  case h =>
   exact ⟨rfl,rfl,items.toList,items2.toList,ns,ms,rfl,hi,hj,by omega,h⟩
end
section
variable {prog:Program} {w:World} {A:Around} {E:Value->Shared->Prop} {s:Shared}
theorem lt_tupInts {l b:Addr} {items items2:Array Value} {ns ms:List Int} {Q:Value->Shared->Prop} (hl:IsTup s.heap l items) (hb:IsTup s.heap b items2) (hi:IntsAre items.toList ns) (hj:IntsAre items2.toList ms)
 (hu:A.units < cLine) (h:Q (.bool (lexLt ns ms)) s):wpAny (model prog w) A (compareOp .Lt (.ref l) (.ref b)) Q E s:=by
 obtain ⟨⟨cls,dd,data,sl⟩,ho,hc,n,hd⟩:=id hl
 obtain ⟨⟨cls2,dd2,data2,sl2⟩,ho2,hc2,n2,hd2⟩:=id hb
 simp only at hc hd hc2 hd2
 subst hc hd hc2 hd2
 exact richCompare_meets_room (op:=.Lt) ⟨_,ho,rfl⟩ ⟨_,ho2,rfl⟩ PySem.F.slot_tuple_lt PySem.F.entry_tuple_lt (PySem.F.args_tuple_lt_2 _ _) (tuple_lt_ints l b items items2 n n2 dd dd2 sl sl2 ns ms hi hj)
  ⟨ho,ho2,show Value.bool (lexLt ns ms)≠Value.notImplemented/\Q (.bool (lexLt ns ms)) s from ⟨(fun x=>nomatch x),h⟩⟩ hu
def sIx (n d:Nat):Option Int->Nat
 | none=>d
 | some v=>if v < 0 then (v+(n:Int)).toNat else min v.toNat n
theorem sIx_none (n d:Nat):sIx n d none=d:=rfl
theorem sIx_nat (n d k:Nat):sIx n d (some (k:Int))=min k n:=by
 show (if (k:Int) < 0 then ((k:Int)+(n:Int)).toNat else min (k:Int).toNat n)=min k n
 rw [if_neg (by omega),Int.toNat_natCast]
end
end HT
namespace L2
open PySem PySem.Spec PyProof.Rows
abbrev TO:=St->Hp->(Option Int->Hp->Prop)->Prop
def PO (X:Cx) (e:Option Expr) (t:TO):Prop :=
 ∀(pins:List (Addr × Obj)) (s:Shared) (σ:St) (H:Hp) (Q:Option Int->Hp->Prop),Inv X pins σ H s->t σ H Q ->
  wpAny (model X.prog X.w) X.A (evalPart e X.env) (fun u s'=>∃o H',Inv X pins σ H' s'/\IsPart u o/\Q o H') X.xe s
def R8:TO:=fun _ H Q=>Q none H
def Ts (t:TE):TO:=fun σ H Q=>t σ H fun x H1=>∃i,x=.int i/\Q (some i) H1
theorem Fs {ns:List Int}:∀{us:List Value},A9 (ns.map V.int) us->IntsAre us ns:=by
 induction ns with
 | nil=>intro us r;rw [map_nil] at r;cases r;exact .nil
 | cons n ns ih =>
   intro us r
   rw [map_cons] at r
   cases r with
   | cons r1 r2 =>
     obtain ⟨t,e⟩:=r1
     subst e
     exact .cons n t (ih r2)
section
variable {X:Cx} {e:Expr} {te:TE} {lo hi:Option Expr} {tl th:TO} {pos p2:Pos}
theorem Fd:PO X none R8:=by
 intro pins s σ H Q I h
 rw [evalPart_none]
 exact wpAny_pure ⟨none,H,I,.none,h⟩
theorem EX (h:PE X e te):PO X (some e) (Ts te):=by
 intro pins s σ H Q I hw
 rw [evalPart_some]
 refine thn (h pins s σ H _ I hw) fun u s1 ⟨x,H1,I1,r1,q1⟩=>?_
 obtain ⟨i,rfl,q⟩:=q1
 obtain ⟨t,rfl⟩:=r1
 exact ⟨some i,H1,I1,.int i t,q⟩
def SlR (X:Cx) (r:V->Option Int->Option Int->Hp->VK->Prop):Prop :=
 ∀(pins:List (Addr × Obj)) (s:Shared) (σ:St) (H:Hp) (x:V) (v vl vu:Value) (lo hi:Option Int) (sl:Addr) (Q:VK),Inv X pins σ H s->AE x v->s.heap.IsSliceOf sl vl vu .none->IsPart vl lo->IsPart vu hi->r x lo hi H Q ->
  ∃T id,typeLookup (.type T) "__getitem__"=pure (some (.builtin id))/\s.TypeIs v T/\wpAny (model X.prog X.w) X.A (getItem v (.ref sl)) (EP X pins σ Q) X.xe s
def tSl (r:V->Option Int->Option Int->Hp->VK->Prop) (te:TE) (tl th:TO):TE:=fun σ H Q=>te σ H fun x H1=>tl σ H1 fun l H2=>th σ H2 fun u H3=>r x l u H3 Q
theorem DZ {r:V->Option Int->Option Int->Hp->VK->Prop} (hr:SlR X r) (he:PE X e te) (hl:PO X lo tl) (hu:PO X hi th):PE X (.Subscript e (.Slice lo hi none p2) pos) (tSl r te tl th):=by
 intro pins s σ H Q I h
 refine Subscript_ (thn (he pins s σ H _ I h) fun v s1 ⟨x,H1,I1,r1,q1⟩=>?_)
 refine wpAny_Slice (thn (hl pins s1 σ H1 _ I1 q1) fun vl s2 ⟨l,H2,I2,pl,q2⟩=>thn (hu pins s2 σ H2 _ I2 q2) fun vu s3 ⟨u,H3,I3,pu,q3⟩=>?_)
 rw [evalPart_none]
 refine wpAny_pure ?_
 have I4:Inv X pins σ H3 { s3 with heap:=s3.heap.push { cls:=.type "slice",data:=.fields #[vl,vu,.none] } }:=I3.kept (t':=s3.toks) fun b ob q=>Heap.get?_push_of_some _ q
 obtain ⟨T,id,hT,ht,hg⟩:=hr pins { s3 with heap:=s3.heap.push { cls:=.type "slice",data:=.fields #[vl,vu,.none] } } σ H3 x v vl vu l u s3.heap.objs.size Q I4 r1 (Heap.IsSliceOf.new ..) pl pu q3
 show wpAny (model X.prog X.w) X.A (subscriptTail e (.Slice lo hi none p2) v (.ref s3.heap.objs.size)) (EP X pins σ Q) X.xe { s3 with heap:=s3.heap.push { cls:=.type "slice",data:=.fields #[vl,vu,.none] } }
 exact tail_any (ops:=[.ref s3.heap.objs.size,v]) ht hT hg (by with_unfolding_all rfl)
def GH (xs:List V) (lo hi:Option Int):List V:=(xs.drop (HT.sIx xs.length 0 lo)).take (HT.sIx xs.length xs.length hi - HT.sIx xs.length 0 lo)
theorem K6 (xs:List V) (lo hi:Option Int):(GH xs lo hi).length<=xs.length:=by
 unfold GH
 rw [length_take,length_drop]
 omega
end
end L2
namespace L2
open PySem PySem.Spec PyProof.Rows
def ixN (n:Nat) (i:Int):Option Nat:=if 0<=i then (if i < n then some i.toNat else none) else if -(n:Int)<=i then some (i+n).toNat else none
def atI {α:Type} (xs:List α) (i:Int):Option α:=(ixN xs.length i).bind fun j=>xs[j]?
theorem JF {n:Nat} {i:Int} {j:Nat} (h:ixN n i=some j):seqIndex? i n=some j/\j < n/\-(n:Int)<=i/\i < n:=by
 unfold ixN at h
 by_cases h0:0<=i
 ·rw [if_pos h0] at h
  by_cases h1:i < n
  ·rw [if_pos h1] at h
   have e:i.toNat=j:=Option.some.inj h
   exact ⟨by rw [seqIndex_of h0 h1,e],by omega,by omega,h1⟩
  ·rw [if_neg h1] at h;cases h
 ·rw [if_neg h0] at h
  by_cases h1:-(n:Int)<=i
  ·rw [if_pos h1] at h
   have e:(i+n).toNat=j:=Option.some.inj h
   exact ⟨by rw [seqIndex_neg (by omega) h1,e],by omega,h1,by omega⟩
  ·rw [if_neg h1] at h;cases h
theorem Ni {α:Type} {xs:List α} {i:Int} {v:α} (h:atI xs i=some v):∃j,seqIndex? i xs.length=some j/\xs[j]?=some v/\j < xs.length/\-(xs.length:Int)<=i/\i < xs.length:=by
 unfold atI at h
 cases e:ixN xs.length i with
 | none=>rw [e] at h;cases h
 | some j =>
   rw [e] at h
   obtain ⟨h1,h2,h3,h4⟩:=JF e
   exact ⟨j,h1,h,h2,h3,h4⟩
theorem Dj {α:Type} {xs:List α} {j:Nat} {v:α} (h:xs[j]?=some v):atI xs (j:Int)=some v:=by
 have hj:j < xs.length:=(List.getElem?_eq_some_iff.mp h).1
 have e:ixN xs.length (j:Int)=some j:=by
  unfold ixN
  rw [if_pos (by omega),if_pos (by omega)];simp
 unfold atI;rw [e];exact h
theorem OK {α:Type} (xs:List α) (v:α):atI (xs++[v]) (-1)=some v:=by
 have hl:(xs++[v]).length=xs.length+1:=by simp
 have e:ixN (xs++[v]).length (-1)=some xs.length:=by
  unfold ixN
  rw [hl,if_neg (by decide),if_pos (by omega)]
  congr 1
  omega
 unfold atI
 rw [e]
 show (xs++[v])[xs.length]?=some v
 simp
def Q1 (b:Expr):Prop:=∀o i,subscripted b false o i=operate [o,i] (getItem o i)
def IxR (X:Cx) (r:R2):Prop :=
 ∀(value slice:Expr) (pins:List (Addr × Obj)) (s:Shared) (σ:St) (H:Hp) (x y:V) (v u:Value) (Q:VK),Inv X pins σ H s->AE x v->AE y u->r x y H Q ->
  subscripted slice false v u=operate [v,u] (getItem v u)->wpAny (model X.prog X.w) X.A (subscriptTail value slice v u) (EP X pins σ Q) X.xe s
def MtR (X:Cx) (id:String) (r:V->List V->Hp->VK->Prop):Prop :=
 ∀(pins:List (Addr × Obj)) (s:Shared) (σ:St) (H:Hp) (x:V) (xs:List V) (v:Value) (us:List Value) (Q:VK),Inv X pins σ H s->AE x v->A9 xs us->r x xs H Q ->
  wpAny (model X.prog X.w) X.A (call (.builtin id) (v :: us)) (EP X pins σ Q) X.xe s
section
variable {X:Cx} {a b:Expr} {ta tb:TE} {pos:Pos}
theorem At {r:R2} (hr:IxR X r) (ha:PE X a ta) (hb:PE X b tb) (hs:Q1 b):PE X (.Subscript a b pos) (tOp r ta tb):=by
 intro pins s σ H Q I h
 exact Subscript_ (SY ha hb I h fun v u s2 x y H2 I2 rx ry q=>hr a b pins s2 σ H2 x y v u Q I2 rx ry q (hs _ _))
def T2 (K:PySem.W.Frag):R2:=fun x y H Q=>∃p xs i v,x=.ref p/\y=.int i/\SqL K H p xs/\atI xs i=some v/\Q v H
def T3 (K:PySem.W.Frag):R2:=fun x y H Q=>∃p xs i v,x=.ref p/\y=.int i/\SqT K H p xs/\atI xs i=some v/\Q v H
theorem A5:IxR X (T2 X.K):=by
 intro value slice pins s σ H x y v u Q I rx ry h hs
 obtain ⟨p,xs,i,z,rfl,rfl,hq,he,q⟩:=h
 cases rx
 obtain ⟨t,rfl⟩:=ry
 obtain ⟨its,r,pl,hz⟩:=I.list hq
 obtain ⟨j,h1,h2,h3,h4,h5⟩:=Ni he
 obtain ⟨w,ew,rw'⟩:=r.get h2
 have hl:=r.length
 have hn:=JV
 have fin:EP X pins σ Q w s:=⟨z,H,I,rw',q⟩
 by_cases h0:0<=i
 ·have hj:i.toNat=j:=by
   rw [seqIndex_of h0 h5] at h1
   exact Option.some.inj h1
  exact item_listR pl.isList h0 (by omega) (by rw [hj];simpa using ew) fin hs
 ·have hj:(i+(its.toArray.size:Int)).toNat=j:=by
   rw [seqIndex_neg (by omega) h4] at h1
   rw [size_toArray,<- hl]
   exact Option.some.inj h1
  exact subscriptTail_builtinR (x:=w) pl.isList.typeIs slot_list_getitem.lookup
   (wpAny_getItem_list_neg (Q:=fun r s'=>r=w/\EP X pins σ Q r s') pl.isList (by omega) (by rw [size_toArray] <;> omega) (by omega) (by rw [hj];simpa using ew) ⟨rfl,fin⟩) hs
theorem Ay:IxR X (T3 X.K):=by
 intro value slice pins s σ H x y v u Q I rx ry h hs
 obtain ⟨p,xs,i,z,rfl,rfl,hq,he,q⟩:=h
 cases rx
 obtain ⟨t,rfl⟩:=ry
 obtain ⟨its,r,pl,hz⟩:=I.tuple hq
 obtain ⟨j,h1,h2,h3,h4,h5⟩:=Ni he
 obtain ⟨w,ew,rw'⟩:=r.get h2
 have hl:=r.length
 have hn:=JV
 have fin:EP X pins σ Q w s:=⟨z,H,I,rw',q⟩
 exact subscriptTail_builtinR (x:=w) pl.typeIs slot_tuple_getitem.lookup
  (getItem_tuple (j:=j) (Q:=fun r s'=>r=w/\EP X pins σ Q r s') pl (by omega) (by omega) (by rw [size_toArray,<- hl];exact h1) (by simpa using ew) ⟨rfl,fin⟩) hs
theorem LY (its:List Value) (n j:Nat) (u:Value):Obj.mapSeq (·.setIfInBounds j u) { cls:=.type "list",data:=.seq its.toArray n }={ cls:=.type "list",data:=.seq (its.set j u).toArray n }:=by
 simp [Obj.mapSeq]
theorem Inv.lst {pins:List (Addr × Obj)} {σ:St} {H:Hp} {s:Shared} {p:Addr} {xs:List V} (I:Inv X pins σ H s) (h:H p=some (.lst xs)) :
 ∃(its:List Value) (n:Nat),A9 xs its/\s.heap.get? p=some { cls:=.type "list",data:=.seq its.toArray n }/\xs.length<=sizeLine:=by
 obtain ⟨z,its,n,r,e⟩:=I.hok p _ h
 exact ⟨its,n,r,e,z⟩
theorem Inv.lstUpd {pins:List (Addr × Obj)} {σ:St} {H:Hp} {s:Shared} {p:Addr} {xs ys:List V} {its its':List Value} {n n':Nat} {f:Obj->Obj} (I:Inv X pins σ H s) (h:H p=some (.lst xs))
 (ho:s.heap.get? p=some { cls:=.type "list",data:=.seq its.toArray n }) (hf:f { cls:=.type "list",data:=.seq its.toArray n }={ cls:=.type "list",data:=.seq its'.toArray n' }) (r:A9 ys its') (hz:ys.length<=sizeLine) (t:Nat) :
 Inv X pins σ (upd H p (.lst ys)) { s with heap:=s.heap.update p f,toks:=t }:=by
 have e:(s.heap.update p f).get? p=some { cls:=.type "list",data:=.seq its'.toArray n' }:=by
  rw [Heap.get?_update_self f ho (by rw [hf] <;> rfl),hf]
 refine I.write (x:=p) (e:=p) (by rw [h];trivial) (.inl rfl) (fun b u hb q=>(Heap.get?_update_other _ _ (Ne.symm hb)).trans q) ⟨_,e⟩ ?_
 exact ⟨hz,its',n',r,e⟩
def Td:V->V->V->Hp->(Hp->Prop)->Prop:=fun o i v H Q=>∃p xs k j,o=.ref p/\i=.int k/\H p=some (.lst xs)/\ixN xs.length k=some j/\Q (upd H p (.lst (xs.set j v)))
theorem Do:Tn X Td:=by
 intro pins s σ H o i v ov iv u Q I ro ri rv h
 obtain ⟨p,xs,k,j,rfl,rfl,hp,hj,q⟩:=h
 cases ro
 obtain ⟨t,rfl⟩:=ri
 obtain ⟨its,n,r,ho,hz⟩:=I.lst hp
 obtain ⟨h1,h2,h3,h4⟩:=JF hj
 have hl:=r.length
 have hn:=JV
 have I':Inv X pins σ (upd H p (.lst (xs.set j v))) { s with heap:=s.heap.update p (Obj.mapSeq (·.setIfInBounds j u)) } :=
  I.lstUpd hp ho (LY its n j u) (r.set rv j) (by rw [length_set];exact hz) s.toks
 by_cases h0:0<=k
 ·have hk:k.toNat=j:=by
   rw [seqIndex_of h0 h4] at h1
   exact Option.some.inj h1
  exact PySem.W.ki_setAt ho h0 (by omega) (by rw [size_toArray,<- hl];exact h4) (by rw [hk];exact ⟨_,I',q⟩)
 ·have hk:(k+(its.toArray.size:Int)).toNat=j:=by
   rw [seqIndex_neg (by omega) h3] at h1
   rw [size_toArray,<- hl]
   exact Option.some.inj h1
  exact PySem.W.ki_setBack ho (by omega) (by rw [size_toArray,<- hl];exact h3) (by omega) (by rw [hk];exact ⟨_,I',q⟩)
theorem JW (lo hi:Option Int) (n:Nat):(sliceBounds lo hi none n).1=((HT.sIx n 0 lo:Nat):Int)/\(sliceBounds lo hi none n).2.1=((HT.sIx n n hi:Nat):Int)/\(sliceBounds lo hi none n).2.2=1:=by
 refine ⟨?_,?_,rfl⟩
 ·cases lo with
  | none=>simp [sliceBounds,HT.sIx]
  | some i =>
    simp only [sliceBounds,HT.sIx,Option.getD_none,show (1:Int) > 0 by decide,if_true]
    by_cases h:i < 0
    ·simp only [h,if_true] <;> omega
    ·simp only [h,if_false] <;> omega
 ·cases hi with
  | none=>simp [sliceBounds,HT.sIx]
  | some i =>
    simp only [sliceBounds,HT.sIx,Option.getD_none,show (1:Int) > 0 by decide,if_true]
    by_cases h:i < 0
    ·simp only [h,if_true] <;> omega
    ·simp only [h,if_false] <;> omega
theorem Iy (its:List Value) (lo hi:Option Int):slicePick its.toArray lo hi none=((its.drop (HT.sIx its.length 0 lo)).take (HT.sIx its.length its.length hi - HT.sIx its.length 0 lo)).toArray:=by
 obtain ⟨h1,h2,h3⟩:=JW lo hi its.toArray.size
 unfold slicePick
 rw [h1,h2,h3]
 simp only [sliceRange_one,pick_run,size_toArray] <;> rfl
def TU (K:PySem.W.Frag):V->Option Int->Option Int->Hp->VK->Prop:=fun x lo hi H Q=>∃a xs,x=.ref a/\SqL K H a xs/\∀p,H p=none->Q (.ref p) (upd H p (.lst (GH xs lo hi)))
theorem Fh:SlR X (TU X.K):=by
 intro pins s σ H x v vl vu lo hi sl Q I rx hs pl pu h
 obtain ⟨a,xs,rfl,hx,q⟩:=h
 cases rx
 obtain ⟨its,r,ht,hz⟩:=I.list hx
 have hlen:=r.length
 refine ⟨"list",_,slot_list_getitem.lookup,ht.isList.typeIs,?_⟩
 refine wpAny_getItem_list_slice ht.isList hs pl pu .none (by simp) ?_ (by rw [size_toArray] <;> omega)
 rw [Iy,<- hlen]
 refine ⟨.ref s.heap.objs.size,_,I.laid (t':=s.toks) (o:=.lst (GH xs lo hi)) (fun b ob q=>Heap.get?_push_of_some _ q) (Nat.le_refl _) ?_,rfl,q _ (I.hok.fresh (Nat.le_refl _))⟩
 exact ⟨Nat.le_trans (K6 xs lo hi) hz,_,0,(r.drop (HT.sIx xs.length 0 lo)).take (HT.sIx xs.length xs.length hi - HT.sIx xs.length 0 lo),Heap.get?_push_size _ rfl⟩
def Fj:V->Bool
 | .non=>true
 | .bl _=>true
 | .int _=>true
 | .str _=>true
 | _=>false
def eqV:V->V->Bool
 | .non,.non=>true
 | .bl a,.bl b=>a == b
 | .bl a,.int b=>(if a then 1 else 0) == b
 | .int a,.bl b=>a == (if b then 1 else 0)
 | .int a,.int b=>a == b
 | .str a,.str b=>a == b
 | _,_=>false
theorem Sv {A:Around} {s:Shared} {y x:V} {u v:Value} (ry:AE y u) (rx:AE x v) (fy:Fj y=true) (fx:Fj x=true):SeqAt.EqAt A s u v (eqV y x):=by
 cases y with
 | non =>
   cases ry
   cases x with
   | non=>cases rx;exact SeqAt.EqAt.same _
   | bl b=>cases rx;exact SeqAt.EqAt.none_bool b
   | int b=>obtain ⟨t,rfl⟩:=rx;exact SeqAt.EqAt.none_int b t
   | str b=>obtain ⟨t,rfl⟩:=rx;exact SeqAt.EqAt.none_str b t
   | _=>exact absurd (show false=true from fx) Bool.false_ne_true
 | bl a =>
   cases ry
   cases x with
   | non=>cases rx;exact SeqAt.EqAt.bool_none a
   | bl b=>cases rx;exact SeqAt.EqAt.bool_bool a b
   | int b=>obtain ⟨t,rfl⟩:=rx;exact SeqAt.EqAt.bool_int a b t
   | str b=>obtain ⟨t,rfl⟩:=rx;exact SeqAt.EqAt.bool_str a b t
   | _=>exact absurd (show false=true from fx) Bool.false_ne_true
 | int a =>
   obtain ⟨t',rfl⟩:=ry
   cases x with
   | non=>cases rx;exact SeqAt.EqAt.int_none a t'
   | bl b=>cases rx;exact SeqAt.EqAt.int_bool a t' b
   | int b=>obtain ⟨t,rfl⟩:=rx;exact SeqAt.EqAt.int_int a t' b t
   | str b=>obtain ⟨t,rfl⟩:=rx;exact SeqAt.EqAt.int_str a t' b t
   | _=>exact absurd (show false=true from fx) Bool.false_ne_true
 | str a =>
   obtain ⟨t',rfl⟩:=ry
   cases x with
   | non=>cases rx;exact SeqAt.EqAt.str_none a t'
   | bl b=>cases rx;exact SeqAt.EqAt.str_bool a t' b
   | int b=>obtain ⟨t,rfl⟩:=rx;exact SeqAt.EqAt.str_int a t' b t
   | str b=>obtain ⟨t,rfl⟩:=rx;exact SeqAt.EqAt.str_str a t' b t
   | _=>exact absurd (show false=true from fx) Bool.false_ne_true
 | _=>exact absurd (show false=true from fy) Bool.false_ne_true
def eqU (x:V) (u:Value):Bool:=match u with
 | .none=>eqV .non x
 | .bool b=>eqV (.bl b) x
 | .int i _=>eqV (.int i) x
 | .str z _=>eqV (.str z) x
 | _=>false
theorem OX {x y:V} {u:Value} (r:AE y u) (f:Fj y=true):eqU x u=eqV y x:=by
 cases y with
 | non=>cases r;rfl
 | bl b=>cases r;rfl
 | int i=>obtain ⟨t,rfl⟩:=r;rfl
 | str z=>obtain ⟨t,rfl⟩:=r;rfl
 | _=>exact absurd (show false=true from f) Bool.false_ne_true
theorem FE {x:V}:∀{xs:List V} {us:List Value},A9 xs us->xs.all Fj=true->us.any (eqU x)=xs.any fun y=>eqV y x
 | _,_,.nil,_=>rfl
 | y :: xs,u :: us,.cons r t,f=>by
   rw [all_cons,Bool.and_eq_true] at f
   rw [any_cons,any_cons,OX r f.1,FE t f.2]
theorem EC {A:Around} {s:Shared} {x:V} {v:Value} (rx:AE x v) (fx:Fj x=true):∀{xs:List V} {us:List Value},A9 xs us->xs.all Fj=true->∀u∈us,SeqAt.EqAt A s u v (eqU x u)
 | _,_,.nil,_=>fun u hu=>by cases hu
 | y :: xs,u :: us,.cons r t,f=>fun u' hu=>by
   rw [all_cons,Bool.and_eq_true] at f
   rcases mem_cons.mp hu with rfl | hu
   ·rw [OX r f.1];exact Sv r rx f.1 fx
   ·exact EC rx fx t f.2 u' hu
def inV (x:V) (xs:List V):Bool:=xs.any fun y=>eqV y x
def rIn (K:PySem.W.Frag) (neg:Bool):R2:=fun x y H Q=>∃p xs,y=.ref p/\(SqL K H p xs\/SqT K H p xs)/\Fj x=true/\xs.all Fj=true/\Q (.bl (if neg then !inV x xs else inV x xs)) H
theorem Jp:OpR X (compareOp .In) (rIn X.K false):=by
 intro pins s σ H x y v u Q I rx ry h
 obtain ⟨p,xs,rfl,hq,fx,fs,q⟩:=h
 cases ry
 rcases hq with hq | hq
 ·obtain ⟨its,r,pl,hz⟩:=I.list hq
  refine SeqAt.in_listAt (eqU x) pl.isList (fun w hw=>EC rx fx r fs w (by simpa using hw)) ⟨.bl _,H,I,rfl,?_⟩
  rw [show its.toArray.any (eqU x)=its.any (eqU x) by simp,FE r fs]
  exact q
 ·obtain ⟨its,r,pl,hz⟩:=I.tuple hq
  refine SeqAt.in_tupleAt (eqU x) pl (fun w hw=>EC rx fx r fs w (by simpa using hw)) ⟨.bl _,H,I,rfl,?_⟩
  rw [show its.toArray.any (eqU x)=its.any (eqU x) by simp,FE r fs]
  exact q
theorem JT:OpR X (compareOp .NotIn) (rIn X.K true):=by
 intro pins s σ H x y v u Q I rx ry h
 obtain ⟨p,xs,rfl,hq,fx,fs,q⟩:=h
 cases ry
 rcases hq with hq | hq
 ·obtain ⟨its,r,pl,hz⟩:=I.list hq
  refine SeqAt.notIn_listAt (eqU x) pl.isList (fun w hw=>EC rx fx r fs w (by simpa using hw)) ⟨.bl _,H,I,rfl,?_⟩
  rw [show its.toArray.any (eqU x)=its.any (eqU x) by simp,FE r fs]
  exact q
 ·obtain ⟨its,r,pl,hz⟩:=I.tuple hq
  refine SeqAt.notIn_tupleAt (eqU x) pl (fun w hw=>EC rx fx r fs w (by simpa using hw)) ⟨.bl _,H,I,rfl,?_⟩
  rw [show its.toArray.any (eqU x)=its.any (eqU x) by simp,FE r fs]
  exact q
theorem A6:DG X (.builtin "len") (fun xs H Q=>∃p ys,xs=[.ref p]/\(SqL X.K H p ys\/SqT X.K H p ys)/\Q (.int ys.length) H):=by
 intro pins s σ H xs us Q I r h
 obtain ⟨p,ys,rfl,hq,q⟩:=h
 obtain ⟨u,rfl,rx⟩:=FW r
 cases rx
 have hn:=JV
 rcases hq with hq | hq
 ·obtain ⟨its,r',pl,hz⟩:=I.list hq
  have hlen:=r'.length
  exact Calls.call_len_list pl.isList (by simp only [size_toArray] <;> omega) ⟨.int ys.length,H,I.tok _,⟨s.toks+1,by rw [size_toArray,hlen]⟩,q⟩
 ·obtain ⟨its,r',pl,hz⟩:=I.tuple hq
  have hlen:=r'.length
  exact len_tuple pl (by simp only [size_toArray] <;> omega) ⟨.int ys.length,H,I.tok _,⟨s.toks+1,by rw [size_toArray,hlen]⟩,q⟩
theorem AX:DG X (.type "list") (fun xs H Q=>∃p ys,xs=[.ref p]/\(SqL X.K H p ys\/SqT X.K H p ys)/\∀l,H l=none->Q (.ref l) (upd H l (.lst ys))):=by
 intro pins s σ H xs us Q I r h
 obtain ⟨p,ys,rfl,hq,q⟩:=h
 obtain ⟨u,rfl,rx⟩:=FW r
 cases rx
 have fin:∀(its:List Value),A9 ys its->ys.length<=sizeLine->∀(h':Heap) (c':Nat),(∀b o',s.heap.get? b=some o'->h'.get? b=some o') ->
  h'.get? s.heap.objs.size=some { cls:=.type "list",dict:=none,data:=.seq its.toArray c',slots:=#[] }->EP X pins σ Q (.ref s.heap.objs.size) { s with heap:=h' }:=fun its r' hz h' c' kp e =>
  ⟨.ref s.heap.objs.size,_,I.laid (t':=s.toks) kp (Nat.le_refl _) (show AN X.prog X.w _ h' _ (.lst ys) from ⟨hz,its,c',r',e⟩),rfl,q _ (I.hok.fresh (Nat.le_refl _))⟩
 rcases hq with hq | hq
 ·obtain ⟨its,r',pl,hz⟩:=I.list hq
  have hlen:=r'.length
  obtain ⟨o,ho,hc,n,hd⟩:=pl.isList
  exact call_list_seq p (.inl rfl) ho hc hd (fun h' c' kp e=>fin its r' hz h' c' kp e) (by simp only [size_toArray] <;> omega)
 ·obtain ⟨its,r',pl,hz⟩:=I.tuple hq
  have hlen:=r'.length
  obtain ⟨o,ho,hc,n,hd⟩:=pl
  exact call_list_seq p (.inr rfl) ho hc hd (fun h' c' kp e=>fin its r' hz h' c' kp e) (by simp only [size_toArray] <;> omega)
theorem IG:DG X (.type "tuple") (fun xs H Q=>∃p ys,xs=[.ref p]/\((SqL X.K H p ys/\∀l,H l=none->Q (.ref l) (upd H l (.tup ys)))\/(SqT X.K H p ys/\Q (.ref p) H))):=by
 intro pins s σ H xs us Q I r h
 obtain ⟨p,ys,rfl,h⟩:=h
 obtain ⟨u,rfl,rx⟩:=FW r
 cases rx
 rcases h with ⟨hq,q⟩ | ⟨hq,q⟩
 ·obtain ⟨its,r',pl,hz⟩:=I.list hq
  have hlen:=r'.length
  refine call_tuple_list pl.isList (fun h' kp=>?_) (by simp only [size_toArray] <;> omega)
  have I1:Inv X pins σ H { s with heap:=h' }:=I.kept (t':=s.toks) kp
  have I2:Inv X pins σ (upd H h'.objs.size (.tup ys)) { s with heap:=h'.push { cls:=.type "tuple",data:=.seq its.toArray } } :=
   I1.laid (t':=s.toks) (fun b o e=>Heap.get?_push_of_some _ e) (Nat.le_refl _) (show AN X.prog X.w _ _ _ (.tup ys) from ⟨hz,its,r',IsTup.new _ _⟩)
  exact ⟨.ref h'.objs.size,_,I2,rfl,q _ (I1.hok.fresh (Nat.le_refl _))⟩
 ·obtain ⟨its,r',pl,hz⟩:=I.tuple hq
  exact call_tuple_same pl ⟨.ref p,H,I,rfl,q⟩
def tyV (K:PySem.W.Frag) (T:String) (x:V) (H:Hp):Prop:=match x with
 | .str _=>T="str"
 | .int _=>T="int"
 | .ref p=>(T="list"/\∃xs,SqL K H p xs)\/(T="tuple"/\∃o,K.lookup p=some o/\o.cls=.type "tuple"/\o.dict=none) \/
  (T="dict"/\((∃kvs,H p=some (.dK kvs))\/∃kvs,H p=some (.dT kvs)))\/(T="set"/\∃S n,H p=some (.set S n))
 | _=>False
theorem OB {pins:List (Addr × Obj)} {σ:St} {H:Hp} {s:Shared} {T:String} {x:V} {v:Value} (I:Inv X pins σ H s) (r:AE x v) (ty:tyV X.K T x H) :
 s.TypeIs v T/\∀a,v=.ref a->∃ob,s.heap.get? a=some ob/\ob.dict=none:=by
 cases x with
 | str z =>
   obtain ⟨t,rfl⟩:=r
   cases (show T="str" from ty)
   exact ⟨typeIs_str s z t,fun _ e=>nomatch e⟩
 | int i =>
   obtain ⟨t,rfl⟩:=r
   cases (show T="int" from ty)
   exact ⟨typeIs_int s i t,fun _ e=>nomatch e⟩
 | ref p =>
   cases r
   rcases ty with ⟨rfl,xs,hq⟩ | ⟨rfl,o,hk,hc,hd⟩ | ⟨rfl,hk⟩ | ⟨rfl,S,n,hk⟩
   ·obtain ⟨its,_,pl,_⟩:=I.list hq
    refine ⟨pl.isList.typeIs,fun a e=>?_⟩
    cases e
    obtain ⟨o,n,e,c,hd,_⟩:=pl
    exact ⟨o,e,hd⟩
   ·refine ⟨⟨o,I.kIn p o hk,hc⟩,fun a e=>?_⟩
    cases e
    exact ⟨o,I.kIn _ o hk,hd⟩
   ·have z:∃o,s.heap.get? p=some o/\o.ExactDict:=by
     rcases hk with ⟨kvs,hk⟩ | ⟨kvs,hk⟩
     ·obtain ⟨_,_,_,_,o,_,_,e,ex,_⟩:=I.hok p _ hk
      exact ⟨o,e,ex⟩
     ·obtain ⟨_,_,_,_,o,_,_,e,ex,_⟩:=I.hok p _ hk
      exact ⟨o,e,ex⟩
    obtain ⟨o,e,ex⟩:=z
    refine ⟨⟨o,e,ex.1⟩,fun a e2=>?_⟩
    cases e2
    exact ⟨o,e,ex.2.1⟩
   ·obtain ⟨o,_,_,_,e,ex,_⟩:=I.hok p _ hk
    refine ⟨⟨o,e,ex.1⟩,fun a e2=>?_⟩
    cases e2
    exact ⟨o,e,ex.2.1⟩
 | _=>exact False.elim ty
def T9 (K:PySem.W.Frag) (T:String) (r:V->List V->Hp->VK->Prop) (to:TE):TE:=fun σ H Q=>to σ H fun x H1=>tyV K T x H1/\r x [] H1 Q
def tBM (K:PySem.W.Frag) (T:String) (r:V->List V->Hp->VK->Prop) (to:TE) (t:TA):TE:=fun σ H Q=>to σ H fun x H1=>tyV K T x H1/\t σ H1 fun xs H2=>r x xs H2 Q
variable {o e:Expr} {es:List Expr} {to:TE} {t:TA} {name:Str} {apos cpos:Pos} {T id:String} {r:V->List V->Hp->VK->Prop}
theorem Jw (pa:PlainAttrs T) (slot:Slot T name id) (hty:typeOf (.builtin id)=pure (.type "method_descriptor")) (hm:MtR X id r) (ho:PE X o to)
 (hbase:attributeBase o name X.env (eval o X.env)=eval o X.env:=by rfl) (hline:(apos.endLine == cpos.line)=true:=by rfl):PE X (.Call (.Attribute o name apos) [] [] cpos) (T9 X.K T r to):=by
 intro pins s σ H Q I h
 refine wpAny_Call_method0_late hbase hline (thn (ho pins s σ H _ I h) fun v s1 ⟨x,H1,I1,r1,ty,q1⟩=>?_)
 obtain ⟨h1,h2⟩:=OB I1 r1 ty
 exact ⟨T,id,pa,slot,hty,h1,h2,Calls.callWith_builtin rfl (PySem.evalArgs_none (hm pins s1 σ H1 x [] v [] Q I1 r1 .nil q1))⟩
theorem Eg (pa:PlainAttrs T) (slot:Slot T name id) (hty:typeOf (.builtin id)=pure (.type "method_descriptor")) (hm:MtR X id r) (ho:PE X o to) (ha:PA X (e :: es) t)
 (hbase:attributeBase o name X.env (eval o X.env)=eval o X.env:=by rfl)
 (hfew:((backTo cpos (starEach (e :: es) X.env)).all (fun x=>!x.1) && (backToKw cpos (keywordEach [] X.env)).all (fun x=>x.1.isSome)
  && decide ((e :: es).length+([]:List Keyword).length+(if ([]:List Keyword).isEmpty then 0 else 1) < 30))=true:=by rfl)
 (hline:(apos.endLine == cpos.line)=true:=by rfl) (hs:starEach (e :: es) X.env=(false,eval e X.env) :: starEach es X.env:=by rfl) (hplain:(backTo cpos (starEach es X.env)).any (·.1)=false:=by rfl) :
 PE X (.Call (.Attribute o name apos) (e :: es) [] cpos) (tBM X.K T r to t):=by
 intro pins s σ H Q I h
 refine wpAny_Call_method_late hbase hfew hline rfl (thn (ho pins s σ H _ I h) fun v s1 ⟨x,H1,I1,r1,ty,q1⟩=>?_)
 obtain ⟨h1,h2⟩:=OB I1 r1 ty
 refine ⟨T,id,pa,slot,hty,h1,h2,?_⟩
 have hA:=ha cpos pins s1 σ H1 _ I1 q1
 rw [hs] at hA ⊢
 refine Calls.callWith_builtin (by show (false || (backTo cpos (starEach es X.env)).any (·.1))=false;rw [hplain] <;> rfl) (Calls.evalArgs_plain ?_)
 exact thn hA fun us s2 ⟨vs,H2,I2,r2,q2⟩=>hm pins s2 σ H2 x vs v us Q I2 r1 r2 q2
end
end L2
namespace L2
open PySem PySem.Spec PyProof.Rows
def MtM (X:Cx) (id:String) (r:V->List V->Hp->VK->Prop):Prop :=
 ∀(pins:List (Addr × Obj)) (s:Shared) (σ:St) (H:Hp) (x:V) (xs:List V) (v:Value) (us:List Value) (Q:VK),Inv X pins σ H s->AE x v->A9 xs us->r x xs H Q ->
  wpAny (model X.prog X.w) X.A (call (.builtin id) (v :: us)) (EP X pins σ Q) X.xe s
theorem A9.one:∀{x:V} {us:List Value},A9 [x] us->∃u,us=[u]/\AE x u
 | _,_,.cons r .nil=>⟨_,rfl,r⟩
theorem A9.zero:∀{us:List Value},A9 [] us->us=[]
 | _,.nil=>rfl
theorem A9.dropLast {xs:List V} {us:List Value} (h:A9 xs us):A9 xs.dropLast us.dropLast:=by
 induction h with
 | nil=>exact .nil
 | cons r t ih =>
   cases t with
   | nil=>exact .nil
   | cons q t'=>exact .cons r ih
theorem A9.eraseIdx:∀{xs:List V} {us:List Value} (i:Nat),A9 xs us->A9 (xs.eraseIdx i) (us.eraseIdx i)
 | _,_,_,.nil=>.nil
 | _,_,0,.cons _ t=>t
 | _,_,i+1,.cons r t=>.cons r (A9.eraseIdx i t)
theorem A9.reverse {xs:List V} {us:List Value} (h:A9 xs us):A9 xs.reverse us.reverse:=by
 induction h with
 | nil=>exact .nil
 | cons r t ih=>rw [reverse_cons,reverse_cons];exact A9.append ih (.cons r .nil)
theorem Mq {α:Type} (l:List α):l.eraseIdx (l.length - 1)=l.dropLast:=by
 induction l with
 | nil=>rfl
 | cons a r ih =>
   cases r with
   | nil=>rfl
   | cons b r =>
     have e:(a :: b :: r).length - 1=((b :: r).length - 1)+1:=by
      have h1:(a :: b :: r).length=r.length+2:=rfl
      have h2:(b :: r).length=r.length+1:=rfl
      omega
     rw [e,eraseIdx_cons_succ,ih]
     all_goals rfl
theorem Jb {α:Type}:∀(l:List α) (i:Nat),(l.eraseIdx i).length<=l.length
 | [],_=>Nat.le_refl _
 | _ :: _,0=>Nat.le_succ _
 | _ :: r,i+1=>Nat.succ_le_succ (Jb r i)
section
variable {X:Cx} {pins:List (Addr × Obj)} {σ:St} {H:Hp} {s:Shared} {l b:Addr} {xs ys zs:List V}
theorem Inv.lset {its its':List Value} {n:Nat} {f:Array Value->Array Value} {t':Nat} (I:Inv X pins σ H s) (hH:H l=some (.lst xs))
 (e:s.heap.get? l=some { cls:=.type "list",data:=.seq its.toArray n }) (hf:f its.toArray=its'.toArray) (hv:A9 ys its') (hz:ys.length<=sizeLine) :
 Inv X pins σ (upd H l (.lst ys)) { s with heap:=s.heap.update l (Obj.mapSeq f),toks:=t' }:=by
 have q:=PySem.IsL.update e f
 rw [hf] at q
 refine I.write (x:=l) (e:=l) (by rw [hH];exact trivial) (.inl rfl) (fun b' u hb hu=>(Heap.get?_update_other s.heap (Obj.mapSeq f) (Ne.symm hb)).trans hu) ⟨_,q⟩ ?_
 exact ⟨hz,its',_,hv,q⟩
theorem Inv.lnew {its:List Value} {t':Nat} (I:Inv X pins σ H s) (hv:A9 ys its) (hz:ys.length<=sizeLine) :
 Inv X pins σ (upd H s.heap.objs.size (.lst ys)) { s with heap:=s.heap.push { cls:=.type "list",data:=.seq its.toArray },toks:=t' } :=
 I.laid (fun _ _ q=>Heap.get?_push_of_some _ q) (Nat.le_refl _) ⟨hz,its,0,hv,Heap.get?_push_size _ rfl⟩
theorem Inv.fresh (I:Inv X pins σ H s):H s.heap.objs.size=none:=I.hok.fresh (Nat.le_refl _)
theorem Inv.lstM (I:Inv X pins σ H s) (hH:H l=some (.lst xs)):xs.length<=sizeLine/\∃(its:List Value) (n:Nat),A9 xs its/\xs.length=its.length/\s.heap.get? l=some { cls:=.type "list",data:=.seq its.toArray n }:=by
 obtain ⟨z,its,n,r,e⟩:=I.hok l _ hH
 exact ⟨z,its,n,r,r.length,e⟩
theorem OJ {n:Nat} (h:n<=sizeLine):Builtin.List.listTooLong n=false:=by
 unfold Builtin.List.listTooLong
 exact decide_eq_false (by omega)
end
section
variable {X:Cx}
def Rn:V->List V->Hp->VK->Prop:=fun x vs H Q=>∃l xs y,x=.ref l/\vs=[y]/\H l=some (.lst xs)/\xs.length < sizeLine/\Q .non (upd H l (.lst (xs++[y])))
theorem BO:MtM X "list.append" Rn:=by
 intro pins s σ H x vs v us Q I rx rv h
 obtain ⟨l,xs,y,rfl,rfl,hH,hz,q⟩:=h
 cases rx
 obtain ⟨u,rfl,ru⟩:=rv.one
 obtain ⟨z,its,n,r,hl,e⟩:=I.lstM hH
 refine call_meets F.slot_list_append ⟨_,e,rfl⟩ F.entry_list_append (F.args_list_append_2 _ _) (PySem.list_append l its.toArray n u (by rw [size_toArray];omega)) ⟨e,?_⟩
 refine ⟨.non,_,I.lset (its':=its++[u]) hH e (by simp) (r.append (.cons ru .nil)) ?_,rfl,q⟩
 rw [length_append,length_singleton]
 omega
def Q3:V->List V->Hp->VK->Prop:=fun x vs H Q=>∃l b xs zs,x=.ref l/\vs=[.ref b]/\H l=some (.lst xs)/\H b=some (.lst zs)/\xs.length+zs.length<=sizeLine/\Q .non (upd H l (.lst (xs++zs)))
theorem NP:MtM X "list.extend" Q3:=by
 intro pins s σ H x vs v us Q I rx rv h
 obtain ⟨l,b,xs,zs,rfl,rfl,hH,hB,hz,q⟩:=h
 cases rx
 obtain ⟨u,rfl,ru⟩:=rv.one
 cases ru
 obtain ⟨z,its,n,r,hl,e⟩:=I.lstM hH
 obtain ⟨z2,its2,n2,r2,hl2,e2⟩:=I.lstM hB
 have hsz:its.toArray.size+its2.toArray.size<=sizeLine:=by rw [size_toArray,size_toArray];omega
 have hlong:¬ (!its.toArray.isEmpty && Builtin.List.listTooLong (its.toArray.size+its2.toArray.size))=true:=by
  rw [OJ hsz,Bool.and_false]
  exact Bool.false_ne_true
 refine call_meets F.slot_list_extend ⟨_,e,rfl⟩ F.entry_list_extend (F.args_list_extend_2 _ _)
  (AutoSeq1.list_extend_list_list_0 l its.toArray n b its2.toArray n2 hlong (by rw [size_toArray];omega) (by omega)) ⟨e,e2,?_⟩
 refine ⟨.non,_,I.lset (its':=its++its2) hH e (by simp) (r.append r2) ?_,rfl,q⟩
 rw [length_append]
 omega
def TX:V->List V->Hp->VK->Prop:=fun x vs H Q=>∃l xs y,x=.ref l/\vs=[]/\H l=some (.lst xs)/\xs[xs.length - 1]?=some y/\Q y (upd H l (.lst xs.dropLast))
theorem Os:MtM X "list.pop" TX:=by
 intro pins s σ H x vs v us Q I rx rv h
 obtain ⟨l,xs,y,rfl,rfl,hH,hy,q⟩:=h
 cases rx
 have hus:=rv.zero
 subst hus
 obtain ⟨z,its,n,r,hl,e⟩:=I.lstM hH
 obtain ⟨u,hu,ru⟩:=r.get hy
 have hy':its.toArray[its.toArray.size - 1]?=some u:=by
  show its.toArray[its.length - 1]?=some u
  rw [<- Array.getElem?_toList,<- hl]
  exact hu
 refine call_meets F.slot_list_pop ⟨_,e,rfl⟩ F.entry_list_pop (F.args_list_pop_1 _) (MeetsSeq.list_pop_last l its.toArray n u hy' (by rw [size_toArray];omega)) ⟨e,?_⟩
 refine ⟨y,_,I.lset (its':=its.dropLast) hH e ?_ r.dropLast ?_,ru,q⟩
 ·show its.toArray.eraseIdxIfInBounds (its.toArray.size - 1)=its.dropLast.toArray
  rw [size_toArray,eraseIdxIfInBounds_toArray,Mq]
 ·rw [length_dropLast]
  omega
def RY:V->List V->Hp->VK->Prop:=fun x vs H Q=>∃l xs i k y,x=.ref l/\vs=[.int i]/\H l=some (.lst xs)/\-(2 ^ 63)<=i/\i < 2 ^ 63/\seqIndex? i xs.length=some k/\xs[k]?=some y/\Q y (upd H l (.lst (xs.eraseIdx k)))
theorem Iq:MtM X "list.pop" RY:=by
 intro pins s σ H x vs v us Q I rx rv h
 obtain ⟨l,xs,i,k,y,rfl,rfl,hH,h1,h2,hk,hy,q⟩:=h
 cases rx
 obtain ⟨u,rfl,ru⟩:=rv.one
 obtain ⟨t,rfl⟩:=ru
 obtain ⟨z,its,n,r,hl,e⟩:=I.lstM hH
 obtain ⟨w,hw,rw'⟩:=r.get hy
 refine call_meets F.slot_list_pop ⟨_,e,rfl⟩ F.entry_list_pop (F.args_list_pop_2 _ _)
  (MeetsSeq.list_pop_at l its.toArray n i t k w (fitsIndex_both h1 h2) (by rw [size_toArray,<- hl];exact hk) (by rw [<- Array.getElem?_toList];exact hw) (by rw [size_toArray];omega)) ⟨e,?_⟩
 refine ⟨y,_,I.lset (its':=its.eraseIdx k) hH e ?_ (r.eraseIdx k) ?_,rw',q⟩
 ·show its.toArray.eraseIdxIfInBounds k=(its.eraseIdx k).toArray
  rw [eraseIdxIfInBounds_toArray]
 ·have:=Jb xs k
  omega
def T7:R2:=fun x y H Q=>∃l b xs zs,x=.ref l/\y=.ref b/\H l=some (.lst xs)/\H b=some (.lst zs)/\xs.length+zs.length<=sizeLine/\∀p,H p=none->Q (.ref p) (upd H p (.lst (xs++zs)))
theorem Gs:OpR X (binaryOp .Add) T7:=by
 intro pins s σ H x y v u Q I rx ry h
 obtain ⟨l,b,xs,zs,rfl,rfl,hH,hB,hz,q⟩:=h
 cases rx
 cases ry
 obtain ⟨z,its,n,r,hl,e⟩:=I.lstM hH
 obtain ⟨z2,its2,n2,r2,hl2,e2⟩:=I.lstM hB
 refine PySem.P.add_list e e2 ?_ (by rw [size_toArray,size_toArray];omega)
 have ea:its.toArray++its2.toArray=(its++its2).toArray:=by simp
 rw [ea]
 exact ⟨.ref _,_,I.lnew (t':=s.toks) (r.append r2) (by rw [length_append];omega),rfl,q _ I.fresh⟩
end
section
variable {prog:Program} {w:World} {A:Around} {E:Value->Shared->Prop} {s:Shared}
set_option maxRecDepth 100000 in
end
section
variable {X:Cx}
end
end L2
namespace Att
open PySem PySem.W PySem.Calls PyProof.Rows
theorem GI {P:Params} {h:Heap}:∀(ns:List Int) (vs:List Value),WellAll P h vs (ns.map WData.int)->IntsAre vs ns:=by
 intro ns
 induction ns with
 | nil =>
   intro vs w
   rw [map_nil] at w
   cases w
   exact .nil
 | cons n ns ih =>
   intro vs w
   rw [map_cons] at w
   cases w with
   | cons a b =>
     cases a
     exact .cons _ _ (ih _ b)
theorem Oh {l:OpenLaw} {n:Nat} (hn:l.most=some n) {P:Params} {h:Heap} {args:List WData} {vals:List Value}
 (hpre:l.row.toRowW.claim.pre args=true) (hwl:WellAll P h vals args) :
 ∃a vs ns,vals=[Value.ref a]/\args=[WData.list (ns.map WData.int)]/\h.get? a=some { cls:=.type "list",data:=.seq vs.toArray }/\IntsAre vs ns/\ns.length<=n:=by
 have hsh:WShape.hasAll [] args [.list .int]=true:=(pre_splitW hpre).1
 have hc:l.pre.holds [] { args:=args }=true:=(pre_splitW hpre).2
 obtain ⟨d,r,rfl,h1,h2⟩:=hasAllW_cons hsh
 obtain rfl:=hasAllW_nil h2
 obtain ⟨xs,rfl,h3⟩:=hasW_list h1
 obtain ⟨ns,rfl⟩:=items_int h3
 have hlen:ns.length<=n:=by
  unfold OpenLaw.pre at hc
  have h4:(WTm.not (.lt (.lit (.int (n:Int))) (.len (.arg 0)))).holds [] { args:=[.list (ns.map .int)] }=true:=by
   have h4:=(holds_andW hc).1
   rw [hn] at h4
   exact h4
  have h5:=condW_of h4 (w_not (w_lt w_lit (w_len_list (w_arg rfl))))
  rw [length_map] at h5
  refine Nat.le_of_not_lt fun q=>?_
  have q':(n:Int) < ((ns.length:Nat):Int):=by omega
  first
   | (rw [decide_eq_true q'] at h5;exact absurd h5 (by decide))
   | (simp at h5;omega)
 cases hwl with
 | cons w1 w2 =>
   cases w2
   cases w1 with
   | list ho hall=>exact ⟨_,_,ns,rfl,rfl,ho,GI ns _ hall,hlen⟩
theorem NA (l:OpenLaw) (args:List WData):l.row.toRowW.claim.post args (.bool true) args=true :=
 postW_of (r:=l.row.toRowW) (X:=(true == true))
  (show WShape.has [] (.bool true) .bool=true by first | rfl | decide | simp [WShape.has,WShape.arms,WShape.armsAll])
  (show (WTm.eq .res (.lit (.bool true))).value [] { args:=args,res:=some (.bool true),after:=args }=some (.bool (true == true)) from w_eq_bool (w_res rfl) w_lit) rfl
theorem attach_call {l:OpenLaw} {n:Nat} {q:Program} {loose:List Str} {XP:(Str->Option Value)->Heap->Prop} {YP:World->Heap->Prop} {d:DefRec}
 (hn:l.most=some n) (hdf:d.params.defaults=[])
 (call:∀(w:World) (s₀ s₁:Shared) (mg mb:Str->Option Value) (fa:Addr) (o:Obj) (pm cd doc:Value) (a:Addr) (vs:List Value) (ns:List Int),
  Ground q loose [] XP w s₀ mg mb s₁.heap->YP w s₁.heap ->
  s₁.heap.get? fa=some o->o.data=.func (docDef d.name d.params d.body d.scope pm cd doc)->s₁.heap.CodeRec cd d.name->mg d.name=some (.ref fa) ->
  s₁.heap.get? a=some { cls:=.type "list",data:=.seq vs.toArray }->IntsAre vs ns->ns.length<=n->s₁.gens=#[] ->
  codeAny (model l.prog w) callerA (.call (.ref fa) ⟨[.ref a],[]⟩) (fun r s'=>r=.ok (.ret (.bool true))/\OldK s₁.heap s'.heap/\s'.os=s₁.os/\AllBare s'.gens) s₁) :
 WalkO q loose XP YP l.row.toRowW d [] (fun f vs=>PySem.call f vs):=by
 intro w s₀ s₁ mg mb G Y fa o pm cd doc dV kV ho hd hcd hD hmg hg args vals as hpre hlay hrd hwl hlo
 obtain rfl:dV=.none:=Dflts.none hD hdf
 obtain rfl:kV=.none:=Dflts.noKw hD
 obtain ⟨a,vs,ns,rfl,rfl,hobj,hints,hlen⟩:=Oh hn hpre hwl
 refine enter_call (codeAny_mono (call w s₀ s₁ mg mb fa o pm cd doc a vs ns G Y ho (fd_plain hd) hcd hmg hobj hints hlen hg) fun r s' hq=>?_)
 obtain ⟨rfl,h2,h3,h4⟩:=hq
 exact ⟨.inl ⟨.bool true,.bool true,[],rfl,fun _=>rfl,.bool true,NA l _,fun _=>⟨List.Pairwise.nil,fun _ hm=>(nomatch hm)⟩⟩,h2,h3,h4⟩
section
variable {prog:Program} {w:World} {A:Around} {E:Value->Shared->Prop} {s:Shared} {K:Frag}
end
end Att
namespace L2
open PySem PySem.Spec PyProof.Rows
theorem Ea:∀{vs:List Value} {ns:List Int},IntsAre vs ns->A9 (ns.map V.int) vs
 | _,_,.nil=>.nil
 | _,_,.cons n t h=>.cons ⟨t,rfl⟩ (Ea h)
def RV (H:Hp):Prop:=∀b,H b=none\/∃o xs,H b=some (.frz o (.lst xs))
theorem P1 {P:Program} {w:World} {K:PySem.W.Frag} {mg mb:Str->Option Value} {CX:CXT} {k:Nat} {fa a:Addr} {fd:FuncData} {x:Str} {sp:Sp} {s₁:Shared} {vs:List Value} {ns:List Int}
 (KX:K.In s₁.heap) (hns:s₁.heap.Ns mainGlobals mg) (hb:s₁.heap.Ns builtinsNs mb) (hbb:∀x:Str,x≠"__name__"->mb x=bootBuiltins x) (hlim:s₁.heap.NoLimit) (hg:s₁.gens=#[])
 (ha:s₁.heap.get? a=some { cls:=.type "list",data:=.seq vs.toArray }) (hi:IntsAre vs ns) (hl:ns.length<=sizeLine) (hr:Du k callerA)
 (F:∀base:Heap,K.In base->base.Ns mainGlobals mg->AG P w K mg base CX k fa fd [x] sp) (hbind:∀(s:Shared) (u:Value),BindsTo s fd ⟨[u],[]⟩ [(x,u)])
 (hsp:∀H:Hp,RV H->SqL K H a (ns.map V.int)->sp [.ref a] H (fun v _=>v=.bl true) fun _ _ _=>False)
 (hCX:∀H e s',CX [] H s₁ (fun _ _ _=>False) e s'->False) :
 codeAny (model P w) callerA (.call (.ref fa) ⟨[.ref a],[]⟩) (fun r s'=>r=.ok (.ret (.bool true))/\OldK s₁.heap s'.heap/\s'.os=s₁.os/\AllBare s'.gens) s₁:=by
 have rv:=Ea hi
 have lenV:=hi.length
 have core:∀H:Hp,RV H->SqL K H a (ns.map V.int)->HOk P w H s₁.heap->(∀b,H b≠none->b=a)->(H a≠none->K.lookup a=none) ->
  codeAny (model P w) callerA (.call (.ref fa) ⟨[.ref a],[]⟩) (fun r s'=>r=.ok (.ret (.bool true))/\OldK s₁.heap s'.heap/\s'.os=s₁.os/\AllBare s'.gens) s₁:=by
  intro H hO hS hok hA hK
  have base_of:∀{b:Addr} {o:Obj},s₁.heap.get? b=some o->H b=none->(Jx s₁.heap H).get? b=some o:=fun e n=>Py e n
  have noA:∀{b:Addr} {o:Obj} {es:Array DictEntry} {ep:Nat},s₁.heap.get? b=some o->o.data=.dict es ep->H b=none:=fun {b o es ep} e d=>by
   cases q:H b with
   | none=>rfl
   | some u =>
     have e':b=a:=hA b (by rw [q];simp)
     subst e'
     rw [ha] at e;cases e
     have d':Data.seq vs.toArray _=Data.dict es ep:=d
     cases d'
  have nsK:∀{b:Addr} {m:Str->Option Value},s₁.heap.Ns b m->(Jx s₁.heap H).Ns b m:=fun {b m} ⟨o,es,ep,e,d,r⟩=>⟨o,es,ep,base_of e (noA e d),d,r⟩
  have hKb:K.In (Jx s₁.heap H):=fun b o e=>base_of (KX b o e) (by
   cases q:H b with
   | none=>rfl
   | some u =>
     have e':b=a:=hA b (by rw [q];simp)
     subst e'
     rw [hK (by rw [q];simp)] at e;cases e)
  have hM:Mod K mg (Jx s₁.heap H):=⟨hKb,nsK hns,⟨mb,nsK hb,hbb⟩,let ⟨mc,h1,h2⟩:=hlim;⟨mc,nsK h1,h2⟩⟩
  have e0:Mi P w K mg (Jx s₁.heap H) callerA [] s₁ H:=⟨rfl,hM,fun b o e=>Rf e,Nat.le_of_eq (Ny _ _),trivial,fun b hb=>absurd (show b∈([]:List Addr) from hb) (by simp),hok,.of_eq hg⟩
  refine codeAny_mono ((F _ hKb (nsK hns)).run callerA [] s₁ H ⟨[.ref a],[]⟩ [.ref a] [.ref a] _ _ hr e0 (hbind s₁ (.ref a)) (.cons rfl .nil) (hsp H hO hS)) fun r s' h=>?_
  cases r with
  | error e=>exact (hCX H e s' h).elim
  | ok fl =>
    cases fl with
    | next=>exact False.elim h
    | brk=>exact False.elim h
    | cont=>exact False.elim h
    | ret u =>
      obtain ⟨v,H',os,bare,un,hok',r',q⟩:=h
      have q':v=.bl true:=q
      subst q'
      obtain rfl:u=Value.bool true:=r'
      refine ⟨rfl,OldK.of_keep fun b o e=>?_,os,bare⟩
      cases q:H b with
      | none=>exact un.keep b o e q (by intro z;exact absurd (show b∈([]:List Addr) from z) (by simp)) (by simp)
      | some u =>
        rcases hO b with z | ⟨ob,xs,z⟩
        ·rw [q] at z;cases z
        ·have z2:=un.frzs b ob _ z
         obtain ⟨e1,_⟩:=hok b _ z
         obtain ⟨e2,_⟩:=hok' b _ z2
         rw [e] at e1;cases e1
         exact e2
 cases hk:K.lookup a with
 | some o =>
   have e:=KX a o hk
   rw [ha] at e
   cases e
   refine core (fun _=>none) (fun _=>.inl rfl) (.inr ⟨_,vs.toArray,_,hk,rfl,rfl,rfl,by rw [size_toArray,lenV];exact hl,by simpa using rv⟩) (fun b u z=>by have z':(none:Option HO)=some u:=z;cases z') (fun b z=>absurd rfl z) fun z=>absurd rfl z
 | none =>
   refine core (fun b=>if b=a then some (.frz { cls:=.type "list",data:=.seq vs.toArray } (.lst (ns.map V.int))) else none) (fun b=>?_) (.inl (.inr ⟨{ cls:=.type "list",data:=.seq vs.toArray },if_pos rfl⟩)) (fun b u z=>?_) (fun b z=>?_) fun _=>hk
   ·by_cases hb:b=a
    ·exact .inr ⟨_,_,if_pos hb⟩
    ·exact .inl (if_neg hb)
   ·by_cases hb:b=a
    ·have z':=(if_pos hb).symm.trans z
     cases z'
     subst hb
     exact ⟨ha,by rw [length_map];exact hl,vs,_,rv,ha⟩
    ·have z':=(if_neg hb).symm.trans z
     cases z'
   ·by_cases hb:b=a
    ·exact hb
    ·exact absurd (if_neg hb) z
end L2
namespace L2
open PySem PySem.Spec PyProof.Rows
theorem walk_of {l:PySem.W.OpenLaw} {n k:Nat} {q:Program} {loose:List Str} {XP:(Str->Option Value)->Heap->Prop} {YP:World->Heap->Prop} {d:DefRec} {K:Params->PySem.W.Frag} {CX:World->CXT} {sp:World->Sp} {x:Str}
 (hn:l.most=some n) (hn2:n<=sizeLine) (hdf:d.params.defaults=[]) (hr:Du k callerA)
 (hY:∀(w:World) (h:Heap),YP w h->(K w.params).In h)
 (F:∀(w:World) (mg:Str->Option Value) (fa:Addr) (h:Heap),(K w.params).In h->h.Ns mainGlobals mg->mg d.name=some (.ref fa) ->
  ∃fd:FuncData,(∀(s:Shared) (u:Value),BindsTo s fd ⟨[u],[]⟩ [(x,u)]) /\
   ∀base:Heap,(K w.params).In base->base.Ns mainGlobals mg->AG l.prog w (K w.params) mg base (CX w) k fa fd [x] (sp w))
 (hsp:∀(w:World) (H:Hp) (a:Addr) (ns:List Int),ns.length<=n->RV H->SqL (K w.params) H a (ns.map V.int)->sp w [.ref a] H (fun v _=>v=.bl true) fun _ _ _=>False)
 (hCX:∀(w:World) (H:Hp) (s:Shared) (e:Value) (s':Shared),CX w [] H s (fun _ _ _=>False) e s'->False) :
 PySem.W.WalkO q loose XP YP l.row.toRowW d [] (fun f vs=>PySem.call f vs):=by
 refine Att.attach_call hn hdf fun w s₀ s₁ mg mb fa o pm cd doc a vs ns G Y ho hd hcd hmg hobj hints hlen hg=>?_
 have KX:=hY w _ Y
 obtain ⟨fd,hb,hF⟩:=F w mg fa _ KX G.T.g hmg
 exact P1 KX G.T.g G.T.b G.T.builtins G.T.nolimit hg hobj hints (Nat.le_trans hlen hn2) hr hF hb (fun H hO hS=>hsp w H a ns hlen hO hS) fun H e s'=>hCX w H s₁ e s'
end L2
namespace L2
open PySem PySem.Spec PyProof.Rows
def BQ (s:Stmt) (j:Nat):Stmt:=match s with
 | .ClassDef _ _ _ body _ _ _ _ _ _ _=>body.getD j (.Pass ⟨0,0,0,0⟩)
 | _=>.Pass ⟨0,0,0,0⟩
def An (s:Stmt):Arguments:=match s with
 | .FunctionDef _ a _ _ _ _ _ _ _ _=>a
 | _=>{ posonlyargs:=[],args:=[],vararg:=none,kwonlyargs:=[],kw_defaults:=[],kwarg:=none,defaults:=[] }
def Am (s:Stmt):List Stmt:=match s with
 | .FunctionDef _ _ b _ _ _ _ _ _ _=>b
 | _=>[]
def Ad (s:Stmt):Scope:=match s with
 | .FunctionDef _ _ _ _ _ _ sc _ _ _=>sc
 | _=>{ kind:=.function,names:=[],isGenerator:=false,isCoroutine:=false }
abbrev CX0:CXT:=fun _ _ _ _ _ _=>False
abbrev E0:XK:=fun _ _ _=>False
theorem Ar {X:Cx}:Fm CX0 X E0:=fun _ _ _ _ _ _ _ h=>h.elim
structure Fun (K:PySem.W.Frag) (x qual:Str) (st:Stmt) (f:Addr) (fd:FuncData):Prop where
 ex:∃(oc:Value) (od:Option Addr) (kV doc pm:Value) (an:Option Addr) (cdv ct:Value) (osl:Array (Option Value)),
  fd=PySem.W.fnOf x qual (An st) (Am st) (Ad st) .none kV doc pm an cdv ct/\K.lookup f=some ⟨oc,od,.func fd,osl⟩/\PySem.W.codeIn K cdv qual=true
 kp:PySem.W.keepIn K (.ref f)=true
section
variable {P:Program} {w:World} {K:PySem.W.Frag} {mg:Str->Option Value} {base:Heap}
theorem Fun.ok {x qual:Str} {st:Stmt} {f:Addr} {fd:FuncData} {N ps:List Str} {k:Nat} {sp:Sp} (F:Fun K x qual st f fd) (S:Ap N ps (Ad st)) (len:∀vs H Q E,sp vs H Q E->vs.length=ps.length)
 (hbody:∀(cdv:Value) (A:Around) (outer:List Env) (s:Shared) (H:Hp) (vs:List V) (Q:VK) (E:XK),Du k (A.deeper (envOfC qual (Ad st) s.heap.objs.size f cdv))->sp vs H Q E ->
  ∃t,PSs (Mj CX0 P w K mg base N qual (Ad st) f cdv A outer s H E).nox (Am st) t/\t { nx:=fun _ H'=>Q .non H',rt:=Q } (FY N vs) H):AG P w K mg base CX0 (k+1) f fd ps sp:=by
 obtain ⟨oc,od,kV,doc,pm,an,cdv,ct,osl,rfl,lk,hcd⟩:=F.ex
 refine RP lk hcd S len fun A outer s H vs Q E hr hsp=>?_
 obtain ⟨t,h,q⟩:=hbody cdv A outer s H vs Q E hr hsp
 exact ⟨t,h.nox,q⟩
theorem Fun.binds {x qual:Str} {st:Stmt} {f:Addr} {fd:FuncData} {ps:List Str} (F:Fun K x qual st f fd)
 (h:∀(kV doc pm:Value) (an:Option Addr) (cdv ct:Value) (us:List Value),us.length=ps.length->bindArgs (PySem.W.fnOf x qual (An st) (Am st) (Ad st) .none kV doc pm an cdv ct) ⟨us,[]⟩=pure (ps.zip us)):Az K fd ps []:=by
 obtain ⟨oc,od,kV,doc,pm,an,cdv,ct,osl,rfl,lk,hcd⟩:=F.ex
 exact .all (h kV doc pm an cdv ct)
theorem Ax {x qual:Str} {st:Stmt} {f:Addr} {oc:Value} {od an:Option Addr} {osl:Array (Option Value)} {kV doc pm cdv ct:Value} (l:K.lookup f=some ⟨oc,od,.func (PySem.W.fnOf x qual (An st) (Am st) (Ad st) .none kV doc pm an cdv ct),osl⟩)
 (c:PySem.W.codeIn K cdv qual=true) (k:PySem.W.keepIn K (.ref f)=true):Fun K x qual st f (PySem.W.fnOf x qual (An st) (Am st) (Ad st) .none kV doc pm an cdv ct):=⟨⟨oc,od,kV,doc,pm,an,cdv,ct,osl,rfl,l,c⟩,k⟩
end
theorem AH {n:Nat} (h:n<=1000):n < sizeLine:=Nat.lt_of_le_of_lt h (by decide)
section
variable {X:Cx}
theorem pv (i:Nat) {x:Str} {pos:Pos} (hN:X.N[i]?=some x:=by rfl) (hv:Vis X.env.scope x:=by first | exact Or.inl rfl | exact Or.inr (Or.inl rfl) | exact Or.inr (Or.inr rfl)) (hd:(x == ("__debug__":Str))=false:=by decide)
 (hcd:(x == ("__classdict__":Str))=false:=by decide):PE X (.Name x pos) (Rs i):=S9 hN hv hd hcd
end
theorem Sb {A B:Prop} (h:B):if false=true then A else B:=by
 rw [if_neg Bool.false_ne_true]
 exact h
theorem Tk {A B:Prop} (h:A):if true=true then A else B:=by
 rw [if_pos rfl]
 exact h
theorem P7 {c A B:Prop} [Decidable c] (h1:c->A) (h2:¬ c->B):if c then A else B:=by
 by_cases h:c
 ·rw [if_pos h]
  exact h1 h
 ·rw [if_neg h]
  exact h2 h
def Au (H H':Hp):Prop:=∀b o,H b=some o->H' b=some o
theorem Au.refl (H:Hp):Au H H:=fun _ _ h=>h
theorem Au.trans {H H1 H2:Hp} (a:Au H H1) (b:Au H1 H2):Au H H2:=fun c o h=>b c o (a c o h)
theorem Au.seq {K:PySem.W.Frag} {H H':Hp} {a:Addr} {xs:List V} (e:Au H H') (h:SqL K H a xs):SqL K H' a xs:=by
 rcases h with (h | ⟨o,h⟩) | h
 ·exact .inl (.inl (e _ _ h))
 ·exact .inl (.inr ⟨o,e _ _ h⟩)
 ·exact .inr h
end L2
namespace L2
open PySem PySem.Spec PyProof.Rows
section
variable {κ:Type} [DecidableEq κ]
def Bd (kvs:List (κ × V)) (k:κ):Option V:=(kvs.find? fun kv=>decide (kv.1=k)).map (·.2)
def BW (kvs:List (κ × V)) (k:κ) (v:V):List (κ × V) :=
 if (kvs.any fun kv=>decide (kv.1=k))=true then kvs.map (fun kv=>if kv.1=k then (kv.1,v) else kv) else kvs++[(k,v)]
theorem BJ {p:κ × V} {r:List (κ × V)} {k:κ} (e:p.1=k):Bd (p :: r) k=some p.2:=by simp [Bd,List.find?_cons,e]
theorem BI {p:κ × V} {r:List (κ × V)} {k:κ} (e:¬ p.1=k):Bd (p :: r) k=Bd r k:=by simp [Bd,List.find?_cons,e]
theorem CJ (k:κ):∀kvs:List (κ × V),(kvs.any fun kv=>decide (kv.1=k))=(Bd kvs k).isSome
 | []=>rfl
 | p :: r=>by
   rw [any_cons]
   by_cases e:p.1=k
   ·simp only [BJ e,decide_eq_true e,Bool.true_or,Option.isSome_some]
   ·rw [BI e,decide_eq_false e,Bool.false_or];exact CJ k r
theorem Kp (k j:κ) (y:V):∀kvs:List (κ × V),Bd (kvs.map fun kv=>if kv.1=k then (kv.1,y) else kv) j=(Bd kvs j).map fun x=>if j=k then y else x
 | []=>rfl
 | p :: r=>by
   have ih:=Kp k j y r
   rw [map_cons]
   by_cases h:p.1=k
   ·rw [if_pos h]
    by_cases e:p.1=j
    ·rw [BJ (p:=(p.1,y)) e,BJ e,Option.map_some,if_pos (e.symm.trans h)]
    ·rw [BI (p:=(p.1,y)) e,BI e,ih]
   ·rw [if_neg h]
    by_cases e:p.1=j
    ·rw [BJ (p:=p) e,BJ e,Option.map_some,if_neg (fun z=>h (e.trans z))]
    ·rw [BI (p:=p) e,BI e,ih]
theorem IU (k j:κ) (y:V):∀kvs:List (κ × V),Bd kvs k=none->Bd (kvs++[(k,y)]) j=if j=k then some y else Bd kvs j
 | [],_=>by
   by_cases e:k=j
   ·rw [if_pos e.symm];exact BJ (p:=(k,y)) e
   ·rw [if_neg (fun z=>e z.symm)];exact BI (p:=(k,y)) e
 | p :: r,hn=>by
   rw [cons_append]
   have hk:¬ p.1=k:=fun z=>by rw [BJ z] at hn;cases hn
   rw [BI hk] at hn
   have ih:=IU k j y r hn
   by_cases e:p.1=j
   ·rw [BJ e,BJ e,if_neg (fun z=>hk (e.trans z))]
   ·rw [BI e,BI e,ih]
theorem HL (kvs:List (κ × V)) (k j:κ) (y:V):Bd (BW kvs k y) j=if j=k then some y else Bd kvs j:=by
 unfold BW
 by_cases a:(kvs.any fun kv=>decide (kv.1=k))=true
 ·rw [if_pos a,Kp]
  rw [CJ] at a
  by_cases e:j=k
  ·obtain ⟨x,hx⟩:=Option.isSome_iff_exists.mp a
   rw [if_pos e,e,hx,Option.map_some,if_pos rfl]
  ·rw [if_neg e]
   cases Bd kvs j with
   | none=>rfl
   | some x=>rw [Option.map_some,if_neg e]
 ·rw [if_neg a]
  refine IU k j y kvs ?_
  rw [CJ] at a
  cases q:Bd kvs k with
  | none=>rfl
  | some x=>rw [q] at a;exact (a rfl).elim
theorem C3 (kvs:List (κ × V)) (k:κ) (v:V):(BW kvs k v).length<=kvs.length+1:=by
 unfold BW
 split
 ·rw [length_map];omega
 ·rw [length_append,length_cons,length_nil];omega
theorem PR {kvs:List (κ × V)} {k:κ} (v:V) (h:Bd kvs k=none):BW kvs k v=kvs++[(k,v)]:=by
 unfold BW
 rw [CJ,h]
 exact if_neg (by decide)
theorem Eh.isSome_eq {o:Option V} {u:Option Value} (r:Eh o u):o.isSome=u.isSome:=by
 cases o with
 | none=>cases u with
   | none=>rfl
   | some _=>exact (show False from r).elim
 | some _=>cases u with
   | none=>exact (show False from r).elim
   | some _=>rfl
theorem Eh.getD {o:Option V} {u:Option Value} {d:V} {d':Value} (r:Eh o u) (rd:AE d d'):AE (o.getD d) (u.getD d'):=by
 cases o with
 | none=>cases u with
   | none=>exact rd
   | some _=>exact (show False from r).elim
 | some _=>cases u with
   | none=>exact (show False from r).elim
   | some _=>exact r
theorem KV.val {kvs:List (κ × V)} {vs:List (κ × Value)} (r:KV kvs vs) (k:κ):Eh (Bd kvs k) (valueAt vs k):=by
 unfold KV at r
 induction r with
 | nil=>exact True.intro
 | @cons p q ps qs h t ih =>
   obtain ⟨h1,h2⟩:=h
   by_cases e:p.1=k
   ·have e':q.1=k:=h1.symm.trans e
    have b:valueAt (q :: qs) k=some q.2:=by simp [valueAt,List.find?_cons,e']
    rw [BJ e,b];exact h2
   ·have e':¬ q.1=k:=fun z=>e (h1.trans z)
    have b:valueAt (q :: qs) k=valueAt qs k:=by simp [valueAt,List.find?_cons,e']
    rw [BI e,b];exact ih
theorem KV.any {kvs:List (κ × V)} {vs:List (κ × Value)} (r:KV kvs vs) (k:κ):(kvs.any fun kv=>decide (kv.1=k))=vs.any fun kv=>decide (kv.1=k):=by
 unfold KV at r
 induction r with
 | nil=>rfl
 | cons h t ih=>rw [any_cons,any_cons,ih,h.1]
theorem KV.repl {kvs:List (κ × V)} {vs:List (κ × Value)} (r:KV kvs vs) (k:κ) {y:V} {u:Value} (ry:AE y u) :
 KV (kvs.map fun kv=>if kv.1=k then (kv.1,y) else kv) (vs.map fun kv=>if kv.1=k then (kv.1,u) else kv):=by
 unfold KV at r ⊢
 induction r with
 | nil=>exact .nil
 | @cons p q ps qs h t ih =>
   rw [map_cons,map_cons]
   refine .cons ?_ ih
   obtain ⟨h1,h2⟩:=h
   by_cases e:p.1=k
   ·rw [if_pos e,if_pos (h1.symm.trans e)];exact ⟨h1,ry⟩
   ·rw [if_neg e,if_neg (fun z=>e (h1.trans z))];exact ⟨h1,h2⟩
theorem KV.put {kvs:List (κ × V)} {vs:List (κ × Value)} (r:KV kvs vs) (k:κ) {y:V} {u:Value} (ry:AE y u):KV (BW kvs k y) (stored vs k u):=by
 unfold BW stored
 rw [r.any k]
 by_cases e:(vs.any fun kv=>decide (kv.1=k))=true
 ·rw [if_pos e,if_pos e];exact r.repl k ry
 ·rw [if_neg e,if_neg e];exact Paired.snoc r ⟨rfl,ry⟩
theorem KV.keys {kvs:List (κ × V)} {vs:List (κ × Value)} (r:KV kvs vs):kvs.map (·.1)=vs.map (·.1):=by
 unfold KV at r
 induction r with
 | nil=>rfl
 | cons h t ih=>rw [map_cons,map_cons,ih,h.1]
theorem KV.length {kvs:List (κ × V)} {vs:List (κ × Value)} (r:KV kvs vs):kvs.length=vs.length:=Paired.length r
end
theorem MW {P:Program} {w:World} {k:Key} {u:Value} (r:AE (kV k) u):(AL P w).is k u=true:=by
 cases k with
 | inl i=>obtain ⟨t,e⟩:=(show ∃t,u=Value.int i t from r);subst e;exact KR P w i t
 | inr x=>obtain ⟨t,e⟩:=(show ∃t,u=Value.str x t from r);subst e;exact Lw P w x t
theorem Jr {P:Program} {w:World}:∀{ks:List Key} {us:List Value},A9 (ks.map kV) us->ItemsAre (AL P w) ks us
 | [],_,r=>by rw [map_nil] at r;cases r;exact .nil
 | k :: ks,_,r=>by
   rw [map_cons] at r
   cases r with
   | cons h t=>exact .cons (MW h) (Jr t)
abbrev KT (H:Hp):List (List Key × V)->List (List Key × Addr × Value)->Prop:=Paired fun p q=>p.1=q.1/\H q.2.1=some (.tup (p.1.map kV))/\AE p.2 q.2.2
theorem KT.val {H:Hp} {kvs:List (List Key × V)} {xs:List (List Key × Addr × Value)} (r:KT H kvs xs) (k:List Key):Eh (Bd kvs k) ((atKey xs k).map (·.2)):=by
 induction r with
 | nil=>exact True.intro
 | @cons p q ps qs h t ih =>
   obtain ⟨h1,_,h2⟩:=h
   by_cases e:p.1=k
   ·have e':q.1=k:=h1.symm.trans e
    have b:atKey (q :: qs) k=some q.2:=by simp [atKey,List.find?_cons,e']
    rw [BJ e,b];exact h2
   ·have e':¬ q.1=k:=fun z=>e (h1.trans z)
    have b:atKey (q :: qs) k=atKey qs k:=by simp [atKey,List.find?_cons,e']
    rw [BI e,b];exact ih
theorem KT.repl {H:Hp} {kvs:List (List Key × V)} {xs:List (List Key × Addr × Value)} (r:KT H kvs xs) (k:List Key) {y:V} {u:Value} (ry:AE y u) :
 KT H (kvs.map fun kv=>if kv.1=k then (kv.1,y) else kv) (xs.map (putAt k u)):=by
 induction r with
 | nil=>exact .nil
 | @cons p q ps qs h t ih =>
   rw [map_cons,map_cons]
   refine .cons ?_ ih
   obtain ⟨h1,h2,h3⟩:=h
   unfold putAt
   by_cases e:p.1=k
   ·rw [if_pos e,if_pos (h1.symm.trans e)];exact ⟨h1,h2,ry⟩
   ·rw [if_neg e,if_neg (fun z=>e (h1.trans z))];exact ⟨h1,h2,h3⟩
theorem KT.put {H:Hp} {kvs:List (List Key × V)} {xs:List (List Key × Addr × Value)} (r:KT H kvs xs) (k:List Key) {b:Addr} {y:V} {u:Value} (hb:H b=some (.tup (k.map kV))) (ry:AE y u) :
 KT H (BW kvs k y) (storedH xs k b u):=by
 have e:(kvs.any fun kv=>decide (kv.1=k))=(atKey xs k).isSome:=by
  rw [CJ,(r.val k).isSome_eq,Option.isSome_map]
 unfold BW storedH
 rw [e]
 by_cases q:(atKey xs k).isSome=true
 ·rw [if_pos q,if_pos q];exact r.repl k ry
 ·rw [if_neg q,if_neg q];exact Paired.snoc r ⟨rfl,hb,ry⟩
theorem KT.keeps {H H':Hp} {kvs:List (List Key × V)} {xs:List (List Key × Addr × Value)} (r:KT H kvs xs) (ht:∀b ys,H b=some (.tup ys)->H' b=some (.tup ys)):KT H' kvs xs :=
 Paired.mapP r fun _ _ z=>⟨z.1,ht _ _ z.2.1,z.2.2⟩
section
variable {P:Program} {w:World} {H:Hp} {h:Heap} {a:Addr}
theorem RJ {u:HO} (ok:HOk P w H h) (e:Rd H a u):AN P w H h a u:=e.ok ok
theorem Ib {kvs:List (Key × V)} (ok:HOk P w H h) (e:Rd H a (.dK kvs)):kvs.length<=sizeLine/\(a == sysModules)=false/\∃vs,KV kvs vs/\h.DictOf (AL P w) a vs :=
 show AN P w H h a (.dK kvs) from RJ ok e
theorem Tl {kvs:List (Key × V)} (ok:HOk P w H h) (e:H a=some (.dK kvs)):kvs.length<=sizeLine/\(a == sysModules)=false/\∃vs,KV kvs vs/\h.DictOf (AL P w) a vs:=Ib ok (.inl e)
theorem Hk {ks:List Key} (ok:HOk P w H h) (e:H a=some (.tup (ks.map kV))):(tupleKind (AL P w)).is h ks a:=by
 obtain ⟨_,its,r,o,h1,h2,n,h3⟩:=(show AN P w H h a (.tup (ks.map kV)) from ok a _ e)
 exact ⟨o,its.toArray,n,h1,h2,h3,by simpa using Jr r⟩
theorem Jj {kvs:List (List Key × V)} (ok:HOk P w H h) (e:Rd H a (.dT kvs)):kvs.length<=sizeLine/\(a == sysModules)=false /\
 ∃xs,KT H kvs xs/\h.DictOfH (tupleKind (AL P w)) a xs:=by
 obtain ⟨z,y,xs,r,o,es,ep,h1,h2,h3,h4,h5⟩:=(show AN P w H h a (.dT kvs) from RJ ok e)
 refine ⟨z,y,xs,r,o,es,ep,h1,h2,h3,h4,fun x hx=>?_,h5⟩
 have all:∀{l:List (List Key × V)} {m:List (List Key × Addr × Value)},KT H l m->∀x∈m,(tupleKind (AL P w)).is h x.1 x.2.1:=by
  intro l m q
  induction q with
  | nil=>intro x hx;exact nomatch hx
  | @cons p q ps qs hq t ih =>
    intro x hx
    rcases mem_cons.mp hx with e | hx
    ·subst e
     exact Hk ok (by rw [<- hq.1];exact hq.2.1)
    ·exact ih x hx
 exact all r x hx
theorem Tv {kvs:List (List Key × V)} (ok:HOk P w H h) (e:H a=some (.dT kvs)):kvs.length<=sizeLine/\(a == sysModules)=false /\
 ∃xs,KT H kvs xs/\h.DictOfH (tupleKind (AL P w)) a xs:=Jj ok (.inl e)
end
def Gb (H:Hp) (a:Addr) (y:V) (r:Option V):Prop :=
 (∃kvs k,Rd H a (.dK kvs)/\y=kV k/\r=Bd kvs k)\/∃kvs k b,Rd H a (.dT kvs)/\y=.ref b/\H b=some (.tup (k.map kV))/\r=Bd kvs k
def IF (H:Hp) (a:Addr) (y v:V) (H':Hp):Prop :=
 (∃kvs k,H a=some (.dK kvs)/\y=kV k/\kvs.length < sizeLine/\H'=upd H a (.dK (BW kvs k v))) \/
 ∃kvs k b,H a=some (.dT kvs)/\y=.ref b/\H b=some (.tup (k.map kV))/\kvs.length < sizeLine/\H'=upd H a (.dT (BW kvs k v))
theorem Gb.k {H:Hp} {a:Addr} {kvs:List (Key × V)} {k:Key} (e:H a=some (.dK kvs)):Gb H a (kV k) (Bd kvs k):=.inl ⟨kvs,k,.inl e,rfl,rfl⟩
theorem Gb.t {H:Hp} {a b:Addr} {kvs:List (List Key × V)} {k:List Key} (e:H a=some (.dT kvs)) (eb:H b=some (.tup (k.map kV))):Gb H a (.ref b) (Bd kvs k):=.inr ⟨kvs,k,b,.inl e,rfl,eb,rfl⟩
theorem IF.k {H:Hp} {a:Addr} {kvs:List (Key × V)} {k:Key} {v:V} (e:H a=some (.dK kvs)) (hl:kvs.length < sizeLine):IF H a (kV k) v (upd H a (.dK (BW kvs k v))):=.inl ⟨kvs,k,e,rfl,hl,rfl⟩
theorem IF.t {H:Hp} {a b:Addr} {kvs:List (List Key × V)} {k:List Key} {v:V} (e:H a=some (.dT kvs)) (eb:H b=some (.tup (k.map kV))) (hl:kvs.length < sizeLine) :
 IF H a (.ref b) v (upd H a (.dT (BW kvs k v))):=.inr ⟨kvs,k,b,e,rfl,eb,hl,rfl⟩
section
variable {X:Cx} {pins:List (Addr × Obj)} {σ:St} {H:Hp} {s:Shared} {a:Addr} {y v:V} {u r:Value} {o:Option V} {A:Around} {E:Value->Shared->Prop}
theorem Inv.big (I:Inv X pins σ H s):sysModules < s.heap.objs.size:=by
 have h:mainGlobals < s.heap.objs.size:=(I.mod.glob.keeps I.bk).lt
 exact Nat.lt_trans (by decide) h
theorem N1 {Q:Value->Shared->Prop} (hu:A.units+1 < cLine) (I:Inv X pins σ H s) (g:Gb H a y (some v)) (ry:AE y u) (h:∀w' s',Inv X pins σ H s'->AE v w'->Q w' s') :
 wpAny (model X.prog X.w) A (getItem (.ref a) u) Q E s:=by
 rcases g with ⟨kvs,k,e,ey,l⟩ | ⟨kvs,k,b,e,ey,eb,l⟩
 ·subst ey
  obtain ⟨z,hd,vs,rel,dd⟩:=Ib I.hok e
  obtain ⟨w',hw,rw'⟩:=Eh.some_of (v:=v) (o:=valueAt vs k) (by rw [l];exact rel.val k)
  exact wpAny_getItem_of (MW ry) dd.mapOf hw (h w' _ (I.tok _) rw')
 ·subst ey
  cases (show u=Value.ref b from ry)
  obtain ⟨z,hd,xs,rel,dd⟩:=Jj I.hok e
  obtain ⟨w',hw,rw'⟩:=Eh.some_of (v:=v) (o:=(atKey xs k).map (·.2)) (by rw [l];exact rel.val k)
  obtain ⟨p,hp,hp2⟩:=Option.map_eq_some_iff.mp hw
  refine wpAny_getItem_heap (tupleKind_room_in1 hu) (Hk I.hok eb) dd hp ?_
  rw [hp2]
  exact h w' _ (I.tok _) rw'
theorem FP {h':Heap} {t':Nat} {ob:HO} (I:Inv X pins σ H s) (mu:Mut (H a)) (hs:Heap.SameBut a s.heap h') (he:∃q,h'.get? a=some q) (new:AN X.prog X.w (upd H a ob) h' a ob) :
 Inv X pins σ (upd H a ob) { s with heap:=h',toks:=t' } :=
 I.write (x:=a) (e:=a) mu (.inl rfl) (fun b q hb z=>(hs.2 b hb).trans z) he new
theorem S6 {P:Program} {w:World} {H':Hp} {h':Heap} {kvs:List (Key × V)} {vs:List (Key × Value)} (z:kvs.length<=sizeLine) (hd:(a == sysModules)=false) (rel:KV kvs vs) (dd:h'.DictOf (AL P w) a vs) :
 AN P w H' h' a (.dK kvs):=⟨z,hd,vs,rel,dd⟩
theorem N6 {H':Hp} {Q:Unit->Shared->Prop} (hu:A.units+1 < cLine) (I:Inv X pins σ H s) (g:IF H a y v H') (ry:AE y u) (rv:AE v r) (h:∀s',Inv X pins σ H' s'->Q () s') :
 wpAny (model X.prog X.w) A (setItem (.ref a) u r) Q E s:=by
 rcases g with ⟨kvs,k,e,ey,l,eH⟩ | ⟨kvs,k,b,e,ey,eb,l,eH⟩
 ·subst ey eH
  obtain ⟨z,hd,vs,rel,dd⟩:=Tl I.hok e
  have hz:vs.length<=sizeLine:=by rw [<- rel.length];exact z
  have hl:(BW kvs k v).length<=sizeLine:=by have:=C3 kvs k v;omega
  refine wpAny_setItem_pairs (hsz:=hz) (MW ry) dd fun h' dd' hs=>h _ ?_
  have he:∃q,h'.get? a=some q:=let ⟨q,_,_,hq,_⟩:=dd';⟨q,hq⟩
  exact FP I (by rw [e];exact True.intro) hs he (S6 hl hd (rel.put k rv) dd')
 ·subst ey eH
  cases (show u=Value.ref b from ry)
  obtain ⟨z,hd,xs,rel,dd⟩:=Tv I.hok e
  have hz:xs.length<=sizeLine:=by rw [<- Paired.length rel];exact z
  have hl:(BW kvs k v).length<=sizeLine:=by have:=C3 kvs k v;omega
  refine wpAny_setItem_heap (hsz:=hz) (tupleKind_room_in1 hu) (Hk I.hok eb) dd fun h' dd' hs=>h _ ?_
  obtain ⟨q,es,ep,hq,h2,h3,h4,_,h5⟩:=dd'
  refine FP I (by rw [e];exact True.intro) hs ⟨q,hq⟩ ⟨hl,hd,_,(rel.put k eb rv).keeps fun c ys ec=>?_,q,es,ep,hq,h2,h3,h4,h5⟩
  rw [Al (Cw ec e (fun z=>nomatch z))]
  exact ec
end
section
variable {X:Cx} {pins:List (Addr × Obj)} {σ:St} {H:Hp} {s:Shared} {a:Addr} {kvs:List (Key × V)} {k:Key} {u:Value} {A:Around} {E:Value->Shared->Prop}
end
def Su (i:Expr):Prop:=∀ov iv,subscripted i false ov iv=operate [ov,iv] (getItem ov iv)
theorem MP {prog:Program} {w:World} {A:Around} {E:Value->Shared->Prop} {s:Shared} {env:Env} {value slice:Expr} {pos:Pos} {T id:String} {Q:Value->Shared->Prop}
 (hl:typeLookup (.type T) "__getitem__"=pure (some (.builtin id))) (hs:Su slice)
 (h:wpAny (model prog w) A (eval value env) (fun o s₁=>wpAny (model prog w) A (eval slice env) (fun i s₂=>s₂.TypeIs o T/\wpAny (model prog w) A (getItem o i) Q E s₂) E s₁) E s) :
 wpAny (model prog w) A (eval (.Subscript value slice pos) env) Q E s:=by
 refine Subscript_ (wpAny_mono h (fun o s₁ h₁=>wpAny_mono h₁ (fun i s₂ h₂=>?_) fun _ _ x=>x) fun _ _ x=>x)
 obtain ⟨hT,h₂⟩:=h₂
 unfold subscriptTail
 refine wpAny_bind ?_
 rw [getitemInPython_of_ne hT.not_modules]
 refine wpAny_bind (wpAny_specialOf hT hl ?_)
 have fin:wpAny (model prog w) A (subscripted slice false o i) (fun r s₃=>wpAny (model prog w) A (letTemporaryGo value o r >>= fun _=>pure r) Q E s₃) E s₂:=by
  rw [hs o i]
  exact wpAny_operating (wpAny_mono h₂ (fun r s₃ h₃=>wpAny_bind (wpAny_letTemporaryGo (wpAny_pure h₃))) fun _ _ x=>x)
 first
  | exact wpAny_pure (wpAny_bind fin)
  | exact wpAny_bind (wpAny_pure (wpAny_bind fin))
  | exact wpAny_bind fin
theorem KG {X:Cx} {pins:List (Addr × Obj)} {σ:St} {H:Hp} {s:Shared} {a:Addr} {y:V} {o:Option V} (I:Inv X pins σ H s) (g:Gb H a y o):s.TypeIs (.ref a) "dict":=by
 rcases g with ⟨kvs,k,e,_,_⟩ | ⟨kvs,k,b,e,_,_,_⟩
 ·obtain ⟨_,_,vs,_,dd⟩:=Ib I.hok e
  exact dd.typeIs
 ·obtain ⟨_,_,xs,_,dd⟩:=Jj I.hok e
  exact dd.typeIs
def Tt (td ty:TE):TE:=fun σ H Q=>td σ H fun x H1=>ty σ H1 fun y H2=>∃a v,x=.ref a/\Gb H2 a y (some v)/\Q v H2
def Th (td ty tv:TE):TS:=fun D σ H=>tv σ H fun v H1=>td σ H1 fun x H2=>ty σ H2 fun y H3=>∃a H4,x=.ref a/\IF H3 a y v H4/\D.nx σ H4
section
variable {X:Cx} {o i e value:Expr} {pos pos' tpos:Pos} {td ty tv:TE}
theorem MN (hu:X.A.units+1 < cLine) (ho:PE X o td) (hi:PE X i ty) (hs:Su i):PE X (.Subscript o i pos) (Tt td ty):=by
 intro pins s σ H Q I h
 refine MP PySem.F.slot_dict_getitem.lookup hs (thn (ho pins s σ H _ I h) fun u s1 ⟨x,H1,I1,rx,q1⟩=>thn (hi pins s1 σ H1 _ I1 q1) fun iv s2 ⟨y,H2,I2,ry,a,v,ex,g,q2⟩=>?_)
 subst ex
 obtain rfl:u=Value.ref a:=rx
 exact ⟨KG I2 g,N1 hu I2 g ry fun w' s3 I3 rw'=>⟨v,H2,I3,rw',q2⟩⟩
theorem Hh (hu:X.A.units+1 < cLine) (ho:PE X o td) (hi:PE X i ty) (hv:PE X value tv) (hs:swapsWith value (some (.Subscript o i pos')) pos.line X.env=pure false) :
 PS X (.Assign [.Subscript o i pos'] value pos) (Th td ty tv):=by
 intro pins s σ H D I h
 refine wpAny_Assign_Subscript (thn (hv pins s σ H _ I h) fun r s1 ⟨v,H1,I1,rv,q1⟩=>thn (ho pins s1 σ H1 _ I1 q1) fun u s2 ⟨x,H2,I2,rx,q2⟩=>thn (hi pins s2 σ H2 _ I2 q2) fun iv s3 ⟨y,H3,I3,ry,a,H4,ex,g,q3⟩=>?_) hs
 subst ex
 obtain rfl:u=Value.ref a:=rx
 exact N6 hu I3 g ry rv fun s4 I4=>⟨σ,H4,I4,q3⟩
end
theorem Ox {P:Program} {w:World} {H:Hp} (h:Heap) (hb:sysModules < h.objs.size):AN P w H (h.push { cls:=.type "dict",data:=.dict #[] }) h.objs.size (.dK []) :=
 ⟨Nat.zero_le _,beq_eq_false_iff_ne.mpr (Ne.symm (Nat.ne_of_lt hb)),[],.nil,Heap.DictOf.new h⟩
theorem Om {P:Program} {w:World} {H:Hp} (h:Heap) (hb:sysModules < h.objs.size):AN P w H (h.push { cls:=.type "dict",data:=.dict #[] }) h.objs.size (.dT []) :=
 ⟨Nat.zero_le _,beq_eq_false_iff_ne.mpr (Ne.symm (Nat.ne_of_lt hb)),[],.nil,_,#[],0,Heap.get?_push_size _ rfl,⟨rfl,rfl,rfl⟩,rfl,rfl,nodup_nil⟩
def SK:TE:=fun _ H Q=>∀p,H p=none->Q (.ref p) (upd H p (.dK []))
def S4:TE:=fun _ H Q=>∀p,H p=none->Q (.ref p) (upd H p (.dT []))
section
variable {X:Cx} {pos:Pos}
theorem KU:PE X (.Dict [] [] pos) SK:=fun pins s σ H Q I h =>
 wpAny_Dict_empty ⟨.ref s.heap.objs.size,_,I.laid (a:=s.heap.objs.size) (o:=.dK []) (t':=s.toks) (fun _ _ q=>Heap.get?_push_of_some _ q) (Nat.le_refl _) (Ox s.heap I.big),rfl,h _ (I.hok.fresh (Nat.le_refl _))⟩
theorem Pq:PE X (.Dict [] [] pos) S4:=fun pins s σ H Q I h =>
 wpAny_Dict_empty ⟨.ref s.heap.objs.size,_,I.laid (a:=s.heap.objs.size) (o:=.dT []) (t':=s.toks) (fun _ _ q=>Heap.get?_push_of_some _ q) (Nat.le_refl _) (Om s.heap I.big),rfl,h _ (I.hok.fresh (Nat.le_refl _))⟩
end
structure M2 (X:Cx) (o:Expr) (m:Str) (apos:Pos) (e f:Expr) (cpos:Pos):Prop where
 base:attributeBase o m X.env (eval o X.env)=eval o X.env
 few:((backTo cpos (starEach [e,f] X.env)).all (fun x=>!x.1) && (backToKw cpos (keywordEach [] X.env)).all (fun x=>x.1.isSome)
  && decide (([e,f]:List Expr).length+([]:List Keyword).length+(if ([]:List Keyword).isEmpty then 0 else 1) < 30))=true
 line:(apos.endLine == cpos.line)=true
 trees:backTo cpos (starEach [e,f] X.env)=[(false,eval e X.env),(false,eval f X.env)]
def IsD (H:Hp) (a:Addr):Prop:=(∃kvs,Rd H a (.dK kvs))\/∃kvs,Rd H a (.dT kvs)
theorem SQ {X:Cx} {pins:List (Addr × Obj)} {σ:St} {H:Hp} {s:Shared} {a:Addr} (I:Inv X pins σ H s) (d:IsD H a) :
 s.TypeIs (.ref a) "dict"/\(∀b,Value.ref a=.ref b->∃ob,s.heap.get? b=some ob/\ob.dict=none)/\(a == sysModules)=false:=by
 rcases d with ⟨kvs,e⟩ | ⟨kvs,e⟩
 ·obtain ⟨_,hd,vs,_,dd⟩:=Ib I.hok e
  refine ⟨dd.typeIs,fun b q=>?_,hd⟩
  cases q
  obtain ⟨ob,_,_,h1,h2,_⟩:=dd
  exact ⟨ob,h1,h2.2.1⟩
 ·obtain ⟨_,hd,xs,_,dd⟩:=Jj I.hok e
  refine ⟨dd.typeIs,fun b q=>?_,hd⟩
  cases q
  obtain ⟨ob,_,_,h1,h2,_⟩:=dd
  exact ⟨ob,h1,h2.2.1⟩
section
variable {X:Cx} {pins:List (Addr × Obj)} {σ:St} {H:Hp} {s:Shared} {a:Addr} {y d:V} {u r:Value} {o:Option V} {A:Around} {E:Value->Shared->Prop}
theorem Sy {Q:Value->Shared->Prop} (hu:A.units+1 < cLine) (I:Inv X pins σ H s) (g:Gb H a y o) (ry:AE y u) (rd:AE d r) (h:∀w' s',Inv X pins σ H s'->AE (o.getD d) w'->Q w' s') :
 wpAny (model X.prog X.w) A (call (.builtin "dict.get") [.ref a,u,r]) Q E s:=by
 rcases g with ⟨kvs,k,e,ey,l⟩ | ⟨kvs,k,b,e,ey,eb,l⟩
 ·subst ey
  obtain ⟨z,hd,vs,rel,dd⟩:=Ib I.hok e
  refine call_meetsIn PySem.F.slot_dict_get dd.typeIs PySem.F.entry_dict_get (PySem.F.args_dict_get_3 _ _ _) (meets_dict_get_default (AL X.prog X.w) a (MW ry) hd r) ⟨_,dd.mapOf,h _ _ (I.tok _) ?_⟩
  rw [l]
  exact (rel.val k).getD rd
 ·subst ey
  cases (show u=Value.ref b from ry)
  obtain ⟨z,hd,xs,rel,dd⟩:=Jj I.hok e
  refine call_meetsIn PySem.F.slot_dict_get dd.typeIs PySem.F.entry_dict_get (PySem.F.args_dict_get_3 _ _ _) (meetsH_dict_get_default (tupleKind (AL X.prog X.w)) a b hd r) ⟨tupleKind_room_in1 hu,k,xs,Hk I.hok eb,dd,h _ _ (I.tok _) ?_⟩
  rw [l]
  exact (rel.val k).getD rd
end
def SJ (td ty tx:TE):TE:=fun σ H Q=>td σ H fun x H1=>∃a,x=.ref a/\IsD H1 a/\ty σ H1 fun y H2=>tx σ H2 fun z H3=>∃o,Gb H3 a y o/\Q (o.getD z) H3
section
variable {X:Cx} {o e f:Expr} {apos cpos:Pos} {td ty tx:TE}
theorem HV (hu:X.A.units+1 < cLine) (ho:PE X o td) (he:PE X e ty) (hf:PE X f tx) (m:M2 X o "get" apos e f cpos):PE X (.Call (.Attribute o "get" apos) [e,f] [] cpos) (SJ td ty tx):=by
 intro pins s σ H Q I h
 refine wpAny_Call_method m.base m.few m.line PySem.F.plainAttrs_dict PySem.F.slot_dict_get PySem.F.type_dict_get (thn (ho pins s σ H _ I h) fun u s1 ⟨x,H1,I1,rx,a,ex,d,q1⟩=>?_)
 subst ex
 obtain rfl:u=Value.ref a:=rx
 obtain ⟨t1,t2,_⟩:=SQ I1 d
 refine ⟨t1,t2,?_⟩
 rw [m.trees]
 refine Calls.callWith_builtin rfl (Calls.evalArgs_plain (Calls.spliced_cons (thn (he pins s1 σ H1 _ I1 q1) fun iv s2 ⟨y,H2,I2,ry,q2⟩ =>
  Calls.spliced_cons (thn (hf pins s2 σ H2 _ I2 q2) fun fv s3 ⟨z,H3,I3,rz,ov,g,q3⟩=>Calls.spliced_nil ?_))))
 exact Sy hu I3 g ry rz fun w' s4 I4 rw'=>⟨_,H3,I4,rw',q3⟩
end
section
variable {X:Cx} {pins:List (Addr × Obj)} {σ:St} {H:Hp} {s:Shared} {a:Addr} {kvs:List (Key × V)} {A:Around} {E:Value->Shared->Prop}
end
section
variable {X:Cx} {pins:List (Addr × Obj)} {σ:St} {H:Hp} {s:Shared} {a:Addr} {y:V} {u:Value} {A:Around} {E:Value->Shared->Prop}
end
end L2
namespace L2
open PySem PySem.Spec PyProof.Rows
section
variable {κ:Type} [DecidableEq κ]
theorem HZ {kvs:List (κ × V)} {k:κ} (h:Bd kvs k=none):¬ k∈kvs.map (·.1):=by
 intro m
 obtain ⟨p,hp,e⟩:=mem_map.mp m
 have q:(kvs.any fun kv=>decide (kv.1=k))=true:=any_eq_true.mpr ⟨p,hp,decide_eq_true e⟩
 rw [CJ,h] at q
 exact absurd q (by simp)
theorem QA {kvs:List (κ × V)} {k:κ} {v:V} (h:Bd kvs k=some v):k∈kvs.map (·.1):=by
 have q:(kvs.any fun kv=>decide (kv.1=k))=true:=by
  rw [CJ,h]
  all_goals rfl
 obtain ⟨p,hp,e⟩:=any_eq_true.mp q
 exact mem_map.mpr ⟨p,hp,of_decide_eq_true e⟩
theorem Nv:∀{l:List κ} {k:κ},l.Nodup->¬ k∈l->(l++[k]).Nodup
 | [],k,_,_=>by simp
 | a :: r,k,h,hk=>by
   obtain ⟨h1,h2⟩:=nodup_cons.mp h
   show (a :: (r++[k])).Nodup
   refine nodup_cons.mpr ⟨fun m=>?_,Nv h2 fun m=>hk (mem_cons.mpr (Or.inr m))⟩
   rcases mem_append.mp m with q | q
   ·exact h1 q
   ·exact hk (mem_cons.mpr (Or.inl (mem_singleton.mp q).symm))
theorem M8 {kvs:List (κ × V)} {k:κ} (v:V) (hn:(kvs.map (·.1)).Nodup) (h:Bd kvs k=none):((BW kvs k v).map (·.1)).Nodup:=by
 rw [PR v h,map_append]
 exact Nv hn (HZ h)
end
end L2
namespace L2
open PySem PySem.Spec PyProof.Rows
def Sz (n:Nat) (x:Int):Prop:=x.natAbs < 2 ^ n
section
variable {m n:Nat} {x y:Int}
theorem Sz.bits (h:Sz n x):Builtin.Int.intBits x<=n:=intBits_le_iff.mpr h
theorem Sz.of_bits (h:Builtin.Int.intBits x<=n):Sz n x:=intBits_le_iff.mp h
theorem Sz.mono (h:Sz m x) (l:m<=n):Sz n x:=.of_bits (Nat.le_trans h.bits l)
theorem Sz.mul (h:Sz m x) (k:Sz n y):Sz (m+n) (x*y):=.of_bits (intBits_mul_le h.bits k.bits)
theorem Sz.add (h:Sz m x) (k:Sz n y):Sz (max m n+1) (x+y):=.of_bits (intBits_add_le h.bits k.bits)
theorem Sz.sub (h:Sz m x) (k:Sz n y):Sz (max m n+1) (x - y):=.of_bits (intBits_sub_le h.bits k.bits)
theorem Sz.neg (h:Sz m x):Sz m (-x):=.of_bits (intBits_neg_le h.bits)
theorem Sz.fdiv (h:Sz m x):Sz m (x.fdiv y):=.of_bits (intBits_fdiv_le h.bits)
theorem szd (n:Nat) {x:Int} (h:decide (x.natAbs < 2 ^ n)=true:=by decide +kernel):Sz n x:=(show x.natAbs < 2 ^ n from of_decide_eq_true h)
theorem Bz (h:-(2 ^ n:Nat) < x) (k:x < (2 ^ n:Nat)):Sz n x:=by
 unfold Sz
 generalize 2 ^ n=p at h k ⊢
 omega
end
def PD (i j:Int):Prop:=∃m n,Sz m i/\Sz n j/\m+n<=134217728
theorem TL {i j:Int} {m n:Nat} (h:Sz m i) (k:Sz n j) (l:decide (m+n<=134217728)=true:=by decide +kernel):PD i j:=⟨m,n,h,k,of_decide_eq_true l⟩
def Tr (_ j:Int):Prop:=j≠0/\Sz 9000 j
section
variable {X:Cx}
theorem AO:OpR X (binaryOp .Mult) (rI PD fun i j=>.int (i*j)):=opI fun _ _ _ _ _ _ _ hc q =>
 mul_int q (let ⟨_,_,a,b,c⟩:=hc;IntMulOk.of_le a.bits b.bits c)
theorem AR:OpR X (binaryOp .FloorDiv) (rI Tr fun i j=>.int (i.fdiv j)):=opI fun _ j _ _ _ _ _ hc q =>
 floordiv_int hc.1 q (.inl (PyProof.noPylong_of_log2 ((Nat.log2_lt (by have:=hc.1;omega)).mpr hc.2)))
theorem IJ {x y:Int} (h:Sz 13500 x):Builtin.divisionGoesByPylong x y=false:=by
 have key:(if x == 0 then 0 else x.natAbs.log2 / 30+1)<=450:=by
  by_cases hy:(x == 0)=true
  ·rw [if_pos hy];exact Nat.zero_le _
  ·rw [if_neg hy]
   have nz:x.natAbs≠0:=by
    have:¬ x=0:=fun e=>hy (by rw [e];rfl)
    omega
   have:=(Nat.log2_lt nz).mpr h
   omega
 show (decide ((if y == 0 then 0 else y.natAbs.log2 / 30+1) > 300) && decide ((if x == 0 then 0 else x.natAbs.log2 / 30+1) > (if y == 0 then 0 else y.natAbs.log2 / 30+1)+150))=false
 generalize (if y == 0 then 0 else y.natAbs.log2 / 30+1)=dy
 generalize (if x == 0 then 0 else x.natAbs.log2 / 30+1)=dx at key
 by_cases c:dy > 300
 ·rw [decide_eq_false (show ¬ dx > dy+150 by omega),Bool.and_false]
 ·rw [decide_eq_false c,Bool.false_and]
theorem Kz:OpR X (binaryOp .FloorDiv) (rI (fun i j=>j≠0/\Sz 13500 i) fun i j=>.int (i.fdiv j)):=opI fun _ _ _ _ _ _ _ hc q=>floordiv_int hc.1 q (.inl (IJ hc.2))
theorem HB:DG X (.builtin "isinstance") (fun xs H Q=>∃x t c b,xs=[x,.ty c]/\Fi X.K H x t/\PySem.W.kitOne X.K t (.type c)=some b/\Q (.bl b) H):=by
 intro pins s σ H xs us Q I rv h
 obtain ⟨x,t,c,b,rfl,ty,e,q⟩:=h
 obtain ⟨u,u',rfl,r1,r2⟩:=P4 rv
 cases (show u'=Value.type c from r2)
 exact N8 I r1 ty e fun tk=>⟨.bl b,H,I.tok tk,rfl,q⟩
end
section
variable {K:PySem.W.Frag}
theorem KZ:PySem.W.kitOne K (.type "int") (.type "int")=some true:=by
 show (if ((Value.type "int") == (Value.type "int"))=true then some true else (if PySem.W.kitMeta "int"=true then (PySem.fastBuiltinMro "int").map (·.contains (Value.type "int")) else none))=some true
 decide +kernel
theorem JM:PySem.W.kitOne K (.type "int") (.type "bool")=some false:=by
 show (if ((Value.type "int") == (Value.type "bool"))=true then some true else (if PySem.W.kitMeta "bool"=true then (PySem.fastBuiltinMro "int").map (·.contains (Value.type "bool")) else none))=some false
 decide +kernel
theorem IB:PySem.W.kitOne K (.type "list") (.type "list")=some true:=by
 show (if ((Value.type "list") == (Value.type "list"))=true then some true else (if PySem.W.kitMeta "list"=true then (PySem.fastBuiltinMro "list").map (·.contains (Value.type "list")) else none))=some true
 decide +kernel
end
def Ub (c:TT) (t u:TS):TS:=fun D σ H=>∃M:St->Hp->Prop,(c σ H fun b H1=>if b=true then t { D with nx:=M } σ H1 else u { D with nx:=M } σ H1)/\∀σ' H',M σ' H'->D.nx σ' H'
theorem Cj {X:Cx} {c:Expr} {a b:List Stmt} {tc:TT} {t u:TS} {pos:Pos} (hc:PT X c tc) (ha:PSs X a t) (hb:PSs X b u):PS X (.If c a b pos) (Ub tc t u):=by
 intro pins s σ H D I h
 obtain ⟨M,h,hM⟩:=h
 have up:∀(f:Flow) (s':Shared),SP X pins { D with nx:=M } f s'->SP X pins D f s':=fun f s' q=>by
  cases f with
  | next =>
    obtain ⟨σ',H',I',q⟩:=q
    exact ⟨σ',H',I',hM σ' H' q⟩
  | ret v=>exact q
  | brk=>exact q
  | cont=>exact q
 refine wpAny_If (thn (hc pins s σ H _ I h) fun d s1 ⟨H1,I1,q1⟩=>?_)
 cases d with
 | true=>exact thn (ha pins s1 σ H1 _ I1 q1) up
 | false=>exact thn (hb pins s1 σ H1 _ I1 q1) up
theorem P6:QL 10 40:=⟨by decide,by decide,by decide⟩
theorem Bx {n:Nat} (h:n<=1000):n<=sizeLine:=Nat.le_of_lt (AH h)
theorem MG {ns:List Int} {k:Int} (h0:0<=k) (h:k < (ns.length:Int)):∃v:Int,atI (ns.map V.int) k=some (.int v):=by
 have hk:k.toNat < ns.length:=by omega
 have ek:k=((k.toNat:Nat):Int):=by omega
 have q:atI (ns.map V.int) ((k.toNat:Nat):Int)=some (.int ns[k.toNat]):=Dj (by rw [List.getElem?_map,List.getElem?_eq_getElem hk] <;> rfl)
 rw [<- ek] at q
 exact ⟨_,q⟩
end L2
namespace L2
open PySem PySem.Spec PyProof.Rows
def Cx.inComp (X:Cx) (Nc:List Str) (sc:Scope) (cl:List (Str × Addr)) (s:Shared) (H:Hp) (ex:List Addr):Cx :=
 { X with N:=Nc,s₀:=s,H₀:=H,env:=compEnvC sc cl s.heap.objs.size X.env,outer:=X.stack,stack:=X.stack,ex:=ex,fn:=fun _=>false,pn:=[],xe:=fun _ _=>False }
theorem M4 {env:Env} {f:Str × NameKind->List (Str × Addr)->Sem (ForInStep (List (Str × Addr)))}
 (hf:∀n k r,f (n,k) r=if (k == NameKind.free)=true then (cellOf env n >>= fun c=>pure (ForInStep.yield ((n,c) :: r))) else pure (ForInStep.yield r)) :
 ∀(l:List (Str × NameKind)) (cs:List (Str × Addr)),(∀x∈l,x.2=.free->∃c,env.cells.lookup x.1=some c) ->
  ∃cl,(forIn l cs f:Sem (List (Str × Addr)))=pure cl/\(∀p∈cl,p∈cs\/env.cells.lookup p.1=some p.2)/\(∀p∈cs,p∈cl)/\∀x∈l,x.2=.free->∃c,(x.1,c)∈cl:=by
 intro l
 induction l with
 | nil =>
   intro cs _
   exact ⟨cs,by rw [forIn_nil],fun p hp=>.inl hp,fun p hp=>hp,fun x hx=>absurd hx (by simp)⟩
 | cons y r ih =>
   intro cs h
   obtain ⟨n,k⟩:=y
   by_cases hk:k=.free
   ·subst hk
    obtain ⟨c,hc⟩:=h (n,.free) (by simp) rfl
    have e:cellOf env n=pure c:=by
     unfold cellOf
     rw [show env.cells.lookup n=some c from hc]
    obtain ⟨cl,h1,h2,h3,h4⟩:=ih ((n,c) :: cs) fun x hx=>h x (mem_cons_of_mem _ hx)
    refine ⟨cl,?_,fun p hp=>?_,fun p hp=>h3 p (mem_cons_of_mem _ hp),fun x hx hf'=>?_⟩
    ·rw [forIn_cons,hf,if_pos (by decide),e]
     simp only [pure_bind]
     exact h1
    ·rcases h2 p hp with z | z
     ·rcases mem_cons.mp z with z | z
      ·subst z;exact .inr hc
      ·exact .inl z
     ·exact .inr z
    ·rcases mem_cons.mp hx with z | z
     ·subst z;exact ⟨c,h3 _ (by simp)⟩
     ·exact h4 x z hf'
   ·have hb:(k == NameKind.free)=false:=by simpa using hk
    obtain ⟨cl,h1,h2,h3,h4⟩:=ih cs fun x hx=>h x (mem_cons_of_mem _ hx)
    refine ⟨cl,?_,h2,h3,fun x hx hf'=>?_⟩
    ·rw [forIn_cons,hf,hb,if_neg (by decide)]
     simp only [pure_bind]
     exact h1
    ·rcases mem_cons.mp hx with z | z
     ·subst z;exact absurd hf' hk
     ·exact h4 x z hf'
theorem HW {α:Type}:∀{l:List (Str × α)} {n:Str} {c:α},(n,c)∈l->∃d,l.lookup n=some d
 | (k,v) :: r,n,c,h=>by
   rw [lookup_cons]
   cases hx:(n == k) with
   | true=>exact ⟨v,rfl⟩
   | false =>
     rcases mem_cons.mp h with z | z
     ·cases z
      simp at hx
     ·exact HW z
theorem DD {env:Env} {sc:Scope} (h:∀x∈sc.names,x.2=.free->∃c,env.cells.lookup x.1=some c) :
 ∃cl,closureFor sc env=pure cl/\(∀y c,cl.lookup y=some c->env.cells.lookup y=some c)/\∀x∈sc.names,x.2=.free->∃c,cl.lookup x.1=some c:=by
 obtain ⟨cl,h1,h2,_,h4⟩:=M4 (env:=env) (f:=fun x r=>if (x.2 == NameKind.free)=true then (cellOf env x.1 >>= fun c=>pure (ForInStep.yield ((x.1,c) :: r))) else pure (ForInStep.yield r)) (fun _ _ _=>rfl) sc.names [] h
 refine ⟨cl,?_,fun y c e=>?_,fun x hx hf=>?_⟩
 ·unfold closureFor
  have:(forIn sc.names ([]:List (Str × Addr)) fun x r=>(match x with | (name,kind)=>if (kind == NameKind.free)=true then (do let __do_lift <- cellOf env name;pure (ForInStep.yield ((name,__do_lift) :: r))) else pure (ForInStep.yield r)):Sem (List (Str × Addr)))=pure cl:=h1
  first
   | (simp only [this,pure_bind];done)
   | (simp only [h1,pure_bind];done)
   | (rw [show (forIn sc.names ([]:List (Str × Addr)) _:Sem (List (Str × Addr)))=pure cl from h1];rfl)
 ·rcases h2 (y,c) (PySem.mem_of_lookup e) with z | z
  ·exact absurd z (by simp)
  ·exact z
 ·obtain ⟨c,hc⟩:=h4 x hx hf
  exact HW hc
theorem CG (env:Env):∀(names:List (Str × NameKind)) (y:Str),
 (names.map fun (n,k)=>if (k == NameKind.free && env.scope.kind == .function && env.kindOf n == some .cell) then (n,NameKind.cell) else (n,k)).lookup y
  = (names.lookup y).map fun k=>if (k == NameKind.free && env.scope.kind == .function && env.kindOf y == some .cell) then NameKind.cell else k
 | [],y=>rfl
 | (n,k) :: r,y=>by
   have ih:=CG env r y
   rw [map_cons]
   dsimp only
   cases hx:(y == n) with
   | true =>
     have e:y=n:=by simpa using hx
     subst e
     by_cases c:(k == NameKind.free && env.scope.kind == .function && env.kindOf y == some .cell)=true
     ·rw [if_pos c];simp only [lookup_cons,hx,Option.map_some];rw [if_pos c]
     ·rw [if_neg c];simp only [lookup_cons,hx,Option.map_some];rw [if_neg c]
   | false =>
     by_cases c:(k == NameKind.free && env.scope.kind == .function && env.kindOf n == some .cell)=true
     ·rw [if_pos c];simp only [lookup_cons,hx];exact ih
     ·rw [if_neg c];simp only [lookup_cons,hx];exact ih
def Ga (X:Cx) (ifs:List Expr) (t:TT):Prop :=
 ∀(pins:List (Addr × Obj)) (s:Shared) (σ:St) (H:Hp) (Q:Bool->Hp->Prop),Inv X pins σ H s->t σ H Q ->
  wpAny (model X.prog X.w) X.A (forIn ifs true fun c r=>if r=true then do let ok <- isTrue c X.env (eval c X.env);pure (ForInStep.yield ok) else pure (ForInStep.yield r)) (TP X pins σ Q) X.xe s
def To:TT:=fun _ H Q=>Q true H
theorem yes {σ:St} {H:Hp} {Q:Bool->Hp->Prop} (h:Q true H):To σ H Q:=h
theorem B2 {X:Cx}:Ga X [] To:=by
 intro pins s σ H Q I h
 rw [forIn_nil]
 exact wpAny_pure ⟨H,I,h⟩
theorem Hi {X:Cx} {c:Expr} {t:TT} (hc:PT X c t):Ga X [c] t:=by
 intro pins s σ H Q I h
 rw [forIn_cons,if_pos rfl]
 refine wpAny_bind (wpAny_bind (thn (hc pins s σ H Q I h) fun b s1 q=>wpAny_pure ?_))
 dsimp only
 rw [forIn_nil]
 exact wpAny_pure q
theorem Fu {α:Type} {t:Sem α} {Q Q':α->Shared->Prop} {M:Model} {A:Around} {E:Value->Shared->Prop} {s:Shared} (h:wpAny M A t Q (fun _ _=>False) s) (hQ:∀a s,Q a s->Q' a s):wpAny M A t Q' E s:=wpAny_mono h hQ fun _ _ z=>z.elim
def Kw (wi:TI) (tt:TT) (te:TE):TE:=fun σ H Q=>wi σ H fun J H1=>∀D,H1 D=none->∃W:Nat->Nat->List V->Hp->Prop,(∃m,W 0 m [] (upd H1 D (.lst [])))/\∀i m ys H2,W i m ys H2 ->
 H2 D=some (.lst ys)/\((J.stop i H2/\Q (.ref D) H2)\/(J.go i H2/\ys.length < sizeLine/\∀x H3,J.yld i H2 x H3->tt (σ++[some x]) H3 fun b H4=>if b=true then te (σ++[some x]) H4 fun y H5=>H5 D=some (.lst ys)/\∃m',m' < m/\W (i+1) m' (ys++[y]) (upd H5 D (.lst (ys++[y])))
  else ∃m',m' < m/\W (i+1) m' ys H4))
structure GF (N Nc:List Str) (x:Str) (sc fsc:Scope):Prop where
 kind:sc.kind=.function
 cell:∀y∈sc.names,y.2≠.cell
 nm:∀y∈sc.names,y.2=.local->sc.names.lookup y.1=some .local
 own:sc.names.lookup x=some .local
 fr:∀y∈sc.names,y.2=.free->fsc.names.lookup y.1=some .cell\/fsc.names.lookup y.1=some .free
 len:Nc.length=N.length+1
 nd:Nc.Nodup
 last:Nc[N.length]?=some x
 slot:((List.range N.length).all fun i=>match Nc[i]? with
  | some y=>(match sc.names.lookup y with | some .free=>N[i]? == some y | some .local=>false | some .cell=>false | _=>true)
  | none=>true)=true
theorem GF.at {N Nc:List Str} {x:Str} {sc fsc:Scope} (C:GF N Nc x sc fsc) {i:Nat} {y:Str} (hi:i < N.length) (h:Nc[i]?=some y):sc.names.lookup y≠some .local/\sc.names.lookup y≠some .cell/\(sc.names.lookup y=some .free->N[i]?=some y):=by
 have q:=all_eq_true.mp C.slot i (mem_range.mpr hi)
 rw [h] at q
 dsimp only at q
 cases e:sc.names.lookup y with
 | none=>exact ⟨fun z=>(nomatch z),fun z=>(nomatch z),fun z=>(nomatch z)⟩
 | some k =>
   rw [e] at q
   cases k with
   | «local»=>exact absurd (show false=true from q) Bool.false_ne_true
   | cell=>exact absurd (show false=true from q) Bool.false_ne_true
   | free=>exact ⟨fun z=>(nomatch z),fun z=>(nomatch z),fun _=>by simpa using q⟩
   | _=>exact ⟨fun z=>(nomatch z),fun z=>(nomatch z),fun z=>(nomatch z)⟩
section
variable {X:Cx} {elt iter:Expr} {x:Str} {px pos:Pos} {ifs:List Expr} {sc fsc:Scope} {N Nc:List Str} {wi:TI} {tt:TT} {te:TE}
structure PL (X:Cx) (pins:List (Addr × Obj)) (H:Hp) (C:Addr):Prop where
 free:H C=none
 ne:C≠X.env.locals
 new:X.s₀.heap.objs.size<=C
 cells:∀x c,X.env.cells.lookup x=some c->c≠C
 pins:∀p∈X.pn++pins,p.1≠C
theorem Inv.sameBut {pins:List (Addr × Obj)} {σ:St} {H:Hp} {s:Shared} {C:Addr} {h':Heap} (I:Inv X pins σ H s) (c:PL X pins H C) (k:Heap.SameBut C s.heap h'):Inv X pins σ H { s with heap:=h' } :=
 I.turned (t':=s.toks) (it:=C) (fun b o hb e=>(k.2 b hb).trans e) c.free c.ne (.inr c.new) c.cells c.pins
theorem KO {σ:St} {o v:Option V}:(σ++[o]).set σ.length v=σ++[v]:=by
 rw [set_append_right _ _ (Nat.le_refl _),Nat.sub_self]
 rfl
end
theorem Db {lo:Int} {n:Nat} {tt:TT} {te:TE} {σ:St} {H1:Hp} {Q:Addr->Hp->Prop} (hn:n<=sizeLine) (Pv:Addr->Nat->List V->Hp->Prop)
 (h0:∀D,H1 D=none->Pv D 0 [] (upd H1 D (.lst []))) (hD:∀D i ys H,Pv D i ys H->H D=some (.lst ys)/\ys.length<=i)
 (hs:∀D i ys H (K1:VK) (K2:Hp->Prop),H1 D=none->i < n->Pv D i ys H->(∀y H5,H5 D=some (.lst ys)->Pv D (i+1) (ys++[y]) (upd H5 D (.lst (ys++[y])))->K1 y H5)->(∀H4,Pv D (i+1) ys H4->K2 H4) ->
  tt (σ++[some (.int (lo+i))]) H fun b H4=>if b=true then te (σ++[some (.int (lo+i))]) H4 K1 else K2 H4)
 (hd:∀D ys H,H1 D=none->Pv D n ys H->Q D H) :
 ∀D,H1 D=none->∃W:Nat->Nat->List V->Hp->Prop,(∃m,W 0 m [] (upd H1 D (.lst [])))/\∀i m ys H2,W i m ys H2 ->
  H2 D=some (.lst ys)/\(((Itr lo n).stop i H2/\Q D H2)\/((Itr lo n).go i H2/\ys.length < sizeLine/\∀x H3,(Itr lo n).yld i H2 x H3->tt (σ++[some x]) H3 fun b H4=>if b=true then te (σ++[some x]) H4 fun y H5=>H5 D=some (.lst ys)/\∃m',m' < m/\W (i+1) m' (ys++[y]) (upd H5 D (.lst (ys++[y])))
   else ∃m',m' < m/\W (i+1) m' ys H4)):=by
 intro D hDn
 refine ⟨fun i m ys H=>m=n - i/\i<=n/\Pv D i ys H,⟨n,rfl,Nat.zero_le _,h0 D hDn⟩,?_⟩
 rintro i m ys H2 ⟨rfl,hi,p⟩
 obtain ⟨e,l⟩:=hD D i ys H2 p
 refine ⟨e,?_⟩
 by_cases hlt:i < n
 ·refine .inr ⟨hlt,Nat.lt_of_le_of_lt l (Nat.lt_of_lt_of_le hlt hn),fun x H3 y=>?_⟩
  obtain ⟨e1,e2⟩:=y
  subst e1 e2
  exact hs D i ys _ _ _ hDn hlt p (fun y H5 h5 p5=>⟨h5,n - (i+1),by omega,rfl,hlt,p5⟩) fun H4 p4=>⟨n - (i+1),by omega,rfl,hlt,p4⟩
 ·have ei:i=n:=by omega
  subst ei
  exact .inl ⟨Nat.le_refl _,hd D ys H2 hDn p⟩
theorem Cy {K:PySem.W.Frag} {a:Addr} {xs:List V} {tt:TT} {te:TE} {σ:St} {H1:Hp} {Q:Addr->Hp->Prop} (hn:xs.length<=sizeLine) (Pv:Addr->Nat->List V->Hp->Prop)
 (h0:∀D,H1 D=none->Pv D 0 [] (upd H1 D (.lst []))) (hD:∀D i ys H,Pv D i ys H->H D=some (.lst ys)/\ys.length<=i) (hl:∀D i ys H,H1 D=none->Pv D i ys H->SqL K H a xs)
 (hs:∀D i x ys H (K1:VK) (K2:Hp->Prop),H1 D=none->xs[i]?=some x->Pv D i ys H->(∀y H5,H5 D=some (.lst ys)->Pv D (i+1) (ys++[y]) (upd H5 D (.lst (ys++[y])))->K1 y H5)->(∀H4,Pv D (i+1) ys H4->K2 H4) ->
  tt (σ++[some x]) H fun b H4=>if b=true then te (σ++[some x]) H4 K1 else K2 H4)
 (hd:∀D ys H,H1 D=none->Pv D xs.length ys H->Q D H) :
 ∀D,H1 D=none->∃W:Nat->Nat->List V->Hp->Prop,(∃m,W 0 m [] (upd H1 D (.lst [])))/\∀i m ys H2,W i m ys H2 ->
  H2 D=some (.lst ys)/\(((Itl K a).stop i H2/\Q D H2)\/((Itl K a).go i H2/\ys.length < sizeLine/\∀x H3,(Itl K a).yld i H2 x H3->tt (σ++[some x]) H3 fun b H4=>if b=true then te (σ++[some x]) H4 fun y H5=>H5 D=some (.lst ys)/\∃m',m' < m/\W (i+1) m' (ys++[y]) (upd H5 D (.lst (ys++[y])))
   else ∃m',m' < m/\W (i+1) m' ys H4)):=by
 intro D hDn
 refine ⟨fun i m ys H=>m=xs.length - i/\i<=xs.length/\Pv D i ys H,⟨xs.length,rfl,Nat.zero_le _,h0 D hDn⟩,?_⟩
 rintro i m ys H2 ⟨rfl,hi,p⟩
 obtain ⟨e,l⟩:=hD D i ys H2 p
 have q:=hl D i ys H2 hDn p
 refine ⟨e,?_⟩
 by_cases hlt:i < xs.length
 ·refine .inr ⟨⟨xs,xs[i],q,by simp [hlt]⟩,Nat.lt_of_le_of_lt l (Nat.lt_of_lt_of_le hlt hn),fun x H3 y=>?_⟩
  obtain ⟨e1,y⟩:=y
  subst e1
  exact hs D i x ys _ _ _ hDn (y xs q) p (fun y H5 h5 p5=>⟨h5,xs.length - (i+1),by omega,rfl,hlt,p5⟩) fun H4 p4=>⟨xs.length - (i+1),by omega,rfl,hlt,p4⟩
 ·have ei:i=xs.length:=by omega
  subst ei
  exact .inl ⟨⟨xs,q,Nat.le_refl _⟩,hd D ys H2 hDn p⟩
section
variable {X:Cx}
theorem Op (K:PySem.W.Frag) (h:X.K=K:=by rfl):IxR X (T2 K):=by subst h;exact A5
theorem DO (K:PySem.W.Frag) (h:X.K=K:=by rfl):IxR X (T3 K):=by subst h;exact Ay
theorem Mr (K:PySem.W.Frag) (h:X.K=K:=by rfl):OpR X (compareOp .In) (rIn K false):=by subst h;exact Jp
theorem IC (K:PySem.W.Frag) (h:X.K=K:=by rfl):OpR X (compareOp .NotIn) (rIn K true):=by subst h;exact JT
end
end L2
namespace L2
open PySem PySem.Spec PyProof.Rows
section
variable {X:Cx}
theorem HC (hc:X.calm=true):DG X (.builtin "sum") (fun xs H Q=>∃(p:Addr) (ns:List Int),xs=[.ref p]/\SqL X.K H p (ns.map V.int)/\Q (.int ns.sum) H):=by
 intro pins s σ H xs us Q I rv h
 obtain ⟨p,ns,rfl,hS,q⟩:=h
 obtain ⟨u,rfl,r⟩:=FW rv
 cases r
 obtain ⟨its,rv,pl,hz⟩:=I.list hS
 have hi:=Fs rv
 obtain ⟨xs,e⟩:=hi.allInts.items
 have en:xs.toList.map (·.1)=ns:=by
  have:=nums_intItems xs
  rw [<- e,show its.toArray.toList=its from rfl,hi.numsOf] at this
  exact this.symm
 refine sum_intListG (I.ok.hd hc) (by rw [<- e];exact pl.isList) fun h' tk t' hk=>?_
 rw [preSum_eq,take_of_length_le (by simp),en]
 exact ⟨.int ns.sum,H,I.kept hk,⟨_,rfl⟩,q⟩
theorem QM:MtR X "int.bit_length" (fun x xs H Q=>∃i:Int,x=.int i/\xs=[]/\Q (.int (Builtin.Int.intBits i:Nat)) H):=by
 intro pins s σ H x xs v us Q I rx rv h
 obtain ⟨i,rfl,rfl,q⟩:=h
 obtain ⟨t,rfl⟩:=rx
 cases rv
 exact call_int_bit_length ⟨.int _,H,I.tok _,⟨_,rfl⟩,q⟩
end
theorem HM {xs:List V} {j:Nat}:GH xs none (some (j:Int))=xs.take j:=by
 unfold GH
 rw [HT.sIx_none,HT.sIx_nat,drop_zero,Nat.sub_zero]
 by_cases h:j<=xs.length
 ·rw [Nat.min_eq_left h]
 ·rw [Nat.min_eq_right (by omega),take_of_length_le (Nat.le_refl _),take_of_length_le (by omega)]
end L2
namespace L2
open PySem PySem.Spec PyProof.Rows
section
variable {M:Model} {A:Around} {E:Value->Shared->Prop} {s:Shared} {env:Env} {outer:List Env} {L e:Addr} {base:Heap}
end
end L2
namespace L2
open PySem PySem.Spec PyProof.Rows
section
variable {X:Cx} {pins:List (Addr × Obj)} {σ:St} {H:Hp} {s:Shared} {e:Addr} {cls:Value} {od:Option Addr}
end
section
variable {X:Cx} {pins:List (Addr × Obj)} {σ:St} {H:Hp} {s s':Shared} {E:XK} {ev:Value}
end
section
variable {X:Cx} {W:St->XK} {k:Nat} {f:Addr} {fd:FuncData} {ps:List Str} {sp:Sp} {dvs:List V} {ds:List Value} {x:Str} {p pos:Pos} {e:Expr} {es:List Expr} {t:TA}
end
end L2
namespace L2
open PySem PySem.Spec PyProof.Rows
section
variable {X:Cx} {W:St->XK} {C:Addr} {x:Str} {p cpos pos:Pos} {e:Expr} {es:List Expr} {t:TA}
end
section
variable {X:Cx} {pins:List (Addr × Obj)} {σ:St} {H:Hp} {s:Shared} {e:Addr} {cls:Value} {od:Option Addr}
end
section
variable {X:Cx} {pins:List (Addr × Obj)} {σ:St} {H:Hp} {s:Shared} {e C:Addr} {cls:Value} {od:Option Addr} {x n:Str} {i:Nat} {np pos:Pos} {b₀:Stmt} {suite:List Stmt} {rest:List ExceptHandler} {ts:TS} {tr:TH}
end
end L2
namespace L2
open PySem PySem.Spec PyProof.Rows
section
variable {prog:Program} {w:World} {A:Around} {E:Value->Shared->Prop} {s:Shared} {K:PySem.W.Frag} {a C:Addr} {o:Obj} {od:Option Obj} {name:Str} {tk:Tok}
end
section
variable {X:Cx}
end
end L2
namespace L2
open PySem PySem.Spec PyProof.Rows
section
variable {X:Cx}
end
section
variable {K:PySem.W.Frag} {H H':Hp} {x:V} {b:Bool}
end
section
variable {K:PySem.W.Frag} {A B:Addr}
end
end L2
namespace L2
open PySem PySem.Spec PyProof.Rows
end L2
namespace L2
open PySem PySem.Spec PyProof.Rows
section
variable {prog:Program} {w:World} {A:Around} {E:Value->Shared->Prop} {s:Shared} {K:PySem.W.Frag} {C P f x:Addr} {ox:Obj} {od:Option Obj} {name:Str} {v:Value}
end
end L2
namespace L2
open PySem PySem.Spec PyProof.Rows
section
variable {prog:Program} {w:World} {A:Around} {E:Value->Shared->Prop} {h:Heap} {g:Array GenState} {d:Drawn} {t:Nat} {os:OsState}
variable {nm q:Str} {C N:Addr} {bs bm:List Value} {hd:Bool} {sn:List Str} {sub:List Value} {ab:Bool} {col:Option Bool} {dd:Option Addr} {k0 k1 k2 k3 k5:Option Value}
end
section
variable {X:Cx} {W:St->XK} {C P fi:Addr} {k:Nat} {fd:FuncData} {ps ns:List Str} {x:Str} {p cpos pos:Pos} {e:Expr} {es:List Expr} {t:TA}
end
end L2
namespace L2
open PySem PySem.Spec PyProof.Rows
mutual
inductive Rep (K:PySem.W.Frag) (H:Hp):V->PyData->Prop
 | non:Rep K H .non .none
 | bl (b:Bool):Rep K H (.bl b) (.bool b)
 | int (i:Int):Rep K H (.int i) (.int i)
 | str (x:Str):Rep K H (.str x) (.str x)
 | lst {a:Addr} {xs:List V} {ds:List PyData}:SqL K H a xs->Reps K H xs ds->Rep K H (.ref a) (.list ds)
 | tup {a:Addr} {xs:List V} {ds:List PyData}:SqT K H a xs->Reps K H xs ds->Rep K H (.ref a) (.tuple ds)
inductive Reps (K:PySem.W.Frag) (H:Hp):List V->List PyData->Prop
 | nil:Reps K H [] []
 | cons {x:V} {xs:List V} {d:PyData} {ds:List PyData}:Rep K H x d->Reps K H xs ds->Reps K H (x :: xs) (d :: ds)
end
section
variable {K:PySem.W.Frag} {H H':Hp}
mutual
theorem Rep.same (e:Au H H'):∀{x:V} {d:PyData},Rep K H x d->Rep K H' x d
 | _,_,.non=>.non
 | _,_,.bl b=>.bl b
 | _,_,.int i=>.int i
 | _,_,.str x=>.str x
 | _,_,.lst h r=>.lst (e.seq h) (Reps.same e r)
 | _,_,.tup h r=>.tup (by
  rcases h with (h | ⟨o,h⟩) | h
  ·exact .inl (.inl (e _ _ h))
  ·exact .inl (.inr ⟨o,e _ _ h⟩)
  ·exact .inr h) (Reps.same e r)
theorem Reps.same (e:Au H H'):∀{xs:List V} {ds:List PyData},Reps K H xs ds->Reps K H' xs ds
 | _,_,.nil=>.nil
 | _,_,.cons r t=>.cons (Rep.same e r) (Reps.same e t)
end
theorem Reps.ints:∀(ns:List Int),Reps K H (ns.map V.int) (ns.map PyData.int)
 | []=>.nil
 | n :: ns=>.cons (.int n) (Reps.ints ns)
end
section
variable {X:Cx} {pins:List (Addr × Obj)} {σ:St} {H:Hp} {s:Shared}
mutual
theorem Inv.reads (I:Inv X pins σ H s):∀{x:V} {d:PyData},Rep X.K H x d->∀{v:Value},AE x v->∃as,Reads s.heap v d as
 | _,_,.non,v,r=>by cases (show v=Value.none from r);exact ⟨_,.none⟩
 | _,_,.bl b,v,r=>by cases (show v=Value.bool b from r);exact ⟨_,.bool b⟩
 | _,_,.int i,v,r=>by obtain ⟨t,e⟩:=(show ∃t,v=Value.int i t from r);cases e;exact ⟨_,.int i t⟩
 | _,_,.str x,v,r=>by obtain ⟨t,e⟩:=(show ∃t,v=Value.str x t from r);cases e;exact ⟨_,.str x t⟩
 | _,_,.lst (a:=a) h rs,v,r=>by
   cases (show v=Value.ref a from r)
   obtain ⟨its,rv,⟨o,n,e1,e2,_,e4⟩,_⟩:=I.list h
   obtain ⟨as,q⟩:=Inv.readsAll I rs rv
   exact ⟨_,.list e1 e2 e4 q⟩
 | _,_,.tup (a:=a) h rs,v,r=>by
   cases (show v=Value.ref a from r)
   obtain ⟨its,rv,⟨o,e1,e2,n,e4⟩,_⟩:=I.tuple h
   obtain ⟨as,q⟩:=Inv.readsAll I rs rv
   exact ⟨_,.tuple e1 e2 e4 q⟩
theorem Inv.readsAll (I:Inv X pins σ H s):∀{xs:List V} {ds:List PyData},Reps X.K H xs ds->∀{vs:List Value},A9 xs vs->∃as,ReadsAll s.heap vs ds as
 | _,_,.nil,_,.nil=>⟨_,.nil⟩
 | _,_,.cons r t,_,.cons q u=>by
   obtain ⟨a1,h1⟩:=Inv.reads I r q
   obtain ⟨a2,h2⟩:=Inv.readsAll I t u
   exact ⟨_,.cons h1 h2⟩
end
def TN (K:PySem.W.Frag):R2:=fun x y H Q=>∃d e,Rep K H x d/\Rep K H y e/\PySem.SeqAt.shaped d=true/\PySem.SeqAt.shaped e=true/\Q (.bl (PyData.eqv d e)) H
def TV (K:PySem.W.Frag):R2:=fun x y H Q=>∃d e,Rep K H x d/\Rep K H y e/\PySem.SeqAt.shaped d=true/\PySem.SeqAt.shaped e=true/\Q (.bl (!PyData.eqv d e)) H
theorem Fp {K:PySem.W.Frag} (hu:X.A.units+64 < cLine) (hK:X.K=K:=by rfl):OpR X (compareOp .Eq) (TN K):=by
 subst hK
 intro pins s σ H x y v u Q I rx ry h
 obtain ⟨d,e,hx,hy,s1,s2,q⟩:=h
 obtain ⟨as,r1⟩:=I.reads hx rx
 obtain ⟨bs,r2⟩:=I.reads hy ry
 exact eq_dataH r1 r2 s1 s2 hu ⟨.bl _,H,I,rfl,q⟩
theorem Sm {K:PySem.W.Frag} (hu:X.A.units+64 < cLine) (hK:X.K=K:=by rfl):OpR X (compareOp .NotEq) (TV K):=by
 subst hK
 intro pins s σ H x y v u Q I rx ry h
 obtain ⟨d,e,hx,hy,s1,s2,q⟩:=h
 obtain ⟨as,r1⟩:=I.reads hx rx
 obtain ⟨bs,r2⟩:=I.reads hy ry
 exact ne_dataH r1 r2 s1 s2 hu ⟨.bl _,H,I,rfl,q⟩
end
end L2
namespace L2
open PySem PySem.Spec PyProof.Rows
theorem NZ:typeLookup (.type "list_reverseiterator") "__len__"=pure none:=by rw [typeLookup_type,builtinLookup_eq_fast];kernel_rfl
theorem Qp:typeLookup (.type "list_reverseiterator") "__length_hint__"=pure (some (.builtin "list_reverseiterator.__length_hint__")):=by rw [typeLookup_type,builtinLookup_eq_fast];kernel_rfl
section
variable {prog:Program} {w:World} {A:Around} {E:Value->Shared->Prop} {s:Shared}
theorem Qu {I:Addr} {Q:Bool->Shared->Prop} (hT:s.TypeIs (.ref I) "list_reverseiterator") (h:Q false s):wpAny (model prog w) A (Builtin.List.listLengthHint (.ref I)) Q E s:=by
 unfold Builtin.List.listLengthHint
 refine wpAny_bind (wpAny_specialOf hT NZ ?_)
 show wpAny _ A (specialOf (Value.ref I) (Str.ofString "__length_hint__") >>= _) _ _ _
 refine wpAny_bind (wpAny_specialOf hT Qp ?_)
 generalize hid:("list_reverseiterator.__length_hint__":String)=id0
 wp_delta
 rw [show splitId id0=some ("list_reverseiterator","__length_hint__") from by subst hid;decide +kernel]
 subst hid
 refine wpAny_bind (wpAny_isInstance (b:=true) hT (by rw [isSubtype_type];kernel_rfl) ?_)
 exact wpAny_pure h
theorem Oa {items acc:Array Value} (h:ItemsOf (fun i v=>items[items.size - 1 - i]?=some v) acc items.size):acc=items.toList.reverse.toArray:=by
 obtain ⟨h1,h2⟩:=h
 apply Array.ext
 ·simpa using h1
 ·intro i hi hj
  have e:items[items.size - 1 - i]?=some acc[i]:=h2 i acc[i] (by simp [hi])
  have hi':i < items.size:=by omega
  rw [Array.getElem?_eq_getElem (by omega)] at e
  simp only [getElem_toArray,getElem_reverse,Array.getElem_toList,Array.length_toList]
  exact (Option.some.inj e).symm
theorem LJ {I l S:Addr} {items:Array Value} {R:Result->Shared->Prop} {c₀:Nat} (hh:A.handled=none) (hne:l≠I) (hit:s.heap.IsRevIter I l ((items.size:Int) - 1)) (hl:s.heap.IsList l items)
 (hSI:S≠I) (hSl:S≠l) (hz:items.size<=sizeLine) (hS:s.heap.get? S=some { cls:=.type "list",data:=.seq #[] c₀ })
 (hR:∀s' c',Moved [S,I] (fun a b=>b=a) s s'->s'.heap.get? S=some { cls:=.type "list",dict:=none,data:=.seq items.toList.reverse.toArray c',slots:=#[] }->R (.ok (.ret .none)) s') :
 wpAny (model prog w) A.in1 (Builtin.List.listExtendWith (.ref S) (.ref I) .none)
  (fun fin s'=>match fin with | .done f=>R (.ok f) s' | .again c'=>c'.quiet=true/\codeAny (model prog w) A c' R s') (fun e s'=>R (.error e) s') s:=by
 have W:=(Walks.listRev (prog:=prog) (w:=w) (A:=A.in1) hh I l hne items).toS
 have st:(0:Nat)<=items.size/\s.heap.IsRevIter I l ((items.size:Int) - 1 - ((0:Nat):Int))/\s.heap.IsList l items:=⟨Nat.zero_le _,by simpa using hit,hl⟩
 have hT:=hit.typeIs
 unfold Builtin.List.listExtendWith
 refine wpAny_bind (wpAny_typeOf hT ?_)
 have h1:Builtin.List.listSameRef (.ref S) (.ref I)=false:=by simp [Builtin.List.listSameRef,hSI]
 rw [if_neg (by rw [h1];decide)]
 refine wpAny_bind (wpAny_pyIter_revIter hit ?_)
 refine wpAny_bind (wpAny_holding (Qu hT ?_))
 rw [if_neg (by decide)]
 refine wpAny_pure ⟨plainId_quiet F.plain_extend_loop _,codeAny_extend_loopS W hz S (by simp [hSI,hSl]) .none items.size 0 _ _ _ rfl (Nat.zero_le _) st hS (ItemsOf.nil _) fun s' acc c' hm hS' hacc=>?_⟩
 rw [Oa hacc] at hS'
 exact hR s' c' hm hS'
theorem Iu {I l:Addr} {items:Array Value} {Q:Value->Shared->Prop} (hh:A.handled=none) (hne:l≠I) (hit:s.heap.IsRevIter I l ((items.size:Int) - 1)) (hl:s.heap.IsList l items) (hz:items.size<=sizeLine)
 (hQ:∀h' tk c',(∀b o,b≠I->s.heap.get? b=some o->h'.get? b=some o)->h'.get? s.heap.objs.size=some { cls:=.type "list",dict:=none,data:=.seq items.toList.reverse.toArray c',slots:=#[] } ->
  Q (.ref s.heap.objs.size) { s with heap:=h',toks:=tk }):wpAny (model prog w) A (call (.type "list") [.ref I]) Q E s:=by
 refine callType_codes (Q₁:=fun obj s₁=>obj=.ref s.heap.objs.size/\s₁={ s with heap:=s.heap.push { cls:=.type "list",data:=.seq #[] } }) F.called_list (F.typeCall_list_1 _) F.entry_list_init (code_list_new _ ⟨rfl,rfl⟩) ?_
 rintro obj s₁ ⟨rfl,rfl⟩
 have hS:(s.heap.push { cls:=.type "list",data:=.seq #[] }).get? s.heap.objs.size=some { cls:=.type "list",data:=.seq #[] }:=Heap.get?_push_size _ rfl
 refine ⟨⟨_,hS,rfl⟩,F.args_list_init_2 _ _,?_⟩
 have lI:I < s.heap.objs.size:=by obtain ⟨o,ho,_⟩:=hit;exact Heap.lt_size ho
 have ll:l < s.heap.objs.size:=by obtain ⟨o,ho,_⟩:=hl;exact Heap.lt_size ho
 show wpAny _ A.in1.in1 (do let old <- Builtin.List.listItems (.ref s.heap.objs.size);Builtin.List.listUpdate (.ref s.heap.objs.size) (fun _=>#[]);letGo old.toList.reverse;Builtin.List.listExtendWith (.ref s.heap.objs.size) (.ref I) .none) _ _ _
 refine wpAny_bind ?_
 unfold Builtin.List.listItems
 refine wpAny_bind (wpAny_seqItems hS rfl (wpAny_pure ?_))
 show wpAny _ A.in1.in1 (updateSeq s.heap.objs.size (fun _=>#[]) >>= fun _=>letGo (#[]:Array Value).toList.reverse >>= fun _=>Builtin.List.listExtendWith (.ref s.heap.objs.size) (.ref I) .none) _ _ _
 refine wpAny_bind (wpAny_updateSeq hS rfl ?_)
 have hS₂:=Heap.get?_update_self (Obj.mapSeq (fun _=>(#[]:Array Value))) hS rfl
 have oth:∀b o,s.heap.get? b=some o->((s.heap.push { cls:=.type "list",data:=.seq #[] }).update s.heap.objs.size (Obj.mapSeq (fun _=>(#[]:Array Value)))).get? b=some o :=
  fun b o e=>(Heap.get?_update_other _ _ (Ne.symm (Nat.ne_of_lt (Heap.lt_size e)))).trans (Heap.get?_push_of_some _ e)
 refine wpAny_bind (wpAny_letGo ?_)
 refine LJ (A:=A.in1) hh hne (hit.at (oth I)) (hl.at (oth l)) (Ne.symm (Nat.ne_of_lt lI)) (Ne.symm (Nat.ne_of_lt ll)) hz hS₂ fun s' c' hm hS'=>?_
 refine ⟨rfl,?_⟩
 rw [Moved.eq_with hm]
 exact hQ s'.heap s'.toks c' (fun b o hb e=>hm.heap b o (by simp [hb,Nat.ne_of_lt (Heap.lt_size e)]) (oth b o e)) hS'
end
section
variable {X:Cx} {e:Expr} {te:TE} {p p2 pos pos2:Pos}
def TY (K:PySem.W.Frag) (te:TE):TE:=fun σ H Q=>te σ H fun x H1=>∃a ys,x=.ref a/\SqL K H1 a ys/\∀l,H1 l=none->Q (.ref l) (upd H1 l (.lst ys.reverse))
theorem LT (hc:X.calm=true) (hg:Gl X "list") (hm:X.mg "list"=none) (hg2:Gl X "reversed") (hm2:X.mg "reversed"=none) (he:PE X e te)
 (hs:starEach [e] X.env=[(false,eval e X.env)]:=by rfl)
 (hs2:starEach [(.Call (.Name "reversed" p2) [e] [] pos2:Expr)] X.env=[(false,eval (.Call (.Name "reversed" p2) [e] [] pos2) X.env)]:=by rfl) :
 PE X (.Call (.Name "list" p) [.Call (.Name "reversed" p2) [e] [] pos2] [] pos) (TY X.K te):=by
 intro pins s σ H Q I h
 refine wpAny_Call_Name_kw (DU I hg hm boot_list ?_ (by decide) (by decide))
 refine callWith_type1 ?_ hs2 rfl
 rw [hs2]
 refine Calls.spliced_cons ?_
 refine wpAny_Call_Name_kw (DU I hg2 hm2 boot_reversed ?_ (by decide) (by decide))
 refine callWith_type1 ?_ hs rfl
 rw [hs]
 refine Calls.spliced_cons (thn (he pins s σ H _ I h) fun u s1 ⟨x,H1,I1,r1,a,ys,hx,hq,q⟩=>?_)
 subst hx
 cases r1
 refine Calls.spliced_nil ?_
 obtain ⟨its,rv,pl,hz⟩:=I1.list hq
 have hl:=pl.isList
 have hlen:=rv.length
 refine call_reversed_list hl ?_
 refine Calls.spliced_nil ?_
 have la:a < s1.heap.objs.size:=by obtain ⟨o,ho,_⟩:=hl;exact Heap.lt_size ho
 refine Iu (items:=its.toArray) (I1.ok.hd hc) (Nat.ne_of_lt la) ⟨_,Heap.get?_push_size _ rfl,rfl,rfl⟩ (hl.at fun o e=>Heap.get?_push_of_some _ e) (by simp only [size_toArray];omega) fun h' tk c' kp eS=>?_
 have kp':∀b o,s1.heap.get? b=some o->h'.get? b=some o:=fun b o e=>kp b o (Nat.ne_of_lt (Heap.lt_size e)) (Heap.get?_push_of_some _ e)
 have hp:s1.heap.objs.size<=(s1.heap.push (revObj a ((its.toArray.size:Int) - 1))).objs.size:=by simp [Heap.push]
 refine ⟨.ref _,_,I1.laid (t':=tk) kp' hp (show AN X.prog X.w _ h' _ (.lst ys.reverse) from ⟨by simpa using hz,its.reverse,c',rv.reverse,by simpa using eS⟩),rfl,q _ (I1.hok.fresh hp)⟩
end
end L2
namespace L2
open PySem PySem.W PySem.Spec PyProof.Rows
section
variable {O:KeyOrd} {ky:Nat->O.α} {n:Nat} {cmp:Nat->Nat->(Bool->Shared->Prop)->Shared->Prop} {J:Shared->Prop}
def kk (ky:Nat->O.α) (p:Array Nat) (i:Nat):O.α:=ky (p.getD i 0)
def Srt (ky:Nat->O.α) (p:Array Nat) (m:Nat):Prop:=∀i j,i<=j->j < m->O.kle (kk ky p i) (kk ky p j)
def Fal (ky:Nat->O.α) (p:Array Nat) (m:Nat):Prop:=∀i j,i<=j->j < m->O.kle (kk ky p j) (kk ky p i)
def Prm (n:Nat) (p:Array Nat):Prop:=p.toList.Perm (List.range n)
def Js (O:KeyOrd) (ky:Nat->O.α) (n:Nat) (cmp:Nat->Nat->(Bool->Shared->Prop)->Shared->Prop) (J:Shared->Prop):Prop :=
 ∀i j (C:Bool->Shared->Prop) s,i < n->j < n->J s->(∀s',J s'->C (O.blt (ky i) (ky j)) s')->cmp i j C s
theorem Prm.size {p:Array Nat} (h:Prm n p):p.size=n:=by
 have:=h.length_eq
 rw [length_range] at this
 exact this
theorem Prm.lt {p:Array Nat} (h:Prm n p) {k:Nat} (hk:k < n):p.getD k 0 < n:=by
 have hz:=h.size
 have e:p.getD k 0=p[k]'(by omega):=by simp [Array.getD,hz,hk]
 rw [e]
 exact mem_range.mp (h.mem_iff.mp (by simp))
theorem Prm.rev {p:Array Nat} (h:Prm n p) (i j:Nat):Prm n (kas_rev p i j):=(mirror_perm p i j _).toList.trans h
theorem Prm.bub {p:Array Nat} (h:Prm n p) (k d:Nat):Prm n (bubble p k d):=(bubble_perm p k d).toList.trans h
theorem FC {p q:Array Nat} {i j:Nat} (e:p[i]?=q[j]?):p.getD i 0=q.getD j 0:=by
 rw [Array.getD_eq_getD_getElem?,Array.getD_eq_getD_getElem?,e]
theorem Gv {p:Array Nat} {i j:Nat} (hj:j<=p.size) (k:Nat):kk ky (kas_rev p i j) k=if i<=k/\k < j then kk ky p (i+j - 1 - k) else kk ky p k:=by
 have e:=getElem?_mirror_all (xs:=p) (i:=i) hj k
 unfold kk kas_rev
 by_cases c:i<=k/\k < j
 ·rw [if_pos c] at e ⊢
  rw [FC e]
 ·rw [if_neg c] at e ⊢
  rw [FC e]
theorem ON {p:Array Nat} {src d:Nat} (hs:src < p.size) (hd:d<=src) (k:Nat) :
 kk ky (bubble p src d) k=if k=src - d then kk ky p src else if src - d < k/\k<=src then kk ky p (k - 1) else kk ky p k:=by
 have e:=getElem?_bubble hs d hd k
 unfold kk
 by_cases c:k=src - d
 ·rw [if_pos c] at e ⊢
  rw [FC e]
 ·rw [if_neg c] at e ⊢
  by_cases c2:src - d < k/\k<=src
  ·rw [if_pos c2] at e ⊢
   rw [FC e]
  ·rw [if_neg c2] at e ⊢
   rw [FC e]
theorem Srt.succ {p:Array Nat} {m:Nat} (h:Srt ky p m) (h1:1<=m) (c:O.kle (kk ky p (m - 1)) (kk ky p m)):Srt ky p (m+1):=fun i j hij hj=>by
 by_cases e:j=m
 ·subst e
  by_cases e2:i=j
  ·subst e2
   exact KeyOrd.kle_refl _
  ·exact KeyOrd.kle_trans (h i (j - 1) (by omega) (by omega)) c
 ·exact h i j hij (by omega)
theorem Fal.succ {p:Array Nat} {m:Nat} (h:Fal ky p m) (h1:1<=m) (c:O.kle (kk ky p m) (kk ky p (m - 1))):Fal ky p (m+1):=fun i j hij hj=>by
 by_cases e:j=m
 ·subst e
  by_cases e2:i=j
  ·subst e2
   exact KeyOrd.kle_refl _
  ·exact KeyOrd.kle_trans c (h i (j - 1) (by omega) (by omega))
 ·exact h i j hij (by omega)
theorem Srt.one {p:Array Nat}:Srt ky p 1:=fun i j hij hj=>by
 have:i=j:=by omega
 subst this
 exact KeyOrd.kle_refl _
theorem Fal.rev {p:Array Nat} {m:Nat} (hz:m<=p.size) (h:Fal ky p m):Srt ky (kas_rev p 0 m) m:=fun i j hij hj=>by
 rw [Gv hz,Gv hz,if_pos ⟨Nat.zero_le _,by omega⟩,if_pos ⟨Nat.zero_le _,hj⟩]
 exact h _ _ (by omega) (by omega)
theorem Fal.revEq {p:Array Nat} {i j m:Nat} (hz:j<=p.size) (hm:j<=m) (h:Fal ky p m) (eq:∀a b,i<=a->a < j->i<=b->b < j->O.kle (kk ky p a) (kk ky p b)):Fal ky (kas_rev p i j) m:=fun a b hab hb=>by
 rw [Gv hz,Gv hz]
 by_cases c1:i<=a/\a < j
 ·rw [if_pos c1]
  by_cases c2:i<=b/\b < j
  ·rw [if_pos c2]
   exact eq _ _ (by omega) (by omega) (by omega) (by omega)
  ·rw [if_neg c2]
   exact h _ _ (by omega) hb
 ·rw [if_neg c1]
  by_cases c2:i<=b/\b < j
  ·rw [if_pos c2]
   exact h _ _ (by omega) (by omega)
  ·rw [if_neg c2]
   exact h _ _ hab hb
theorem Mf (ac:Js O ky n cmp J) {p:Array Nat} (hp:Prm n p) {R:Nat->Shared->Prop}:∀(f a:Nat) (s:Shared),1<=a->a+f<=n->Srt ky p a->J s ->
 (∀m s',a<=m->m<=a+f->Srt ky p m->(m < a+f->O.klt (kk ky p m) (kk ky p (m - 1)))->J s'->R m s')->(kas_asc p f a).kasWp cmp R s
 | 0,a,s,h1,hz,hs,hJ,k=>k a s (Nat.le_refl _) (Nat.le_refl _) hs (fun h=>absurd h (Nat.lt_irrefl _)) hJ
 | f+1,a,s,h1,hz,hs,hJ,k=>by
   refine ac _ _ _ s (hp.lt (by omega)) (hp.lt (by omega)) hJ fun s' hJ'=>?_
   cases e:O.blt (ky (p.getD a 0)) (ky (p.getD (a - 1) 0)) with
   | true =>
     dsimp only
     rw [if_pos rfl]
     exact k a s' (Nat.le_refl _) (by omega) hs (fun _=>e) hJ'
   | false =>
     dsimp only
     rw [if_neg Bool.false_ne_true]
     refine Mf ac hp f (a+1) s' (by omega) (by omega) (hs.succ h1 e) hJ' fun m s2 l1 l2 q1 q2 q3=>?_
     exact k m s2 (by omega) (by omega) q1 (fun h=>q2 (by omega)) q3
theorem GW (ac:Js O ky n cmp J) {R:Array Nat × Nat × Nat->Shared->Prop}:∀(f:Nat) (p:Array Nat) (m q:Nat) (s:Shared),Prm n p->q+1<=m->m+f<=n->Fal ky p m ->
 (∀a b,m - (q+1)<=a->a < m->m - (q+1)<=b->b < m->O.kle (kk ky p a) (kk ky p b))->J s ->
 (∀p' m' q' s',Prm n p'->q'+1<=m'->m<=m'->m'<=m+f->Fal ky p' m'->(∀a b,m' - (q'+1)<=a->a < m'->m' - (q'+1)<=b->b < m'->O.kle (kk ky p' a) (kk ky p' b))->J s'->R (p',m',q') s') ->
 (kas_desc f p m q).kasWp cmp R s
 | 0,p,m,q,s,hp,hq,hz,hf,he,hJ,k=>k p m q s hp hq (Nat.le_refl _) (Nat.le_refl _) hf he hJ
 | f+1,p,m,q,s,hp,hq,hz,hf,he,hJ,k=>by
   have hsz:=hp.size
   refine ac _ _ _ s (hp.lt (by omega)) (hp.lt (by omega)) hJ fun s' hJ'=>?_
   cases e:O.blt (ky (p.getD m 0)) (ky (p.getD (m - 1) 0)) with
   | true =>
     dsimp only
     rw [if_pos rfl]
     have hf':Fal ky p (m+1):=hf.succ (by omega) (KeyOrd.kle_of_klt e)
     have one:∀p':Array Nat,∀a b,m+1 - (0+1)<=a->a < m+1->m+1 - (0+1)<=b->b < m+1->O.kle (kk ky p' a) (kk ky p' b):=fun p' a b _ _ _ _=>by
      have:a=b:=by omega
      subst this
      exact KeyOrd.kle_refl _
     by_cases c:q > 0
     ·rw [if_pos c]
      refine GW ac f (kas_rev p (m - (q+1)) m) (m+1) 0 s' (hp.rev _ _) (by omega) (by omega) (hf'.revEq (by omega) (by omega) he) (one _) hJ' fun p' m' q' s2 a1 a2 a3 a4 a5 a6 a7=>?_
      exact k p' m' q' s2 a1 a2 (by omega) (by omega) a5 a6 a7
     ·rw [if_neg c]
      refine GW ac f p (m+1) 0 s' hp (by omega) (by omega) hf' (one _) hJ' fun p' m' q' s2 a1 a2 a3 a4 a5 a6 a7=>?_
      exact k p' m' q' s2 a1 a2 (by omega) (by omega) a5 a6 a7
   | false =>
     dsimp only
     rw [if_neg Bool.false_ne_true]
     refine ac _ _ _ s' (hp.lt (by omega)) (hp.lt (by omega)) hJ' fun s2 hJ2=>?_
     cases e2:O.blt (ky (p.getD (m - 1) 0)) (ky (p.getD m 0)) with
     | true =>
       dsimp only
       rw [if_pos rfl]
       exact k p m q s2 hp hq (Nat.le_refl _) (by omega) hf he hJ2
     | false =>
       dsimp only
       rw [if_neg Bool.false_ne_true]
       have g1:O.kle (kk ky p (m - 1)) (kk ky p m):=e
       have g2:O.kle (kk ky p m) (kk ky p (m - 1)):=e2
       refine GW ac f p (m+1) (q+1) s2 hp (by omega) (by omega) (hf.succ (by omega) g2) (fun a b a1 a2 b1 b2=>?_) hJ2 fun p' m' q' s3 c1 c2 c3 c4 c5 c6 c7=>?_
       ·by_cases ea:a=m
        ·by_cases eb:b=m
         ·rw [ea,eb]
          exact KeyOrd.kle_refl _
         ·rw [ea]
          exact KeyOrd.kle_trans g2 (he (m - 1) b (by omega) (by omega) (by omega) (by omega))
        ·by_cases eb:b=m
         ·rw [eb]
          exact KeyOrd.kle_trans (he a (m - 1) (by omega) (by omega) (by omega) (by omega)) g1
         ·exact he a b (by omega) (by omega) (by omega) (by omega)
       ·exact k p' m' q' s3 c1 c2 (by omega) (by omega) c5 c6 c7
theorem Lg (ac:Js O ky n cmp J) {p:Array Nat} (hp:Prm n p) {m nrem:Nat} {R:Nat × Array Nat->Shared->Prop} {s:Shared} (h1:1<=m) (h2:m<=nrem) (h3:nrem<=n) (hf:Fal ky p m) (hJ:J s)
 (k:∀m' p' s',1<=m'->m'<=nrem->Prm n p'->Srt ky p' m'->J s'->R (m',p') s'):(kas_tail3 m nrem p).kasWp cmp R s:=by
 have hsz:=hp.size
 unfold kas_tail3
 rw [KasT.kasWp_bind]
 refine Mf ac (hp.rev 0 m) (nrem - m) m s h1 (by omega) (hf.rev (by omega)) hJ fun m' s' a1 a2 a3 _ a5=>?_
 exact k m' _ s' (by omega) (by omega) (hp.rev _ _) a3 a5
theorem GC (ac:Js O ky n cmp J) {p:Array Nat} (hp:Prm n p) {m nrem:Nat} {R:Nat × Array Nat->Shared->Prop} {s:Shared} (h2:m+1<=nrem) (h3:nrem<=n) (hf:Fal ky p (m+1)) (hJ:J s)
 (k:∀m' p' s',1<=m'->m'<=nrem->Prm n p'->Srt ky p' m'->J s'->R (m',p') s'):(kas_descPart m nrem p).kasWp cmp R s:=by
 unfold kas_descPart
 rw [KasT.kasWp_bind]
 refine GW ac (nrem - (m+1)) p (m+1) 0 s hp (by omega) (by omega) hf (fun a b _ _ _ _=>?_) hJ fun p' m' q' s' a1 a2 a3 a4 a5 a6 a7=>?_
 ·have:a=b:=by omega
  subst this
  exact KeyOrd.kle_refl _
 ·have hsz:=a1.size
  dsimp only
  by_cases c:q' > 0
  ·rw [if_pos c]
   exact Lg ac (a1.rev _ _) (by omega) (by omega) h3 (a5.revEq (by omega) (Nat.le_refl _) a6) a7 k
  ·rw [if_neg c]
   exact Lg ac a1 (by omega) (by omega) h3 a5 a7 k
theorem Ou (ac:Js O ky n cmp J) {p:Array Nat} (hp:Prm n p) {R:Nat × Array Nat->Shared->Prop} {s:Shared} (h1:1<=n) (hJ:J s)
 (k:∀m' p' s',1<=m'->m'<=n->Prm n p'->Srt ky p' m'->J s'->R (m',p') s'):(kas_count n p).kasWp cmp R s:=by
 have hsz:=hp.size
 unfold kas_count
 rw [KasT.kasWp_bind]
 refine Mf ac hp (n - 1) 1 s (Nat.le_refl _) (by omega) Srt.one hJ fun m s' a1 a2 a3 a4 a5=>?_
 by_cases c:m=n
 ·rw [if_pos (by simpa using c)]
  exact k m p s' a1 (by omega) hp a3 a5
 ·rw [if_neg (by simpa using c)]
  have lt:=a4 (by omega)
  by_cases c1:m > 1
  ·rw [if_pos c1]
   refine ac _ _ _ s' (hp.lt (by omega)) (hp.lt (by omega)) a5 fun s2 hJ2=>?_
   cases e:O.blt (ky (p.getD 0 0)) (ky (p.getD (m - 1) 0)) with
   | true =>
     dsimp only
     rw [if_pos rfl]
     exact k m p s2 a1 (by omega) hp a3 hJ2
   | false =>
     dsimp only
     rw [if_neg Bool.false_ne_true]
     have g:O.kle (kk ky p (m - 1)) (kk ky p 0):=e
     have eq:∀a b,a < m->b < m->O.kle (kk ky p a) (kk ky p b):=fun a b ha hb =>
      KeyOrd.kle_trans (a3 a (m - 1) (by omega) (by omega)) (KeyOrd.kle_trans g (a3 0 b (by omega) hb))
     refine GC ac (hp.rev 0 m) (by omega) (Nat.le_refl _) ?_ hJ2 k
     intro i j hij hj
     rw [Gv (by omega),Gv (by omega)]
     by_cases cj:j < m
     ·rw [if_pos ⟨Nat.zero_le _,cj⟩,if_pos ⟨Nat.zero_le _,by omega⟩]
      exact eq _ _ (by omega) (by omega)
     ·have ej:j=m:=by omega
      subst ej
      rw [if_neg (by omega)]
      by_cases ci:i < j
      ·rw [if_pos ⟨Nat.zero_le _,ci⟩]
       exact KeyOrd.kle_trans (KeyOrd.kle_of_klt lt) (eq _ _ (by omega) (by omega))
      ·rw [if_neg (by omega)]
       have:i=j:=by omega
       subst this
       exact KeyOrd.kle_refl _
  ·rw [if_neg c1]
   have em:m=1:=by omega
   subst em
   refine GC ac hp (by omega) (Nat.le_refl _) ?_ a5 k
   have f1:Fal ky p 1:=fun i j hij hj=>by
    have:i=j:=by omega
    subst this
    exact KeyOrd.kle_refl _
   exact f1.succ (Nat.le_refl _) (KeyOrd.kle_of_klt lt)
theorem Hq (ac:Js O ky n cmp J) {p:Array Nat} (hp:Prm n p) {t:Nat} (ht:t < n) {R:Nat->Shared->Prop}:∀(f l r:Nat) (s:Shared),l<=r->r<=t->r - l<=f->(∀i,i < l->O.kle (kk ky p i) (kk ky p t))->(∀i,r<=i->i < t->O.klt (kk ky p t) (kk ky p i)) ->
 Srt ky p t->J s->(∀l' s',l'<=t->(∀i,i < l'->O.kle (kk ky p i) (kk ky p t))->(∀i,l'<=i->i < t->O.klt (kk ky p t) (kk ky p i))->J s'->R l' s')->(kas_place p t f l r).kasWp cmp R s
 | 0,l,r,s,h1,h2,h3,h4,h5,_,hJ,k=>k l s (by omega) h4 (fun i a b=>h5 i (by omega) b) hJ
 | f+1,l,r,s,h1,h2,h3,h4,h5,hs,hJ,k=>by
   unfold kas_place
   by_cases c:l>=r
   ·rw [if_pos c]
    exact k l s (by omega) h4 (fun i a b=>h5 i (by omega) b) hJ
   ·rw [if_neg c]
    refine ac _ _ _ s (hp.lt ht) (hp.lt (by omega)) hJ fun s' hJ'=>?_
    cases e:O.blt (ky (p.getD t 0)) (ky (p.getD ((l+r) / 2) 0)) with
    | true =>
      dsimp only
      rw [if_pos rfl]
      have g:O.klt (kk ky p t) (kk ky p ((l+r) / 2)):=e
      exact Hq ac hp ht f l ((l+r) / 2) s' (by omega) (by omega) (by omega) h4 (fun i a b=>KeyOrd.klt_of_klt_of_kle g (hs _ _ a b)) hs hJ' k
    | false =>
      dsimp only
      rw [if_neg Bool.false_ne_true]
      have g:O.kle (kk ky p ((l+r) / 2)) (kk ky p t):=e
      exact Hq ac hp ht f ((l+r) / 2+1) r s' (by omega) h2 (by omega) (fun i a=>KeyOrd.kle_trans (hs i ((l+r) / 2) (by omega) (by omega)) g) h5 hs hJ' k
theorem Qk (ac:Js O ky n cmp J) {R:Array Nat->Shared->Prop}:∀(f:Nat) (p:Array Nat) (t:Nat) (s:Shared),Prm n p->t+f=n->Srt ky p t->J s->(∀p' s',Prm n p'->Srt ky p' n->J s'->R p' s')->(kas_bin f p t).kasWp cmp R s
 | 0,p,t,s,hp,hz,hs,hJ,k=>k p s hp (by have:t=n:=by omega
                                       subst this;exact hs) hJ
 | f+1,p,t,s,hp,hz,hs,hJ,k=>by
   have hsz:=hp.size
   unfold kas_bin
   rw [KasT.kasWp_bind]
   refine Hq ac hp (by omega) t 0 t s (Nat.zero_le _) (Nat.le_refl _) (by omega) (fun i h=>absurd h (Nat.not_lt_zero _)) (fun i a b=>absurd b (by omega)) hs hJ fun l s' a1 a2 a3 hJ'=>?_
   refine Qk ac f (bubble p t (t - l)) (t+1) s' (hp.bub _ _) (by omega) ?_ hJ' k
   intro i j hij hj
   have el:t - (t - l)=l:=by omega
   rw [ON (by omega) (by omega),ON (by omega) (by omega),el]
   by_cases ci:i=l
   ·rw [if_pos ci]
    by_cases cj:j=l
    ·rw [if_pos cj]
     exact KeyOrd.kle_refl _
    ·rw [if_neg cj,if_pos ⟨by omega,by omega⟩]
     exact KeyOrd.kle_of_klt (a3 _ (by omega) (by omega))
   ·rw [if_neg ci]
    by_cases ci2:l < i/\i<=t
    ·rw [if_pos ci2,if_neg (by omega),if_pos ⟨by omega,by omega⟩]
     exact hs _ _ (by omega) (by omega)
    ·rw [if_neg ci2]
     by_cases cj:j=l
     ·rw [if_pos cj]
      exact a2 _ (by omega)
     ·rw [if_neg cj]
      by_cases cj2:l < j/\j<=t
      ·rw [if_pos cj2]
       exact hs _ _ (by omega) (by omega)
      ·rw [if_neg cj2]
       exact hs _ _ hij (by omega)
theorem Ru (ac:Js O ky n cmp J) {R:Array Nat->Shared->Prop} {s:Shared} (h1:1<=n) (hJ:J s) (k:∀p s',Prm n p->Srt ky p n->J s'->R p s'):(kas_sort n).kasWp cmp R s:=by
 unfold kas_sort
 rw [KasT.kasWp_bind]
 refine Ou ac (List.Perm.refl _) h1 hJ fun m p s' a1 a2 a3 a4 a5=>?_
 dsimp only
 by_cases c:m < n
 ·rw [if_pos c]
  have e:max m 1=m:=by omega
  rw [e]
  exact Qk ac (n - m) p m s' a3 (by omega) a4 a5 k
 ·rw [if_neg c]
  have e:m=n:=by omega
  subst e
  exact k p s' a3 a4 a5
end
end L2
namespace L2
open PySem PySem.W PySem.Spec PyProof.Rows
theorem Ep:∀a b:List Int,HT.lexLt a b=decide (a < b)
 | [],[]=>by simp [HT.lexLt]
 | [],_ :: _=>by simp [HT.lexLt]
 | _ :: _,[]=>by simp [HT.lexLt]
 | x :: xs,y :: ys=>by
   rw [HT.lexLt_cons,Ep xs ys]
   by_cases e:x=y
   ·subst e
    rw [if_pos rfl]
    simp [cons_lt_cons_iff]
   ·rw [if_neg e]
    simp [cons_lt_cons_iff,e]
def RD:KeyOrd where
 α:=List Int
 blt a b:=HT.lexLt a b
 irrefl a:=by rw [Ep];simpa using List.lt_irrefl a
 trans a b c h1 h2:=by
  rw [Ep] at *
  simp only [decide_eq_true_eq] at *
  exact List.lt_trans h1 h2
 negTrans a b c h:=by
  rw [Ep] at h
  rw [Ep,Ep]
  simp only [decide_eq_true_eq] at *
  by_cases hab:a < b
  ·exact .inl hab
  ·exact .inr (List.lt_of_le_of_lt (List.not_lt.mp hab) h)
 total a b h1 h2:=by
  rw [Ep] at *
  simp only [decide_eq_false_iff_not] at *
  exact List.le_antisymm (List.not_lt.mp h2) (List.not_lt.mp h1)
def E7 (h:Heap) (v:Value) (ns:List Int):Prop:=∃a its,v=.ref a/\IsTup h a its/\IntsAre its.toList ns
section
variable {prog:Program} {w:World} {A:Around} {E:Value->Shared->Prop} {s:Shared} {Q:Bool->Shared->Prop}
theorem Nk {fin bb:Bool}:∀{vs us:List Value} {ns ms:List Int} (i:Nat),IntsAre vs ns->IntsAre us ms->Q (HT.lexLt ns ms) s->fin=decide (vs.length < us.length)->KatLex prog w A bb fin Q (vs.zip us) i s
 | _,_,_,_,i,.nil,.nil,h,e=>by
   refine kat_nil ?_
   rw [e]
   exact h
 | _,_,_,_,i,.nil,.cons _ _ _,h,e=>by
   refine kat_nil ?_
   rw [e]
   simpa [HT.lexLt] using h
 | _,_,_,_,i,.cons _ _ _,.nil,h,e=>by
   refine kat_nil ?_
   rw [e]
   simpa [HT.lexLt] using h
 | _,_,_,_,i,.cons (vs:=vs) (ns:=ns) x t hv,.cons (vs:=us) (ns:=ms) y u hu,h,e=>by
   refine kat_cons (wpAny_eqBool_int (kat_go (fun c=>?_) (fun c=>?_)))
   ·have xy:x=y:=by simpa using c
    subst xy
    refine kat_yes (Nk (i+1) hv hu ?_ ?_)
    ·simpa [HT.lexLt] using h
    ·rw [e]
     simp
   ·have xy:¬ x=y:=by simpa using c
    refine kat_no ?_
    have h':Q (decide (x < y)) s:=by simpa [HT.lexLt,xy] using h
    cases (bb && i == 0) with
    | true=>exact oneLt_int h'
    | false=>exact kat_one _ _ (lt_int h')
def Nw (κ:SortKind):Prop:=(∃b,κ=tuples' b)\/κ=general'\/κ=oneType'
theorem Sl {κ:SortKind} {x y:Value} {ns ms:List Int} (hk:Nw κ) (hx:E7 s.heap x ns) (hy:E7 s.heap y ms) (hu:A.units < cLine) (h:Q (HT.lexLt ns ms) s):wpAny (model prog w) A (keyLt' κ x y) Q E s:=by
 obtain ⟨a,its,rfl,ta,ia⟩:=hx
 obtain ⟨b,jts,rfl,tb,ib⟩:=hy
 rcases hk with ⟨bb,rfl⟩ | rfl | rfl
 ·obtain ⟨o,ho,hc,n,hd⟩:=ta
  obtain ⟨o2,ho2,hc2,n2,hd2⟩:=tb
  exact kat_lt ho hd ho2 hd2 (Nk 0 ia ib h (by simp))
 ·exact kat_one _ _ (HT.lt_tupInts ta tb ia ib hu h)
 ·rw [keyLt'_oneType,oneLt'_eq]
  simp only [if_true]
  refine wpAny_bind (wpAny_cRoomFor hu ?_)
  obtain ⟨⟨cls,dd,data,sl⟩,ho,hc,n,hd⟩:=id ta
  obtain ⟨⟨cls2,dd2,data2,sl2⟩,ho2,hc2,n2,hd2⟩:=id tb
  simp only at hc hd hc2 hd2
  subst hc hd hc2 hd2
  refine wpAny_bind (wpAny_callSpecialIfBound?_slot (T:="tuple") ⟨_,ho,rfl⟩ PySem.F.slot_tuple_lt (call_meets PySem.F.slot_tuple_lt ⟨_,ho,rfl⟩ PySem.F.entry_tuple_lt (PySem.F.args_tuple_lt_2 _ _) (HT.tuple_lt_ints a b its jts n n2 dd dd2 sl sl2 ns ms ia ib) ⟨ho,ho2,?_⟩))
  exact wpAny_truthy_bool h
theorem Mu:∀{l:List Value} {ns:List Int},IntsAre l ns->∀{v:Value},l[0]?=some v->∃n t,v=Value.int n t
 | _,_,.nil,v,e=>by simp at e
 | _,_,.cons n t _,v,e=>⟨n,t,by simpa using e.symm⟩
theorem Lf {α β:Type} {f:α->Sem β}:∀(l:List α) {R:List β->Shared->Prop},(∀v∈l,∀(Q':β->Shared->Prop),(∀r,Q' r s)->wpAny (model prog w) A (f v) Q' E s)->(∀rs,R rs s)->wpAny (model prog w) A (l.mapM f) R E s
 | [],_,_,h=>by
   rw [mapM_nil]
   exact wpAny_pure (h [])
 | x :: l,R,hf,h=>by
   rw [mapM_cons]
   exact wpAny_bind (hf x (.head _) _ fun r=>wpAny_bind (Lf l (R:=fun bs s'=>wpAny (model prog w) A (pure (r :: bs)) R E s') (fun v hv=>hf v (.tail _ hv)) fun rs=>wpAny_pure (h _)))
theorem Ly {l:List Value} {R:Option Value->Shared->Prop} (hf:∀v∈l,∀(Q':Value->Shared->Prop),(∀r,Q' r s)->wpAny (model prog w) A (typeOf v) Q' E s) (h:∀r,R r s):wpAny (model prog w) A (oneTypeOnly' l.toArray) R E s:=by
 rw [oneTypeOnly'_eq,mapM_toArray,map_eq_pure_bind]
 refine wpAny_bind (wpAny_bind (Lf l hf fun rs=>wpAny_pure ?_))
 cases rs.toArray[0]? with
 | none=>exact wpAny_pure (h _)
 | some t=>exact wpAny_pure (h _)
theorem Mm {rows:List (List Int)}:∀{vs:List Value},Paired (E7 s.heap) vs rows->∀{R:List (Option Value)->Shared->Prop},(∀fs,fs.length=vs.length->(∀f∈fs,∀v,f=some v->∃n t,v=Value.int n t)->R fs s) ->
 wpAny (model prog w) A (vs.mapM firstOfTuple') R E s:=by
 intro vs hp
 induction hp with
 | nil =>
   intro R h
   rw [mapM_nil]
   exact wpAny_pure (h [] rfl (fun f m=>nomatch m))
 | cons hx hr ih =>
   intro R h
   obtain ⟨a,its,rfl,⟨o,ho,hc,n,hd⟩,ia⟩:=hx
   rw [mapM_cons]
   refine wpAny_bind ?_
   rw [kas_first_eq]
   refine wpAny_bind (Looks.here (show Looks (model prog w) s.heap (typeOf (.ref a)) o.cls from (Looks.ld ho).andThen .now) ?_)
   rw [hc,if_neg (by first | decide | simp)]
   refine wpAny_bind (listItems_at ho hd (wpAny_pure ?_))
   refine wpAny_bind (ih fun fs l1 l2=>wpAny_pure (h _ (by rw [length_cons,length_cons,l1]) fun f m v e=>?_))
   rcases mem_cons.mp m with m | m
   ·subst m
    have e':its.toList[0]?=some v:=by simpa using e
    exact Mu ia e'
   ·exact l2 f m v e
theorem Qd {vs:List Value} {rows:List (List Int)} (hp:Paired (E7 s.heap) vs rows) {R:SortKind->Shared->Prop} (h:∀κ,Nw κ->R κ s):wpAny (model prog w) A (keyKind' vs.toArray) R E s:=by
 rw [kat_kind_eq,mapM_toArray,map_eq_pure_bind]
 refine wpAny_bind (wpAny_bind (Mm hp fun fs l1 l2=>wpAny_pure ?_))
 by_cases c:(fs.toArray.all fun x=>x.isSome)=true
 ·rw [if_pos c]
  refine wpAny_bind (wpAny_rule ?_)
  have e:fs.toArray.filterMap id=(fs.filterMap id).toArray:=by simp
  rw [e]
  refine wpAny_bind (Ly (fun v hv Q' hq=>?_) fun r=>wpAny_pure (h _ (.inl ⟨_,rfl⟩)))
  obtain ⟨f,fm,fe⟩:=mem_filterMap.mp hv
  obtain ⟨n,t,rfl⟩:=l2 f fm v fe
  exact wpAny_of_eq (a:=Value.type "int") rfl (hq _)
 ·rw [if_neg c]
  by_cases c2:(fs.toArray[0]?.bind id).isSome=true
  ·rw [if_pos c2]
   exact wpAny_pure (h _ (.inr (.inl rfl)))
  ·rw [if_neg c2]
   refine wpAny_bind (Ly (fun v hv Q' hq=>?_) fun r=>?_)
   ·obtain ⟨ns,hr⟩:∃ns,E7 s.heap v ns:=by
     clear l1 l2 c c2
     induction hp with
     | nil=>cases hv
     | cons hx _ ih =>
       rcases mem_cons.mp hv with m | m
       ·exact ⟨_,m ▸ hx⟩
       ·exact ih m
    obtain ⟨a,its,rfl,⟨o,ho,hc,n,hd⟩,ia⟩:=hr
    exact Looks.here (show Looks (model prog w) s.heap (typeOf (.ref a)) o.cls from (Looks.ld ho).andThen .now) (hq _)
   ·cases r with
    | none=>exact wpAny_pure (h _ (.inr (.inl rfl)))
    | some t=>exact wpAny_pure (h _ (.inr (.inr rfl)))
theorem G0 {α β:Type} {R:α->β->Prop} (d:α) (e:β):∀{xs:List α} {ys:List β},Paired R xs ys->∀i,i < xs.length->R (xs.getD i d) (ys.getD i e)
 | _,_,.nil,i,h=>absurd h (Nat.not_lt_zero _)
 | _,_,.cons r _,0,_=>r
 | _,_,.cons _ t,i+1,h=>G0 d e t i (by simpa using h)
theorem Ih (vs:List Value):(List.range vs.length).map (fun i=>vs.getD i Value.none)=vs:=by
 apply ext_getElem
 ·simp
 ·intro i h1 h2
  simp [h2]
theorem E7.keep {h h':Heap} {v:Value} {ns:List Int} (x:E7 h v ns) (k:∀b o,o.cls=.type "tuple"->h.get? b=some o->h'.get? b=some o):E7 h' v ns:=by
 obtain ⟨a,its,rfl,⟨o,ho,hc,n,hd⟩,ia⟩:=x
 exact ⟨a,its,rfl,⟨o,k a o hc ho,hc,n,hd⟩,ia⟩
theorem Ol {a:Addr} {vs:List Value} {rows:List (List Int)} {n:Nat} {P:PySem.Fin->Shared->Prop} (ho:s.heap.get? a=some (seqObj "list" vs.toArray n)) (hp:Paired (E7 s.heap) vs rows) (h64:vs.length < 64) (hu:A.units < cLine)
 (h:∀p:Array Nat,Prm vs.length p->Srt (O:=RD) (fun i=>rows.getD i []) p vs.length->P (.done (.ret .none)) { s with heap:=sortedHeap s.heap a vs (List.toArray (p.toList.map fun i=>vs.getD i Value.none)) }) :
 wpAny (model prog w) A (Builtin.«list.sort» ⟨[.ref a],[]⟩) P E s:=by
 rw [list_sort_plain]
 have ha:a < s.heap.objs.size:=Heap.lt_size ho
 refine wpAny_bind (listItems_at ho rfl ?_)
 refine wpAny_bind (listUpdate_at ho rfl ?_)
 obtain ⟨e1,ho1⟩:∃e1,(s.heap.update a (Obj.mapSeq fun _=>#[])).get? a=some (seqObj "list" #[] e1):=⟨_,get?_update_seq ho (fun _=>#[])⟩
 refine wpAny_bind (seqEpoch_at ho1 rfl ?_)
 refine wpAny_bind (wpAny_newTuple ?_)
 refine wpAny_bind (wpAny_newList ?_)
 refine wpAny_holding ?_
 have ho6:(((s.heap.update a (Obj.mapSeq fun _=>#[])).push (seqObj "tuple" vs.toArray 0)).push (seqObj "list" #[] 0)).get? a=some (seqObj "list" #[] e1):=by
  rw [Heap.get?_push_ne _ _ _ (by rw [size_push',Heap.size_update];exact Nat.ne_of_lt (Nat.lt_succ_of_lt ha)),Heap.get?_push_ne _ _ _ (by rw [Heap.size_update];exact Nat.ne_of_lt ha)]
  exact ho1
 have hp6:Paired (E7 (((s.heap.update a (Obj.mapSeq fun _=>#[])).push (seqObj "tuple" vs.toArray 0)).push (seqObj "list" #[] 0))) vs rows:=Paired.mapP hp fun v ns x=>x.keep fun b o hc e=>by
  have hb:b≠a:=fun z=>by
   rw [z,ho] at e
   cases e
   exact absurd (show Value.type "list"=Value.type "tuple" from hc) (by decide)
  exact Heap.get?_push_of_some _ (Heap.get?_push_of_some _ ((Heap.get?_update_other _ _ (Ne.symm hb)).trans e))
 show wpAny (model prog w) A _ P E { s with heap:=((s.heap.update a (Obj.mapSeq fun _=>#[])).push (seqObj "tuple" vs.toArray 0)).push (seqObj "list" #[] 0) }
 dsimp only
 have hsz:vs.toArray.size=vs.length:=by simp
 by_cases h2:vs.toArray.size < 2
 ·rw [if_pos h2,if_pos h2]
  refine wpAny_bind (wpAny_pure ?_)
  rw [StateT.run_pure]
  refine wpAny_bind (wpAny_pure ?_)
  dsimp only
  refine wpAny_bind (seqEpoch_at ho6 rfl ?_)
  refine wpAny_bind (listUpdate_at ho6 rfl ?_ (hsz2:=by rw [Array.size_map];show (pairsOf vs).size<=_;rw [pairsOf_size,sizeLine_eq];omega))
  simp only [bne_self_eq_false,Bool.false_eq_true,if_false]
  have hh:=h (List.range vs.length).toArray (List.Perm.refl _) (fun i j hij hj=>by
   have:i=j:=by omega
   subst this
   exact KeyOrd.kle_refl _)
  rw [show (List.range vs.length).toArray.toList.map (fun i=>vs.getD i Value.none)=vs from Ih vs] at hh
  have e:(arrOf (SortSt.mk' general' (vs.toArray.zip vs.toArray) #[] 7 none)).map (·.2)=vs.toArray:=by
   show (vs.toArray.zip vs.toArray).map (·.2)=vs.toArray
   apply Array.ext
   ·simp
   ·intro i h1 h2
    simp
  refine wpAny_pure ?_
  have hh':=hh
  rw [<- e] at hh'
  exact hh'
 ·rw [if_neg h2,if_neg h2]
  refine wpAny_bind (Qd hp6 fun κ hκ=>?_)
  have ac:Js RD (fun i=>rows.getD i []) vs.length (kas_ask prog w A κ vs) (fun s'=>s'={ s with heap:=((s.heap.update a (Obj.mapSeq fun _=>#[])).push (seqObj "tuple" vs.toArray 0)).push (seqObj "list" #[] 0) }):=by
   intro i j C s' hi hj e k
   subst e
   exact Sl hκ (G0 Value.none [] hp6 i hi) (G0 Value.none [] hp6 j hj) hu (k _ rfl)
  refine wpAny_bind (wpAny_mono (kat_run (ks:=vs) (vs:=vs) (Q:=fun st' s'=>∃p:Array Nat,arrOf st'=p.map (kas_item (vs.toArray.zip vs.toArray))/\failedOf st'=none/\s'={ s with heap:=((s.heap.update a (Obj.mapSeq fun _=>#[])).push (seqObj "tuple" vs.toArray 0)).push (seqObj "list" #[] 0) }/\Prm vs.length p/\Srt (O:=RD) (fun i=>rows.getD i []) p vs.length)
   (G:=fun p s'=>s'={ s with heap:=((s.heap.update a (Obj.mapSeq fun _=>#[])).push (seqObj "tuple" vs.toArray 0)).push (seqObj "list" #[] 0) }/\Prm vs.length p/\Srt (O:=RD) (fun i=>rows.getD i []) p vs.length)
   rfl (by omega) h64 (fun p st' s' _ a2 a3 g=>⟨p,a2,a3,g⟩) (Ru ac (by omega) rfl fun p s' q1 q2 e=>⟨e,q1,q2⟩)) ?_ fun _ _ e=>e)
  rintro ⟨⟨⟩,st'⟩ s' ⟨p,har,hf,rfl,q1,q2⟩
  dsimp only
  have hout:=kat_snds rfl har
  refine wpAny_bind (seqEpoch_at ho6 rfl ?_)
  rw [hout]
  refine wpAny_bind (listUpdate_at ho6 rfl ?_ (hsz2:=by rw [size_toArray,length_map,Array.length_toList,q1.size,sizeLine_eq];omega))
  rw [hf]
  simp only [bne_self_eq_false,Bool.false_eq_true,if_false]
  exact wpAny_pure (h p q1 q2)
end
section
variable {X:Cx}
theorem Kk:DG X (.builtin "sorted") (fun xs H Q=>∃(a:Addr) (ns:List Int),xs=[.ref a]/\SqL X.K H a (ns.map V.int)/\ns.length < 64 /\
 ∀(l:Addr) (ms:List Int),ms.Perm ns->ms.Pairwise (·<=·)->H l=none->Q (.ref l) (upd H l (.lst (ms.map V.int)))):=by
 intro pins s σ H xs us Q I r h
 obtain ⟨a,ns,rfl,hq,h64,q⟩:=h
 obtain ⟨u,rfl,rx⟩:=FW r
 cases rx
 obtain ⟨its,rv,pl,hz⟩:=I.list hq
 have hlen:=rv.length
 rw [length_map] at hlen
 refine sorted_ints pl.isList (Fs rv) (by omega) fun out ms i1 i2 i3=>?_
 obtain ⟨e,he⟩:=sortedAll_at s.heap its out
 have hfr:H (s.heap.objs.size+1)=none:=I.hok.fresh (Nat.le_succ _)
 refine ⟨.ref _,_,I.laid (t':=s.toks) (fun b o hb=>sortedAll_old hb) (Nat.le_succ _) (show AN X.prog X.w _ _ _ (.lst (ms.map V.int)) from ⟨?_,out.toList,e,Ea i1,he⟩),rfl,q _ ms i2 i3 hfr⟩
 rw [length_map,i2.length_eq,sizeLine_eq]
 omega
theorem IT:∀as:List Addr,A9 (as.map V.ref) (as.map Value.ref)
 | []=>.nil
 | a :: as=>.cons rfl (IT as)
end
end L2
namespace L2
open PySem PySem.W PySem.Spec PyProof.Rows
def D7 (h:Heap) (d:Addr) (es:Array DictEntry) (ep:Nat):Prop:=∃o,h.get? d=some o/\o.ExactDict/\o.data=.dict es ep
theorem D7.at {h h':Heap} {d:Addr} {es:Array DictEntry} {ep:Nat} (x:D7 h d es ep) (e:∀o,h.get? d=some o->h'.get? d=some o):D7 h' d es ep:=let ⟨o,ho,r⟩:=x;⟨o,e _ ho,r⟩
theorem D7.lt {h:Heap} {d:Addr} {es:Array DictEntry} {ep:Nat} (x:D7 h d es ep):d < h.objs.size:=let ⟨_,ho,_⟩:=x;Heap.lt_size ho
theorem D7.typeIs {s:Shared} {d:Addr} {es:Array DictEntry} {ep:Nat} (x:D7 s.heap d es ep):s.TypeIs (.ref d) "dict":=let ⟨o,ho,hc,_⟩:=x;⟨o,ho,hc.1⟩
section
variable {prog:Program} {w:World} {A:Around} {E:Value->Shared->Prop} {s:Shared} {d:Addr} {es:Array DictEntry} {ep:Nat}
theorem OF {Q:Value->Shared->Prop} (hd:(d == sysModules)=false) (hm:D7 s.heap d es ep)
 (hQ:Q (.ref s.heap.objs.size) { s with heap:=s.heap.push { cls:=.type "dict_keyiterator",data:=.fields #[.ref d,.int 0 0,.int es.size 0,.int ep 0] } }):wpAny (model prog w) A (pyIter (.ref d)) Q E s:=by
 have hT:=hm.typeIs
 obtain ⟨o,ho,hc,hdat⟩:=id hm
 refine wpAny_pyIter_slot hT F.slot_dict_iter (wpAny_call_entry F.slot_dict_iter hT F.entry_dict_iter ?_ (F.args_dict_iter_1 _))
 unfold Builtin.«dict.__iter__»
 refine wpAny_bind ?_
 unfold Builtin.Dict.dictSlotNone
 refine wpAny_bind (wpAny_notOrdered_dict hT ?_)
 show wpAny _ _ (pure (Value.ref d)) _ _ s
 refine wpAny_pure ?_
 show wpAny _ _ (Builtin.Dict.showsAll d >>= _) _ _ s
 unfold Builtin.Dict.showsAll
 rw [if_neg (by rw [hd];exact Bool.false_ne_true)]
 refine wpAny_bind (wpAny_pure ?_)
 refine wpAny_bind (wpAny_dictEntries ho hdat ?_)
 refine wpAny_bind (wpAny_dictEpoch ho hdat ?_)
 refine wpAny_bind (wpAny_newObj_type (wpAny_pure ⟨_,rfl,"dict_keyiterator",_,⟨_,Heap.get?_push_size _ rfl,rfl⟩,F.slot_dict_keyiterator_next.lookup,?_⟩))
 simpa [rawInt] using hQ
theorem Pe {it:Addr} {i:Nat} {e:DictEntry} {Q:Option Value->Shared->Prop} (hit:s.heap.IsKeyIter it d i es.size ep) (hm:D7 s.heap d es ep) (hx:es[i]?=some e)
 (hQ:∀h',h'.IsKeyIter it d (i+1) es.size ep->Heap.SameBut it s.heap h'->Q (some e.key) { s with heap:=h' }):wpAny (model prog w) A (pyNext (.ref it)) Q E s:=by
 obtain ⟨o,ho,hc,hd⟩:=id hit
 obtain ⟨od,hod,hcd,hdd⟩:=id hm
 unfold pyNext
 refine wpAny_bind (wpAny_attempt (wpAny_callSpecial?_slot (name:=Str.ofString "__next__") hit.typeIs F.slot_dict_keyiterator_next
  (wpAny_call_entry F.slot_dict_keyiterator_next hit.typeIs F.entry_dict_keyiterator_next ?_ (F.args_dict_keyiterator_next_1 _))))
 refine wpAny_bind (wpAny_pure ?_)
 refine wpAny_bind ?_
 refine wpAny_bind ?_
 first | refine wpAny_bind (wpAny_typeNameOfWhole_keyiter hit.typeIs (wpAny_pure ?_)) | refine wpAny_bind (wpAny_typeNameOf_keyiter hit.typeIs (wpAny_pure ?_))
 refine wpAny_bind (wpAny_fieldsOf ho hd ?_)
 have hown:Builtin.Dict_items.ownsTuple "dict_keyiterator"=false:=by decide
 simp only [hown,Bool.false_eq_true,if_false]
 show wpAny _ _ (if (Value.ref d == Value.none)=true then _ else _) _ _ s
 rw [if_neg (show ¬ ((Value.ref d == Value.none)=true) from Bool.false_ne_true)]
 refine wpAny_bind (wpAny_pure ?_)
 refine wpAny_bind (wpAny_dictEntries hod hdd ?_)
 rw [if_neg (by simp)]
 refine wpAny_bind (wpAny_pure ?_)
 refine wpAny_bind (wpAny_dictEpoch hod hdd ?_)
 rw [if_neg (by simp)]
 refine wpAny_pure ?_
 simp only [show ¬ ((i:Int) < 0) from by omega,if_false,Int.toNat_natCast,hx]
 refine wpAny_bind ?_
 first | refine wpAny_bind (wpAny_typeNameOfWhole_keyiter hit.typeIs (wpAny_pure ?_)) | refine wpAny_bind (wpAny_typeNameOf_keyiter hit.typeIs (wpAny_pure ?_))
 refine wpAny_bind (wpAny_isOneOf_keyiter hit.typeIs ?_)
 show wpAny _ _ (setField (.ref it) 1 (rawInt ((i:Int)+1)) >>= _) _ _ s
 refine wpAny_bind (wpAny_setField ho hd (by simp) ?_)
 have hit':(s.heap.update it (Obj.mapFields (·.setIfInBounds 1 (rawInt ((i:Int)+1))))).IsKeyIter it d (i+1) es.size ep :=
  ⟨_,Heap.get?_update_self _ ho (Obj.isFreed_of_fields (Obj.data_mapFields hd _)),(Obj.cls_mapFields ..).trans hc,by rw [Obj.data_mapFields hd];simp [rawInt]⟩
 refine wpAny_bind (wpAny_holding ?_)
 refine wpAny_bind (wpAny_isOneOf_keyiter (s:={ s with heap:=s.heap.update it (Obj.mapFields (·.setIfInBounds 1 (rawInt ((i:Int)+1)))) }) hit'.typeIs ?_)
 show wpAny _ _ (pure e.key) _ _ _
 exact wpAny_pure (wpAny_pure ⟨_,rfl,wpAny_pure (hQ _ hit' (Heap.SameBut.update ..))⟩)
theorem Q9 {it:Addr} {i:Nat} {Q:Option Value->Shared->Prop} (hh:A.handled=none) (hit:s.heap.IsKeyIter it d i es.size ep) (hm:D7 s.heap d es ep) (hx:es.size<=i)
 (hQ:∀h',Heap.ExtBut it s.heap h'->Q none { s with heap:=h' }):wpAny (model prog w) A (pyNext (.ref it)) Q E s:=by
 obtain ⟨o,ho,hc,hd⟩:=id hit
 obtain ⟨od,hod,hcd,hdd⟩:=id hm
 unfold pyNext
 refine wpAny_bind (wpAny_attempt (wpAny_callSpecial?_slot (name:=Str.ofString "__next__") hit.typeIs F.slot_dict_keyiterator_next
  (wpAny_call_entry F.slot_dict_keyiterator_next hit.typeIs F.entry_dict_keyiterator_next ?_ (F.args_dict_keyiterator_next_1 _))))
 refine wpAny_bind (wpAny_pure ?_)
 refine wpAny_bind ?_
 refine wpAny_bind ?_
 first | refine wpAny_bind (wpAny_typeNameOfWhole_keyiter hit.typeIs (wpAny_pure ?_)) | refine wpAny_bind (wpAny_typeNameOf_keyiter hit.typeIs (wpAny_pure ?_))
 refine wpAny_bind (wpAny_fieldsOf ho hd ?_)
 have hown:Builtin.Dict_items.ownsTuple "dict_keyiterator"=false:=by decide
 simp only [hown,Bool.false_eq_true,if_false]
 show wpAny _ _ (if (Value.ref d == Value.none)=true then _ else _) _ _ s
 rw [if_neg (show ¬ ((Value.ref d == Value.none)=true) from Bool.false_ne_true)]
 refine wpAny_bind (wpAny_pure ?_)
 refine wpAny_bind (wpAny_dictEntries hod hdd ?_)
 rw [if_neg (by simp)]
 refine wpAny_bind (wpAny_pure ?_)
 refine wpAny_bind (wpAny_dictEpoch hod hdd ?_)
 rw [if_neg (by simp)]
 refine wpAny_pure ?_
 simp only [show ¬ ((i:Int) < 0) from by omega,if_false,Int.toNat_natCast,Array.getElem?_eq_none hx]
 refine wpAny_bind ?_
 first | refine wpAny_bind (wpAny_typeNameOfWhole_keyiter hit.typeIs (wpAny_pure ?_)) | refine wpAny_bind (wpAny_typeNameOf_keyiter hit.typeIs (wpAny_pure ?_))
 show wpAny _ _ (setField (.ref it) 0 .none >>= _) _ _ s
 refine wpAny_bind (wpAny_setField ho hd (by simp) ?_)
 show wpAny _ _ (newExc (.type "StopIteration") [] >>= _) _ _ _
 refine wpAny_bind ?_
 simp only [newExc,newTuple]
 refine wpAny_bind (wpAny_newObj_type ?_ (by size_fits))
 refine wpAny_bind (m:=firstArgMember _ _) (wpAny_of_eq (a:=Value.none) (by first | rfl | (simp only [firstArgMember];rfl)) ?_)
 refine wpAny_newObj_type ?_ (by size_fits)
 simp only [raiseNew]
 refine wpAny_bind (wpAny_handled ?_)
 rw [show A.in1.handled=none from hh]
 refine wpAny_bind (wpAny_pure (wpAny_throw ?_))
 refine wpAny_bind (wpAny_isInstance (T:="StopIteration") (b:=true) ⟨_,Heap.get?_push_size _ rfl,rfl⟩ isSubtype_stop ?_)
 exact wpAny_pure (hQ _ (((Heap.SameBut.update ..).extBut.push _).push _))
theorem NW (hh:A.handled=none) (I:Addr) (hne:d≠I):Walks prog w A I [I,d] [I] es.size (fun i v=>∃e,es[i]?=some e/\v=e.key) (fun i h=>h.IsKeyIter I d i es.size ep/\D7 h d es ep) where
 sub:=fun b hb=>by simp at hb;simp [hb]
 frame:=fun _ _ _ st hk=>⟨st.1.at fun o e=>hk I (by simp) o e,st.2.at fun o e=>hk d (by simp) o e⟩
 item:=fun i s Q E hi st hQ=>by
  obtain ⟨e,hx⟩:∃e,es[i]?=some e:=⟨es[i],by simp [hi]⟩
  refine Pe st.1 st.2 hx fun h' hit' hs'=>?_
  exact hQ e.key h' s.toks ⟨e,hx,rfl⟩ ⟨hit',st.2.at fun o q=>hs'.extBut d o hne q⟩ fun b o hb q=>hs'.extBut b o (fun h=>hb (by simp [h])) q
 done:=fun s Q E st hQ=>Q9 hh st.1 st.2 (Nat.le_refl _) fun h' he'=>hQ h' s.toks fun b o hb q=>he' b o (fun h=>hb (by simp [h])) q
 self:=fun _ _ _ _ st hQ=>wpAny_pyIter_keyiter st.1 hQ
theorem Rc (lo:(d == sysModules)=false):KdlSrc prog w "dict" d d es.size (fun i v=>∃e,es[i]?=some e/\v=e.key) (fun h=>D7 h d es ep) where
 type:=fun _ hm=>hm.typeIs
 there:=fun _ hm=>⟨hm.lt,hm.lt⟩
 keep:=fun _ _ hm hk=>hm.at fun o e=>hk d (.inl rfl) o e
 notList:=by decide
 notTuple:=by decide
 hint:=fun _ _ _ _ hm hq=>kdl_hint_dict hm.typeIs hq
 iter:=fun _ s hh hm=>⟨_,_,(fun _ _ hq=>OF lo hm hq),NW hh _ (Nat.ne_of_lt hm.lt),⟨⟨_,Heap.get?_push_size _ rfl,rfl,rfl⟩,hm.at fun o e=>Heap.get?_push_of_some _ e⟩⟩
theorem Qx {acc:Array Value} (h:ItemsOf (fun i v=>∃e,es[i]?=some e/\v=e.key) acc es.size):acc=es.map (·.key):=by
 obtain ⟨h1,h2⟩:=h
 apply Array.ext
 ·simpa using h1
 ·intro i hi hj
  obtain ⟨e,he,hk⟩:=h2 i acc[i] (by simp [hi])
  have hi':i < es.size:=by omega
  rw [Array.getElem?_eq_getElem hi'] at he
  rw [hk,Array.getElem_map,Option.some.inj he]
theorem G4 {R:List Value->Shared->Prop} (lo:(d == sysModules)=false) (hm:D7 s.heap d es ep) (hh:A.handled=none) (hn:es.size<=sizeLine)
 (h:∀(h':Heap) (tk:Nat),(∀b o,s.heap.get? b=some o->h'.get? b=some o)->s.heap.objs.size < h'.objs.size->R (es.toList.map (·.key)) { s with heap:=h',toks:=tk }) :
 wpAny (model prog w) A (collect (.ref d)) R E s:=by
 have hlt:=hm.lt
 unfold collect
 refine wpAny_bind (wpAny_runValue (codeAny_builtin entry_proto_collect' ?_))
 rw [Around.under_plainId PySem.F.plain_proto_collect _]
 show wpAny _ A.in1 (newList [] >>= fun l=>again (.builtin "list.__iadd__" ⟨[l,.ref d],[]⟩)) _ _ s
 refine wpAny_bind (wpAny_newObj_type ?_)
 refine wpAny_pure ⟨plainId_quiet PySem.F.plain_list_iadd _,codeAny_builtin entry_list_iadd' ?_⟩
 rw [Around.under_plainId PySem.F.plain_list_iadd _]
 have hS₁:(s.heap.push { cls:=.type "list",data:=.seq ([]:List Value).toArray }).get? s.heap.objs.size=some { cls:=.type "list",data:=.seq #[] }:=Heap.get?_push_size _ rfl
 show wpAny _ A.in1 (Builtin.List.listExtendWith (.ref s.heap.objs.size) (.ref d) (.ref s.heap.objs.size)) _ _ _
 have key:=kdl_extend (A:=A) (s:={ s with heap:=s.heap.push { cls:=.type "list",data:=.seq ([]:List Value).toArray } })
  (R:=fun (q:Result) (s':Shared)=>∃(h':Heap) (tk c':Nat),q=.ok (.ret (.ref s.heap.objs.size))/\s'={ s with heap:=h',toks:=tk } /\
   (∀b o,s.heap.get? b=some o->h'.get? b=some o)/\h'.get? s.heap.objs.size=some { cls:=.type "list",dict:=none,data:=.seq (es.map (·.key)) c',slots:=#[] })
  (Rc (prog:=prog) (w:=w) (es:=es) (ep:=ep) lo) hh (hm.at fun o e=>Heap.get?_push_of_some _ e) s.heap.objs.size (Nat.ne_of_gt hlt) (Nat.ne_of_gt hlt) (.ref s.heap.objs.size) 0 hS₁
  (fun h' tk acc' c' hk hS' hacc=>⟨h',tk,c',rfl,rfl,fun b o e=>hk b o (Nat.ne_of_lt (Heap.lt_size e)) (Heap.get?_push_of_some _ e),by rw [<- Qx hacc];exact hS'⟩) hn
 refine wpAny_mono key (fun fin s' x=>?_) fun e s' x=>?_
 ·cases fin with
  | done f =>
    obtain ⟨h',tk,c',e,rfl,hk,hS'⟩:=x
    cases e
    show wpAny _ A (load s.heap.objs.size >>= _) _ _ _
    refine wpAny_bind (wpAny_load hS' ?_)
    have:=h h' tk hk (Heap.lt_size hS')
    rw [<- Array.toList_map] at this
    exact wpAny_pure this
  | again c₁ =>
    refine ⟨x.1,codeAny_mono x.2 fun q s₂ y=>?_⟩
    obtain ⟨h',tk,c',rfl,rfl,hk,hS'⟩:=y
    show wpAny _ A (load s.heap.objs.size >>= _) _ _ _
    refine wpAny_bind (wpAny_load hS' ?_)
    have:=h h' tk hk (Heap.lt_size hS')
    rw [<- Array.toList_map] at this
    exact wpAny_pure this
 ·obtain ⟨_,_,_,e',_⟩:=x
  cases e'
theorem GE {vs:List Value} (lo:(d == sysModules)=false) (hm:D7 s.heap d es ep) (hz:es.size < 64) (hh:A.handled=none) (hv:es.toList.map (·.key)=vs) {R:Value->Shared->Prop}
 (h:∀(h':Heap) (tk:Nat) (a:Addr),(∀b o,s.heap.get? b=some o->h'.get? b=some o/\b≠a)->s.heap.objs.size<=a->h'.get? a=some (seqObj "list" vs.toArray 0) ->
  wpAny (model prog w) A.in1.in1 (Builtin.«list.sort» ⟨[.ref a],[]⟩) (fun fin s'=>∃v,fin=.done (.ret v)/\R (.ref a) s') E { s with heap:=h',toks:=tk }) :
 wpAny (model prog w) A (call (.builtin "sorted") [.ref d]) R E s:=by
 refine Calls.call_function_entry kind_sorted plain_sorted entry_sorted (args_sorted1 _) ?_
 unfold Builtin.«sorted»
 refine wpAny_bind (m:=checkCount "sorted" 1 1 _) (wpAny_pure ?_)
 refine wpAny_bind (G4 (A:=A.in1) lo hm hh (by rw [sizeLine_eq];omega) fun h' tk hk ge=>?_)
 rw [hv]
 have hl:vs.length < 64:=by rw [<- hv,length_map,Array.length_toList];exact hz
 refine wpAny_bind (wpAny_newList ?_ (by rw [sizeLine_eq];omega))
 have ho:(h'.push (seqObj "list" vs.toArray 0)).get? h'.objs.size=some (seqObj "list" vs.toArray 0):=Heap.get?_push_size _ rfl
 refine wpAny_bind (wpAny_holding (wpAny_call_entry slot_list_sort ⟨_,ho,rfl⟩ entry_list_sort ?_ (args_list_sort _)))
 refine wpAny_mono (h _ tk h'.objs.size (fun b o e=>⟨Heap.get?_push_of_some _ (hk b o e),Nat.ne_of_lt (Heap.lt_size (hk b o e))⟩) (Nat.le_of_lt ge) ho) (fun fin s' x=>?_) fun _ _ x=>x
 obtain ⟨v,rfl,q⟩:=x
 exact ⟨_,rfl,wpAny_pure ⟨_,rfl,q⟩⟩
end
section
variable {X:Cx}
theorem Ry {H:Hp}:∀{kvs:List (List Key × V)} {xs:List (List Key × Addr × Value)} {ks:List (List Int)},KT H kvs xs->kvs.map (·.1)=ks.map (List.map Sum.inl) ->
 ∃qs:List (Addr × List Int),xs.map (fun x=>Value.ref x.2.1)=(qs.map (·.1)).map Value.ref/\qs.map (·.2)=ks/\∀q∈qs,H q.1=some (.tup (q.2.map V.int)):=by
 intro kvs xs ks r
 induction r generalizing ks with
 | nil =>
   intro e
   cases ks with
   | nil=>exact ⟨[],rfl,rfl,fun _ m=>nomatch m⟩
   | cons _ _=>cases e
 | @cons p q ps qr hq t ih =>
   intro e
   cases ks with
   | nil=>cases e
   | cons k ks =>
     injection e with e1 e2
     obtain ⟨qs,a1,a2,a3⟩:=ih e2
     refine ⟨(q.2.1,k) :: qs,?_,?_,fun x m=>?_⟩
     ·rw [map_cons,a1]
      rfl
     ·rw [map_cons,a2]
     ·rcases mem_cons.mp m with m | m
      ·subst m
       have h:=hq.2.1
       have e1':p.1=k.map Sum.inl:=e1
       rw [e1',map_map] at h
       exact h
      ·exact a3 x m
theorem Iz (hc:X.calm=true) (hu:X.A.units+64 < cLine):DG X (.builtin "sorted") (fun xs H Q=>∃(d:Addr) (kvs:List (List Key × V)) (ks:List (List Int)),xs=[.ref d]/\Rd H d (.dT kvs)/\kvs.map (·.1)=ks.map (List.map Sum.inl)/\ks.length < 64 /\
 ∀(l:Addr) (rs:List (Addr × List Int)),(∀q∈rs,H q.1=some (.tup (q.2.map V.int)))->(rs.map (·.2)).Perm ks->rs.Pairwise (fun x y=>HT.lexLt y.2 x.2=false)->H l=none->Q (.ref l) (upd H l (.lst (rs.map fun q=>V.ref q.1)))):=by
 intro pins s σ H xs us Q I r h
 obtain ⟨d,kvs,ks,rfl,hd,hks,h64,q⟩:=h
 obtain ⟨u,rfl,rx⟩:=FW r
 cases rx
 obtain ⟨_,lo,xs,kt,o,es,ep,h1,h2,h3,h4,_,_⟩:=Jj I.hok hd
 obtain ⟨qs,b1,b2,b3⟩:=Ry kt hks
 have hv:es.toList.map (·.key)=(qs.map (·.1)).map Value.ref:=by
  rw [h4,map_map,<- b1]
  rfl
 have hql:qs.length=ks.length:=by rw [<- b2,length_map]
 have hes:es.size=qs.length:=by
  have:=congrArg List.length hv
  simpa using this
 have hp:Paired (E7 s.heap) ((qs.map (·.1)).map Value.ref) (qs.map (·.2)):=by
  clear hv hql hes b1 b2
  induction qs with
  | nil=>exact .nil
  | cons q0 qr ih =>
    refine .cons ?_ (ih fun q m=>b3 q (mem_cons_of_mem _ m))
    obtain ⟨jts,rj,tj,_⟩:=I.tuple (SqT.of (b3 q0 (mem_cons_self ..)))
    exact ⟨q0.1,jts.toArray,rfl,tj,by simpa using Fs rj⟩
 refine GE lo ⟨o,h1,h2,h3⟩ (by omega) (I.ok.hd hc) hv fun h' tk a kp ge ho=>?_
 have hp':Paired (E7 h') ((qs.map (·.1)).map Value.ref) (qs.map (·.2)):=Paired.mapP hp fun v ns x=>x.keep fun b o _ e=>(kp b o e).1
 have ll:((qs.map (·.1)).map Value.ref).length=qs.length:=by rw [length_map,length_map]
 refine Ol (s:={ s with heap:=h',toks:=tk }) ho hp' (by omega) (by show X.A.units+1+1 < cLine;omega) fun p a1 a2=>⟨_,rfl,?_⟩
 obtain ⟨e,he⟩:=sortedHeap_at (out:=List.toArray (p.toList.map fun i=>((qs.map (·.1)).map Value.ref).getD i Value.none)) ho
 have hfr:H a=none:=I.hok.fresh ge
 have hps:=a1.size
 have lt:∀i∈p.toList,i < qs.length:=fun i m=>by
  have:=mem_range.mp (a1.mem_iff.mp m)
  omega
 let rs:=p.toList.map fun i=>qs.getD i (0,[])
 have eo:(p.toList.map fun i=>((qs.map (·.1)).map Value.ref).getD i Value.none)=(rs.map (·.1)).map Value.ref:=by
  show _=((p.toList.map fun i=>qs.getD i (0,[])).map (·.1)).map Value.ref
  simp only [map_map]
  refine map_congr_left fun i m=>?_
  have hi:=lt i m
  simp [hi]
 rw [eo] at he ⊢
 have pm:rs.Perm qs:=by
  have e1:(List.range ((qs.map (·.1)).map Value.ref).length).map (fun i=>qs.getD i ((0:Addr),([]:List Int)))=qs:=by
   rw [ll]
   apply ext_getElem
   ·simp
   ·intro i h1 h2
    simp [h2]
  have:=List.Perm.map (fun i=>qs.getD i ((0:Addr),([]:List Int))) a1
  rw [e1] at this
  exact this
 refine ⟨.ref _,_,I.laid (t':=tk) (fun b o hb=>?_) ge (show AN X.prog X.w _ _ _ (.lst (rs.map fun q=>V.ref q.1)) from ⟨?_,(rs.map (·.1)).map Value.ref,e,?_,he⟩),rfl,q _ rs (fun q m=>b3 q (pm.mem_iff.mp m)) (by rw [<- b2];exact pm.map _) ?_ hfr⟩
 ·obtain ⟨k1,k2⟩:=kp b o hb
  rw [sortedHeap_old k2 (Heap.lt_size k1)]
  exact k1
 ·rw [length_map,pm.length_eq,sizeLine_eq]
  omega
 ·have:=IT (rs.map (·.1))
  rw [map_map] at this
  exact this
 ·rw [pairwise_iff_getElem]
  intro i j hi hj hij
  have hi':i < p.size:=by simpa [rs] using hi
  have hj':j < p.size:=by simpa [rs] using hj
  have g:=a2 i j (by omega) (by omega)
  have gi:(qs.map (·.2)).getD (p.getD i 0) []=(rs[i]).2:=by
   have l1:=lt p[i] (by simp)
   simp [rs,Array.getD,hi',l1]
  have gj:(qs.map (·.2)).getD (p.getD j 0) []=(rs[j]).2:=by
   have l1:=lt p[j] (by simp)
   simp [rs,Array.getD,hj',l1]
  have g2:HT.lexLt ((qs.map (·.2)).getD (p.getD j 0) []) ((qs.map (·.2)).getD (p.getD i 0) [])=false:=g
  rw [gi,gj] at g2
  exact g2
theorem Ll {P:Program} {w:World} {kvs:List (Key × V)} {vs:List (Key × Value)} (r:KV kvs vs):∀{es:List DictEntry} {ns:List Int},Pairs (AL P w) es vs->kvs.map (·.1)=ns.map Sum.inl->IntsAre (es.map (·.key)) ns:=by
 intro es ns hp e
 rw [r.keys] at e
 clear r
 induction hp generalizing ns with
 | nil =>
   cases ns with
   | nil=>exact .nil
   | cons _ _=>cases e
 | @cons ent kv es' vs' h _ t ih =>
   cases ns with
   | nil=>cases e
   | cons n ns =>
     injection e with e1 e2
     have e1':kv.1=Sum.inl n:=e1
     have hk:=h
     rw [e1'] at hk
     rcases Bb (show G8 (Sum.inl n) ent.key=true from hk) with ⟨i,t',a,b⟩ | ⟨x,t',a,_⟩
     ·cases a
      rw [map_cons,b]
      exact .cons n t' (ih e2)
     ·cases a
theorem II (hc:X.calm=true):DG X (.builtin "sorted") (fun xs H Q=>∃(d:Addr) (kvs:List (Key × V)) (ns:List Int),xs=[.ref d]/\Rd H d (.dK kvs)/\kvs.map (·.1)=ns.map Sum.inl/\ns.length < 64 /\
 ∀(l:Addr) (ms:List Int),ms.Perm ns->ms.Pairwise (·<=·)->H l=none->Q (.ref l) (upd H l (.lst (ms.map V.int)))):=by
 intro pins s σ H xs us Q I r h
 obtain ⟨d,kvs,ns,rfl,hd,hks,h64,q⟩:=h
 obtain ⟨u,rfl,rx⟩:=FW r
 cases rx
 obtain ⟨_,lo,vs,kv,o,es,ep,h1,h2,h3,h4,h5,_⟩:=Ib I.hok hd
 have hi:=Ll kv h5 hks
 have hl:=hi.length
 have hes:es.size=ns.length:=by simpa using hl
 refine GE lo ⟨o,h1,h2,h3⟩ (by omega) (I.ok.hd hc) rfl fun h' tk a kp ge ho=>?_
 refine list_sort_tree (s:={ s with heap:=h',toks:=tk }) ho hi (by rw [hl];exact h64) fun out ms i1 i2 i3=>⟨_,rfl,?_⟩
 obtain ⟨e,he⟩:=sortedHeap_at (out:=out) ho
 have hfr:H a=none:=I.hok.fresh ge
 refine ⟨.ref _,_,I.laid (t':=tk) (fun b o hb=>?_) ge (show AN X.prog X.w _ _ _ (.lst (ms.map V.int)) from ⟨?_,out.toList,e,Ea i1,he⟩),rfl,q _ ms i2 i3 hfr⟩
 ·obtain ⟨k1,k2⟩:=kp b o hb
  rw [sortedHeap_old k2 (Heap.lt_size k1)]
  exact k1
 ·rw [length_map,i2.length_eq,sizeLine_eq]
  omega
end
end L2
namespace L2
open PySem
end L2
namespace L2
open PySem PySem.W PySem.Spec PyProof.Rows
section
variable {prog:Program} {w:World} {A:Around} {E:Value->Shared->Prop} {s:Shared}
end
section
variable {prog:Program} {w:World} {A:Around} {R:Result->Shared->Prop} {I:Addr} {fp wr:List Addr} {G:Array GenState->Array GenState->Prop} {n:Nat} {P:Nat->Value->Prop} {St:Nat->Shared->Prop}
end
section
variable {prog:Program} {w:World} {A:Around} {E:Value->Shared->Prop} {s:Shared}
set_option maxRecDepth 100000 in
set_option maxHeartbeats 3200000 in
end
end L2
namespace L2
open PySem PySem.W PySem.Spec PyProof.Rows
section
variable {prog:Program} {w:World} {A:Around} {E:Value->Shared->Prop} {s:Shared}
end
section
variable {prog:Program} {w:World} {A:Around} {E:Value->Shared->Prop} {s:Shared} {a:Addr} {es:Array (Int × Value)} {ep:Nat} {t:SetTable}
end
end L2
namespace L2
open PySem PySem.W PySem.Spec PyProof.Rows
section
variable {X:Cx} {e:Expr} {te:TE} {p p2 pos pos2:Pos}
end
end L2
namespace L2
open PySem PySem.Spec PyProof.Rows
section
variable {X:Cx} {pins:List (Addr × Obj)} {σ:St} {H:Hp} {s:Shared} {h':Heap}
theorem Inv.turnedAll {t':Nat} {fp:List Addr} (I:Inv X pins σ H s) (k:∀b o,b ∉ fp->s.heap.get? b=some o->h'.get? b=some o) (hf:∀b∈fp,GO X pins H b):Inv X pins σ H { s with heap:=h',toks:=t' }:=by
 have nin:∀b u,H b=some u->b ∉ fp:=fun b u e z=>by rw [(hf b z).1] at e;cases e
 refine I.step (g':=s.gens) (d':=s.drawn) (ch:=fp) (fun b hb=>?_) (fun b o _ _ hc e _=>k b o hc e) (fun b o _ _ hc e _=>⟨o.slots,k b o hc e⟩) (fun _ _ _ _ n=>n)
  (fun b o hc e=>⟨o,k b o hc e⟩) (fun _ _ e=>e) (fun _ _ _ e=>e) (fun b ps e=>⟨#[],by rw [e];simp⟩) (fun m hm=>?_) (fun b u e=>?_) I.bare
 ·obtain ⟨_,f1,_,f3,f4,f5⟩:=hf b hb
  exact ⟨f3,f1,f4,f5⟩
 ·obtain ⟨o,es,ep,ho,r⟩:=hm
  exact ⟨o,es,ep,k _ o (fun z=>(hf _ z).2.1 rfl) ho,r⟩
 ·refine (I.hok b u e).stay (fun c v hc q=>k c v ?_ q) (fun _ q=>q) fun _ _ q=>q
  rcases hc with z | z
  ·rw [z];exact nin b u e
  ·exact nin c _ z
theorem Inv.laidTurned {t':Nat} {fp:List Addr} {a:Addr} {o:HO} (I:Inv X pins σ H s) (k:∀b u,b ∉ fp->s.heap.get? b=some u->h'.get? b=some u) (hf:∀b∈fp,GO X pins H b) (hp:s.heap.objs.size<=a)
 (new:AN X.prog X.w (upd H a o) h' a o):Inv X pins σ (upd H a o) { s with heap:=h',toks:=t' }:=by
 have nin:∀b u,H b=some u->b ∉ fp:=fun b u e z=>by rw [(hf b z).1] at e;cases e
 have hn:H a=none:=I.hok.fresh hp
 refine I.step (g':=s.gens) (d':=s.drawn) (ch:=fp) (fun b hb=>?_) (fun b o _ _ hc e _=>k b o hc e) (fun b o _ _ hc e _=>⟨o.slots,k b o hc e⟩)
  (fun b u _ q n=>by rw [Al (Nat.ne_of_lt (Nat.lt_of_lt_of_le (Heap.lt_size q) hp))];exact n)
  (fun b o hc e=>⟨o,k b o hc e⟩) (fun b xs q=>by rw [Al (AY q hn)];exact q) (fun b u xs q=>by rw [Al (AY q hn)];exact q) (fun b ps q=>⟨#[],by rw [Al (AY q hn),q];simp⟩) (fun m hm=>?_) (fun b u e=>?_) I.bare
 ·obtain ⟨_,f1,_,f3,f4,f5⟩:=hf b hb
  exact ⟨f3,f1,f4,f5⟩
 ·obtain ⟨o,es,ep,ho,r⟩:=hm
  exact ⟨o,es,ep,k _ o (fun z=>(hf _ z).2.1 rfl) ho,r⟩
 ·by_cases hb:b=a
  ·subst hb;rw [Ab] at e;cases e;exact new
  ·rw [Al hb] at e
   refine (I.hok b u e).stay (fun c v hc q=>k c v ?_ q) (fun c q=>by rw [Al (AY q hn)];exact q) fun c xs q=>by rw [Al (AY q hn)];exact q
   rcases hc with z | z
   ·rw [z];exact nin b u e
   ·exact nin c _ z
end
section
variable {X:Cx}
end
section
variable {X:Cx}
theorem Hy:∀{bs:List Bool} {us:List Value},A9 (bs.map V.bl) us->us=bs.map Value.bool
 | [],_,.nil=>rfl
 | _ :: _,_,.cons r rr=>by
   cases r
   rw [Hy rr]
   rfl
theorem NN (bs:List Bool):(List.range bs.length).all (fun i=>bs.getD i false)=bs.all id:=by
 rw [Bool.eq_iff_iff,all_eq_true,all_eq_true]
 constructor
 ·intro h b hb
  obtain ⟨i,hi,rfl⟩:=mem_iff_getElem.mp hb
  have:=h i (mem_range.mpr hi)
  simpa [getD_eq_getElem?_getD,hi] using this
 ·intro h i hi
  have hi':=mem_range.mp hi
  have:=h _ (getElem_mem hi')
  simpa [getD_eq_getElem?_getD,hi'] using this
theorem KM {P:Program} {w:World} {A:Around} {bs:List Bool}:TruthOf P w A (fun i v=>(bs.map Value.bool).toArray[i]?=some v) (fun i=>bs.getD i false):=by
 intro i v s Q E hP hQ
 have hP':(bs.map Value.bool)[i]?=some v:=by simpa using hP
 rw [List.getElem?_map] at hP'
 cases e:bs[i]? with
 | none=>rw [e] at hP';cases hP'
 | some b =>
   rw [e] at hP'
   have:Value.bool b=v:=Option.some.inj hP'
   subst this
   refine wpAny_truthy_bool ?_
   have e2:bs.getD i false=b:=by rw [getD_eq_getElem?_getD,e];rfl
   dsimp only at hQ
   rw [e2] at hQ
   exact hQ
theorem OG (hc:X.calm=true) {K:PySem.W.Frag} (hK:X.K=K:=by rfl):DG X (.builtin "all") (fun xs H Q=>∃(a:Addr) (bs:List Bool),xs=[.ref a]/\SqL K H a (bs.map V.bl)/\Q (.bl (bs.all id)) H):=by
 subst hK
 intro pins s σ H xs us Q I r h
 obtain ⟨a,bs,rfl,hq,q⟩:=h
 obtain ⟨u,rfl,rx⟩:=FW r
 cases rx
 obtain ⟨its,rv,pl,hz⟩:=I.list hq
 have ei:=Hy rv
 subst ei
 have lt:a < s.heap.objs.size:=by obtain ⟨o,q,_⟩:=pl.isList;exact Heap.lt_size q
 refine call_all_walk (wpAny_pyIter_list pl.isList ?_)
 refine ⟨_,_,_,_,_,_,_,rfl,Walks.list (A:=X.A.in1) (I.ok.hd hc) s.heap.objs.size a (Nat.ne_of_lt lt) (bs.map Value.bool).toArray,⟨⟨_,Heap.get?_push_size _ rfl,rfl,rfl⟩,pl.isList.at fun o q=>Heap.get?_push_of_some _ q⟩,KM,fun h' tk hk=>?_⟩
 rw [size_toArray,length_map,NN]
 exact ⟨.bl _,H,I.kept (t':=tk) fun b o q=>hk b o (by simpa using Nat.ne_of_lt (Heap.lt_size q)) (Heap.get?_push_of_some _ q),rfl,q⟩
end
end L2
namespace L2
open PySem PySem.Spec PyProof.Rows
def Ir (n:Nat) (wi:TI) (g:TG) (tt:TT) (te:TE):TE:=fun σ H Q=>wi σ H fun J H1=>∀D,H1 D=none->∃W:Nat->Nat->List V->Hp->Prop,(∃m,W 0 m [] (upd H1 D (.lst [])))/\∀i m ys H2,W i m ys H2 ->
 H2 D=some (.lst ys)/\((J.stop i H2/\Q (.ref D) H2)\/(J.go i H2/\ys.length < sizeLine/\∀x H3,J.yld i H2 x H3->∀os:St,os.length=n->g x (σ++os) H3 fun σ4 H4=>(∃os':St,σ4=σ++os'/\os'.length=n)/\tt σ4 H4 fun b H5=>if b=true then te σ4 H5 fun y H6=>H6 D=some (.lst ys)/\∃m',m' < m/\W (i+1) m' (ys++[y]) (upd H6 D (.lst (ys++[y])))
  else ∃m',m' < m/\W (i+1) m' ys H5))
structure D8 (N Nc:List Str) (xs:List Str) (sc fsc:Scope):Prop where
 kind:sc.kind=.function
 cell:∀y∈sc.names,y.2≠.cell
 nm:∀y∈sc.names,y.2=.local->sc.names.lookup y.1=some .local
 own:∀x∈xs,sc.names.lookup x=some .local
 fr:∀y∈sc.names,y.2=.free->fsc.names.lookup y.1=some .cell\/fsc.names.lookup y.1=some .free
 len:Nc.length=N.length+xs.length
 nd:Nc.Nodup
 last:Nc.drop N.length=xs
 slot:((List.range N.length).all fun i=>match Nc[i]? with
  | some y=>(match sc.names.lookup y with | some .free=>N[i]? == some y | some .local=>false | some .cell=>false | _=>true)
  | none=>true)=true
theorem D8.at {N Nc:List Str} {xs:List Str} {sc fsc:Scope} (C:D8 N Nc xs sc fsc) {i:Nat} {y:Str} (hi:i < N.length) (h:Nc[i]?=some y):sc.names.lookup y≠some .local/\sc.names.lookup y≠some .cell/\(sc.names.lookup y=some .free->N[i]?=some y):=by
 have q:=all_eq_true.mp C.slot i (mem_range.mpr hi)
 rw [h] at q
 dsimp only at q
 cases e:sc.names.lookup y with
 | none=>exact ⟨fun z=>(nomatch z),fun z=>(nomatch z),fun z=>(nomatch z)⟩
 | some k =>
   rw [e] at q
   cases k with
   | «local»=>exact absurd (show false=true from q) Bool.false_ne_true
   | cell=>exact absurd (show false=true from q) Bool.false_ne_true
   | free=>exact ⟨fun z=>(nomatch z),fun z=>(nomatch z),fun _=>by simpa using q⟩
   | _=>exact ⟨fun z=>(nomatch z),fun z=>(nomatch z),fun z=>(nomatch z)⟩
theorem CI {X:Cx} {N Nc xs:List Str} {sc fsc:Scope} {cl:List (Str × Addr)} {s:Shared} {H:Hp} {ex:List Addr} {x:Str} {px:Pos} {j n:Nat} (cn:D8 N Nc xs sc fsc) (hj:xs[j]?=some x) (hn:n=N.length+j):PG (X.inComp Nc sc cl s H ex) (.Name x px) (B4 n):=by
 have own:(relabel sc X.env).names.lookup x=some .local:=by
  have e:=CG X.env sc.names x
  rw [cn.own x (mem_of_getElem? hj)] at e
  exact e
 refine Bg (X:=X.inComp Nc sc cl s H ex) cn.nd ?_ (.inl own) (.inr own)
 show Nc[n]?=some x
 rw [hn,<- List.getElem?_drop,cn.last]
 exact hj
theorem Tc {prog:Program} {w:World} {A:Around} {R:Result->Shared->Prop} {s:Shared} {elt tg iter:Expr} {ifs:List Expr} {scope:Scope} {pos:Pos} {it acc:Value} {env:Env} (I:Nat->Shared->Prop)
 (turn:∀n s,I n s->wpAny (model prog w) A (pyNext it) (fun r s₁=>match r with
  | none=>R (.ok .next) s₁
  | some v=>wpAny (model prog w) A (letOwnedTupleGo tg it v) (fun _ z=>wpAny (model prog w) A (assign tg env v) (fun _ s₂ =>
   wpAny (model prog w) A (forIn ifs true fun c r=>if r=true then do let ok <- isTrue c env (eval c env);pure (ForInStep.yield ok) else pure (ForInStep.yield r)) (fun ok s₃ =>
    if ok=true then wpAny (model prog w) A (eval elt env) (fun x s₄=>wpAny (model prog w) A (call (.builtin "list.append") [acc,x]) (fun _ s₅=>∃m,m < n/\I m s₅) (fun _ _=>False) s₄) (fun _ _=>False) s₃
    else ∃m,m < n/\I m s₃) (fun _ _=>False) s₂) (fun _ _=>False) z) (fun _ _=>False) s₁) (fun _ _=>False) s)
 (n:Nat) (h:I n s):codeAny (model prog w) A (.compLoop (.ListComp elt [⟨tg,iter,ifs,0⟩] scope pos) 0 it acc env) R s:=by
 refine codeAny_loop rfl I (fun k z y=>?_) n h
 show wpAny _ A ((compTurn (.ListComp elt [⟨tg,iter,ifs,0⟩] scope pos) 0 it acc env).onRaise fun x=>do noteFrame x env;theTreesLotGoes x) _ _ z
 refine wpAny_noted ?_
 rw [compTurn_list]
 refine wpAny_bind (wpAny_standAt (wpAny_bind (Fu (turn k z y) fun r s₁ q1=>?_)))
 cases r with
 | none=>exact wpAny_pure q1
 | some v =>
   refine wpAny_bind (Fu q1 fun _ z q2=>wpAny_bind (Fu q2 fun _ s₂ q3=>wpAny_bind (Fu q3 fun ok s₃ q4=>?_)))
   cases ok with
   | false=>exact wpAny_pure ⟨rfl,q4⟩
   | true=>exact wpAny_bind (wpAny_bind (Fu q4 fun x s₄ q5=>wpAny_bind (Fu q5 fun _ s₅ q6=>wpAny_pure (wpAny_pure ⟨rfl,q6⟩))))
section
variable {X:Cx} {elt iter:Expr} {xs:List Str} {tg:Expr} {g:TG} {pos:Pos} {ifs:List Expr} {sc fsc:Scope} {N Nc:List Str} {wi:TI} {tt:TT} {te:TE}
theorem Ez (hE:X.env.scope=fsc) (hXN:X.N=N) (cn:D8 N Nc xs sc fsc) (hc:X.calm=true)
 (hg:∀cl s H ex,PG (X.inComp Nc sc cl s H ex) tg g) (ht:∀cl s H ex,Ga (X.inComp Nc sc cl s H ex) ifs tt) (he:∀cl s H ex,PE (X.inComp Nc sc cl s H ex) elt te)
 {cl:List (Str × Addr)} (clS:∀y c,cl.lookup y=some c->X.env.cells.lookup y=some c) (clH:∀y∈sc.names,y.2=.free->∃c,cl.lookup y.1=some c)
 {pins:List (Addr × Obj)} {σ:St} {H2:Hp} {s2:Shared} {it:Addr} {fp:List Addr} {tn:Nat->Heap->Prop} {J:It} {Q:VK} {E:Value->Shared->Prop}
 (I2:Inv X pins σ H2 s2) (T:KS X.prog X.w X.K tg J fp it tn) (st2:tn 0 s2.heap) (f2:∀b∈fp,GO X pins H2 b)
 (h2:∀D,H2 D=none->∃W:Nat->Nat->List V->Hp->Prop,(∃m,W 0 m [] (upd H2 D (.lst [])))/\∀i m ys H2,W i m ys H2 ->
  H2 D=some (.lst ys)/\((J.stop i H2/\Q (.ref D) H2)\/(J.go i H2/\ys.length < sizeLine/\∀x H3,J.yld i H2 x H3->∀os:St,os.length=xs.length->g x (σ++os) H3 fun σ4 H4=>(∃os':St,σ4=σ++os'/\os'.length=xs.length)/\tt σ4 H4 fun b H5=>if b=true then te σ4 H5 fun y H6=>H6 D=some (.lst ys)/\∃m',m' < m/\W (i+1) m' (ys++[y]) (upd H6 D (.lst (ys++[y])))
   else ∃m',m' < m/\W (i+1) m' ys H5))) :
 wpAny (model X.prog X.w) X.A (newList []) (fun acc s₃=>wpAny (model X.prog X.w) X.A (newFunctionEnv sc X.env.globals cl [] X.env.qual none .none (some X.env)) (fun cenv s₄ =>
  codeAny (model X.prog X.w) X.A (.compStart (.ListComp elt [⟨tg,iter,ifs,0⟩] sc pos) 0 (.ref it) acc { cenv with scope:=relabel sc X.env })
   (fun r s'=>r=.ok .next/\∃D H',acc=.ref D/\Inv X pins σ H' s'/\Q (.ref D) H'/\PL X pins H' cenv.locals/\∃m,s'.heap.Ns cenv.locals m) s₄) E s₃) E s2:=by
 refine wpAny_newObj_type (wpAny_newFunctionEnv cn.cell (by intro y hy;simp at hy) (fun h₁ hns₁ hsb₁=>?_) cn.kind)
 dsimp only at hns₁ hsb₁ ⊢
 have hD:H2 s2.heap.objs.size=none:=I2.hok.fresh (Nat.le_refl _)
 obtain ⟨W,⟨m0,w0⟩,turn⟩:=h2 s2.heap.objs.size hD
 have I3:Inv X pins σ (upd H2 s2.heap.objs.size (.lst [])) { s2 with heap:=s2.heap.push { cls:=.type "list",dict:=none,data:=.seq ([]:List Value).toArray } } :=
  I2.laid (t':=s2.toks) (fun b u e=>Heap.get?_push_of_some _ e) (Nat.le_refl _) ⟨Nat.zero_le _,[],0,.nil,Heap.get?_push_size _ rfl⟩
 generalize hs3:({ s2 with heap:=s2.heap.push { cls:=.type "list",dict:=none,data:=.seq ([]:List Value).toArray } }:Shared)=s3 at I3
 have eh:s3.heap=s2.heap.push { cls:=.type "list",dict:=none,data:=.seq ([]:List Value).toArray }:=by rw [<- hs3]
 have e2:({ s2 with heap:=h₁,toks:=s2.toks+([]:List (Str × Value)).length }:Shared)={ s3 with heap:=h₁,toks:=s3.toks }:=by rw [<- hs3];rfl
 generalize hH3:upd H2 s2.heap.objs.size (.lst [])=H3 at I3 w0
 rw [<- eh] at hns₁ hsb₁ ⊢
 rw [e2]
 have below2:∀b,b∈fp->b < s3.heap.objs.size:=fun b hb=>by
  obtain ⟨o,e,_⟩:=T.obj _ _ st2 b hb
  have:s2.heap.objs.size<=s3.heap.objs.size:=by rw [eh,Heap.size_push];exact Nat.le_succ _
  exact Nat.lt_of_lt_of_le (Heap.lt_size e) this
 have old:∀b o,s3.heap.get? b=some o->h₁.get? b=some o:=fun b o e=>(hsb₁.2 b (Nat.ne_of_lt (Heap.lt_size e))).trans (Heap.get?_push_of_some _ e)
 have old2:∀b o,s2.heap.get? b=some o->s3.heap.get? b=some o:=fun b o e=>by rw [eh];exact Heap.get?_push_of_some _ e
 have hsz3:s2.heap.objs.size < s3.heap.objs.size:=by rw [eh,Heap.size_push];exact Nat.lt_succ_self _
 have fpFree:∀b∈fp,H3 b=none:=fun b hb=>by
  rw [<- hH3,Al (fun z=>?_)]
  ·exact (f2 b hb).1
  ·obtain ⟨o,e,_⟩:=T.obj _ _ st2 b hb
   have:=Heap.lt_size e
   rw [z] at this
   exact Nat.lt_irrefl _ this
 have rl:∀y,(relabel sc X.env).names.lookup y=(sc.names.lookup y).map fun k=>if (k == NameKind.free && X.env.scope.kind == .function && X.env.kindOf y == some .cell) then NameKind.cell else k:=fun y=>CG X.env sc.names y
 have freeOf:∀y,sc.names.lookup y=some .free->∃c,cl.lookup y=some c:=fun y e=>clH (y,.free) (PySem.mem_of_lookup e) rfl
 have noCell:∀y,sc.names.lookup y≠some .cell:=fun y e=>cn.cell (y,.cell) (PySem.mem_of_lookup e) rfl
 have isFree:∀y,((relabel sc X.env).names.lookup y=some .cell\/(relabel sc X.env).names.lookup y=some .free)->sc.names.lookup y=some .free:=fun y h=>by
  rw [rl y] at h
  cases e:sc.names.lookup y with
  | none=>rw [e] at h;rcases h with z | z <;> exact absurd z (by simp)
  | some k =>
    rw [e] at h
    cases k with
    | free=>rfl
    | cell=>exact absurd e (noCell y)
    | «local»=>rcases h with z | z <;> exact absurd z (by simp)
    | _=>rcases h with z | z <;> exact absurd z (by simp)
 have exOk:∀b∈fp,b≠s3.heap.objs.size/\(∀y c,X.env.cells.lookup y=some c->c≠b)/\b ∉ frs X.stack:=fun b hb=>by
  obtain ⟨g0,g1,g2,g3,g4,g5⟩:=f2 b hb
  refine ⟨Nat.ne_of_lt (below2 b hb),g4,fun z=>?_⟩
  rcases mem_cons.mp (I2.stkSub b z) with z | z
  ·exact g1 z
  ·exact g2 z
 have hCnew:X.s₀.heap.objs.size<=s3.heap.objs.size:=I3.sz
 have hCcell:∀y c,X.env.cells.lookup y=some c->c≠s3.heap.objs.size:=fun y c e z=>by
  obtain ⟨v,q⟩:=I3.cell y c e
  have:=q.lt
  rw [z] at this
  exact Nat.lt_irrefl _ this
 have hCpin:∀p∈X.pn++pins,p.1≠s3.heap.objs.size:=fun p hp z=>by
  have:=Heap.lt_size (I3.pin p hp).1
  rw [z] at this
  exact Nat.lt_irrefl _ this
 have okc:(X.inComp Nc sc cl s3 H3 fp).Ok:=by
  refine ⟨I3.ok.mod,cn.kind,I3.ok.glob,I3.ok.blt,Nat.le_refl _,fun y z c h1 h2=>I3.ok.inj y z c (clS y c h1) (clS z c h2),fun y hy=>freeOf y (isFree y hy),fun y c hf=>absurd (show false=true from hf) Bool.false_ne_true,I3.ok.hd,I3.ok.frames,.inl rfl,
   fun b hb=>⟨(exOk b hb).1,fun y c e=>(exOk b hb).2.1 y c (clS y c e)⟩,fun b o e=>I3.bs b o e,Nat.le_trans I3.ok.bsz I3.sz,fun b o e hb=>?_,fun b hb=>(exOk b hb).2.2,I3.stack,I3.stkFree⟩
  obtain ⟨g0,g1,g2,g3,g4,g5⟩:=f2 b hb
  rcases g3 with z | z
  ·exact I3.ok.noex b o e z
  ·exact absurd (Heap.lt_size (I3.ok.bs b o e).1) (Nat.not_lt.mpr z)
 have hlen:σ.length=N.length:=by rw [I3.len,hXN]
 have Ic:Inv (X.inComp Nc sc cl s3 H3 fp) [] (σ++List.replicate xs.length none) H3 { s3 with heap:=h₁,toks:=s3.toks }:=by
  refine ⟨okc,rfl,I3.bare,Un.kept old,⟨_,hns₁,fun i y v h1 h2 h3=>?_⟩,fun y c e=>?_,I3.hok.fresh (Nat.le_refl _),fun y c e=>I3.freeC y c (clS y c e),fun p hp=>absurd (show p∈([]:List (Addr × Obj)) from hp) (by simp),I3.hok.kept old,?_⟩
  ·have hi:i < σ.length:=by
    by_cases hi:i < σ.length
    ·exact hi
    ·rw [List.getElem?_append_right (Nat.not_lt.mp hi)] at h2
     rw [List.getElem?_replicate] at h2
     split at h2 <;> cases h2
   rw [List.getElem?_append_left hi] at h2
   have hi':i < N.length:=by rw [<- hlen];exact hi
   obtain ⟨n1,n2,n3⟩:=cn.at hi' h1
   have hf:sc.names.lookup y=some .free:=by
    rcases h3 with z | z
    ·exfalso
     have z':(relabel sc X.env).names.lookup y=some .local:=z
     rw [rl y] at z'
     cases e:sc.names.lookup y with
     | none=>rw [e] at z';simp at z'
     | some k =>
       rw [e] at z'
       cases k with
       | «local»=>exact n1 e
       | cell=>exact n2 e
       | free =>
         simp only [Option.map_some,Option.some.injEq] at z'
         split at z' <;> cases z'
       | _=>simp at z'
    ·exact isFree y z
   have hN:X.N[i]?=some y:=by rw [hXN];exact n3 hf
   obtain ⟨m,hn,hl⟩:=I3.loc
   have hv:fsc.names.lookup y=some .cell\/fsc.names.lookup y=some .free:=cn.fr (y,.free) (PySem.mem_of_lookup hf) rfl
   have hv':X.env.scope.names.lookup y=some .cell\/X.env.scope.names.lookup y=some .free:=by rw [hE];exact hv
   obtain ⟨u,ru,lk⟩:=hl i y v hN h2 (.inr hv')
   refine ⟨u,ru,.inr ⟨?_,?_⟩⟩
   ·show (relabel sc X.env).names.lookup y=some .cell\/(relabel sc X.env).names.lookup y=some .free
    rw [rl y,hf]
    simp only [Option.map_some,Option.some.injEq]
    split
    ·exact .inl rfl
    ·exact .inr rfl
   ·rcases lk with ⟨kl,_⟩ | ⟨_,c,hc,hcell⟩
    ·exfalso
     have kl':X.env.scope.names.lookup y=some .local:=kl
     rw [kl'] at hv'
     rcases hv' with z | z <;> cases z
    ·obtain ⟨d,hd⟩:=freeOf y hf
     have ed:=clS y d hd
     rw [hc] at ed
     cases ed
     exact ⟨c,hd,hcell.keeps old⟩
  ·obtain ⟨v,q⟩:=I3.cell y c (clS y c e)
   exact ⟨v,q.keeps old⟩
  ·show (σ++List.replicate xs.length none).length=Nc.length
   rw [length_append,hlen,cn.len,length_replicate]
 have stc:tn 0 ({ s3 with heap:=h₁,toks:=s3.toks }:Shared).heap:=T.keep _ _ _ st2 fun b _ o e=>old b o (old2 b o e)
 have hDf:s2.heap.objs.size ∉ fp:=fun hm=>by
  obtain ⟨o,e,_⟩:=T.obj _ _ st2 _ hm
  exact Nat.lt_irrefl _ (Heap.lt_size e)
 have fpc:∀{pins':List (Addr × Obj)} {H':Hp},pins'=[]->(∀b∈fp,H' b=none)->∀b∈fp,GO (X.inComp Nc sc cl s3 H3 fp) pins' H' b:=fun {pins' H'} hp hn b hb=>by
  subst hp
  exact ⟨hn b hb,(exOk b hb).1,(exOk b hb).2.2,.inl hb,fun y c e=>(exOk b hb).2.1 y c (clS y c e),fun p hp=>absurd (show p∈([]:List (Addr × Obj)) from hp) (by simp)⟩
 have loop:∀s₄:Shared,s₄={ s3 with heap:=h₁,toks:=s3.toks } ->
  codeAny (model X.prog X.w) X.A (.compLoop (.ListComp elt [⟨tg,iter,ifs,0⟩] sc pos) 0 (.ref it) (.ref s2.heap.objs.size) (compEnvC sc cl s3.heap.objs.size X.env))
   (fun r s'=>r=.ok .next/\∃D H',(Value.ref s2.heap.objs.size)=.ref D/\Inv X pins σ H' s'/\Q (.ref D) H'/\PL X pins H' s3.heap.objs.size/\∃m,s'.heap.Ns s3.heap.objs.size m) s₄:=by
  rintro s₄ rfl
  refine Tc (fun n s'=>∃(i:Nat) (o:St) (H':Hp) (ys:List V),o.length=xs.length/\Inv (X.inComp Nc sc cl s3 H3 fp) [] (σ++o) H' s'/\tn i s'.heap/\(∀b∈fp,H' b=none)/\W i n ys H') ?_ m0 ⟨0,_,H3,[],length_replicate ..,Ic,stc,fpFree,w0⟩
  rintro n s' ⟨i,o,H',ys,lo,I',st',fr',w'⟩
  obtain ⟨hDl,tw⟩:=turn i n ys H' w'
  rcases tw with ⟨stop,q⟩ | ⟨go,hz,step⟩
  ·
   refine thn (T.done (X.inComp Nc sc cl s3 H3 fp) rfl rfl rfl hc i [] s' _ H' _ I' (fpc rfl fr') st' stop) fun r s5 ⟨hr,I5⟩=>?_
   subst hr
   have Ix:Inv X pins σ H' s5:=I3.call' (ch:=fp) I5.os I5.base I5.hok I5.bare fun b hb=>by
    obtain ⟨g0,g1,g2,g3,g4,g5⟩:=f2 b hb
    exact ⟨g3,g1,g4,g5⟩
   have hCf:H' s3.heap.objs.size=none:=I5.free
   obtain ⟨m,hn,_⟩:=I5.loc
   exact ⟨rfl,s2.heap.objs.size,H',rfl,Ix,q,⟨hCf,fun z=>Nat.lt_irrefl _ (by have:=I3.lt;rw [<- z] at this;exact this),hCnew,hCcell,hCpin⟩,m,hn⟩
  ·
   refine thn (T.item (X.inComp Nc sc cl s3 H3 fp) rfl rfl rfl hc i [] s' _ H' _ I' (fpc rfl fr') st' go) fun r s5 ⟨u,hr,h4⟩=>?_
   subst hr
   dsimp only
   refine Fu h4 fun _ s6 ⟨xv,H5,I5,r5,y5,st5,fr5⟩=>?_
   have I5':=I5.pinned (fpc rfl fr5) (T.obj _ _ st5)
   have again:∀{o':St} {H7:Hp} {s7:Shared} {m':Nat} {ys':List V},o'.length=xs.length->Inv (X.inComp Nc sc cl s3 H3 fp) ([]++G3 fp s6.heap) (σ++o') H7 s7->m' < n->W (i+1) m' ys' H7 ->
    ∃m,m < n/\∃(i:Nat) (o:St) (H':Hp) (ys:List V),o.length=xs.length/\Inv (X.inComp Nc sc cl s3 H3 fp) [] (σ++o) H' s7/\tn i s7.heap/\(∀b∈fp,H' b=none)/\W i m ys H':=fun {o' H7 s7 m' ys'} lo' I7 hm w7=>by
    refine ⟨m',hm,i+1,o',H7,ys',lo',I7.unpinned,T.keep _ _ _ st5 fun b hb o e=>(I7.pin (b,o) (mem_append_right _ (mem_append_right _ (CO hb e)))).1,fun b hb=>?_,w7⟩
    obtain ⟨o',e,d⟩:=T.obj _ _ st5 b hb
    exact (I7.pin (b,o') (mem_append_right _ (mem_append_right _ (CO hb e)))).2.1
   refine Fu (hg cl s3 H3 fp _ s6 _ H5 xv u _ I5' r5 (step xv _ y5 o lo)) fun _ s7 ⟨σ7,H7,I7,⟨o7,e7,lo7⟩,q7⟩=>?_
   subst e7
   refine Fu (ht cl s3 H3 fp _ s7 _ _ _ I7 q7) fun b s8 ⟨H8,I8,q8⟩=>?_
   cases b with
   | false =>
     rw [if_neg Bool.false_ne_true] at q8 ⊢
     obtain ⟨m',hm,w8⟩:=q8
     exact again lo7 I8 hm w8
   | true =>
     rw [if_pos rfl] at q8 ⊢
     refine Fu (he cl s3 H3 fp _ s8 _ H8 _ I8 q8) fun y s9 ⟨yv,H9,I9,r9,hD9,m',hm,w9⟩=>?_
     refine Fu (BO _ s9 _ H9 (.ref s2.heap.objs.size) [yv] (.ref s2.heap.objs.size) [y] (fun v H=>v=.non/\H=upd H9 s2.heap.objs.size (.lst (ys++[yv]))) I9 rfl (.cons r9 .nil) ⟨_,ys,yv,rfl,rfl,hD9,hz,rfl,rfl⟩) fun _ s10 ⟨v10,H10,I10,r10,e10,e11⟩=>?_
     subst e11
     exact again lo7 I10 hm w9
 exact codeAny_compStart_list (loop _ rfl) (T.self _ 0 _ _ _ stc (loop _ rfl))
theorem EU (I:∀y,(X.env.kindOf y=some .cell\/X.env.kindOf y=some .free)->∃c,X.env.cells.lookup y=some c) (hE:X.env.scope=fsc) (cn:D8 N Nc xs sc fsc):∀y∈sc.names,y.2=.free->∃c,X.env.cells.lookup y.1=some c:=fun y hy hf=>by
 refine I y.1 ?_
 show X.env.scope.names.lookup y.1=some .cell\/X.env.scope.names.lookup y.1=some .free
 rw [hE]
 exact cn.fr y hy hf
theorem KA (hE:X.env.scope=fsc) (hXN:X.N=N) (cn:D8 N Nc xs sc fsc) (hc:X.calm=true) (hi:PI X tg iter wi)
 (hg:∀cl s H ex,PG (X.inComp Nc sc cl s H ex) tg g) (ht:∀cl s H ex,Ga (X.inComp Nc sc cl s H ex) ifs tt) (he:∀cl s H ex,PE (X.inComp Nc sc cl s H ex) elt te)
 (hs:∀v,foldedSetIterable iter X.env v=pure v:=by intro _;rfl):PE X (.ListComp elt [⟨tg,iter,ifs,0⟩] sc pos) (Ir xs.length wi g tt te):=by
 intro pins s σ H Q I h
 obtain ⟨cl,hcl,clS,clH⟩:=DD (env:=X.env) (sc:=sc) (EU I.ok.has hE cn)
 rw [eval_ListComp]
 refine wpAny_comprehension_free (use:=none) rfl hs hcl cn.kind cn.nm (thn (hi pins s σ H _ I h) fun v s1 h1=>thn h1 fun itv s2 h2=>?_)
 obtain ⟨it,fp,tn,J,H2,rfl,I2,T,st2,f2,h2⟩:=h2
 refine thn (Ez (pos:=pos) (iter:=iter) hE hXN cn hc hg ht he clS clH I2 T st2 f2 h2) fun acc s3 h3=>thn h3 fun cenv s4 h4=>codeAny_mono h4 fun r s' h5=>?_
 obtain ⟨rfl,D,H',rfl,I',q,cloc,m,hn⟩:=h5
 exact ⟨m,hn,fun h' k=>⟨.ref D,H',I'.sameBut cloc k,rfl,q⟩⟩
theorem Ql {j:Nat} {y:Str} {py spos:Pos} (hE:X.env.scope=fsc) (hXN:X.N=N) (cn:D8 N Nc xs sc fsc) (hc:X.calm=true) (hnd:X.N.Nodup) (hj:X.N[j]?=some y) (hy:X.env.scope.names.lookup y=some .local) (hi:PI X tg iter wi)
 (hg:∀cl s H ex,PG (X.inComp Nc sc cl s H ex) tg g) (ht:∀cl s H ex,Ga (X.inComp Nc sc cl s H ex) ifs tt) (he:∀cl s H ex,PE (X.inComp Nc sc cl s H ex) elt te)
 (hsw:swapsWith (.ListComp elt [⟨tg,iter,ifs,0⟩] sc pos) (some (.Name y py)) spos.line X.env=pure true)
 (hs:∀v,foldedSetIterable iter X.env v=pure v:=by intro _;rfl):PS X (.Assign [.Name y py] (.ListComp elt [⟨tg,iter,ifs,0⟩] sc pos) spos) (Ow (Ir xs.length wi g tt te) (B4 j)):=by
 intro pins s σ H D I h
 obtain ⟨cl,hcl,clS,clH⟩:=DD (env:=X.env) (sc:=sc) (EU I.ok.has hE cn)
 rw [exec_Assign_Name_used _ _ _ _ hsw]
 refine wpAny_bind (wpAny_standAt (wpAny_bind ?_))
 show wpAny _ X.A (do let _ <- comprehension (.ListComp elt [⟨tg,iter,ifs,0⟩] sc pos) sc X.env _ (newList []) false (eval iter X.env) (some (assign (.Name y py) X.env))) _ _ s
 refine wpAny_bind (thn (wpAny_comprehension_free (Q:=fun _ s'=>SP X pins D .next s') rfl hs hcl cn.kind cn.nm (thn (hi pins s σ H _ I h) fun v s1 h1=>thn h1 fun itv s2 h2=>?_)) fun _ s' hq=>wpAny_pure (wpAny_pure hq))
 obtain ⟨it,fp,tn,J,H2,rfl,I2,T,st2,f2,h2⟩:=h2
 refine thn (Ez (pos:=pos) (iter:=iter) (Q:=fun x H1=>B4 j x σ H1 D.nx) hE hXN cn hc hg ht he clS clH I2 T st2 f2 h2) fun acc s3 h3=>thn h3 fun cenv s4 h4=>codeAny_mono h4 fun r s' h5=>?_
 obtain ⟨rfl,D',H',rfl,I',q,cloc,m,hn⟩:=h5
 refine wpAny_assign_Name (Gq (v:=.ref D') I' hnd hj (.inl hy) rfl (fun s6 I6 sb=>?_) (.inr hy))
 obtain ⟨a,k,ha⟩:=sb
 refine ⟨m,hn.sameBut k (fun z=>?_),fun h' k'=>⟨_,H',I6.sameBut cloc k',q⟩⟩
 rcases ha with ha | ha
 ·exact cloc.ne (z.trans ha)
 ·exact cloc.cells _ _ ha z.symm
end
theorem LK {K:PySem.W.Frag} {a:Addr} {zs:List V} {tt:TT} {te:TE} {σ:St} {H1:Hp} {Q:Addr->Hp->Prop} {n m:Nat} (hn:n=σ.length) (hm:m=σ.length+1) (hz:zs.length<=sizeLine) (Pv:Addr->Nat->List V->Hp->Prop)
 (h0:∀D,H1 D=none->Pv D 0 [] (upd H1 D (.lst []))) (hD:∀D i ys H,Pv D i ys H->H D=some (.lst ys)/\ys.length<=i) (hl:∀D i ys H,H1 D=none->Pv D i ys H->SqL K H a zs)
 (hs:∀D i x ys H (K1:VK) (K2:Hp->Prop),H1 D=none->zs[i]?=some x->Pv D i ys H->(∀y H5,H5 D=some (.lst ys)->Pv D (i+1) (ys++[y]) (upd H5 D (.lst (ys++[y])))->K1 y H5)->(∀H4,Pv D (i+1) ys H4->K2 H4) ->
  ∃t v w,x=.ref t/\SqT K H t [v,w]/\tt (σ++[some v,some w]) H fun b H4=>if b=true then te (σ++[some v,some w]) H4 K1 else K2 H4)
 (hd:∀D ys H,H1 D=none->Pv D zs.length ys H->Q D H) :
 ∀D,H1 D=none->∃W:Nat->Nat->List V->Hp->Prop,(∃m,W 0 m [] (upd H1 D (.lst [])))/\∀i k ys H2,W i k ys H2 ->
  H2 D=some (.lst ys)/\(((Itl K a).stop i H2/\Q D H2)\/((Itl K a).go i H2/\ys.length < sizeLine/\∀x H3,(Itl K a).yld i H2 x H3->∀os:St,os.length=2->K5 K 2 (Dl (B4 n) (Dl (B4 m) KW)) x (σ++os) H3 fun σ4 H4=>(∃os':St,σ4=σ++os'/\os'.length=2)/\tt σ4 H4 fun b H5=>if b=true then te σ4 H5 fun y H6=>H6 D=some (.lst ys)/\∃m',m' < k/\W (i+1) m' (ys++[y]) (upd H6 D (.lst (ys++[y])))
   else ∃m',m' < k/\W (i+1) m' ys H5)):=by
 intro D hDn
 subst hn hm
 refine ⟨fun i m ys H=>m=zs.length - i/\i<=zs.length/\Pv D i ys H,⟨zs.length,rfl,Nat.zero_le _,h0 D hDn⟩,?_⟩
 rintro i m ys H2 ⟨rfl,hi,p⟩
 obtain ⟨e,l⟩:=hD D i ys H2 p
 have q:=hl D i ys H2 hDn p
 refine ⟨e,?_⟩
 by_cases hlt:i < zs.length
 ·refine .inr ⟨⟨zs,zs[i],q,by simp [hlt]⟩,Nat.lt_of_le_of_lt l (Nat.lt_of_lt_of_le hlt hz),fun x H3 y os ho=>?_⟩
  obtain ⟨e1,y⟩:=y
  subst e1
  obtain ⟨t,v,w,rfl,ht,q5⟩:=hs D i x ys _ (fun y H6=>H6 D=some (.lst ys)/\∃m',m' < zs.length - i/\m'=zs.length - (i+1)/\i+1<=zs.length/\Pv D (i+1) (ys++[y]) (upd H6 D (.lst (ys++[y])))) (fun H5=>∃m',m' < zs.length - i/\m'=zs.length - (i+1)/\i+1<=zs.length/\Pv D (i+1) ys H5) hDn (y zs q) p (fun y H5 h5 p5=>⟨h5,zs.length - (i+1),by omega,rfl,hlt,p5⟩) fun H4 p4=>⟨zs.length - (i+1),by omega,rfl,hlt,p4⟩
  match os,ho with
  | [o1,o2],_ =>
    have e2:((σ++[o1,o2]).set σ.length (some v)).set (σ.length+1) (some w)=σ++[some v,some w]:=by
     rw [set_append_right _ _ (Nat.le_refl _),Nat.sub_self,set_append_right _ _ (Nat.le_succ _)]
     rw [show (List.length σ+1) - List.length σ=1 by omega]
     rfl
    refine ⟨t,[v,w],rfl,ht,rfl,v,[w],rfl,w,[],rfl,rfl,?_⟩
    refine ⟨⟨[some v,some w],e2,rfl⟩,?_⟩
    rw [e2]
    exact q5
 ·have ei:i=zs.length:=by omega
  subst ei
  exact .inl ⟨⟨zs,q,Nat.le_refl _⟩,hd D ys H2 hDn p⟩
section
variable {X:Cx} {elt iter:Expr} {x1 x2 x3:Str} {p1 p2 p3 pt pos:Pos} {k:Nat} {ifs:List Expr} {sc fsc:Scope} {N Nc:List Str} {wi:TI} {tt:TT} {te:TE}
theorem Io (hE:X.env.scope=fsc) (hXN:X.N=N) (cn:D8 N Nc [x1,x2] sc fsc) (hc:X.calm=true) (hi:PI X (.Tuple [.Name x1 p1,.Name x2 p2] k pt) iter wi)
 (ht:∀cl s H ex,Ga (X.inComp Nc sc cl s H ex) ifs tt) (he:∀cl s H ex,PE (X.inComp Nc sc cl s H ex) elt te) (hs:∀v,foldedSetIterable iter X.env v=pure v:=by intro _;rfl) :
 PE X (.ListComp elt [⟨.Tuple [.Name x1 p1,.Name x2 p2] k pt,iter,ifs,0⟩] sc pos) (Ir 2 wi (K5 X.K 2 (Dl (B4 N.length) (Dl (B4 (N.length+1)) KW))) tt te) :=
 KA hE hXN cn hc hi (fun cl s H ex=>Fw (X:=X.inComp Nc sc cl s H ex) hc (Be (CI (j:=0) cn rfl rfl) (Be (CI (j:=1) cn rfl rfl) E4))) ht he hs
theorem L5 (hE:X.env.scope=fsc) (hXN:X.N=N) (cn:D8 N Nc [x1,x2,x3] sc fsc) (hc:X.calm=true) (hi:PI X (.Tuple [.Name x1 p1,.Name x2 p2,.Name x3 p3] k pt) iter wi)
 (ht:∀cl s H ex,Ga (X.inComp Nc sc cl s H ex) ifs tt) (he:∀cl s H ex,PE (X.inComp Nc sc cl s H ex) elt te) (hs:∀v,foldedSetIterable iter X.env v=pure v:=by intro _;rfl) :
 PE X (.ListComp elt [⟨.Tuple [.Name x1 p1,.Name x2 p2,.Name x3 p3] k pt,iter,ifs,0⟩] sc pos) (Ir 3 wi (K5 X.K 3 (Dl (B4 N.length) (Dl (B4 (N.length+1)) (Dl (B4 (N.length+2)) KW)))) tt te) :=
 KA hE hXN cn hc hi (fun cl s H ex=>Fw (X:=X.inComp Nc sc cl s H ex) hc (Be (CI (j:=0) cn rfl rfl) (Be (CI (j:=1) cn rfl rfl) (Be (CI (j:=2) cn rfl rfl) E4)))) ht he hs
theorem Ph {j:Nat} {y:Str} {py spos:Pos} (hE:X.env.scope=fsc) (hXN:X.N=N) (cn:D8 N Nc [x1,x2] sc fsc) (hc:X.calm=true) (hnd:X.N.Nodup) (hj:X.N[j]?=some y) (hy:X.env.scope.names.lookup y=some .local) (hi:PI X (.Tuple [.Name x1 p1,.Name x2 p2] k pt) iter wi)
 (ht:∀cl s H ex,Ga (X.inComp Nc sc cl s H ex) ifs tt) (he:∀cl s H ex,PE (X.inComp Nc sc cl s H ex) elt te)
 (hsw:swapsWith (.ListComp elt [⟨.Tuple [.Name x1 p1,.Name x2 p2] k pt,iter,ifs,0⟩] sc pos) (some (.Name y py)) spos.line X.env=pure true)
 (hs:∀v,foldedSetIterable iter X.env v=pure v:=by intro _;rfl) :
 PS X (.Assign [.Name y py] (.ListComp elt [⟨.Tuple [.Name x1 p1,.Name x2 p2] k pt,iter,ifs,0⟩] sc pos) spos) (Ow (Ir 2 wi (K5 X.K 2 (Dl (B4 N.length) (Dl (B4 (N.length+1)) KW))) tt te) (B4 j)) :=
 Ql hE hXN cn hc hnd hj hy hi (fun cl s H ex=>Fw (X:=X.inComp Nc sc cl s H ex) hc (Be (CI (j:=0) cn rfl rfl) (Be (CI (j:=1) cn rfl rfl) E4))) ht he hsw hs
end
end L2
namespace L2
open PySem PySem.Spec PyProof.Rows
theorem GF.ns {N Nc:List Str} {x:Str} {sc fsc:Scope} (c:GF N Nc x sc fsc):D8 N Nc [x] sc fsc:=⟨c.kind,c.cell,c.nm,fun y m=>by rw [mem_singleton.mp m];exact c.own,c.fr,c.len,c.nd,by
 have l:=c.len
 refine ext_getElem? fun i=>?_
 rw [List.getElem?_drop]
 cases i with
 | zero=>exact c.last
 | succ i=>rw [List.getElem?_eq_none (by omega),List.getElem?_eq_none (by show 1<=i+1;omega)],c.slot⟩
section
variable {X:Cx} {elt iter:Expr} {x:Str} {px pos:Pos} {ifs:List Expr} {sc fsc:Scope} {N Nc:List Str} {wi:TI} {tt:TT} {te:TE}
theorem Jn {J:It} {σ:St} {H1:Hp} {Q:VK} {n:Nat} (hn:n=σ.length) (h:∀D,H1 D=none->∃W:Nat->Nat->List V->Hp->Prop,(∃m,W 0 m [] (upd H1 D (.lst [])))/\∀i m ys H2,W i m ys H2 ->
 H2 D=some (.lst ys)/\((J.stop i H2/\Q (.ref D) H2)\/(J.go i H2/\ys.length < sizeLine/\∀x H3,J.yld i H2 x H3->tt (σ++[some x]) H3 fun b H4=>if b=true then te (σ++[some x]) H4 fun y H5=>H5 D=some (.lst ys)/\∃m',m' < m/\W (i+1) m' (ys++[y]) (upd H5 D (.lst (ys++[y])))
  else ∃m',m' < m/\W (i+1) m' ys H4))) :
 ∀D,H1 D=none->∃W:Nat->Nat->List V->Hp->Prop,(∃m,W 0 m [] (upd H1 D (.lst [])))/\∀i m ys H2,W i m ys H2 ->
  H2 D=some (.lst ys)/\((J.stop i H2/\Q (.ref D) H2)\/(J.go i H2/\ys.length < sizeLine/\∀x H3,J.yld i H2 x H3->∀os:St,os.length=1->B4 n x (σ++os) H3 fun σ4 H4=>(∃os':St,σ4=σ++os'/\os'.length=1)/\tt σ4 H4 fun b H5=>if b=true then te σ4 H5 fun y H6=>H6 D=some (.lst ys)/\∃m',m' < m/\W (i+1) m' (ys++[y]) (upd H6 D (.lst (ys++[y])))
   else ∃m',m' < m/\W (i+1) m' ys H5)):=by
 intro D hD
 obtain ⟨W,w0,w1⟩:=h D hD
 refine ⟨W,w0,fun i m ys H2 w=>?_⟩
 obtain ⟨a,b⟩:=w1 i m ys H2 w
 refine ⟨a,b.imp id fun ⟨c,d,e⟩=>⟨c,d,fun x H3 y os ho=>?_⟩⟩
 match os,ho with
 | [o],_ =>
   have e2:(σ++[o]).set n (some x)=σ++[some x]:=by rw [hn];exact KO
   show (∃os':St,(σ++[o]).set n (some x)=σ++os'/\os'.length=1)/\_
   rw [e2]
   exact ⟨⟨[some x],rfl,rfl⟩,e x H3 y⟩
theorem Cp (hE:X.env.scope=fsc) (hXN:X.N=N) (cn:GF N Nc x sc fsc) (hc:X.calm=true) (hi:PI X (.Name x px) iter wi)
 (ht:∀cl s H ex,Ga (X.inComp Nc sc cl s H ex) ifs tt) (he:∀cl s H ex,PE (X.inComp Nc sc cl s H ex) elt te)
 (hs:∀v,foldedSetIterable iter X.env v=pure v:=by intro _;rfl):PE X (.ListComp elt [⟨.Name x px,iter,ifs,0⟩] sc pos) (Kw wi tt te):=by
 intro pins s σ H Q I h
 obtain ⟨cl,hcl,clS,clH⟩:=DD (env:=X.env) (sc:=sc) (EU I.ok.has hE cn.ns)
 rw [eval_ListComp]
 refine wpAny_comprehension_free (use:=none) rfl hs hcl cn.kind cn.nm (thn (hi pins s σ H _ I h) fun v s1 h1=>thn h1 fun itv s2 h2=>?_)
 obtain ⟨it,fp,tn,J,H2,rfl,I2,T,st2,f2,h2⟩:=h2
 refine thn (Ez (pos:=pos) (iter:=iter) hE hXN cn.ns hc (fun cl s H ex=>CI (j:=0) cn.ns rfl rfl) ht he clS clH I2 T st2 f2 (Jn (by rw [I2.len,hXN];rfl) h2)) fun acc s3 h3=>thn h3 fun cenv s4 h4=>codeAny_mono h4 fun r s' h5=>?_
 obtain ⟨rfl,D,H',rfl,I',q,cloc,m,hn⟩:=h5
 exact ⟨m,hn,fun h' k=>⟨.ref D,H',I'.sameBut cloc k,rfl,q⟩⟩
theorem Rm {j:Nat} {y:Str} {py spos:Pos} (hE:X.env.scope=fsc) (hXN:X.N=N) (cn:GF N Nc x sc fsc) (hc:X.calm=true) (hnd:X.N.Nodup) (hj:X.N[j]?=some y) (hy:X.env.scope.names.lookup y=some .local) (hi:PI X (.Name x px) iter wi)
 (ht:∀cl s H ex,Ga (X.inComp Nc sc cl s H ex) ifs tt) (he:∀cl s H ex,PE (X.inComp Nc sc cl s H ex) elt te)
 (hsw:swapsWith (.ListComp elt [⟨.Name x px,iter,ifs,0⟩] sc pos) (some (.Name y py)) spos.line X.env=pure true)
 (hs:∀v,foldedSetIterable iter X.env v=pure v:=by intro _;rfl):PS X (.Assign [.Name y py] (.ListComp elt [⟨.Name x px,iter,ifs,0⟩] sc pos) spos) (Ow (Kw wi tt te) (B4 j)):=by
 intro pins s σ H D I h
 obtain ⟨cl,hcl,clS,clH⟩:=DD (env:=X.env) (sc:=sc) (EU I.ok.has hE cn.ns)
 rw [exec_Assign_Name_used _ _ _ _ hsw]
 refine wpAny_bind (wpAny_standAt (wpAny_bind ?_))
 show wpAny _ X.A (do let _ <- comprehension (.ListComp elt [⟨.Name x px,iter,ifs,0⟩] sc pos) sc X.env _ (newList []) false (eval iter X.env) (some (assign (.Name y py) X.env))) _ _ s
 refine wpAny_bind (thn (wpAny_comprehension_free (Q:=fun _ s'=>SP X pins D .next s') rfl hs hcl cn.kind cn.nm (thn (hi pins s σ H _ I h) fun v s1 h1=>thn h1 fun itv s2 h2=>?_)) fun _ s' hq=>wpAny_pure (wpAny_pure hq))
 obtain ⟨it,fp,tn,J,H2,rfl,I2,T,st2,f2,h2⟩:=h2
 refine thn (Ez (pos:=pos) (iter:=iter) (Q:=fun x H1=>B4 j x σ H1 D.nx) hE hXN cn.ns hc (fun cl s H ex=>CI (j:=0) cn.ns rfl rfl) ht he clS clH I2 T st2 f2 (Jn (Q:=fun x H1=>B4 j x σ H1 D.nx) (by rw [I2.len,hXN];rfl) h2)) fun acc s3 h3=>thn h3 fun cenv s4 h4=>codeAny_mono h4 fun r s' h5=>?_
 obtain ⟨rfl,D',H',rfl,I',q,cloc,m,hn⟩:=h5
 refine wpAny_assign_Name (Gq (v:=.ref D') I' hnd hj (.inl hy) rfl (fun s6 I6 sb=>?_) (.inr hy))
 obtain ⟨a,k,ha⟩:=sb
 refine ⟨m,hn.sameBut k (fun z=>?_),fun h' k'=>⟨_,H',I6.sameBut cloc k',q⟩⟩
 rcases ha with ha | ha
 ·exact cloc.ne (z.trans ha)
 ·exact cloc.cells _ _ ha z.symm
end
end L2
namespace L2
open PySem PySem.Spec PyProof.Rows
def Itz (K:PySem.W.Frag) (a b:Addr):It :=
 ⟨fun i H=>∃xs ys x y,SqL K H a xs/\SqL K H b ys/\xs[i]?=some x/\ys[i]?=some y,fun i H x H'=>∃T y z,x=.ref T/\H T=none/\H'=upd H T (.tup [y,z])/\(∀xs,SqL K H a xs->xs[i]?=some y)/\∀xs,SqL K H b xs->xs[i]?=some z,
  fun i H=>∃xs ys,SqL K H a xs/\SqL K H b ys/\(xs.length<=i\/ys.length<=i)⟩
theorem NS {n a b:Nat} (ha:a < n) (hb:b < n):ZipApart (n+4) (n+2) (n+3) n (n+1) a b:=by
 constructor <;> (show @Ne Nat _ _) <;> omega
theorem O7 {z TO i1 i2 TI c:Addr} (h:c ∉ [z,TI,TO,i1,i2]):c≠z/\c≠TO/\c≠i1/\c≠i2 :=
 ⟨fun e=>h (by simp [e]),fun e=>h (by simp [e]),fun e=>h (by simp [e]),fun e=>h (by simp [e])⟩
theorem OM {P:Program} {w:World} {K:PySem.W.Frag} {es:List Expr} {k:Nat} {pos:Pos} (a b z TI TO i1 i2:Addr) (D:ZipApart z TI TO i1 i2 a b) :
 KS P w K (.Tuple es k pos) (Itz K a b) [z,TI,TO,i1,i2] z (fun i h=>IsZip h z TI TO .none/\IsPair h TI (.ref i1) (.ref i2)/\(∃u v,IsPair h TO u v)/\h.IsListIter i1 a i/\h.IsListIter i2 b i) where
 mem:=by simp
 obj:=fun i h st c hc=>by
  obtain ⟨hz,hTI,⟨u,v,hTO⟩,⟨o1,e1,c1,d1⟩,o2,e2,c2,d2⟩:=st
  simp only [mem_cons,List.not_mem_nil,or_false] at hc
  rcases hc with q | q | q | q | q <;> subst q
  ·exact ⟨_,hz,fun v z=>by cases (show Data.fields _=Data.cell v from z)⟩
  ·exact ⟨_,hTI,fun v z=>by cases (show Data.seq _ _=Data.cell v from z)⟩
  ·exact ⟨_,hTO,fun v z=>by cases (show Data.seq _ _=Data.cell v from z)⟩
  ·exact ⟨o1,e1,fun v z=>by rw [d1] at z;cases z⟩
  ·exact ⟨o2,e2,fun v z=>by rw [d2] at z;cases z⟩
 keep:=fun i h h' st kk=>by
  obtain ⟨hz,hTI,⟨u,v,hTO⟩,h1,h2⟩:=st
  exact ⟨kk z (by simp) _ hz,kk TI (by simp) _ hTI,⟨u,v,kk TO (by simp) _ hTO⟩,h1.at fun o q=>kk i1 (by simp) o q,h2.at fun o q=>kk i2 (by simp) o q⟩
 item:=by
  intro X hP hw hK hc i pins s σ H E I hf st hg
  subst hP hw hK
  obtain ⟨xs,ys,x,y,hx,hy,ex,ey⟩:=hg
  obtain ⟨its,rv,p,_⟩:=I.list hx
  obtain ⟨jts,rw',p',_⟩:=I.list hy
  obtain ⟨u,hu,ru⟩:=rv.get ex
  obtain ⟨v,hv,rv'⟩:=rw'.get ey
  obtain ⟨hz,hTI,⟨c,d,hTO⟩,h1,h2⟩:=st
  refine wpAny_pyNext_zip_item D hz hTI hTO h1 h2 p.isList p'.isList (x:=u) (y:=v) (by simpa using hu) (by simpa using hv) fun g1 z1 t1 a1 a2 nT hsz hk=>⟨_,rfl,?_⟩
  refine wpAny_letOwnedTupleGo_zip z1 fun g2 z2 sb=>?_
  have fr:H s.heap.objs.size=none:=I.hok.fresh (Nat.le_refl _)
  have lt:∀b∈[z,TI,TO,i1,i2],b < s.heap.objs.size:=fun b hb=>by
   obtain ⟨o1,e1,_⟩:=id h1
   obtain ⟨o2,e2,_⟩:=id h2
   simp only [mem_cons,List.not_mem_nil,or_false] at hb
   rcases hb with q | q | q | q | q <;> subst q
   ·exact Heap.lt_size hz
   ·exact Heap.lt_size hTI
   ·exact Heap.lt_size hTO
   ·exact Heap.lt_size e1
   ·exact Heap.lt_size e2
  refine ⟨.ref s.heap.objs.size,upd H s.heap.objs.size (.tup [x,y]),?_,rfl,⟨_,x,y,rfl,fr,rfl,fun l hl=>by rw [I.list_inj hl hx];exact ex,fun l hl=>by rw [I.list_inj hl hy];exact ey⟩,
   ⟨z2,(sb.2 TI D.TIz).trans (hk TI _ D.TIz D.TITO D.TIi1 D.TIi2 hTI),⟨u,v,(sb.2 TO D.TOz).trans t1⟩,a1.at fun o q=>(sb.2 i1 D.i1z).trans q,a2.at fun o q=>(sb.2 i2 D.i2z).trans q⟩,fun b hb=>?_⟩
  ·refine I.laidTurned (fp:=[z,TI,TO,i1,i2]) (t':=s.toks) (fun c o hc q=>?_) hf (Nat.le_refl _) ?_
   ·obtain ⟨n1,n2,n3,n4⟩:=O7 hc
    exact (sb.2 c n1).trans (hk c o n1 n2 n3 n4 q)
   ·exact ⟨by show 2<=sizeLine;decide,[u,v],.cons ru (.cons rv' .nil),⟨_,(sb.2 _ (Nat.ne_of_gt (lt z (by simp)))).trans nT,rfl,_,rfl⟩⟩
  ·rw [Al (Nat.ne_of_lt (lt b hb))]
   exact (hf b hb).1
 done:=by
  intro X hP hw hK hc i pins s σ H E I hf st hg
  subst hP hw hK
  obtain ⟨xs,ys,hx,hy,en⟩:=hg
  obtain ⟨its,rv,p,_⟩:=I.list hx
  obtain ⟨jts,rw',p',_⟩:=I.list hy
  obtain ⟨hz,hTI,⟨c,d,hTO⟩,h1,h2⟩:=st
  have l1:=rv.length
  have l2:=rw'.length
  refine wpAny_pyNext_zip_end (I.ok.hd hc) D hz hTI hTO h1 h2 p.isList p'.isList ?_ fun h' hk=>⟨rfl,I.turnedAll (fp:=[z,TI,TO,i1,i2]) (t':=s.toks) (fun c o hc q=>?_) hf⟩
  ·rcases en with q | q
   ·exact .inl (by simp;omega)
   ·exact .inr (by simp;omega)
  ·obtain ⟨n1,n2,n3,n4⟩:=O7 hc
   exact hk c o n1 n2 n3 n4 q
 self:=fun _ _ _ _ _ st h=>wpAny_pyIter_zip st.1 h
section
variable {X:Cx}
def Uh (K:PySem.W.Frag) (ta:TA):TI:=fun σ H R=>ta σ H fun vs H1=>∃a b,vs=[.ref a,.ref b]/\(∃xs,SqL K H1 a xs)/\(∃ys,SqL K H1 b ys)/\R (Itz K a b) H1
theorem JP {l m:Expr} {ta:TA} {p pos pt:Pos} {es:List Expr} {k:Nat} (hg:Gl X "zip") (hm:X.mg "zip"=none) (ha:PA X [l,m] ta) (hs:starEach [l,m] X.env=[(false,eval l X.env),(false,eval m X.env)]:=by rfl) (hs2:starEach [m] X.env=[(false,eval m X.env)]:=by rfl) :
 PI X (.Tuple es k pt) (.Call (.Name "zip" p) [l,m] [] pos) (Uh X.K ta):=by
 intro pins s σ H R I h
 refine Call_ (DU I hg hm boot_zip (PyProof.Rows.callWith_type1 (thn (ha pos pins s σ H _ I h) fun us s1 ⟨vs,H1,I1,r1,q1⟩=>?_) (by rw [hs,hs2]) (by rw [hs2];rfl)))
 obtain ⟨a,b,e,⟨xs,hx⟩,⟨ys,hy⟩,q⟩:=q1
 subst e
 cases r1 with
 | cons r rr =>
   cases rr with
   | cons r' rr =>
     cases rr
     cases r
     cases r'
     obtain ⟨its,rv,p1,_⟩:=I1.list hx
     obtain ⟨jts,rw',p2,_⟩:=I1.list hy
     have lta:a < s1.heap.objs.size:=by obtain ⟨o,q,_⟩:=p1.isList;exact Heap.lt_size q
     have ltb:b < s1.heap.objs.size:=by obtain ⟨o,q,_⟩:=p2.isList;exact Heap.lt_size q
     refine call_zip_2 p1.isList p2.isList fun h' hz hTI hTO h1 h2 hsz hk=>?_
     refine wpAny_pyIter_zip (s:={ s1 with heap:=h' }) hz ?_
     have D:ZipApart (s1.heap.objs.size+4) (s1.heap.objs.size+2) (s1.heap.objs.size+3) s1.heap.objs.size (s1.heap.objs.size+1) a b:=NS lta ltb
     refine ⟨s1.heap.objs.size+4,[s1.heap.objs.size+4,s1.heap.objs.size+2,s1.heap.objs.size+3,s1.heap.objs.size,s1.heap.objs.size+1],_,_,H1,rfl,I1.kept (t':=s1.toks) hk,OM a b _ _ _ _ _ D,⟨hz,hTI,⟨_,_,hTO⟩,h1,h2⟩,fun c hc=>?_,q⟩
     have ge:s1.heap.objs.size<=c:=by
      simp only [mem_cons,List.not_mem_nil,or_false] at hc
      rcases hc with q | q | q | q | q <;> rw [q] <;> first | exact Nat.le_refl _ | exact Nat.le_add_right _ _
     exact I1.fpOk ge (I1.hok.fresh ge)
end
theorem MC {K:PySem.W.Frag} {a b:Addr} {xs ys:List V} {g:TG} {tb:TS} {D:IE} {σ:St} {H:Hp} (hxy:xs.length=ys.length) (Pv:Nat->St->Hp->Prop) (h0:Pv 0 σ H) (hl:∀i σ H,i<=xs.length->Pv i σ H->SqL K H a xs/\SqL K H b ys)
 (hs:∀i x y T σ H,xs[i]?=some x->ys[i]?=some y->Pv i σ H->H T=none->g (.ref T) σ (upd H T (.tup [x,y])) fun σ2 H2=>tb { D with nx:=Pv (i+1),ct:=Pv (i+1),bk:=D.nx } σ2 H2) (hd:∀σ H,Pv xs.length σ H->D.nx σ H) :
 ∃W:Nat->Nat->St->Hp->Prop,(∃m,W 0 m σ H)/\∀i m σ H,W i m σ H ->
  ((Itz K a b).stop i H/\D.nx σ H)\/((Itz K a b).go i H/\∃N:St->Hp->Prop,(∀σ' H',N σ' H'->∃m',m' < m/\W (i+1) m' σ' H')/\∀x H',(Itz K a b).yld i H x H'->g x σ H' fun σ2 H2=>tb { D with nx:=N,ct:=N,bk:=D.nx } σ2 H2):=by
 refine ⟨fun i m σ H=>m=xs.length - i/\i<=xs.length/\Pv i σ H,⟨xs.length,by simp,Nat.zero_le _,h0⟩,?_⟩
 rintro i m σ H ⟨rfl,hi,p⟩
 obtain ⟨q1,q2⟩:=hl i σ H hi p
 by_cases hlt:i < xs.length
 ·have hlt':i < ys.length:=by omega
  refine .inr ⟨⟨xs,ys,xs[i],ys[i],q1,q2,by simp [hlt],by simp [hlt']⟩,Pv (i+1),fun σ' H' p'=>⟨xs.length - (i+1),by omega,rfl,hlt,p'⟩,fun x H' y=>?_⟩
  obtain ⟨T,y,z,rfl,hT,rfl,hy,hz⟩:=y
  exact hs i y z T σ H (hy xs q1) (hz ys q2) p hT
 ·have e:i=xs.length:=by omega
  subst e
  exact .inl ⟨⟨xs,ys,q1,q2,.inl (Nat.le_refl _)⟩,hd σ H p⟩
section
variable {X:Cx}
end
theorem EJ:∀ns ms:List Int,PyData.eqvAll (ns.map .int) (ms.map .int)=decide (ns=ms)
 | [],[]=>rfl
 | [],_ :: _=>rfl
 | _ :: _,[]=>rfl
 | n :: ns,m :: ms=>by
   show ((n == m) && PyData.eqvAll (ns.map .int) (ms.map .int))=_
   rw [EJ ns ms]
   by_cases h:n=m
   ·by_cases k:ns=ms
    ·subst h;subst k;simp
    ·simp [h,k]
   ·simp [h]
theorem lay_ints:∀ns:List Int,PyData.canLayAll0 (ns.map .int)=true/\PyData.depthAll (ns.map .int)<=0
 | []=>⟨rfl,Nat.le_refl _⟩
 | n :: ns=>by
   obtain ⟨h1,h2⟩:=lay_ints ns
   refine ⟨?_,?_⟩
   ·show (true && PyData.canLayAll0 (ns.map .int))=true
    rw [h1];rfl
   ·show max 0 (PyData.depthAll (ns.map .int))<=0
    omega
theorem Ex (ns:List Int):SeqAt.shaped (.tuple (ns.map .int))=true/\SeqAt.shaped (.list (ns.map .int))=true:=by
 obtain ⟨h1,h2⟩:=lay_ints ns
 constructor
 ·unfold SeqAt.shaped
  rw [Bool.and_eq_true]
  refine ⟨h1,decide_eq_true ?_⟩
  show PyData.depthAll (ns.map .int)+1<=64
  omega
 ·unfold SeqAt.shaped
  rw [Bool.and_eq_true]
  refine ⟨h1,decide_eq_true ?_⟩
  show PyData.depthAll (ns.map .int)+1<=64
  omega
section
variable {X:Cx}
end
end L2
namespace L2
open PySem PySem.Spec PyProof.Rows
namespace CutT
open HT
section
variable {prog:Program} {w:World} {A:Around} {E:Value->Shared->Prop} {s:Shared}
end
end CutT
end L2
namespace L2
open PySem PySem.Spec PyProof.Rows
section
variable {prog:Program} {w:World} {A:Around} {E:Value->Shared->Prop} {s:Shared}
end
section
variable {M:Model} {A:Around} {E:Value->Shared->Prop} {s:Shared} {env:Env}
end
section
variable {X:Cx}
end
end L2
namespace L2
open PySem PySem.Spec PyProof.Rows
section
variable {X:Cx}
end
theorem KP:∀{xs:List V} {us:List Value},xs.length=us.length->(∀(i:Nat) x u,xs[i]?=some x->us[i]?=some u->AE x u)->A9 xs us
 | [],[],_,_=>.nil
 | [],_ :: _,h,_=>by cases h
 | _ :: _,[],h,_=>by cases h
 | x :: xs,u :: us,h,k=>.cons (k 0 x u rfl rfl) (KP (Nat.succ.inj h) fun i y v h1 h2=>k (i+1) y v h1 h2)
section
variable {X:Cx} {e:Expr} {te:TE} {p p2 pos pos2:Pos}
def Q4 (te:TE):TE:=fun σ H Q=>te σ H fun x H1=>∃n:Nat,x=.int (n:Int)/\n < 1000/\∀l,H1 l=none->Q (.ref l) (upd H1 l (.lst ((List.range n).map fun i:Nat=>V.int (i:Int))))
theorem Dx (hc:X.calm=true) (hg:Gl X "list") (hm:X.mg "list"=none) (hg2:Gl X "range") (hm2:X.mg "range"=none) (he:PE X e te)
 (hs:starEach [e] X.env=[(false,eval e X.env)]:=by rfl)
 (hs2:starEach [(.Call (.Name "range" p2) [e] [] pos2:Expr)] X.env=[(false,eval (.Call (.Name "range" p2) [e] [] pos2) X.env)]:=by rfl) :
 PE X (.Call (.Name "list" p) [.Call (.Name "range" p2) [e] [] pos2] [] pos) (Q4 te):=by
 intro pins s σ H Q I h
 refine wpAny_Call_Name_kw (DU I hg hm boot_list ?_ (by decide) (by decide))
 refine callWith_type1 ?_ hs2 rfl
 rw [hs2]
 refine Calls.spliced_cons ?_
 refine wpAny_Call_Name_kw (DU I hg2 hm2 boot_range ?_ (by decide) (by decide))
 refine callWith_type1 ?_ hs rfl
 rw [hs]
 refine Calls.spliced_cons (thn (he pins s σ H _ I h) fun u s1 ⟨x,H1,I1,r1,n,hx,hn,q⟩=>?_)
 subst hx
 obtain ⟨t,rfl⟩:=r1
 refine Calls.spliced_nil ?_
 refine call_range_1 ?_
 refine Calls.spliced_nil ?_
 refine call_list_range (n:=n) (I1.ok.hd hc) (IsRange.new ..) (small_one (by omega) (by omega) (by omega) (by omega)) (by rw [rangeSize_one];split <;> omega) (by omega) fun h' tk acc c' kp eS it=>?_
 have kp':∀b o,s1.heap.get? b=some o->h'.get? b=some o:=fun b o e=>kp b o (Heap.get?_push_of_some _ e)
 have hp:s1.heap.objs.size<=(s1.heap.push { cls:=.type "range",data:=.fields #[.int 0 s1.toks,.int (n:Int) t,.int 1 (s1.toks+1)] }).objs.size:=by simp [Heap.push]
 have rv:A9 ((List.range n).map fun i:Nat=>V.int (i:Int)) acc.toList:=by
  refine KP (by simp [it.1]) fun i x u hx hu=>?_
  rw [List.getElem?_map] at hx
  obtain ⟨t',e⟩:=it.2 i u (by simpa using hu)
  have hi:i < n:=by
   have:=(List.getElem?_eq_some_iff.mp hu).1
   rw [Array.length_toList,it.1] at this
   exact this
  rw [List.getElem?_range hi] at hx
  have hx':x=V.int (i:Int):=(Option.some.inj hx).symm
  subst hx'
  exact ⟨t',by rw [e];simp⟩
 have hz:((List.range n).map fun i:Nat=>V.int (i:Int)).length<=sizeLine:=by rw [length_map,length_range];exact Nat.le_of_lt (AH (by omega))
 exact ⟨.ref _,_,I1.laid (t':=tk) kp' hp (show AN X.prog X.w _ h' _ (.lst ((List.range n).map fun i:Nat=>V.int (i:Int))) from ⟨hz,acc.toList,c',rv,by simpa using eS⟩),rfl,q _ (I1.hok.fresh hp)⟩
end
section
variable {prog:Program} {w:World} {A:Around} {E:Value->Shared->Prop} {s:Shared}
end
section
variable {X:Cx}
end
end L2
namespace L2
open PySem PySem.Spec PyProof.Rows
section
variable {P:Program} {w:World} {K:PySem.W.Frag} {mg:Str->Option Value} {base:Heap}
end
section
variable {X:Cx} {k:Nat} {f:Addr} {fd:FuncData} {ps:List Str} {sp:Sp} {x:Str} {p pos:Pos} {e:Expr} {es:List Expr} {t:TA}
end
section
variable {X:Cx}
end
end L2
namespace L2
open PySem PySem.Spec PyProof.Rows
section
variable {prog:Program} {w:World} {A:Around} {E:Value->Shared->Prop} {s:Shared}
end
section
variable {X:Cx} {pins:List (Addr × Obj)} {σ:St} {H:Hp}
end
end L2
namespace L2
open PySem PySem.Spec PyProof.Rows
section
variable {prog:Program} {w:World} {A:Around} {E:Value->Shared->Prop} {s:Shared}
end
abbrev hoF (d:Addr) (ob:Obj):HO:=.ext fun h=>h.get? d=some ob
theorem HS {α β:Type} {R:α->β->Prop}:∀{xs:List α} {ys:List β} {i:Nat} {x:α},Paired R xs ys->xs[i]?=some x->∃y,ys[i]?=some y/\R x y
 | _,_,_,_,.nil,h=>by cases h
 | _,_,0,_,.cons r t,h=>⟨_,rfl,by cases Option.some.inj h;exact r⟩
 | _,_,i+1,_,.cons _ t,h=>HS (i:=i) t h
section
variable {X:Cx}
theorem Inv.held {pins:List (Addr × Obj)} {σ:St} {H:Hp} {s:Shared} {d:Addr} {ob:Obj} (I:Inv X pins σ H s) (e:H d=some (hoF d ob)):s.heap.get? d=some ob:=by
 obtain ⟨z,_⟩:=(show AN X.prog X.w H s.heap d (hoF d ob) from I.hok d _ e)
 exact z
end
end L2
namespace L2
open PySem PySem.Spec PyProof.Rows
theorem Hs {K:PySem.W.Frag} {a:Addr} {zs:List V} {tt:TT} {te:TE} {σ:St} {H1:Hp} {Q:Addr->Hp->Prop} {n m o:Nat} (hn:n=σ.length) (hm:m=σ.length+1) (ho:o=σ.length+2) (hz:zs.length<=sizeLine) (Pv:Addr->Nat->List V->Hp->Prop)
 (h0:∀D,H1 D=none->Pv D 0 [] (upd H1 D (.lst []))) (hD:∀D i ys H,Pv D i ys H->H D=some (.lst ys)/\ys.length<=i) (hl:∀D i ys H,H1 D=none->Pv D i ys H->SqL K H a zs)
 (hs:∀D i x ys H (K1:VK) (K2:Hp->Prop),H1 D=none->zs[i]?=some x->Pv D i ys H->(∀y H5,H5 D=some (.lst ys)->Pv D (i+1) (ys++[y]) (upd H5 D (.lst (ys++[y])))->K1 y H5)->(∀H4,Pv D (i+1) ys H4->K2 H4) ->
  ∃t v w z,x=.ref t/\SqT K H t [v,w,z]/\tt (σ++[some v,some w,some z]) H fun b H4=>if b=true then te (σ++[some v,some w,some z]) H4 K1 else K2 H4)
 (hd:∀D ys H,H1 D=none->Pv D zs.length ys H->Q D H) :
 ∀D,H1 D=none->∃W:Nat->Nat->List V->Hp->Prop,(∃m,W 0 m [] (upd H1 D (.lst [])))/\∀i k ys H2,W i k ys H2 ->
  H2 D=some (.lst ys)/\(((Itl K a).stop i H2/\Q D H2)\/((Itl K a).go i H2/\ys.length < sizeLine/\∀x H3,(Itl K a).yld i H2 x H3->∀os:St,os.length=3->K5 K 3 (Dl (B4 n) (Dl (B4 m) (Dl (B4 o) KW))) x (σ++os) H3 fun σ4 H4=>(∃os':St,σ4=σ++os'/\os'.length=3)/\tt σ4 H4 fun b H5=>if b=true then te σ4 H5 fun y H6=>H6 D=some (.lst ys)/\∃m',m' < k/\W (i+1) m' (ys++[y]) (upd H6 D (.lst (ys++[y])))
   else ∃m',m' < k/\W (i+1) m' ys H5)):=by
 intro D hDn
 subst hn hm ho
 refine ⟨fun i m ys H=>m=zs.length - i/\i<=zs.length/\Pv D i ys H,⟨zs.length,rfl,Nat.zero_le _,h0 D hDn⟩,?_⟩
 rintro i m ys H2 ⟨rfl,hi,p⟩
 obtain ⟨e,l⟩:=hD D i ys H2 p
 have q:=hl D i ys H2 hDn p
 refine ⟨e,?_⟩
 by_cases hlt:i < zs.length
 ·refine .inr ⟨⟨zs,zs[i],q,by simp [hlt]⟩,Nat.lt_of_le_of_lt l (Nat.lt_of_lt_of_le hlt hz),fun x H3 y os ho'=>?_⟩
  obtain ⟨e1,y⟩:=y
  subst e1
  obtain ⟨t,v,w,z,rfl,ht,q5⟩:=hs D i x ys _ (fun y H6=>H6 D=some (.lst ys)/\∃m',m' < zs.length - i/\m'=zs.length - (i+1)/\i+1<=zs.length/\Pv D (i+1) (ys++[y]) (upd H6 D (.lst (ys++[y])))) (fun H5=>∃m',m' < zs.length - i/\m'=zs.length - (i+1)/\i+1<=zs.length/\Pv D (i+1) ys H5) hDn (y zs q) p (fun y H5 h5 p5=>⟨h5,zs.length - (i+1),by omega,rfl,hlt,p5⟩) fun H4 p4=>⟨zs.length - (i+1),by omega,rfl,hlt,p4⟩
  match os,ho' with
  | [o1,o2,o3],_ =>
    have e2:(((σ++[o1,o2,o3]).set σ.length (some v)).set (σ.length+1) (some w)).set (σ.length+2) (some z)=σ++[some v,some w,some z]:=by
     rw [set_append_right _ _ (Nat.le_refl _),Nat.sub_self,set_append_right _ _ (Nat.le_add_right _ 1),set_append_right _ _ (Nat.le_add_right _ 2)]
     rw [show (List.length σ+1) - List.length σ=1 by omega,show (List.length σ+2) - List.length σ=2 by omega]
     rfl
    refine ⟨t,[v,w,z],rfl,ht,rfl,v,[w,z],rfl,w,[z],rfl,z,[],rfl,rfl,?_⟩
    refine ⟨⟨[some v,some w,some z],e2,rfl⟩,?_⟩
    rw [e2]
    exact q5
 ·have ei:i=zs.length:=by omega
  subst ei
  exact .inl ⟨⟨zs,q,Nat.le_refl _⟩,hd D ys H2 hDn p⟩
section
variable {X:Cx} {elt iter:Expr} {x1 x2 x3:Str} {p1 p2 p3 pt pos:Pos} {k:Nat} {ifs:List Expr} {sc fsc:Scope} {N Nc:List Str} {wi:TI} {tt:TT} {te:TE}
end
end L2
namespace L2
open PySem PySem.Spec PyProof.Rows
structure PX (K:PySem.W.Frag) (x qual:Str) (st:Stmt) (f:Addr) (fd:FuncData):Prop where
 ex:∃(oc:Value) (od:Option Addr) (dV kV doc pm:Value) (an:Option Addr) (cdv ct:Value) (osl:Array (Option Value)),
  fd=PySem.W.fnOf x qual (An st) (Am st) (Ad st) dV kV doc pm an cdv ct/\K.lookup f=some ⟨oc,od,.func fd,osl⟩/\PySem.W.codeIn K cdv qual=true
 kp:PySem.W.keepIn K (.ref f)=true
section
variable {P:Program} {w:World} {K:PySem.W.Frag} {mg:Str->Option Value} {base:Heap}
theorem PX.ok {x qual:Str} {st:Stmt} {f:Addr} {fd:FuncData} {N ps:List Str} {k:Nat} {sp:Sp} (F:PX K x qual st f fd) (S:Ap N ps (Ad st)) (len:∀vs H Q E,sp vs H Q E->vs.length=ps.length)
 (hbody:∀(cdv:Value) (A:Around) (outer:List Env) (s:Shared) (H:Hp) (vs:List V) (Q:VK) (E:XK),Du k (A.deeper (envOfC qual (Ad st) s.heap.objs.size f cdv))->sp vs H Q E ->
  ∃t,PSs (Mj CX0 P w K mg base N qual (Ad st) f cdv A outer s H E).nox (Am st) t/\t { nx:=fun _ H'=>Q .non H',rt:=Q } (FY N vs) H):AG P w K mg base CX0 (k+1) f fd ps sp:=by
 obtain ⟨oc,od,dV,kV,doc,pm,an,cdv,ct,osl,rfl,lk,hcd⟩:=F.ex
 refine RP lk hcd S len fun A outer s H vs Q E hr hsp=>?_
 obtain ⟨t,h,q⟩:=hbody cdv A outer s H vs Q E hr hsp
 exact ⟨t,h.nox,q⟩
theorem MD {x qual:Str} {st:Stmt} {f:Addr} {oc:Value} {od an:Option Addr} {osl:Array (Option Value)} {dV kV doc pm cdv ct:Value} (l:K.lookup f=some ⟨oc,od,.func (PySem.W.fnOf x qual (An st) (Am st) (Ad st) dV kV doc pm an cdv ct),osl⟩)
 (c:PySem.W.codeIn K cdv qual=true) (k:PySem.W.keepIn K (.ref f)=true):PX K x qual st f (PySem.W.fnOf x qual (An st) (Am st) (Ad st) dV kV doc pm an cdv ct):=⟨⟨oc,od,dV,kV,doc,pm,an,cdv,ct,osl,rfl,l,c⟩,k⟩
end
structure CFn (K:PySem.W.Frag) (C:Addr) (m:Str) (f:Addr):Prop where
 sg:PySem.W.specialIn K (.ref C) "__getattribute__"=some (some (.builtin "type.__getattribute__"))
 rd:PySem.W.readsIn K C (.type "type")=true
 at_:PySem.W.findCls K (.ref C) (.type "type") m=some (.val (.ref f))
section
variable {X:Cx} {CX:CXT} {W:St->XK} {k:Nat} {f C:Addr} {fd:FuncData} {ps:List Str} {sp:Sp} {dvs:List V} {ds:List Value} {E:XK} {x m:Str} {p pos apos:Pos} {e o:Expr} {es:List Expr} {ta:TE} {t:TA}
theorem SW {pl:Sem Bool} (F:AG X.prog X.w X.K X.mg X.base CX k f fd ps sp) (hr:Du k X.A) (hg:Gl X x) (hm:X.mg x=some (.ref C)) (c:CFn X.K C m f) (hk:PySem.W.keepIn X.K (.ref f)=true) (hb:Az X.K fd ps ds) (hd:A9 dvs ds) (hx:Fm CX X E) (ha:PA X (e :: es) t)
 (hdb:(x == ("__debug__":Str))=false:=by decide) (hst:starEach (e :: es) X.env=(false,eval e X.env) :: starEach es X.env:=by rfl) (hpl:(backTo pos (starEach es X.env)).any (·.1)=false:=by rfl)
 (ht:eval (.Call (.Attribute (.Name x p) m apos) (e :: es) [] pos) X.env=(do
  let ov <- eval (.Name x p) X.env
  standAt apos.atName
  let (f,first) <- holding [ov] (getMethod ov m pl)
  callWith pos f first (backTo pos (starEach (e :: es) X.env)) (backToKw pos (keywordEach [] X.env))):=by rfl) :
 PE X (.Call (.Attribute (.Name x p) m apos) (e :: es) [] pos) (RT sp dvs E t):=by
 intro pins s σ H Q I h
 refine PySem.W.methodCall_KW (pl:=pl) (GU I hg hm ?_ hdb) ht
 refine PySem.W.method_cls I.kIn c.sg (PySem.W.cls_value I.kIn c.rd c.at_ rfl ?_)
 refine PySem.W.callWith_K (first:=[]) (h₀:=X.base) I.ok.mod.kin hk (thn (ha pos pins _ σ H _ (I.tok _) h) fun us s1 ⟨vs,H1,I1,r,q⟩=>⟨I1.kIn,?_⟩) hst hpl
 exact Mh F hr hb hd hx I1 r q
end
end L2
namespace L2
open PySem PySem.Spec PyProof.Rows
def Cx.inCompC (X:Cx) (Nc:List Str) (sc:Scope) (x:Str) (cl:List (Str × Addr)) (s:Shared) (H:Hp) (ex:List Addr):Cx :=
 { X with N:=Nc,s₀:=s,H₀:=H,env:=compEnvC sc ((x,s.heap.objs.size+1) :: cl) s.heap.objs.size X.env,outer:=X.stack,stack:=X.stack,ex:=ex,fn:=fun y=>decide (y=x),pn:=[],xe:=fun _ _=>False }
structure Hv (N Nc:List Str) (x:Str) (sc fsc:Scope):Prop where
 kind:sc.kind=.function
 one:(sc.names.filter fun y=>y.2 == .cell)=[(x,.cell)]
 nm:∀y∈sc.names,y.2=.local->sc.names.lookup y.1=some .local
 own:sc.names.lookup x=some .cell
 fr:∀y∈sc.names,y.2=.free->fsc.names.lookup y.1=some .cell\/fsc.names.lookup y.1=some .free
 len:Nc.length=N.length+1
 nd:Nc.Nodup
 last:Nc[N.length]?=some x
 slot:((List.range N.length).all fun i=>match Nc[i]? with
  | some y=>(match sc.names.lookup y with | some .free=>N[i]? == some y | some .local=>false | some .cell=>false | _=>true)
  | none=>true)=true
theorem Hv.at {N Nc:List Str} {x:Str} {sc fsc:Scope} (C:Hv N Nc x sc fsc) {i:Nat} {y:Str} (hi:i < N.length) (h:Nc[i]?=some y):sc.names.lookup y≠some .local/\sc.names.lookup y≠some .cell/\(sc.names.lookup y=some .free->N[i]?=some y):=by
 have q:=all_eq_true.mp C.slot i (mem_range.mpr hi)
 rw [h] at q
 dsimp only at q
 cases e:sc.names.lookup y with
 | none=>exact ⟨fun z=>(nomatch z),fun z=>(nomatch z),fun z=>(nomatch z)⟩
 | some k =>
   rw [e] at q
   cases k with
   | «local»=>exact absurd (show false=true from q) Bool.false_ne_true
   | cell=>exact absurd (show false=true from q) Bool.false_ne_true
   | free=>exact ⟨fun z=>(nomatch z),fun z=>(nomatch z),fun _=>by simpa using q⟩
   | _=>exact ⟨fun z=>(nomatch z),fun z=>(nomatch z),fun z=>(nomatch z)⟩
theorem Dg:∀(names:List (Str × NameKind)) (n:Nat) (acc:List (Str × Addr)),cellsFrom n names acc=cellsFrom n (names.filter fun y=>y.2 == .cell) acc
 | [],_,_=>rfl
 | (y,k) :: r,n,acc=>by
   rw [filter_cons]
   cases e:k == NameKind.cell with
   | true=>simp only [if_true,cellsFrom,e];exact Dg r _ _
   | false=>simp only [Bool.false_eq_true,if_false,cellsFrom,e];exact Dg r _ _
theorem CS:∀(names:List (Str × NameKind)) (h:Heap),pushCells h names=pushCells h (names.filter fun y=>y.2 == .cell)
 | [],_=>rfl
 | (y,k) :: r,h=>by
   rw [filter_cons]
   cases e:k == NameKind.cell with
   | true=>simp only [if_true,pushCells,e];exact CS r _
   | false=>simp only [Bool.false_eq_true,if_false,pushCells,e];exact CS r _
theorem IK {M:Model} {A:Around} {E:Value->Shared->Prop} {s:Shared} {scope:Scope} {globals:Addr} {closure:List (Str × Addr)} {qual:Str} {outer:Env} {x:Str} {Q:Env->Shared->Prop}
 (one:(scope.names.filter fun y=>y.2 == .cell)=[(x,.cell)])
 (hQ:Q (newEnv scope s.heap.objs.size globals ((x,s.heap.objs.size+1) :: closure) qual none .none (some outer) builtinsNs) { s with heap:=(s.heap.push { cls:=.type "dict",data:=.dict #[] }).push { cls:=.type "cell",data:=.cell none } }) :
 wpAny M A (newFunctionEnv scope globals closure [] qual none .none (some outer)) Q E s:=by
 simp only [newFunctionEnv,Option.isSome_some,if_true]
 refine wpAny_bind (wpAny_alloc ?_)
 refine wpAny_bind (wpAny_layCells _ (fun name kind cells=>by cases hkc:kind == NameKind.cell <;> simp [hkc]) _ _ _ _ ?_)
 rw [Dg,CS,one]
 rw [show ({ s with heap:=s.heap.push { cls:=.type "dict",data:=.dict #[] } }:Shared).heap.objs.size=s.heap.objs.size+1 from Heap.size_push ..]
 rw [forIn_nil]
 exact wpAny_bind (wpAny_pure (wpAny_pure hQ))
section
variable {X:Cx} {elt iter:Expr} {x:Str} {px pos:Pos} {ifs:List Expr} {sc fsc:Scope} {N Nc:List Str} {wi:TI} {tt:TT} {te:TE}
theorem LS (hE:X.env.scope=fsc) (hXN:X.N=N) (cn:Hv N Nc x sc fsc) (hc:X.calm=true)
 (ht:∀cl s H ex,Ga (X.inCompC Nc sc x cl s H ex) ifs tt) (he:∀cl s H ex,PE (X.inCompC Nc sc x cl s H ex) elt te)
 {cl:List (Str × Addr)} (clS:∀y c,cl.lookup y=some c->X.env.cells.lookup y=some c) (clH:∀y∈sc.names,y.2=.free->∃c,cl.lookup y.1=some c)
 {pins:List (Addr × Obj)} {σ:St} {H2:Hp} {s2:Shared} {it:Addr} {fp:List Addr} {tn:Nat->Heap->Prop} {J:It} {Q:VK} {E:Value->Shared->Prop}
 (I2:Inv X pins σ H2 s2) (T:KS X.prog X.w X.K (.Name x px) J fp it tn) (st2:tn 0 s2.heap) (f2:∀b∈fp,GO X pins H2 b)
 (h2:∀D,H2 D=none->∃W:Nat->Nat->List V->Hp->Prop,(∃m,W 0 m [] (upd H2 D (.lst [])))/\∀i m ys H2,W i m ys H2 ->
  H2 D=some (.lst ys)/\((J.stop i H2/\Q (.ref D) H2)\/(J.go i H2/\ys.length < sizeLine/\∀x H3,J.yld i H2 x H3->tt (σ++[some x]) H3 fun b H4=>if b=true then te (σ++[some x]) H4 fun y H5=>H5 D=some (.lst ys)/\∃m',m' < m/\W (i+1) m' (ys++[y]) (upd H5 D (.lst (ys++[y])))
   else ∃m',m' < m/\W (i+1) m' ys H4))) :
 wpAny (model X.prog X.w) X.A (newList []) (fun acc s₃=>wpAny (model X.prog X.w) X.A (newFunctionEnv sc X.env.globals cl [] X.env.qual none .none (some X.env)) (fun cenv s₄ =>
  codeAny (model X.prog X.w) X.A (.compStart (.ListComp elt [⟨.Name x px,iter,ifs,0⟩] sc pos) 0 (.ref it) acc { cenv with scope:=relabel sc X.env })
   (fun r s'=>r=.ok .next/\∃D H',acc=.ref D/\Inv X pins σ H' s'/\Q (.ref D) H'/\PL X pins H' cenv.locals/\∃m,s'.heap.Ns cenv.locals m) s₄) E s₃) E s2:=by
 refine wpAny_newObj_type (IK cn.one ?_)
 dsimp only
 have hD:H2 s2.heap.objs.size=none:=I2.hok.fresh (Nat.le_refl _)
 obtain ⟨W,⟨m0,w0⟩,turn⟩:=h2 s2.heap.objs.size hD
 have I3:Inv X pins σ (upd H2 s2.heap.objs.size (.lst [])) { s2 with heap:=s2.heap.push { cls:=.type "list",dict:=none,data:=.seq ([]:List Value).toArray } } :=
  I2.laid (t':=s2.toks) (fun b u e=>Heap.get?_push_of_some _ e) (Nat.le_refl _) ⟨Nat.zero_le _,[],0,.nil,Heap.get?_push_size _ rfl⟩
 generalize hs3:({ s2 with heap:=s2.heap.push { cls:=.type "list",dict:=none,data:=.seq ([]:List Value).toArray } }:Shared)=s3 at I3
 have eh:s3.heap=s2.heap.push { cls:=.type "list",dict:=none,data:=.seq ([]:List Value).toArray }:=by rw [<- hs3]
 generalize hH3:upd H2 s2.heap.objs.size (.lst [])=H3 at I3 w0
 rw [<- eh]
 have hns₁:((s3.heap.push { cls:=.type "dict",data:=.dict #[] }).push { cls:=.type "cell",data:=.cell none }).Ns s3.heap.objs.size (fun _=>none):=(Heap.Ns.new s3.heap (.type "dict")).keeps fun b o e=>Heap.get?_push_of_some _ e
 have hcell₁:((s3.heap.push { cls:=.type "dict",data:=.dict #[] }).push { cls:=.type "cell",data:=.cell none }).IsCell (s3.heap.objs.size+1) none:=by
  refine ⟨{ cls:=.type "cell",data:=.cell none },?_,rfl⟩
  have:=Heap.get?_push_size (s3.heap.push { cls:=.type "dict",data:=.dict #[] }) (o:={ cls:=.type "cell",data:=.cell none }) rfl
  rw [Heap.size_push] at this
  exact this
 have old:∀b o,s3.heap.get? b=some o->((s3.heap.push { cls:=.type "dict",data:=.dict #[] }).push { cls:=.type "cell",data:=.cell none }).get? b=some o:=fun b o e=>Heap.get?_push_of_some _ (Heap.get?_push_of_some _ e)
 have e2:({ s2 with heap:=(s3.heap.push { cls:=.type "dict",data:=.dict #[] }).push { cls:=.type "cell",data:=.cell none } }:Shared)={ s3 with heap:=(s3.heap.push { cls:=.type "dict",data:=.dict #[] }).push { cls:=.type "cell",data:=.cell none },toks:=s3.toks }:=by rw [<- hs3]
 rw [e2]
 generalize (s3.heap.push { cls:=.type "dict",data:=.dict #[] }).push { cls:=.type "cell",data:=.cell none }=h₁ at hns₁ hcell₁ old ⊢
 have below2:∀b,b∈fp->b < s3.heap.objs.size:=fun b hb=>by
  obtain ⟨o,e,_⟩:=T.obj _ _ st2 b hb
  have:s2.heap.objs.size<=s3.heap.objs.size:=by rw [eh,Heap.size_push];exact Nat.le_succ _
  exact Nat.lt_of_lt_of_le (Heap.lt_size e) this
 have old2:∀b o,s2.heap.get? b=some o->s3.heap.get? b=some o:=fun b o e=>by rw [eh];exact Heap.get?_push_of_some _ e
 have hsz3:s2.heap.objs.size < s3.heap.objs.size:=by rw [eh,Heap.size_push];exact Nat.lt_succ_self _
 have fpFree:∀b∈fp,H3 b=none:=fun b hb=>by
  rw [<- hH3,Al (fun z=>?_)]
  ·exact (f2 b hb).1
  ·obtain ⟨o,e,_⟩:=T.obj _ _ st2 b hb
   have:=Heap.lt_size e
   rw [z] at this
   exact Nat.lt_irrefl _ this
 have rl:∀y,(relabel sc X.env).names.lookup y=(sc.names.lookup y).map fun k=>if (k == NameKind.free && X.env.scope.kind == .function && X.env.kindOf y == some .cell) then NameKind.cell else k:=fun y=>CG X.env sc.names y
 have freeOf:∀y,sc.names.lookup y=some .free->∃c,cl.lookup y=some c:=fun y e=>clH (y,.free) (PySem.mem_of_lookup e) rfl
 have onlyX:∀y,sc.names.lookup y=some .cell->y=x:=fun y e=>by
  have m:(y,NameKind.cell)∈sc.names.filter fun y=>y.2 == .cell:=mem_filter.mpr ⟨PySem.mem_of_lookup e,rfl⟩
  rw [cn.one] at m
  exact (Prod.mk.inj (mem_singleton.mp m)).1
 have clD:∀y c,((x,s3.heap.objs.size+1) :: cl).lookup y=some c->(y=x/\c=s3.heap.objs.size+1)\/(y≠x/\cl.lookup y=some c):=fun y c e=>by
  rw [lookup_cons] at e
  cases hb:y == x with
  | true=>rw [hb] at e;exact .inl ⟨by simpa using hb,(Option.some.inj e).symm⟩
  | false=>rw [hb] at e;exact .inr ⟨by simpa using hb,e⟩
 have clN:∀y c,y≠x->cl.lookup y=some c->((x,s3.heap.objs.size+1) :: cl).lookup y=some c:=fun y c n e=>by
  rw [lookup_cons,show (y == x)=false by simpa using n]
  exact e
 have clX:((x,s3.heap.objs.size+1) :: cl).lookup x=some (s3.heap.objs.size+1):=by rw [lookup_cons,show (x == x)=true by simp]
 have isFree:∀y,((relabel sc X.env).names.lookup y=some .cell\/(relabel sc X.env).names.lookup y=some .free)->(sc.names.lookup y=some .free\/y=x):=fun y h=>by
  rw [rl y] at h
  cases e:sc.names.lookup y with
  | none=>rw [e] at h;rcases h with z | z <;> exact absurd z (by simp)
  | some k =>
    rw [e] at h
    cases k with
    | free=>exact .inl rfl
    | cell=>exact .inr (onlyX y e)
    | «local»=>rcases h with z | z <;> exact absurd z (by simp)
    | _=>rcases h with z | z <;> exact absurd z (by simp)
 have ownC:(relabel sc X.env).names.lookup x=some .cell:=by rw [rl x,cn.own];rfl
 have exOk:∀b∈fp,b≠s3.heap.objs.size/\(∀y c,X.env.cells.lookup y=some c->c≠b)/\b ∉ frs X.stack:=fun b hb=>by
  obtain ⟨g0,g1,g2,g3,g4,g5⟩:=f2 b hb
  refine ⟨Nat.ne_of_lt (below2 b hb),g4,fun z=>?_⟩
  rcases mem_cons.mp (I2.stkSub b z) with z | z
  ·exact g1 z
  ·exact g2 z
 have hCnew:X.s₀.heap.objs.size<=s3.heap.objs.size:=I3.sz
 have hCcell:∀y c,X.env.cells.lookup y=some c->c≠s3.heap.objs.size:=fun y c e z=>by
  obtain ⟨v,q⟩:=I3.cell y c e
  have:=q.lt
  rw [z] at this
  exact Nat.lt_irrefl _ this
 have hCpin:∀p∈X.pn++pins,p.1≠s3.heap.objs.size:=fun p hp z=>by
  have:=Heap.lt_size (I3.pin p hp).1
  rw [z] at this
  exact Nat.lt_irrefl _ this
 have ltC:∀y c,X.env.cells.lookup y=some c->c < s3.heap.objs.size:=fun y c e=>by
  obtain ⟨v,q⟩:=I3.cell y c e
  exact q.lt
 have injC:∀y z c,((x,s3.heap.objs.size+1) :: cl).lookup y=some c->((x,s3.heap.objs.size+1) :: cl).lookup z=some c->y=z:=fun y z c h1 h2=>by
  rcases clD y c h1 with ⟨e1,e2⟩ | ⟨_,e2⟩ <;> rcases clD z c h2 with ⟨f1,f2'⟩ | ⟨_,f2'⟩
  ·rw [e1,f1]
  ·exact absurd (ltC z c (clS z c f2')) (by rw [e2];exact Nat.not_lt.mpr (Nat.le_succ _))
  ·exact absurd (ltC y c (clS y c e2)) (by rw [f2'];exact Nat.not_lt.mpr (Nat.le_succ _))
  ·exact I3.ok.inj y z c (clS y c e2) (clS z c f2')
 have hasC:∀y,((relabel sc X.env).names.lookup y=some .cell\/(relabel sc X.env).names.lookup y=some .free)->∃c,((x,s3.heap.objs.size+1) :: cl).lookup y=some c:=fun y hy=>by
  by_cases e:y=x
  ·exact ⟨_,by rw [e];exact clX⟩
  ·rcases isFree y hy with f | f
   ·obtain ⟨c,hc⟩:=freeOf y f
    exact ⟨c,clN y c e hc⟩
   ·exact absurd f e
 have exC:∀b∈fp,∀y c,((x,s3.heap.objs.size+1) :: cl).lookup y=some c->c≠b:=fun b hb y c h=>by
  rcases clD y c h with ⟨_,e2⟩ | ⟨_,e2⟩
  ·exact fun z=>absurd (below2 b hb) (by rw [<- z,e2];exact Nat.not_lt.mpr (Nat.le_succ _))
  ·exact (exOk b hb).2.1 y c (clS y c e2)
 have okc:(X.inCompC Nc sc x cl s3 H3 fp).Ok:=by
  refine ⟨I3.ok.mod,cn.kind,I3.ok.glob,I3.ok.blt,Nat.le_refl _,injC,hasC,fun y c hf e=>?_,I3.ok.hd,I3.ok.frames,.inl rfl,
   fun b hb=>⟨(exOk b hb).1,exC b hb⟩,fun b o e=>I3.bs b o e,Nat.le_trans I3.ok.bsz I3.sz,fun b o e hb=>?_,fun b hb=>(exOk b hb).2.2,I3.stack,I3.stkFree⟩
  ·have ey:y=x:=of_decide_eq_true hf
   rcases clD y c e with ⟨_,e2⟩ | ⟨n,_⟩
   ·show s3.heap.objs.size<=c
    omega
   ·exact absurd ey n
  obtain ⟨g0,g1,g2,g3,g4,g5⟩:=f2 b hb
  rcases g3 with z | z
  ·exact I3.ok.noex b o e z
  ·exact absurd (Heap.lt_size (I3.ok.bs b o e).1) (Nat.not_lt.mpr z)
 have hlen:σ.length=N.length:=by rw [I3.len,hXN]
 have Ic:Inv (X.inCompC Nc sc x cl s3 H3 fp) [] (σ++[none]) H3 { s3 with heap:=h₁,toks:=s3.toks }:=by
  refine ⟨okc,rfl,I3.bare,Un.kept old,⟨_,hns₁,fun i y v h1 h2 h3=>?_⟩,fun y c e=>?_,I3.hok.fresh (Nat.le_refl _),fun y c e=>?_,fun p hp=>absurd (show p∈([]:List (Addr × Obj)) from hp) (by simp),I3.hok.kept old,?_⟩
  ·have hi:i < σ.length:=by
    by_cases hi:i < σ.length
    ·exact hi
    ·rw [List.getElem?_append_right (Nat.not_lt.mp hi)] at h2
     cases e:i - σ.length with
     | zero=>rw [e] at h2;cases h2
     | succ k=>rw [e] at h2;simp at h2
   rw [List.getElem?_append_left hi] at h2
   have hi':i < N.length:=by rw [<- hlen];exact hi
   obtain ⟨n1,n2,n3⟩:=cn.at hi' h1
   have hf:sc.names.lookup y=some .free:=by
    rcases h3 with z | z
    ·exfalso
     have z':(relabel sc X.env).names.lookup y=some .local:=z
     rw [rl y] at z'
     cases e:sc.names.lookup y with
     | none=>rw [e] at z';simp at z'
     | some k =>
       rw [e] at z'
       cases k with
       | «local»=>exact n1 e
       | cell=>exact n2 e
       | free =>
         simp only [Option.map_some,Option.some.injEq] at z'
         split at z' <;> cases z'
       | _=>simp at z'
    ·rcases isFree y z with f | f
     ·exact f
     ·exact absurd (by rw [f];exact cn.own) n2
   have hN:X.N[i]?=some y:=by rw [hXN];exact n3 hf
   obtain ⟨m,hn,hl⟩:=I3.loc
   have hv:fsc.names.lookup y=some .cell\/fsc.names.lookup y=some .free:=cn.fr (y,.free) (PySem.mem_of_lookup hf) rfl
   have hv':X.env.scope.names.lookup y=some .cell\/X.env.scope.names.lookup y=some .free:=by rw [hE];exact hv
   obtain ⟨u,ru,lk⟩:=hl i y v hN h2 (.inr hv')
   refine ⟨u,ru,.inr ⟨?_,?_⟩⟩
   ·show (relabel sc X.env).names.lookup y=some .cell\/(relabel sc X.env).names.lookup y=some .free
    rw [rl y,hf]
    simp only [Option.map_some,Option.some.injEq]
    split
    ·exact .inl rfl
    ·exact .inr rfl
   ·rcases lk with ⟨kl,_⟩ | ⟨_,c,hc,hcell⟩
    ·exfalso
     have kl':X.env.scope.names.lookup y=some .local:=kl
     rw [kl'] at hv'
     rcases hv' with z | z <;> cases z
    ·obtain ⟨d,hd⟩:=freeOf y hf
     have ed:=clS y d hd
     rw [hc] at ed
     cases ed
     exact ⟨c,clN y c (fun z=>n2 (by rw [z];exact cn.own)) hd,hcell.keeps old⟩
  ·rcases clD y c e with ⟨_,e2⟩ | ⟨_,e2⟩
   ·exact ⟨none,by rw [e2];exact hcell₁⟩
   ·obtain ⟨v,q⟩:=I3.cell y c (clS y c e2)
    exact ⟨v,q.keeps old⟩
  ·rcases clD y c e with ⟨_,e2⟩ | ⟨_,e2⟩
   ·exact I3.hok.fresh (by omega)
   ·exact I3.freeC y c (clS y c e2)
  ·show (σ++[none]).length=Nc.length
   rw [length_append,hlen,cn.len]
   rfl
 have stc:tn 0 ({ s3 with heap:=h₁,toks:=s3.toks }:Shared).heap:=T.keep _ _ _ st2 fun b _ o e=>old b o (old2 b o e)
 have hDf:s2.heap.objs.size ∉ fp:=fun hm=>by
  obtain ⟨o,e,_⟩:=T.obj _ _ st2 _ hm
  exact Nat.lt_irrefl _ (Heap.lt_size e)
 have fpc:∀{pins':List (Addr × Obj)} {H':Hp},pins'=[]->(∀b∈fp,H' b=none)->∀b∈fp,GO (X.inCompC Nc sc x cl s3 H3 fp) pins' H' b:=fun {pins' H'} hp hn b hb=>by
  subst hp
  exact ⟨hn b hb,(exOk b hb).1,(exOk b hb).2.2,.inl hb,exC b hb,fun p hp=>absurd (show p∈([]:List (Addr × Obj)) from hp) (by simp)⟩
 have hg:PG (X.inCompC Nc sc x cl s3 H3 fp) (.Name x px) (B4 σ.length):=Bg (X:=X.inCompC Nc sc x cl s3 H3 fp) cn.nd (by show Nc[σ.length]?=some x;rw [hlen];exact cn.last) (.inr ownC) (.inl (decide_eq_true rfl))
 have loop:∀s₄:Shared,s₄={ s3 with heap:=h₁,toks:=s3.toks } ->
  codeAny (model X.prog X.w) X.A (.compLoop (.ListComp elt [⟨.Name x px,iter,ifs,0⟩] sc pos) 0 (.ref it) (.ref s2.heap.objs.size) (compEnvC sc ((x,s3.heap.objs.size+1) :: cl) s3.heap.objs.size X.env))
   (fun r s'=>r=.ok .next/\∃D H',(Value.ref s2.heap.objs.size)=.ref D/\Inv X pins σ H' s'/\Q (.ref D) H'/\PL X pins H' s3.heap.objs.size/\∃m,s'.heap.Ns s3.heap.objs.size m) s₄:=by
  rintro s₄ rfl
  refine codeAny_compLoop_tests (fun n s'=>∃(i:Nat) (o:Option V) (H':Hp) (ys:List V),Inv (X.inCompC Nc sc x cl s3 H3 fp) [] (σ++[o]) H' s'/\tn i s'.heap/\(∀b∈fp,H' b=none)/\W i n ys H') ?_ m0 ⟨0,none,H3,[],Ic,stc,fpFree,w0⟩
  rintro n s' ⟨i,o,H',ys,I',st',fr',w'⟩
  obtain ⟨hDl,tw⟩:=turn i n ys H' w'
  rcases tw with ⟨stop,q⟩ | ⟨go,hz,step⟩
  ·
   refine thn (T.done (X.inCompC Nc sc x cl s3 H3 fp) rfl rfl rfl hc i [] s' _ H' _ I' (fpc rfl fr') st' stop) fun r s5 ⟨hr,I5⟩=>?_
   subst hr
   have Ix:Inv X pins σ H' s5:=I3.call' (ch:=fp) I5.os I5.base I5.hok I5.bare fun b hb=>by
    obtain ⟨g0,g1,g2,g3,g4,g5⟩:=f2 b hb
    exact ⟨g3,g1,g4,g5⟩
   have hCf:H' s3.heap.objs.size=none:=I5.free
   obtain ⟨m,hn,_⟩:=I5.loc
   exact ⟨rfl,s2.heap.objs.size,H',rfl,Ix,q,⟨hCf,fun z=>Nat.lt_irrefl _ (by have:=I3.lt;rw [<- z] at this;exact this),hCnew,hCcell,hCpin⟩,m,hn⟩
  ·
   refine thn (T.item (X.inCompC Nc sc x cl s3 H3 fp) rfl rfl rfl hc i [] s' _ H' _ I' (fpc rfl fr') st' go) fun r s5 ⟨u,hr,h4⟩=>?_
   subst hr
   dsimp only
   have e0:letOwnedTupleGo (.Name x px) (.ref it) u=pure ():=rfl
   have e1:(letOwnedTupleGo (.Name x px) (.ref it) u >>= fun _=>assign (.Name x px) (compEnvC sc ((x,s3.heap.objs.size+1) :: cl) s3.heap.objs.size X.env) u)=assign (.Name x px) (compEnvC sc ((x,s3.heap.objs.size+1) :: cl) s3.heap.objs.size X.env) u:=by rw [e0,pure_bind]
   rw [<- e1]
   refine wpAny_bind (thn h4 fun _ s6 ⟨xv,H5,I5,r5,y5,st5,fr5⟩=>?_)
   have I5':=I5.pinned (fpc rfl fr5) (T.obj _ _ st5)
   have again:∀{H7:Hp} {s7:Shared} {m':Nat} {ys':List V},Inv (X.inCompC Nc sc x cl s3 H3 fp) ([]++G3 fp s6.heap) (σ++[some xv]) H7 s7->m' < n->W (i+1) m' ys' H7 ->
    ∃m,m < n/\∃(i:Nat) (o:Option V) (H':Hp) (ys:List V),Inv (X.inCompC Nc sc x cl s3 H3 fp) [] (σ++[o]) H' s7/\tn i s7.heap/\(∀b∈fp,H' b=none)/\W i m ys H':=fun {H7 s7 m' ys'} I7 hm w7=>by
    refine ⟨m',hm,i+1,some xv,H7,ys',I7.unpinned,T.keep _ _ _ st5 fun b hb o e=>(I7.pin (b,o) (mem_append_right _ (mem_append_right _ (CO hb e)))).1,fun b hb=>?_,w7⟩
    obtain ⟨o',e,d⟩:=T.obj _ _ st5 b hb
    exact (I7.pin (b,o') (mem_append_right _ (mem_append_right _ (CO hb e)))).2.1
   refine Fu (hg _ s6 _ H5 xv u (fun σ' H''=>σ'=σ++[some xv]/\H''=H5) I5' r5 ⟨KO,rfl⟩) fun _ s7 ⟨σ7,H7,I7,e7,e7'⟩=>?_
   subst e7
   subst e7'
   refine Fu (ht cl s3 H3 fp _ s7 _ _ _ I7 (step xv _ y5)) fun b s8 ⟨H8,I8,q8⟩=>?_
   cases b with
   | false =>
     rw [if_neg Bool.false_ne_true] at q8 ⊢
     obtain ⟨m',hm,w8⟩:=q8
     exact again I8 hm w8
   | true =>
     rw [if_pos rfl] at q8 ⊢
     refine Fu (he cl s3 H3 fp _ s8 _ H8 _ I8 q8) fun y s9 ⟨yv,H9,I9,r9,hD9,m',hm,w9⟩=>?_
     refine Fu (BO _ s9 _ H9 (.ref s2.heap.objs.size) [yv] (.ref s2.heap.objs.size) [y] (fun v H=>v=.non/\H=upd H9 s2.heap.objs.size (.lst (ys++[yv]))) I9 rfl (.cons r9 .nil) ⟨_,ys,yv,rfl,rfl,hD9,hz,rfl,rfl⟩) fun _ s10 ⟨v10,H10,I10,r10,e10,e11⟩=>?_
     subst e11
     exact again I10 hm w9
 exact codeAny_compStart_list (loop _ rfl) (T.self _ 0 _ _ _ stc (loop _ rfl))
theorem N4 (I:∀y,(X.env.kindOf y=some .cell\/X.env.kindOf y=some .free)->∃c,X.env.cells.lookup y=some c) (hE:X.env.scope=fsc) (cn:Hv N Nc x sc fsc):∀y∈sc.names,y.2=.free->∃c,X.env.cells.lookup y.1=some c:=fun y hy hf=>by
 refine I y.1 ?_
 show X.env.scope.names.lookup y.1=some .cell\/X.env.scope.names.lookup y.1=some .free
 rw [hE]
 exact cn.fr y hy hf
theorem Ot (hE:X.env.scope=fsc) (hXN:X.N=N) (cn:Hv N Nc x sc fsc) (hc:X.calm=true) (hi:PI X (.Name x px) iter wi)
 (ht:∀cl s H ex,Ga (X.inCompC Nc sc x cl s H ex) ifs tt) (he:∀cl s H ex,PE (X.inCompC Nc sc x cl s H ex) elt te)
 (hs:∀v,foldedSetIterable iter X.env v=pure v:=by intro _;rfl):PE X (.ListComp elt [⟨.Name x px,iter,ifs,0⟩] sc pos) (Kw wi tt te):=by
 intro pins s σ H Q I h
 obtain ⟨cl,hcl,clS,clH⟩:=DD (env:=X.env) (sc:=sc) (N4 I.ok.has hE cn)
 rw [eval_ListComp]
 refine wpAny_comprehension_free (use:=none) rfl hs hcl cn.kind cn.nm (thn (hi pins s σ H _ I h) fun v s1 h1=>thn h1 fun itv s2 h2=>?_)
 obtain ⟨it,fp,tn,J,H2,rfl,I2,T,st2,f2,h2⟩:=h2
 refine thn (LS (pos:=pos) (iter:=iter) hE hXN cn hc ht he clS clH I2 T st2 f2 h2) fun acc s3 h3=>thn h3 fun cenv s4 h4=>codeAny_mono h4 fun r s' h5=>?_
 obtain ⟨rfl,D,H',rfl,I',q,cloc,m,hn⟩:=h5
 exact ⟨m,hn,fun h' k=>⟨.ref D,H',I'.sameBut cloc k,rfl,q⟩⟩
end
def KB (sc fsc:Scope):Scope:={ sc with names:=sc.names.map fun (n,k)=>if (k == .free && fsc.kind == .function && fsc.names.lookup n == some .cell) then (n,.cell) else (n,k) }
theorem Ko {X:Cx} {sc fsc:Scope} (h:X.env.scope=fsc):relabel sc X.env=KB sc fsc:=by
 subst h
 rfl
section
variable {X:Cx} {elt iter:Expr} {x y:Str} {py pos:Pos} {ifs:List Expr} {sc sc2 fsc:Scope} {Nc Nd:List Str} {wi:TI} {tt:TT} {te:TE} {cl:List (Str × Addr)} {s:Shared} {H:Hp} {ex:List Addr}
theorem NO (hE:X.env.scope=fsc) (cn:GF Nc Nd y sc2 (KB sc fsc)) (hc:X.calm=true) (hi:PI (X.inCompC Nc sc x cl s H ex) (.Name y py) iter wi)
 (ht:∀cl' s' H' ex',Ga ((X.inCompC Nc sc x cl s H ex).inComp Nd sc2 cl' s' H' ex') ifs tt) (he:∀cl' s' H' ex',PE ((X.inCompC Nc sc x cl s H ex).inComp Nd sc2 cl' s' H' ex') elt te)
 (hs:∀v,foldedSetIterable iter (X.inCompC Nc sc x cl s H ex).env v=pure v:=by intro _;rfl):PE (X.inCompC Nc sc x cl s H ex) (.ListComp elt [⟨.Name y py,iter,ifs,0⟩] sc2 pos) (Kw wi tt te) :=
 Cp (X:=X.inCompC Nc sc x cl s H ex) (fsc:=KB sc fsc) (N:=Nc) (Ko hE) rfl cn hc hi ht he hs
theorem LR (hE:X.env.scope=fsc) (cn:GF Nc Nd y sc2 (KB sc fsc)) (hc:X.calm=true) (hi:PI (X.inComp Nc sc cl s H ex) (.Name y py) iter wi)
 (ht:∀cl' s' H' ex',Ga ((X.inComp Nc sc cl s H ex).inComp Nd sc2 cl' s' H' ex') ifs tt) (he:∀cl' s' H' ex',PE ((X.inComp Nc sc cl s H ex).inComp Nd sc2 cl' s' H' ex') elt te)
 (hs:∀v,foldedSetIterable iter (X.inComp Nc sc cl s H ex).env v=pure v:=by intro _;rfl):PE (X.inComp Nc sc cl s H ex) (.ListComp elt [⟨.Name y py,iter,ifs,0⟩] sc2 pos) (Kw wi tt te) :=
 Cp (X:=X.inComp Nc sc cl s H ex) (fsc:=KB sc fsc) (N:=Nc) (Ko hE) rfl cn hc hi ht he hs
end
theorem OT {X:Cx} {tg e:Expr} {te:TE} (K:PySem.W.Frag) (he:PE X e te) (h:X.K=K:=by rfl):PI X tg e (RU K te):=by
 subst h
 exact B1 he
end L2
namespace L2
open PySem PySem.W PySem.Spec PyProof.Rows
section
variable {X:Cx} {pins:List (Addr × Obj)} {σ:St} {H:Hp} {s:Shared} {c P:Addr} {pos:Pos} {params:Arguments} {body:Expr} {sc:Scope} {cl:List (Str × Addr)} {q:Str} {M:Model} {A:Around} {E:Value->Shared->Prop} {Q:Value->Shared->Prop}
end
section
variable {X:Cx} {pins:List (Addr × Obj)} {σ:St} {H:Hp} {s:Shared} {params:Arguments} {body:Expr} {sc fsc:Scope} {cl:List (Str × Addr)} {q x:Str} {A:Around} {N Nc:List Str} {f c':Addr} {te:TE} {E:Value->Shared->Prop}
end
section
variable {X:Cx} {pins:List (Addr × Obj)} {σ:St} {H:Hp}
variable {xs:List V} {l f I S:Addr}
end
section
variable {M:Model} {A:Around} {E:Value->Shared->Prop} {s:Shared} {env:Env}
theorem P0 {pos:Pos} {T:String} {e:Expr} {kws:List Keyword} {Q:Value->Shared->Prop}
 (h:wpAny M A (spliced (backTo pos (starEach [e] env))) (fun vs z=>wpAny M A (evalAll ((backToKw pos (keywordEach kws env)).map (·.2))) (fun us y=>wpAny M A (call (.builtin T) vs (((backToKw pos (keywordEach kws env)).filterMap (·.1)).zip us)) Q E y) E z) E s)
 (he:backTo pos (starEach [e] env)=(false,eval e env) :: backTo pos (starEach [] env)) (hp:(backTo pos (starEach [e] env)).any (·.1)=false)
 (ha:(backToKw pos (keywordEach kws env)).all (·.1.isSome)=true) (hk:(backToKw pos (keywordEach kws env)).any (·.1.isNone)=false) :
 wpAny M A (callWith pos (.builtin T) [] (backTo pos (starEach [e] env)) (backToKw pos (keywordEach kws env))) Q E s:=by
 unfold callWith
 have y:wpAny M A (evalArgs (.builtin T) true (backTo pos (starEach [e] env)) (backToKw pos (keywordEach kws env))) (fun a z=>wpAny M A (call (.builtin T) ([]++a.pos) a.kw) Q E z) E s:=by
  rw [he] at h ⊢
  exact evalArgs_kwB ha h
 refine wpAny_bind (wpAny_holding (wpAny_mono y (fun a z q=>wpAny_bind (wpAny_standAt ?_)) fun _ _ x=>x))
 simp only [hp,hk,Bool.or_false]
 refine wpAny_bind (wpAny_pure (wpAny_bind ?_))
 exact wpAny_mono q (fun r z hr=>wpAny_bind (wpAny_holding (wpAny_point (wpAny_pure hr)))) fun _ _ x=>x
end
section
variable {X:Cx} {c P:Addr} {e body:Expr} {tl tb:TE} {sc fsc:Scope} {N Nc:List Str} {x:Str} {params:Arguments} {lpos kp p pos:Pos}
end
end L2
namespace L2
open PySem PySem.W PySem.Spec PyProof.Rows
section
variable {X:Cx}
def Rl:V->List V->Hp->VK->Prop:=fun x vs H Q=>∃(l:Addr) (xs:List V) (k:Nat) (y:V),x=.ref l/\vs=[.int (k:Int),y]/\H l=some (.lst xs)/\k<=xs.length/\xs.length < sizeLine/\Q .non (upd H l (.lst (xs.take k++y :: xs.drop k)))
theorem NR:MtM X "list.insert" Rl:=by
 intro pins s σ H x vs v us Q I rx rv h
 obtain ⟨l,xs,k,y,rfl,rfl,hH,hk,hz1,q⟩:=h
 cases rx
 obtain ⟨u1,u2,rfl,ru1,ru2⟩:∃u1 u2,us=[u1,u2]/\AE (.int (k:Int)) u1/\AE y u2:=by
  cases rv with
  | cons r1 t=>cases t with
    | cons r2 t2=>cases t2;exact ⟨_,_,rfl,r1,r2⟩
 obtain ⟨t,rfl⟩:=ru1
 obtain ⟨z,its,n,r,hl,e⟩:=I.lstM hH
 have hs:sizeLine=16777216:=sizeLine_eq
 obtain ⟨i,hi⟩:∃i:Int,i=(k:Int):=⟨_,rfl⟩
 rw [<- hi]
 have fi:Builtin.List.listFitsIndex i=true:=fitsIndex_both (by omega) (by omega)
 have zi:its.toArray.size<=sizeLine:=by rw [size_toArray];omega
 refine call_meets PySem.F.slot_list_insert ⟨_,e,rfl⟩ PySem.F.entry_list_insert (PySem.F.args_list_insert_3 _ _ _) (PySem.AutoSeq1.list_insert_list_int_val_1 l its.toArray n i t u2 (by simp [fi]) zi) ⟨e,?_⟩
 refine ⟨.non,_,I.lset (its':=its.take k++u2 :: its.drop k) hH e ?_ ((r.take k).append (.cons ru2 (r.drop k))) ?_,rfl,q⟩
 ·have kk:(if i < 0 then (i+(its.toArray.size:Int)).toNat else min i.toNat its.toArray.size)=k:=by
   rw [if_neg (by omega),hi,Int.toNat_natCast,size_toArray]
   omega
  show (its.toArray.extract 0 (if i < 0 then (i+(its.toArray.size:Int)).toNat else min i.toNat its.toArray.size)).push u2++its.toArray.extract (if i < 0 then (i+(its.toArray.size:Int)).toNat else min i.toNat its.toArray.size)=_
  rw [kk]
  apply Array.ext'
  simp
  exact take_of_length_le (by rw [length_drop];exact Nat.le_refl _)
 ·rw [length_append,length_cons,length_take,length_drop]
  omega
end
section
variable {X:Cx} {e:Expr} {te:TE} {p p2 pos pos2:Pos}
end
end L2
namespace L2
open PySem PySem.W PySem.Spec PyProof.Rows
section
variable {prog:Program} {w:World} {A:Around} {E:Value->Shared->Prop} {s:Shared}
end
section
variable {prog:Program} {w:World} {A:Around} {E:Value->Shared->Prop} {s:Shared}
end
section
variable {X:Cx} {e e2:Expr} {te te2:TE} {p p2 p3 pos pos2 pos3 pos4:Pos}
end
end L2
namespace L2
open PySem PySem.Spec PyProof.Rows
section
variable {X:Cx} {W:St->XK} {k:Nat} {f C:Addr} {fd:FuncData} {ps:List Str} {sp:Sp} {dvs:List V} {ds:List Value} {x m:Str} {p pos apos:Pos} {e o:Expr} {es:List Expr} {ta:TE} {t:TA}
theorem SN:OpR X (compareOp .Is) (fun x y H Q=>∃b:Bool,y=.bl b/\Q (.bl (decide (x=.bl b))) H):=by
 intro pins s σ H x y v u Q I rx ry h
 obtain ⟨b,rfl,q⟩:=h
 cases ry
 cases x with
 | bl a =>
   cases rx
   have e:(Value.bool a == Value.bool b)=decide (V.bl a=V.bl b):=by cases a <;> cases b <;> rfl
   refine wpAny_pure ⟨.bl (decide (V.bl a=V.bl b)),H,I,?_,q⟩
   show Value.bool (Value.bool a == Value.bool b)=Value.bool _
   rw [e]
 | _ =>
   first
    | (cases rx;exact wpAny_pure ⟨.bl false,H,I,rfl,q⟩)
    | (obtain ⟨t,rfl⟩:=rx;exact wpAny_pure ⟨.bl false,H,I,rfl,q⟩)
end
end L2
namespace L2
open PySem PySem.W PySem.Spec PyProof.Rows
section
variable {prog:Program} {w:World} {A:Around} {E:Value->Shared->Prop} {s:Shared} {Q:Bool->Shared->Prop}
end
section
variable {X:Cx}
theorem DK:OpR X (compareOp .IsNot) (fun x y H Q=>∃b:Bool,y=.bl b/\Q (.bl (!decide (x=.bl b))) H):=by
 intro pins s σ H x y v u Q I rx ry h
 obtain ⟨b,rfl,q⟩:=h
 cases ry
 cases x with
 | bl a =>
   cases rx
   have e:(Value.bool a == Value.bool b)=decide (V.bl a=V.bl b):=by cases a <;> cases b <;> rfl
   refine wpAny_pure ⟨.bl (!decide (V.bl a=V.bl b)),H,I,?_,q⟩
   show Value.bool (!(Value.bool a == Value.bool b))=Value.bool _
   rw [e]
 | _ =>
   first
    | (cases rx;exact wpAny_pure ⟨.bl true,H,I,rfl,q⟩)
    | (obtain ⟨t,rfl⟩:=rx;exact wpAny_pure ⟨.bl true,H,I,rfl,q⟩)
end
end L2
namespace L2
open PySem PySem.Spec PyProof.Rows
theorem KJ {K:PySem.W.Frag} {a b:Addr} {xs zs:List V} {tt:TT} {te:TE} {σ:St} {H1:Hp} {Q:Addr->Hp->Prop} {n m:Nat} (hn:n=σ.length) (hm:m=σ.length+1) (hxz:xs.length=zs.length) (hz:xs.length<=sizeLine) (Pv:Addr->Nat->List V->Hp->Prop)
 (h0:∀D,H1 D=none->Pv D 0 [] (upd H1 D (.lst []))) (hD:∀D i ys H,Pv D i ys H->H D=some (.lst ys)/\ys.length<=i) (hl:∀D i ys H,H1 D=none->Pv D i ys H->SqL K H a xs/\SqL K H b zs)
 (hs:∀D i x z T ys H (K1:VK) (K2:Hp->Prop),H1 D=none->xs[i]?=some x->zs[i]?=some z->Pv D i ys H->H T=none->(∀y H5,H5 D=some (.lst ys)->Pv D (i+1) (ys++[y]) (upd H5 D (.lst (ys++[y])))->K1 y H5)->(∀H4,Pv D (i+1) ys H4->K2 H4) ->
  tt (σ++[some x,some z]) (upd H T (.tup [x,z])) fun b H4=>if b=true then te (σ++[some x,some z]) H4 K1 else K2 H4)
 (hd:∀D ys H,H1 D=none->Pv D xs.length ys H->Q D H) :
 ∀D,H1 D=none->∃W:Nat->Nat->List V->Hp->Prop,(∃m,W 0 m [] (upd H1 D (.lst [])))/\∀i k ys H2,W i k ys H2 ->
  H2 D=some (.lst ys)/\(((Itz K a b).stop i H2/\Q D H2)\/((Itz K a b).go i H2/\ys.length < sizeLine/\∀x H3,(Itz K a b).yld i H2 x H3->∀os:St,os.length=2->K5 K 2 (Dl (B4 n) (Dl (B4 m) KW)) x (σ++os) H3 fun σ4 H4=>(∃os':St,σ4=σ++os'/\os'.length=2)/\tt σ4 H4 fun b H5=>if b=true then te σ4 H5 fun y H6=>H6 D=some (.lst ys)/\∃m',m' < k/\W (i+1) m' (ys++[y]) (upd H6 D (.lst (ys++[y])))
   else ∃m',m' < k/\W (i+1) m' ys H5)):=by
 intro D hDn
 subst hn hm
 refine ⟨fun i m ys H=>m=xs.length - i/\i<=xs.length/\Pv D i ys H,⟨xs.length,rfl,Nat.zero_le _,h0 D hDn⟩,?_⟩
 rintro i m ys H2 ⟨rfl,hi,p⟩
 obtain ⟨e,l⟩:=hD D i ys H2 p
 obtain ⟨q1,q2⟩:=hl D i ys H2 hDn p
 refine ⟨e,?_⟩
 by_cases hlt:i < xs.length
 ·have hlt':i < zs.length:=by omega
  refine .inr ⟨⟨xs,zs,xs[i],zs[i],q1,q2,by simp [hlt],by simp [hlt']⟩,Nat.lt_of_le_of_lt l (Nat.lt_of_lt_of_le hlt hz),fun x H3 y os ho=>?_⟩
  obtain ⟨T,v,w,rfl,hT,rfl,hy,hw⟩:=y
  have q5:=hs D i v w T ys H2 (fun y H6=>H6 D=some (.lst ys)/\∃m',m' < xs.length - i/\m'=xs.length - (i+1)/\i+1<=xs.length/\Pv D (i+1) (ys++[y]) (upd H6 D (.lst (ys++[y])))) (fun H5=>∃m',m' < xs.length - i/\m'=xs.length - (i+1)/\i+1<=xs.length/\Pv D (i+1) ys H5) hDn (hy xs q1) (hw zs q2) p hT (fun y H5 h5 p5=>⟨h5,xs.length - (i+1),by omega,rfl,hlt,p5⟩) fun H4 p4=>⟨xs.length - (i+1),by omega,rfl,hlt,p4⟩
  match os,ho with
  | [o1,o2],_ =>
    have e2:((σ++[o1,o2]).set σ.length (some v)).set (σ.length+1) (some w)=σ++[some v,some w]:=by
     rw [set_append_right _ _ (Nat.le_refl _),Nat.sub_self,set_append_right _ _ (Nat.le_succ _)]
     rw [show (List.length σ+1) - List.length σ=1 by omega]
     rfl
    refine ⟨T,[v,w],rfl,SqT.of Ab,rfl,v,[w],rfl,w,[],rfl,rfl,?_⟩
    refine ⟨⟨[some v,some w],e2,rfl⟩,?_⟩
    rw [e2]
    exact q5
 ·have ei:i=xs.length:=by omega
  subst ei
  exact .inl ⟨⟨xs,zs,q1,q2,.inl (Nat.le_refl _)⟩,hd D ys H2 hDn p⟩
section
variable {prog:Program} {w:World} {A:Around} {E:Value->Shared->Prop} {s:Shared} {d:Addr} {es:Array DictEntry} {ep:Nat}
theorem GJ {vs:List Value} (lo:(d == sysModules)=false) (hm:D7 s.heap d es ep) (hz:es.size < 64) (hh:A.handled=none) (hv:es.toList.map (·.key)=vs) {b:Bool} {R:Value->Shared->Prop}
 (h:∀(h':Heap) (tk:Nat) (a:Addr),(∀b o,s.heap.get? b=some o->h'.get? b=some o/\b≠a)->s.heap.objs.size<=a->h'.get? a=some (seqObj "list" vs.toArray 0) ->
  wpAny (model prog w) A.in1.in1 (Builtin.«list.sort» ⟨[.ref a],[(Str.ofString "reverse",.bool b)]⟩) (fun fin s'=>∃v,fin=.done (.ret v)/\R (.ref a) s') E { s with heap:=h',toks:=tk }) :
 wpAny (model prog w) A (call (.builtin "sorted") [.ref d] [(Str.ofString "reverse",.bool b)]) R E s:=by
 refine call_function_entry_kw kind_sorted plain_sorted entry_sorted (args_sorted_rev _ _) ?_
 unfold Builtin.«sorted»
 refine wpAny_bind (m:=checkCount "sorted" 1 1 _) (wpAny_pure ?_)
 refine wpAny_bind (G4 (A:=A.in1) lo hm hh (by rw [sizeLine_eq];omega) fun h' tk hk ge=>?_)
 rw [hv]
 have hl:vs.length < 64:=by rw [<- hv,length_map,Array.length_toList];exact hz
 refine wpAny_bind (wpAny_newList ?_ (by rw [sizeLine_eq];omega))
 have ho:(h'.push (seqObj "list" vs.toArray 0)).get? h'.objs.size=some (seqObj "list" vs.toArray 0):=Heap.get?_push_size _ rfl
 refine wpAny_bind (wpAny_holding (wpAny_call_entry_kw slot_list_sort ⟨_,ho,rfl⟩ entry_list_sort ?_ (args_list_sort_rev _ _)))
 refine wpAny_mono (h _ tk h'.objs.size (fun b o e=>⟨Heap.get?_push_of_some _ (hk b o e),Nat.ne_of_lt (Heap.lt_size (hk b o e))⟩) (Nat.le_of_lt ge) ho) (fun fin s' x=>?_) fun _ _ x=>x
 obtain ⟨v,rfl,q⟩:=x
 exact ⟨_,rfl,wpAny_pure ⟨_,rfl,q⟩⟩
end
section
variable {X:Cx}
def Sq (te:TE):TE:=fun σ H Q=>te σ H fun x H1=>∃(d:Addr) (kvs:List (Key × V)) (ns:List Int),x=.ref d/\Rd H1 d (.dK kvs)/\kvs.map (·.1)=ns.map Sum.inl/\ns.length < 64 /\
 ∀(l:Addr) (ms:List Int),ms.Perm ns->ms.Pairwise (·>=·)->H1 l=none->Q (.ref l) (upd H1 l (.lst (ms.map V.int)))
theorem OC {e:Expr} {te:TE} {p pos kp pc:Pos} {jj} (hc:X.calm=true) (hg:Gl X "sorted") (hm:X.mg "sorted"=none) (he:PE X e te)
 (h1:backTo pos (starEach [e] X.env)=(false,eval e X.env) :: backTo pos (starEach [] X.env):=by rfl) (h2:(backTo pos (starEach [e] X.env)).any (·.1)=false:=by rfl)
 (h3:(backToKw pos (keywordEach [⟨some "reverse",.Constant (.bool true) jj pc,kp⟩] X.env)).all (·.1.isSome)=true:=by rfl) (h4:(backToKw pos (keywordEach [⟨some "reverse",.Constant (.bool true) jj pc,kp⟩] X.env)).any (·.1.isNone)=false:=by rfl)
 (h5:(backToKw pos (keywordEach [⟨some "reverse",.Constant (.bool true) jj pc,kp⟩] X.env)).filterMap (·.1)=[("reverse":Str)]:=by rfl) :
 PE X (.Call (.Name "sorted" p) [e] [⟨some "reverse",.Constant (.bool true) jj pc,kp⟩] pos) (Sq te):=by
 intro pins s σ H Q I h
 refine wpAny_Call_Name_kw (DU I hg hm boot_sorted ?_ (by decide) (by decide))
 refine P0 ?_ h1 h2 h3 h4
 rw [h1]
 refine Calls.spliced_cons (thn (he pins s σ H _ I h) fun u s1 ⟨x,H1,I1,r1,d,kvs,ns,hx,hd,hks,h64,q⟩=>?_)
 subst hx
 cases r1
 refine Calls.spliced_nil ?_
 refine kws_cons (wpAny_Constant_bool (kws_nil ?_))
 rw [h5]
 show wpAny (model X.prog X.w) X.A (call (.builtin "sorted") [.ref d] [(Str.ofString "reverse",.bool true)]) _ _ s1
 obtain ⟨_,lo,vs,kv,o,es,ep,g1,g2,g3,g4,g5,_⟩:=Ib I1.hok hd
 have hi:=Ll kv g5 hks
 have hl:=hi.length
 have hes:es.size=ns.length:=by simpa using hl
 refine GJ lo ⟨o,g1,g2,g3⟩ (by omega) (I1.ok.hd hc) rfl fun h' tk a kp ge ho=>?_
 refine list_sort_tree_rev (s:={ s1 with heap:=h',toks:=tk }) ho hi (by rw [hl];exact h64) fun out ms i1 i2 i3=>⟨_,rfl,?_⟩
 obtain ⟨e,he⟩:=sortedHeap_at (out:=out) ho
 have hfr:H1 a=none:=I1.hok.fresh ge
 refine ⟨.ref _,_,I1.laid (t':=tk) (fun b o hb=>?_) ge (show AN X.prog X.w _ _ _ (.lst (ms.map V.int)) from ⟨?_,out.toList,e,Ea i1,he⟩),rfl,q _ ms i2 i3 hfr⟩
 ·obtain ⟨k1,k2⟩:=kp b o hb
  rw [sortedHeap_old k2 (Heap.lt_size k1)]
  exact k1
 ·rw [length_map,i2.length_eq,sizeLine_eq]
  omega
end
abbrev hoI (v d:Addr):HO:=.ext fun h=>h.IsItemsView v d
def FrK (P:Program) (w:World) (d:Addr) (ob:Obj) (kvs:List (Key × V)):Prop :=
 kvs.length<=sizeLine/\(d == sysModules)=false/\∃vs,KV kvs vs/\∃es ep,ob.ExactDict/\ob.data=.dict es ep/\KeysOf (AL P w) es/\Pairs (AL P w) es.toList vs/\(vs.map (·.1)).Nodup
def Iti (d:Addr) (ob:Obj) (kvs:List (Key × V)):It :=
 ⟨fun i H=>H d=some (hoF d ob)/\i < kvs.length,fun i H x H'=>∃T k v,x=.ref T/\H T=none/\kvs[i]?=some (k,v)/\H'=upd H T (.tup [kV k,v]),fun i H=>H d=some (hoF d ob)/\i=kvs.length⟩
theorem QR {P:Program} {w:World} {k:Key} {u:Value} (h:(AL P w).is k u=true):AE (kV k) u:=by
 rcases Bb (show G8 k u=true from h) with ⟨i,t',a,b⟩ | ⟨x,t',a,b⟩
 ·subst a b
  exact ⟨_,rfl⟩
 ·subst a b
  exact ⟨_,rfl⟩
theorem FrK.of {P:Program} {w:World} {H:Hp} {h:Heap} {d:Addr} {kvs:List (Key × V)} (x:AN P w H h d (.dK kvs)):∃ob,h.get? d=some ob/\FrK P w d ob kvs:=by
 obtain ⟨a,b,vs,c,o,es,ep,e,r⟩:=x
 exact ⟨o,e,a,b,vs,c,es,ep,r⟩
theorem FrK.to {P:Program} {w:World} {H:Hp} {h:Heap} {d:Addr} {ob:Obj} {kvs:List (Key × V)} (x:FrK P w d ob kvs) (e:h.get? d=some ob):AN P w H h d (.dK kvs):=by
 obtain ⟨a,b,vs,c,es,ep,r⟩:=x
 exact ⟨a,b,vs,c,ob,es,ep,e,r⟩
section
variable {prog:Program} {w:World} {A:Around} {E:Value->Shared->Prop} {s:Shared}
theorem Rr {d:Addr} {Q:Value->Shared->Prop} (ty:s.TypeIs (.ref d) "dict") (hd:(d == sysModules)=false)
 (q:Q (.ref s.heap.objs.size) { s with heap:=s.heap.push { cls:=.type "dict_items",data:=.fields #[.ref d] } }):wpAny (model prog w) A (call (.builtin "dict.items") [.ref d]) Q E s:=by
 refine wpAny_call_entry F.slot_dict_items ty F.entry_dict_items ?_ (F.args_dict_items_1 _)
 unfold Builtin.«dict.items»;refine wpAny_bind ?_
 unfold Builtin.Dict.noArgs;refine wpAny_bind (wpAny_notOrdered_dict ty ?_)
 show wpAny _ _ (pure d) _ _ s;refine wpAny_pure ?_
 show wpAny _ _ (Builtin.Dict.showsAll d >>= _) _ _ s;unfold Builtin.Dict.showsAll
 rw [if_neg (by rw [hd];exact Bool.false_ne_true)];refine wpAny_bind (wpAny_pure (wpAny_bind (wpAny_newObj_type (wpAny_pure ⟨_,rfl,q⟩))))
end
section
variable {X:Cx}
theorem Qh:MtR X "dict.items" (fun x vs H Q=>∃(d:Addr) (kvs:List (Key × V)),x=.ref d/\vs=[]/\H d=some (.dK kvs)/\∀v,H v=none->Q (.ref v) (upd H v (hoI v d))):=by
 intro pins s σ H x vs v us Q I rx rv h
 obtain ⟨d,kvs,rfl,rfl,e,q⟩:=h
 cases rx
 have hus:=rv.zero
 subst hus
 obtain ⟨_,hd,vs,_,o,es,ep,h1,h2,h3⟩:=(show AN X.prog X.w H s.heap d (.dK kvs) from I.hok d _ e)
 refine Rr ⟨o,h1,h2.1⟩ hd ?_
 refine ⟨.ref s.heap.objs.size,_,I.laid (t':=s.toks) (fun b u z=>Heap.get?_push_of_some _ z) (Nat.le_refl _) ?_,rfl,q _ (I.hok.fresh (Nat.le_refl _))⟩
 refine ⟨⟨_,Heap.get?_push_size _ rfl,rfl,rfl⟩,⟨_,Heap.get?_push_size _ rfl⟩,fun g1 g2 ⟨o,z,r⟩ k=>⟨o,k o z,r⟩⟩
theorem Me {P:Program} {w:World} {K:PySem.W.Frag} {xs:List Expr} {k:Nat} {pos:Pos} {d it:Addr} {ob:Obj} {kvs:List (Key × V)} {vs:List (Key × Value)} (kv:KV kvs vs) {es:Array DictEntry} {ep:Nat} (fr:ob.ExactDict/\ob.data=.dict es ep/\KeysOf (AL P w) es/\Pairs (AL P w) es.toList vs/\(vs.map (·.1)).Nodup) :
 KS P w K (.Tuple xs k pos) (Iti d ob kvs) [it] it (fun i h=>i<=kvs.length/\∃ok ov,IsItemIter h it d i vs.length ep ok ov) where
 mem:=by simp
 obj:=fun i h st b hb=>by
  have e:b=it:=by simpa using hb
  subst e
  obtain ⟨_,ok,ov,e⟩:=st
  exact ⟨_,e,fun v z=>by cases (show Data.fields _=Data.cell v from z)⟩
 keep:=fun i h h' ⟨a,ok,ov,e⟩ k=>⟨a,ok,ov,k it (by simp) _ e⟩
 item:=by
  intro X hP hw hK hc i pins s σ H E I hf st hg
  subst hP hw hK
  obtain ⟨hd,hi⟩:=hg
  obtain ⟨_,ok,ov,st⟩:=st
  obtain ⟨p,hp⟩:∃p,kvs[i]?=some p:=⟨_,List.getElem?_eq_getElem hi⟩
  obtain ⟨q,hq,r1,r2⟩:=HS kv hp
  have lt:it < s.heap.objs.size:=Heap.lt_size st
  refine wpAny_pyNext_items_item st ⟨ob,es,I.held hd,fr⟩ (k:=q.1) (v:=q.2) hq fun key h' hk out nT hsz keep=>⟨_,rfl,?_⟩
  refine wpAny_letOwnedTupleGo_items out fun g2 z2 sb=>?_
  have fr0:H s.heap.objs.size=none:=I.hok.fresh (Nat.le_refl _)
  refine ⟨.ref s.heap.objs.size,upd H s.heap.objs.size (.tup [kV p.1,p.2]),?_,rfl,⟨_,p.1,p.2,rfl,fr0,hp,rfl⟩,⟨by omega,_,_,z2⟩,fun b hb=>?_⟩
  ·refine I.laidTurned (fp:=[it]) (t':=s.toks) (fun c o hc z=>?_) hf (Nat.le_refl _) ?_
   ·have n1:c≠it:=fun e=>hc (by simp [e])
    exact (sb.2 c n1).trans (keep c o n1 z)
   ·exact ⟨by show 2<=sizeLine;decide,[key,q.2],.cons (by rw [r1];exact QR hk) (.cons r2 .nil),⟨_,(sb.2 _ (Nat.ne_of_gt lt)).trans nT,rfl,_,rfl⟩⟩
  ·have e:b=it:=by simpa using hb
   subst e
   rw [Al (Nat.ne_of_lt lt)]
   exact (hf b hb).1
 done:=by
  intro X hP hw hK hc i pins s σ H E I hf st hg
  subst hP hw hK
  obtain ⟨hd,hi⟩:=hg
  obtain ⟨_,ok,ov,st⟩:=st
  obtain ⟨f0,f1,f2,f3,f4,f5⟩:=hf it (by simp)
  have hx:vs[i]?=none:=List.getElem?_eq_none (by have:=KV.length kv;omega)
  exact wpAny_pyNext_items_end (I.ok.hd hc) st ⟨ob,es,I.held hd,fr⟩ hx fun h' eb=>⟨rfl,I.turned (t':=s.toks) (fun b o hb e=>eb b o hb e) f0 f1 f3 f4 f5⟩
 self:=fun _ _ _ _ _ st h=>let ⟨_,_,_,e⟩:=st;PySem.W.kcp_self e h
def SV (P:Program) (w:World) (te:TE):TI:=fun σ H R=>te σ H fun x H1=>∃(v d:Addr) (kvs:List (Key × V)),x=.ref v/\H1 v=some (hoI v d)/\H1 d=some (.dK kvs)/\∀ob,FrK P w d ob kvs->R (Iti d ob kvs) (upd H1 d (hoF d ob))
theorem Pb {e:Expr} {es:List Expr} {k:Nat} {pt:Pos} {te:TE} (he:PE X e te):PI X (.Tuple es k pt) e (SV X.prog X.w te):=by
 intro pins s σ H R I h
 refine thn (he pins s σ H _ I h) fun u s1 ⟨x,H1,I1,r1,v,d,kvs,ex,ev,ed,q⟩=>?_
 subst ex
 cases r1
 obtain ⟨vw,_,_⟩:=(show AN X.prog X.w H1 s1.heap v (hoI v d) from I1.hok v _ ev)
 obtain ⟨ob,eo,f⟩:=FrK.of (show AN X.prog X.w H1 s1.heap d (.dK kvs) from I1.hok d _ ed)
 obtain ⟨_,_,vs,kv,es',ep,fr⟩:=id f
 refine wpAny_pyIter_items (knd:=AL X.prog X.w) vw ⟨ob,es',eo,fr⟩ ?_
 have I2:Inv X pins σ (upd H1 d (hoF d ob)) s1:=FP (t':=s1.toks) I1 (by rw [ed];exact True.intro) (Heap.SameBut.refl d s1.heap) ⟨ob,eo⟩ ⟨eo,⟨ob,eo⟩,fun _ _ z k=>k _ z⟩
 refine ⟨s1.heap.objs.size,[s1.heap.objs.size],_,_,_,rfl,I2.kept (t':=s1.toks) fun b o e=>Heap.get?_push_of_some _ e,Me kv fr,⟨Nat.zero_le _,_,_,Heap.get?_push_size _ rfl⟩,fun b hb=>?_,q ob f⟩
 have e:b=s1.heap.objs.size:=by simpa using hb
 subst e
 exact I2.fpOk (Nat.le_refl _) (I2.hok.fresh (Nat.le_refl _))
def S2 (P:Program) (w:World) (te:TE):TE:=fun σ H Q=>te σ H fun v H'=>∃(d:Addr) (ob:Obj) (kvs:List (Key × V)),H' d=some (hoF d ob)/\FrK P w d ob kvs/\Q v (upd H' d (.dK kvs))
theorem PK {e:Expr} {te:TE} (he:PE X e te):PE X e (S2 X.prog X.w te):=by
 intro pins s σ H Q I h
 refine thn (he pins s σ H _ I h) fun u s1 ⟨x,H1,I1,r1,d,ob,kvs,ed,f,q⟩=>?_
 have eo:=I1.held ed
 exact ⟨x,_,FP (t':=s1.toks) I1 (by rw [ed];exact True.intro) (Heap.SameBut.refl d s1.heap) ⟨ob,eo⟩ (f.to eo),r1,q⟩
end
theorem LL {K:PySem.W.Frag} {d:Addr} {ob:Obj} {kvs:List (Key × V)} {tt:TT} {te:TE} {σ:St} {H1:Hp} {Q:Addr->Hp->Prop} {n m:Nat} (hn:n=σ.length) (hm:m=σ.length+1) (hz:kvs.length<=sizeLine) (Pv:Addr->Nat->List V->Hp->Prop)
 (h0:∀D,H1 D=none->Pv D 0 [] (upd H1 D (.lst []))) (hD:∀D i ys H,Pv D i ys H->H D=some (.lst ys)/\ys.length<=i) (hl:∀D i ys H,H1 D=none->Pv D i ys H->H d=some (hoF d ob))
 (hs:∀D i k v T ys H (K1:VK) (K2:Hp->Prop),H1 D=none->kvs[i]?=some (k,v)->Pv D i ys H->H T=none->(∀y H5,H5 D=some (.lst ys)->Pv D (i+1) (ys++[y]) (upd H5 D (.lst (ys++[y])))->K1 y H5)->(∀H4,Pv D (i+1) ys H4->K2 H4) ->
  tt (σ++[some (kV k),some v]) (upd H T (.tup [kV k,v])) fun b H4=>if b=true then te (σ++[some (kV k),some v]) H4 K1 else K2 H4)
 (hd:∀D ys H,H1 D=none->Pv D kvs.length ys H->Q D H) :
 ∀D,H1 D=none->∃W:Nat->Nat->List V->Hp->Prop,(∃m,W 0 m [] (upd H1 D (.lst [])))/\∀i k ys H2,W i k ys H2 ->
  H2 D=some (.lst ys)/\(((Iti d ob kvs).stop i H2/\Q D H2)\/((Iti d ob kvs).go i H2/\ys.length < sizeLine/\∀x H3,(Iti d ob kvs).yld i H2 x H3->∀os:St,os.length=2->K5 K 2 (Dl (B4 n) (Dl (B4 m) KW)) x (σ++os) H3 fun σ4 H4=>(∃os':St,σ4=σ++os'/\os'.length=2)/\tt σ4 H4 fun b H5=>if b=true then te σ4 H5 fun y H6=>H6 D=some (.lst ys)/\∃m',m' < k/\W (i+1) m' (ys++[y]) (upd H6 D (.lst (ys++[y])))
   else ∃m',m' < k/\W (i+1) m' ys H5)):=by
 intro D hDn
 subst hn hm
 refine ⟨fun i m ys H=>m=kvs.length - i/\i<=kvs.length/\Pv D i ys H,⟨kvs.length,rfl,Nat.zero_le _,h0 D hDn⟩,?_⟩
 rintro i m ys H2 ⟨rfl,hi,p⟩
 obtain ⟨e,l⟩:=hD D i ys H2 p
 have q1:=hl D i ys H2 hDn p
 refine ⟨e,?_⟩
 by_cases hlt:i < kvs.length
 ·refine .inr ⟨⟨q1,hlt⟩,Nat.lt_of_le_of_lt l (Nat.lt_of_lt_of_le hlt hz),fun x H3 y os ho=>?_⟩
  obtain ⟨T,k,v,rfl,hT,hy,rfl⟩:=y
  have q5:=hs D i k v T ys H2 (fun y H6=>H6 D=some (.lst ys)/\∃m',m' < kvs.length - i/\m'=kvs.length - (i+1)/\i+1<=kvs.length/\Pv D (i+1) (ys++[y]) (upd H6 D (.lst (ys++[y])))) (fun H5=>∃m',m' < kvs.length - i/\m'=kvs.length - (i+1)/\i+1<=kvs.length/\Pv D (i+1) ys H5) hDn hy p hT (fun y H5 h5 p5=>⟨h5,kvs.length - (i+1),by omega,rfl,hlt,p5⟩) fun H4 p4=>⟨kvs.length - (i+1),by omega,rfl,hlt,p4⟩
  match os,ho with
  | [o1,o2],_ =>
    have e2:((σ++[o1,o2]).set σ.length (some (kV k))).set (σ.length+1) (some v)=σ++[some (kV k),some v]:=by
     rw [set_append_right _ _ (Nat.le_refl _),Nat.sub_self,set_append_right _ _ (Nat.le_succ _)]
     rw [show (List.length σ+1) - List.length σ=1 by omega]
     rfl
    refine ⟨T,[kV k,v],rfl,SqT.of Ab,rfl,kV k,[v],rfl,v,[],rfl,rfl,?_⟩
    refine ⟨⟨[some (kV k),some v],e2,rfl⟩,?_⟩
    rw [e2]
    exact q5
 ·have ei:i=kvs.length:=by omega
  subst ei
  exact .inl ⟨⟨q1,rfl⟩,hd D ys H2 hDn p⟩
end L2
namespace PySem
open Sem (wp)
section
variable {prog:Program} {w:World} {K:Type} [DecidableEq K] (knd:KeyKind prog w K)
inductive BB (h:Heap):List (List K)->List Value->Prop
 | nil:BB h [] []
 | cons {k:List K} {a:Addr} {ks:List (List K)} {vs:List Value}:IsTupleKey knd h k a->BB h ks vs->BB h (k :: ks) (.ref a :: vs)
def Ba (h:Heap) (ks:List (List K)) (a:Addr):Prop:=∃o items n,h.get? a=some o/\o.cls=.type "tuple"/\o.data=.seq items n/\BB knd h ks items.toList
variable {knd}
theorem BB.inj {h:Heap} {x y:List (List K)} {vs:List Value} (hx:BB knd h x vs) (hy:BB knd h y vs):x=y:=by
 induction hx generalizing y with
 | nil=>cases hy;rfl
 | cons h1 _ ih =>
   cases hy with
   | cons h2 t2=>rw [h1.inj h2,ih t2]
theorem Ba.typeIs {s:Shared} {ks:List (List K)} {a:Addr} (x:Ba knd s.heap ks a):s.TypeIs (.ref a) "tuple":=let ⟨o,_,_,ho,hc,_⟩:=x;⟨o,ho,hc⟩
theorem Ba.inj {h:Heap} {a:Addr} {x y:List (List K)} (hx:Ba knd h x a) (hy:Ba knd h y a):x=y:=by
 obtain ⟨o,items,n,ho,_,hd,hi⟩:=hx
 obtain ⟨o',items',n',ho',_,hd',hi'⟩:=hy
 obtain rfl:o=o':=Option.some.inj (ho.symm.trans ho')
 rw [hd] at hd'
 injection hd' with h1 _
 subst h1
 exact hi.inj hi'
theorem BB.keeps {h h':Heap} {ks:List (List K)} {vs:List Value} {d:Addr} {o:Obj} {es ep} (x:BB knd h ks vs) (ho:h.get? d=some o) (hd:o.data=.dict es ep) (hs:Heap.SameBut d h h'):BB knd h' ks vs:=by
 induction x with
 | nil=>exact .nil
 | cons h1 _ ih=>exact .cons (h1.keeps ho hd hs) ih
theorem Ba.keeps {h h':Heap} {ks:List (List K)} {a d:Addr} {o:Obj} {es ep} (x:Ba knd h ks a) (ho:h.get? d=some o) (hd:o.data=.dict es ep) (hs:Heap.SameBut d h h') :
 Ba knd h' ks a:=by
 obtain ⟨o',items,n,ho',hc,hd',hi⟩:=x
 have hne:a≠d:=by
  rintro rfl
  obtain rfl:o'=o:=Option.some.inj (ho'.symm.trans ho)
  rw [hd] at hd';exact nomatch hd'
 exact ⟨o',items,n,(hs.2 a hne).trans ho',hc,hd',hi.keeps ho hd hs⟩
noncomputable def Hl (knd:KeyKind prog w K) (ks:List (List K)):Int:=reduceHash (Builtin.Tuple.tupleHashOf (ks.map (tupleKeyHash knd)))
noncomputable def Gn (ks:List (List K)):Nat:=(ks.map fun k=>k.length+1).sum+1
variable {A:Around} {E:Value->Shared->Prop} {s:Shared}
theorem Gc {ks:List (List K)} {a:Addr} {Q:Int->Shared->Prop} (hu:A.units+1 < cLine) (hk:Ba knd s.heap ks a) (h:Q (Hl knd ks) { s with toks:=s.toks+Gn ks }) :
 wpAny (model prog w) A (pyHash (.ref a)) Q E s:=by
 have hT:=hk.typeIs
 obtain ⟨o,items,n,ho,_,hd,hi⟩:=hk
 unfold pyHash
 first | unfold pyHashByItsType | skip
 first | refine wpAny_bind (wpAny_cRoomFor_or (.inr (Nat.lt_of_succ_lt hu)) ?_) | skip
 refine wpAny_bind (wpAny_specialOf hT F.slot_tuple_hash.lookup ?_)
 show wpAny _ _ (if (some (Value.builtin "tuple.__hash__") == some Value.none)=true then _ else _) Q E s
 rw [if_neg (by rw [beq_builtin_none];exact Bool.false_ne_true)]
 refine wpAny_bind (wpAny_specialOf hT F.slot_tuple_hash.lookup ?_)
 show wpAny _ _ (callSpecialIfBoundUnlessNone? (.ref a) "__hash__" _ >>= _) Q E s
 refine wpAny_bind (wpAny_callSpecialIfBoundUnlessNone?_slot hT F.slot_tuple_hash (wpAny_call_entry F.slot_tuple_hash hT F.entry_tuple_hash ?_ (F.args_tuple_hash_1 _)))
 show wpAny _ _ (Builtin.Tuple.tupleItemsOf (.ref a) >>= _) _ _ s
 refine wpAny_bind (wpAny_tupleItemsOf ho hd ?_)
 refine wpAny_bind ?_
 rw [<- Array.forIn_toList]
 refine wpAny_forIn_list _
  (fun rest (b:Array Int) s'=>∃done left,ks=done++left/\BB knd s.heap left rest/\b.toList=done.map (tupleKeyHash knd)/\s'={ s with toks:=s.toks+(done.map fun k=>k.length+1).sum })
  _ ?_ ?_ _ _ ⟨[],ks,rfl,hi,rfl,rfl⟩
 ·rintro x rest b s' ⟨done,left,rfl,hl,hb,rfl⟩
  cases hl with
  | @cons k _ ks' _ h1 hl' =>
    refine wpAny_bind (wpAny_pyHash_tuple (knd:=knd) hu h1 ?_)
    first
     | exact wpAny_pure ⟨done++[k],ks',by simp,hl',by simp [hb],by simp [Nat.add_assoc]⟩
     | exact wpAny_bind (wpAny_pure (wpAny_pure ⟨done++[k],ks',by simp,hl',by simp [hb],by simp [Nat.add_assoc]⟩))
 ·rintro b s' ⟨done,left,rfl,hl,hb,rfl⟩
  cases hl
  rw [append_nil] at h
  show wpAny _ _ (retInt (Builtin.Tuple.tupleHashOf b.toList)) _ _ _
  rw [hb]
  refine wpAny_ret_mkInt ?_
  show wpAny _ _ (if (decide (-(2:Int) ^ 63<=Builtin.Tuple.tupleHashOf (done.map (tupleKeyHash knd))) && decide (Builtin.Tuple.tupleHashOf (done.map (tupleKeyHash knd)) < 2 ^ 63))=true then _ else _) Q E _
  unfold Hl reduceHash Gn at h
  by_cases hr:(decide (-(2:Int) ^ 63<=Builtin.Tuple.tupleHashOf (done.map (tupleKeyHash knd))) && decide (Builtin.Tuple.tupleHashOf (done.map (tupleKeyHash knd)) < 2 ^ 63))=true
  ·rw [if_pos hr]
   rw [if_pos hr] at h
   exact wpAny_pure (by simpa [Nat.add_assoc] using h)
  ·rw [if_neg hr]
   rw [if_neg hr] at h
   exact wpAny_bind (wpAny_rule (wpAny_pure (by simpa [Nat.add_assoc] using h)))
theorem Kb {x y:List (List K)} {a b:Addr} {P:Fin->Shared->Prop} (hu:A.units < cLine) (hx:Ba knd s.heap x a) (hy:Ba knd s.heap y b) (h:P (.done (.ret (.bool (decide (x=y))))) s) :
 wpAny (model prog w) A (Builtin.«tuple.__eq__» ⟨[.ref a,.ref b],[]⟩) P E s:=by
 have hTb:=hy.typeIs
 obtain ⟨oa,xs,na,hoa,_,hda,hia⟩:=hx
 obtain ⟨ob,ys,nb,hob,_,hdb,hib⟩:=hy
 show wpAny _ _ (isInstance (.ref b) (.type "tuple") >>= _) _ _ s
 refine wpAny_bind (wpAny_isInstance hTb isSubtype_tuple_tuple ?_)
 simp only [Bool.not_true,Bool.false_eq_true,if_false]
 refine wpAny_bind (wpAny_tupleItemsOf hoa hda ?_)
 refine wpAny_bind (wpAny_tupleItemsOf hob hdb ?_)
 refine wpAny_bind ?_
 refine wpAny_forIn_list _
  (fun rest r s'=>r.1=none/\s'=s/\∃x' y' xs' ys',rest=List.zip xs' ys'/\BB knd s.heap x' xs'/\BB knd s.heap y' ys'/\decide (x'=y')=decide (x=y)/\(xs'.length == ys'.length)=(xs.size == ys.size))
  _ ?_ ?_ _ _ ⟨rfl,rfl,x,y,xs.toList,ys.toList,rfl,hia,hib,rfl,by simp⟩
 ·rintro ⟨u,v⟩ rest r s' ⟨hr,rfl,x',y',xs',ys',hz,hx',hy',hdec,hlen⟩
  cases hx' with
  | nil=>simp at hz
  | @cons k1 u' x'' xs'' h1 hx'' =>
    cases hy' with
    | nil=>simp at hz
    | @cons k2 v' y'' ys'' h2 hy'' =>
      simp only [zip_cons_cons,List.cons.injEq,Prod.mk.injEq] at hz
      obtain ⟨⟨rfl,rfl⟩,rfl⟩:=hz
      refine wpAny_bind (wpAny_eqBool_tuple (x:=k1) (y:=k2) hu h1 h2 ?_)
      by_cases hk:k1=k2
      ·subst hk
       rw [decide_eq_true rfl]
       simp only [Bool.not_true,Bool.false_eq_true,if_false]
       refine wpAny_pure ⟨rfl,rfl,x'',y'',xs'',ys'',rfl,hx'',hy'',?_,by simpa using hlen⟩
       rw [<- hdec]
       by_cases hxy:x''=y''
       ·simp [hxy]
       ·simp [hxy]
      ·rw [decide_eq_false hk]
       simp only [Bool.not_false,if_true]
       have hf:decide (x=y)=false:=by rw [<- hdec];simp [hk]
       rw [hf] at h
       exact wpAny_bind (wpAny_pure (wpAny_pure (wpAny_pure h)))
 ·rintro ⟨r1,r2⟩ s' ⟨hr,rfl,x',y',xs',ys',hz,hx',hy',hdec,hlen⟩
  simp only at hr
  subst hr
  refine wpAny_pure ?_
  have hfin:(xs.size == ys.size)=decide (x=y):=by
   rw [<- hdec,<- hlen]
   cases hx' with
   | nil =>
     cases hy' with
     | nil=>simp
     | cons _ _=>simp
   | cons _ _ =>
     cases hy' with
     | nil=>simp
     | cons _ _=>simp at hz
  show P (.done (.ret (.bool (xs.size == ys.size)))) s'
  rw [hfin];exact h
theorem Gd {x y:List (List K)} {a b:Addr} {Q:Bool->Shared->Prop} (hu:A.units+1 < cLine) (hx:Ba knd s.heap x a) (hy:Ba knd s.heap y b) (h:Q (decide (x=y)) s) :
 wpAny (model prog w) A (eqBool (.ref a) (.ref b)) Q E s:=by
 unfold eqBool
 try with_reducible refine wpAny_holding ?_
 show wpAny _ _ (if (Value.ref a == Value.ref b)=true then _ else _) Q E s
 by_cases hab:(Value.ref a == Value.ref b)=true
 ·rw [if_pos hab]
  have e:a=b:=by have:=eq_of_beq hab;injection this
  subst e
  obtain rfl:=hx.inj hy
  exact wpAny_bind (wpAny_rule (wpAny_pure (by simpa using h)))
 ·rw [if_neg hab]
  exact wpAny_bind (wpAny_richCompare_same_room (op:=.Eq) hx.typeIs hy.typeIs F.slot_tuple_eq
   (wpAny_call_entry F.slot_tuple_eq hx.typeIs F.entry_tuple_eq (Kb hu hx hy ⟨_,rfl,(fun e=>nomatch e),wpAny_truthy_bool h⟩) (F.args_tuple_eq_2 _ _)) (Nat.lt_of_succ_lt hu))
theorem IM {ks:List K} {a:Addr} {Q:Bool->Shared->Prop} (n:Nat) (hk:IsTupleKey knd s.heap ks a) (h:Q true s):wpAny (model prog w) A (eqIsQuiet (n+1) (.ref a)) Q E s:=by
 have hT:=hk.typeIs
 obtain ⟨o,items,m,ho,_,hd,hi⟩:=hk
 unfold eqIsQuiet
 refine wpAny_bind (wpAny_specialOf hT F.slot_tuple_eq.lookup ?_)
 show wpAny _ _ (isInstance (.ref a) (.type "tuple") >>= _) _ _ s
 refine wpAny_bind (wpAny_isInstance hT isSubtype_tuple_tuple ?_)
 simp only [Bool.not_true,Bool.false_eq_true,if_false]
 refine wpAny_bind (wpAny_seqItems ho hd ?_)
 refine wpAny_bind ?_
 show wpAny _ _ (forIn items _ _) _ _ s
 rw [<- Array.forIn_toList]
 refine wpAny_forIn_list _ (fun rest r s'=>r.1=none/\s'=s/\∀v∈rest,carriedByValue v=true) _ ?_ ?_ _ _ ⟨rfl,rfl,hi.byValue⟩
 ·rintro v rest r s' ⟨hr,rfl,hall⟩
  rw [eqIsQuiet_byValue _ (hall v mem_cons_self)]
  refine wpAny_bind (wpAny_pure ?_)
  simp only [Bool.not_true,Bool.false_eq_true,if_false]
  exact wpAny_pure ⟨rfl,rfl,fun u hu'=>hall u (mem_cons_of_mem _ hu')⟩
 ·rintro ⟨r1,r2⟩ s' ⟨hr,rfl,_⟩
  simp only at hr
  subst hr
  exact wpAny_pure h
theorem Gu {ks:List (List K)} {a:Addr} {Q:Bool->Shared->Prop} (hk:Ba knd s.heap ks a) (h:Q true s):wpAny (model prog w) A (eqIsQuiet 8 (.ref a)) Q E s:=by
 have hT:=hk.typeIs
 obtain ⟨o,items,m,ho,_,hd,hi⟩:=hk
 unfold eqIsQuiet
 refine wpAny_bind (wpAny_specialOf hT F.slot_tuple_eq.lookup ?_)
 show wpAny _ _ (isInstance (.ref a) (.type "tuple") >>= _) _ _ s
 refine wpAny_bind (wpAny_isInstance hT isSubtype_tuple_tuple ?_)
 simp only [Bool.not_true,Bool.false_eq_true,if_false]
 refine wpAny_bind (wpAny_seqItems ho hd ?_)
 refine wpAny_bind ?_
 show wpAny _ _ (forIn items _ _) _ _ s
 rw [<- Array.forIn_toList]
 refine wpAny_forIn_list _ (fun rest r s'=>r.1=none/\s'=s/\∃ks,BB knd s.heap ks rest) _ ?_ ?_ _ _ ⟨rfl,rfl,ks,hi⟩
 ·rintro v rest r s' ⟨hr,rfl,ks,hall⟩
  cases hall with
  | @cons k _ ks' _ h1 h2 =>
    refine wpAny_bind (IM 6 h1 ?_)
    simp only [Bool.not_true,Bool.false_eq_true,if_false]
    exact wpAny_pure ⟨rfl,rfl,ks',h2⟩
 ·rintro ⟨r1,r2⟩ s' ⟨hr,rfl,_⟩
  simp only at hr
  subst hr
  exact wpAny_pure h
end
noncomputable def HP {prog:Program} {w:World} {K:Type} [DecidableEq K] (knd:KeyKind prog w K):HeapKind prog w (List (List K)) where
 is:=Ba knd
 hash:=Hl knd
 draws:=Gn
 room:=fun A=>A.units+1 < cLine
 inj:=fun hx hy=>hx.inj hy
 keeps:=fun x ho hd hs=>x.keeps ho hd hs
 pyHash:=fun hu hk h=>Gc hu hk h
 eqBool:=fun hu hx hy h=>Gd hu hx hy h
 quiet:=fun hk h=>Gu hk h
end PySem
namespace L2
open PySem PySem.Spec PyProof.Rows
def Go (H:Hp) (b:Addr) (kss:List (List Key)):Prop:=∃as:List Addr,H b=some (.tup (as.map V.ref))/\Paired (fun (ks:List Key) (a:Addr)=>H a=some (.tup (ks.map kV))) kss as
abbrev KN (H:Hp):List (List (List Key) × V)->List (List (List Key) × Addr × Value)->Prop:=Paired fun p q=>p.1=q.1/\Go H q.2.1 p.1/\AE p.2 q.2.2
def NT (P:Program) (w:World) (H:Hp) (a:Addr) (kvs:List (List (List Key) × V)):Prop:=∃ob:Obj,H a=some (hoF a ob)/\kvs.length<=sizeLine/\(a == sysModules)=false /\
 ∃xs,KN H kvs xs/\∃es ep,ob.ExactDict/\ob.data=.dict es ep/\es.toList=xs.map (entryOfKey (HP (AL P w)))/\(xs.map (·.1)).Nodup
theorem Go.tups {H H':Hp} {b:Addr} {kss:List (List Key)} (t:∀c xs,H c=some (.tup xs)->H' c=some (.tup xs)) (k:Go H b kss):Go H' b kss:=by
 obtain ⟨as,h1,h2⟩:=k
 exact ⟨as,t _ _ h1,Paired.mapP h2 fun _ _ z=>t _ _ z⟩
theorem Go.same {H H':Hp} {b:Addr} {kss:List (List Key)} (t:Au H H') (k:Go H b kss):Go H' b kss:=k.tups fun c xs e=>t c _ e
theorem KN.tups {H H':Hp} {kvs:List (List (List Key) × V)} {xs:List (List (List Key) × Addr × Value)} (t:∀c xs,H c=some (.tup xs)->H' c=some (.tup xs)) (k:KN H kvs xs):KN H' kvs xs :=
 Paired.mapP k fun _ _ z=>⟨z.1,z.2.1.tups t,z.2.2⟩
theorem NT.same {P:Program} {w:World} {H H':Hp} {a:Addr} {kvs:List (List (List Key) × V)} (t:Au H H') (k:NT P w H a kvs):NT P w H' a kvs:=by
 obtain ⟨ob,h1,h2,h3,xs,h4,r⟩:=k
 exact ⟨ob,t _ _ h1,h2,h3,xs,h4.tups fun c xs e=>t c _ e,r⟩
theorem KN.val {H:Hp} {kvs:List (List (List Key) × V)} {xs:List (List (List Key) × Addr × Value)} (r:KN H kvs xs) (k:List (List Key)):Eh (Bd kvs k) ((atKey xs k).map (·.2)):=by
 induction r with
 | nil=>exact True.intro
 | @cons p q ps qs h t ih =>
   obtain ⟨h1,_,h2⟩:=h
   by_cases e:p.1=k
   ·have e':q.1=k:=h1.symm.trans e
    have b:atKey (q :: qs) k=some q.2:=by simp [atKey,List.find?_cons,e']
    rw [BJ e,b];exact h2
   ·have e':¬ q.1=k:=fun z=>e (h1.trans z)
    have b:atKey (q :: qs) k=atKey qs k:=by simp [atKey,List.find?_cons,e']
    rw [BI e,b];exact ih
theorem KN.repl {H:Hp} {kvs:List (List (List Key) × V)} {xs:List (List (List Key) × Addr × Value)} (r:KN H kvs xs) (k:List (List Key)) {y:V} {u:Value} (ry:AE y u) :
 KN H (kvs.map fun kv=>if kv.1=k then (kv.1,y) else kv) (xs.map (putAt k u)):=by
 induction r with
 | nil=>exact .nil
 | @cons p q ps qs h t ih =>
   rw [map_cons,map_cons]
   refine .cons ?_ ih
   obtain ⟨h1,h2,h3⟩:=h
   unfold putAt
   by_cases e:p.1=k
   ·rw [if_pos e,if_pos (h1.symm.trans e)];exact ⟨h1,h2,ry⟩
   ·rw [if_neg e,if_neg (fun z=>e (h1.trans z))];exact ⟨h1,h2,h3⟩
theorem KN.put {H:Hp} {kvs:List (List (List Key) × V)} {xs:List (List (List Key) × Addr × Value)} (r:KN H kvs xs) (k:List (List Key)) {b:Addr} {y:V} {u:Value} (hb:Go H b k) (ry:AE y u) :
 KN H (BW kvs k y) (storedH xs k b u):=by
 have e:(kvs.any fun kv=>decide (kv.1=k))=(atKey xs k).isSome:=by
  rw [CJ,(r.val k).isSome_eq,Option.isSome_map]
 unfold BW storedH
 rw [e]
 by_cases q:(atKey xs k).isSome=true
 ·rw [if_pos q,if_pos q];exact r.repl k ry
 ·rw [if_neg q,if_neg q];exact Paired.snoc r ⟨rfl,hb,ry⟩
section
variable {P:Program} {w:World} {H:Hp} {h:Heap} {a:Addr}
theorem MX (ok:HOk P w H h):∀{kss:List (List Key)} {as:List Addr} {its:List Value},Paired (fun (ks:List Key) (a:Addr)=>H a=some (.tup (ks.map kV))) kss as->A9 (as.map V.ref) its->BB (AL P w) h kss its
 | _,_,_,.nil,r=>by cases r;exact .nil
 | _,_,_,.cons (b:=b) hb t,r=>by
   rw [map_cons] at r
   cases r with
   | cons x y =>
     cases (show _=Value.ref b from x)
     exact .cons (Hk ok hb) (MX ok t y)
theorem Hj {kss:List (List Key)} (ok:HOk P w H h) (e:Go H a kss):(HP (AL P w)).is h kss a:=by
 obtain ⟨as,e1,e2⟩:=e
 obtain ⟨sz,its,r,o,h1,h2,n,h3⟩:=(show AN P w H h a (.tup (as.map V.ref)) from ok a _ e1)
 refine ⟨o,its.toArray,n,h1,h2,h3,?_⟩
 rw [show its.toArray.toList=its from by simp]
 exact MX ok e2 r
theorem Pn {kvs:List (List (List Key) × V)} (ok:HOk P w H h) (e:NT P w H a kvs):∃ob,H a=some (hoF a ob)/\kvs.length<=sizeLine/\(a == sysModules)=false/\∃xs,KN H kvs xs/\h.DictOfH (HP (AL P w)) a xs:=by
 obtain ⟨ob,h0,h1,h2,xs,r,es,ep,h3,h4,h5,h6⟩:=e
 have hg:h.get? a=some ob:=by
  obtain ⟨z,_⟩:=(show AN P w H h a (hoF a ob) from ok a _ h0)
  exact z
 refine ⟨ob,h0,h1,h2,xs,r,ob,es,ep,hg,h3,h4,h5,fun x hx=>?_,h6⟩
 clear h5 h6 h1
 induction r with
 | nil=>exact nomatch hx
 | @cons p q ps qs hq t ih =>
   rcases mem_cons.mp hx with e | hx
   ·subst e
    exact Hj ok (by rw [<- hq.1];exact hq.2.1)
   ·exact ih hx
end
theorem u2 {n:Nat} (h:n+64 < cLine):n+2 < cLine:=by omega
def SS (P:Program) (w:World):TE:=fun _ H Q=>∀p ob,H p=none->NT P w (upd H p (hoF p ob)) p []->Q (.ref p) (upd H p (hoF p ob))
def Ss (P:Program) (w:World) (td ty:TE):TE:=fun σ H Q=>td σ H fun x H1=>ty σ H1 fun y H2=>∃a b kvs kss v,x=.ref a/\y=.ref b/\NT P w H2 a kvs/\Go H2 b kss/\Bd kvs kss=some v/\Q v H2
def QI (P:Program) (w:World):R2:=fun y x H Q=>∃a b kvs kss,x=.ref a/\y=.ref b/\NT P w H a kvs/\Go H b kss/\Q (.bl (!(Bd kvs kss).isSome)) H
def Sf (P:Program) (w:World) (td ty tv:TE):TS:=fun D σ H=>tv σ H fun v H1=>td σ H1 fun x H2=>ty σ H2 fun y H3=>∃a b kvs kss,x=.ref a/\y=.ref b/\NT P w H3 a kvs/\Go H3 b kss/\kvs.length < sizeLine/\∀ob,NT P w (upd H3 a (hoF a ob)) a (BW kvs kss v)->D.nx σ (upd H3 a (hoF a ob))
section
variable {X:Cx} {o i e value:Expr} {pos pos' tpos:Pos} {td ty tv:TE}
theorem Qg:PE X (.Dict [] [] pos) (SS X.prog X.w):=fun pins s σ H Q I h=>by
 have hp:=I.hok.fresh (Nat.le_refl s.heap.objs.size)
 have hg:(s.heap.push { cls:=.type "dict",data:=.dict #[] }).get? s.heap.objs.size=some { cls:=.type "dict",data:=.dict #[] }:=Heap.get?_push_size _ rfl
 exact wpAny_Dict_empty ⟨.ref s.heap.objs.size,_,I.laid (a:=s.heap.objs.size) (o:=hoF s.heap.objs.size { cls:=.type "dict",data:=.dict #[] }) (t':=s.toks) (fun _ _ q=>Heap.get?_push_of_some _ q) (Nat.le_refl _) ⟨hg,⟨_,hg⟩,fun _ _ z k=>k _ z⟩,rfl,
  h _ _ hp ⟨_,Ab,Nat.zero_le _,beq_eq_false_iff_ne.mpr (Ne.symm (Nat.ne_of_lt I.big)),[],.nil,#[],0,⟨rfl,rfl,rfl⟩,rfl,rfl,nodup_nil⟩⟩
theorem La (hu:X.A.units+2 < cLine) (ho:PE X o td) (hi:PE X i ty) (hs:Su i):PE X (.Subscript o i pos) (Ss X.prog X.w td ty):=by
 intro pins s σ H Q I h
 refine MP PySem.F.slot_dict_getitem.lookup hs (thn (ho pins s σ H _ I h) fun u s1 ⟨x,H1,I1,rx,q1⟩=>thn (hi pins s1 σ H1 _ I1 q1) fun iv s2 ⟨y,H2,I2,ry,a,b,kvs,kss,v,ex,ey,nt,nk,hv,q2⟩=>?_)
 subst ex ey
 obtain rfl:u=Value.ref a:=rx
 obtain rfl:iv=Value.ref b:=ry
 obtain ⟨ob,h0,z,hd,xs,rel,dd⟩:=Pn I2.hok nt
 refine ⟨dd.typeIs,?_⟩
 obtain ⟨w',hw,rw'⟩:=Eh.some_of (v:=v) (o:=(atKey xs kss).map (·.2)) (by rw [<- hv];exact rel.val kss)
 obtain ⟨p,hp,hp2⟩:=Option.map_eq_some_iff.mp hw
 refine wpAny_getItem_heap (show X.A.in1.units+1 < cLine from hu) (Hj I2.hok nk) dd hp ?_
 rw [hp2]
 exact ⟨v,H2,I2.tok _,rw',q2⟩
theorem NB (hu:X.A.units+2 < cLine):OpR X (compareOp .NotIn) (QI X.prog X.w):=by
 intro pins s σ H x y v u Q I rx ry h
 obtain ⟨a,b,kvs,kss,rfl,rfl,nt,nk,q2⟩:=h
 obtain rfl:u=Value.ref a:=ry
 obtain rfl:v=Value.ref b:=rx
 obtain ⟨ob,h0,z,hd,xs,rel,dd⟩:=Pn I.hok nt
 refine wpAny_notIn_heap (show X.A.in1.units+1 < cLine from hu) (Hj I.hok nk) hd dd ?_
 have q:=(rel.val kss).isSome_eq
 rw [Option.isSome_map] at q
 rw [<- q]
 exact ⟨.bl (!(Bd kvs kss).isSome),H,I.tok _,rfl,q2⟩
theorem OD (hu:X.A.units+2 < cLine) (ho:PE X o td) (hi:PE X i ty) (hv:PE X value tv) (hs:swapsWith value (some (.Subscript o i pos')) pos.line X.env=pure false) :
 PS X (.Assign [.Subscript o i pos'] value pos) (Sf X.prog X.w td ty tv):=by
 intro pins s σ H D I h
 refine wpAny_Assign_Subscript (thn (hv pins s σ H _ I h) fun r s1 ⟨v,H1,I1,rv,q1⟩=>thn (ho pins s1 σ H1 _ I1 q1) fun u s2 ⟨x,H2,I2,rx,q2⟩=>thn (hi pins s2 σ H2 _ I2 q2) fun iv s3 ⟨y,H3,I3,ry,a,b,kvs,kss,ex,ey,nt,nk,l,q3⟩=>?_) hs
 subst ex ey
 obtain rfl:u=Value.ref a:=rx
 obtain rfl:iv=Value.ref b:=ry
 obtain ⟨ob,h0,z,hd,xs,rel,dd⟩:=Pn I3.hok nt
 have hz:xs.length<=sizeLine:=by rw [<- Paired.length rel];exact z
 have hl:(BW kvs kss v).length<=sizeLine:=by have:=C3 kvs kss v;omega
 refine wpAny_setItem_heap (hsz:=hz) (show X.A.in1.units+1 < cLine from hu) (Hj I3.hok nk) dd fun h' dd' hs=>?_
 obtain ⟨q,es,ep,hq,h2,h3,h4,_,h5⟩:=dd'
 have tt:∀c ys,H3 c=some (.tup ys)->(upd H3 a (hoF a q)) c=some (.tup ys):=fun c ys ec=>by
  rw [Al (Cw ec h0 (fun z=>nomatch z))]
  exact ec
 refine ⟨σ,_,FP (ob:=hoF a q) I3 (by rw [h0];exact True.intro) hs ⟨q,hq⟩ ⟨hq,⟨q,hq⟩,fun _ _ z k=>k _ z⟩,q3 q ⟨q,Ab,hl,hd,_,(rel.put kss nk rv).tups tt,es,ep,h2,h3,h4,h5⟩⟩
end
end L2
namespace L2
open PySem PySem.Spec PyProof.Rows
section
variable {prog:Program} {w:World} {A:Around} {E:Value->Shared->Prop} {s:Shared}
end
section
variable {prog:Program} {w:World} {A:Around} {E:Value->Shared->Prop} {s:Shared}
end
section
variable {X:Cx} {pins:List (Addr × Obj)} {σ:St} {H:Hp}
end
section
variable {X:Cx} {e:Expr} {te:TE} {p p2 pos pos2:Pos}
end
end L2
namespace L2
open PySem PySem.Spec PyProof.Rows
section
variable {X:Cx} {pins:List (Addr × Obj)} {σ:St} {H:Hp}
end
end L2
namespace L2
open PySem PySem.Spec PyProof.Rows
end L2
namespace L2
open PySem PySem.W PySem.Spec PyProof.Rows
section
variable {O:KeyOrd} {ky:Nat->O.α} {n:Nat} {cmp:Nat->Nat->(Bool->Shared->Prop)->Shared->Prop} {J:Shared->Prop}
end
end L2
set_option maxHeartbeats 4000000
namespace Law
open PySem L2
def ML (K:PySem.W.Frag):Sp:=fun vs H Q _=>∃(p:Addr) (ns:List Int),vs=[.ref p]/\SqL K H p (ns.map V.int)/\ns.length<=63/\∀H',Q (.bl true) H'
def Q5:Sp:=fun vs H Q _=>∃c:Int,vs=[.int c]/\Q (.bl true) H
theorem Ag {H:Hp} {p:Addr} (h:H p=none) (o:HO):Au H (upd H p o):=fun b u q=>by rw [Al (AY q h)];exact q
theorem AB (x:Int) {y:Int} (h:0 < y):0<=x.fmod y/\x.fmod y < y:=⟨Int.fmod_nonneg_of_pos x h,Int.fmod_lt_of_pos x h⟩
theorem QP (x:Int) {y:Int} {n:Nat} (h:0 < y) (k:Sz n y):Sz n (x.fmod y):=by
 have e:=AB x h
 unfold Sz at k ⊢
 omega
noncomputable def AJ (a b:Int):Int:=(Int.gcd a b:Nat)
theorem R3 (a:Int):(if a < 0 then -a else a)=(a.natAbs:Int):=by
 by_cases h:a < 0
 ·rw [if_pos h];omega
 ·rw [if_neg h];omega
theorem Rz (a b:Int):Int.gcd (if a < 0 then -a else a) (if b < 0 then -b else b)=Int.gcd a b:=by
 rw [R3,R3]
 unfold Int.gcd
 rw [Int.natAbs_natCast,Int.natAbs_natCast]
theorem Ps {x y:Int} (hx:0<=x) (hy:0 < y):Int.gcd y (x.fmod y)=Int.gcd x y:=by
 rw [Int.fmod_eq_emod_of_nonneg x (Int.le_of_lt hy)]
 obtain ⟨m,rfl⟩:=Int.eq_ofNat_of_zero_le hx
 obtain ⟨n,rfl⟩:=Int.eq_ofNat_of_zero_le (Int.le_of_lt hy)
 have e:((m:Int) % (n:Int))=((m % n:Nat):Int):=(Int.natCast_emod m n).symm
 rw [e]
 unfold Int.gcd
 rw [Int.natAbs_natCast,Int.natAbs_natCast,Int.natAbs_natCast]
 rw [Nat.gcd_comm m n,Nat.gcd_rec n m,Nat.gcd_comm]
theorem Ri {x y:Int} (hx:0<=x) (hy:0<=y) (h:¬ 0 < y):x=AJ x y:=by
 have e:y=0:=by omega
 subst e
 unfold AJ
 rw [Int.gcd_zero]
 omega
theorem Lz (a b:Int):0<=AJ a b:=Int.natCast_nonneg _
theorem MM {a b:Int} (h:b≠0):AJ a b≠0:=by
 intro e
 have z:Int.gcd a b=0:=by unfold AJ at e;omega
 exact h (Int.gcd_eq_zero_iff.mp z).2
noncomputable def E9 (t b:Int):Int:=if b < 0 then -(AJ t b) else AJ t b
noncomputable def Cr (t b:Int):Int:=t.fdiv (E9 t b)
noncomputable def Cm (t b:Int):Int:=b.fdiv (E9 t b)
theorem ME {t b:Int} (h:b≠0):E9 t b≠0:=by
 have e:=MM (a:=t) h
 unfold E9
 by_cases c:b < 0
 ·rw [if_pos c];omega
 ·rw [if_neg c];exact e
theorem Kq {t b:Int} (h:b≠0):0 < Cm t b:=by
 have g0:AJ t b≠0:=MM h
 have gn:=Lz t b
 have d:AJ t b ∣ b:=Int.gcd_dvd_right ..
 obtain ⟨k,hk⟩:=d
 unfold Cm E9
 by_cases c:b < 0
 ·rw [if_pos c]
  have e:b=-(AJ t b)*(-k):=by rw [Int.neg_mul_neg];exact hk
  have e2:b.fdiv (-(AJ t b))=-k:=by
   conv=>lhs;arg 1;rw [e]
   exact Int.mul_fdiv_cancel_left (-k) (by omega)
  rw [e2]
  rcases (by omega:k < 0\/0<=k) with z | z
  ·omega
  ·have:=Int.mul_nonneg gn z
   omega
 ·rw [if_neg c]
  have e2:b.fdiv (AJ t b)=k:=by
   conv=>lhs;arg 1;rw [hk]
   exact Int.mul_fdiv_cancel_left k g0
  rw [e2]
  rcases (by omega:0 < k\/k<=0) with z | z
  ·exact z
  ·have:=Int.mul_nonpos_of_nonneg_of_nonpos gn z
   omega
theorem Pc {x y:Int}:E9 x y ∣ x:=by
 have d:AJ x y ∣ x:=Int.gcd_dvd_left ..
 unfold E9
 by_cases c:y < 0
 ·rw [if_pos c];exact Int.neg_dvd.mpr d
 ·rw [if_neg c];exact d
def N5:Sp:=fun vs H Q _=>∃a b:Int,vs=[.int a,.int b]/\Q (.int (AJ a b)) H
def OW:Sp:=fun vs H Q _=>∃t b:Int,vs=[.int t,.int b]/\b≠0/\Sz 13500 t/\Sz 13500 b/\∀(p:Addr) (H':Hp),Au H H'->H' p=some (.tup [.int (Cr t b),.int (Cm t b)])->Q (.ref p) H'
theorem Kv {i:Nat} {c:Int} {g:Int->Int->V}:∀(σ:St) (H:Hp) (Q Q':Bool->Hp->Prop),(∀b H1,Q b H1->Q' b H1)->Oq (tOp (rI0 g) (Rs i) (tC (.int c))) σ H Q->Oq (tOp (rI0 g) (Rs i) (tC (.int c))) σ H Q':=by
 rintro σ H Q Q' hq ⟨v,e,i,j,e1,e2,k,ek,h⟩
 exact ⟨v,e,i,j,e1,e2,k,ek,hq _ _ h⟩
noncomputable def bit (m:Int) (i:Nat):Bool:=decide (m / 2 ^ i % 2=1)
noncomputable def CA:Nat->(Nat->Bool)->Int
 | 0,_=>0
 | n+1,f=>(if f 0=true then 1 else 0)+2*CA n (fun i=>f (i+1))
theorem HI (s:Int) (i:Nat):bit (s / 2) i=bit s (i+1):=by
 unfold bit
 rw [Int.ediv_ediv_of_nonneg (by decide:(0:Int)<=2)]
 have e:(2:Int)*2 ^ i=2 ^ (i+1):=by rw [Int.pow_succ,Int.mul_comm]
 rw [e]
theorem Hz (s:Int):bit s 0=decide (s % 2=1):=by
 unfold bit
 rw [Int.pow_zero,Int.ediv_one]
theorem GA:∀n f,0<=CA n f
 | 0,_=>Int.le_refl _
 | n+1,f=>by
   have:=GA n (fun i=>f (i+1))
   show 0<=(if f 0=true then (1:Int) else 0)+2*CA n (fun i=>f (i+1))
   split <;> omega
theorem Ng:∀n f,CA n f < 2 ^ n
 | 0,_=>by show (0:Int) < 1;decide
 | n+1,f=>by
   have:=Ng n (fun i=>f (i+1))
   show (if f 0=true then (1:Int) else 0)+2*CA n (fun i=>f (i+1)) < 2 ^ (n+1)
   rw [Int.pow_succ]
   split <;> omega
theorem IY (n f):CA (n+1) f / 2=CA n (fun i=>f (i+1)):=by
 show ((if f 0=true then (1:Int) else 0)+2*CA n (fun i=>f (i+1))) / 2=_
 split <;> omega
theorem HK (n f):(CA (n+1) f % 2=1)↔f 0=true:=by
 show (((if f 0=true then (1:Int) else 0)+2*CA n (fun i=>f (i+1))) % 2=1)↔_
 split <;> rename_i h
 ·exact ⟨fun _=>h,fun _=>by omega⟩
 ·exact ⟨fun e=>by omega,fun e=>absurd e h⟩
theorem Fx:∀n {f g:Nat->Bool},(∀i,i < n->f i=g i)->CA n f=CA n g
 | 0,_,_,_=>rfl
 | n+1,f,g,h=>by
   show (if f 0=true then (1:Int) else 0)+2*CA n (fun i=>f (i+1))=(if g 0=true then (1:Int) else 0)+2*CA n (fun i=>g (i+1))
   rw [h 0 (by omega),Fx n (f:=fun i=>f (i+1)) (g:=fun i=>g (i+1)) fun i hi=>h (i+1) (by omega)]
theorem Ji:∀n f,CA (n+1) f=CA n f+(if f n=true then 2 ^ n else 0)
 | 0,f=>by
   show (if f 0=true then (1:Int) else 0)+2*0=0+(if f 0=true then (1:Int) else 0)
   split <;> decide
 | n+1,f=>by
   show (if f 0=true then (1:Int) else 0)+2*CA (n+1) (fun i=>f (i+1))=(if f 0=true then (1:Int) else 0)+2*CA n (fun i=>f (i+1))+(if f (n+1)=true then 2 ^ (n+1) else 0)
   rw [Ji n (fun i=>f (i+1)),Int.pow_succ]
   split <;> split <;> omega
theorem Ge:∀n f i,bit (CA n f) i=(decide (i < n) && f i)
 | 0,f,i=>by
   unfold bit
   show decide ((0:Int) / 2 ^ i % 2=1)=_
   rw [Int.zero_ediv]
   rfl
 | n+1,f,0=>by
   rw [Hz]
   by_cases h:f 0=true
   ·rw [decide_eq_true ((HK n f).mpr h),h];rfl
   ·rw [decide_eq_false (fun e=>h ((HK n f).mp e)),Bool.eq_false_iff.mpr h];rfl
 | n+1,f,i+1=>by
   rw [<- HI,IY,Ge n]
   have:decide (i < n)=decide (i+1 < n+1):=by
    by_cases h:i < n
    ·rw [decide_eq_true h,decide_eq_true (by omega)]
    ·rw [decide_eq_false h,decide_eq_false (by omega)]
   rw [this]
theorem HG:∀n f s,Builtin.bitAnd (CA n f) s=CA n (fun i=>f i && bit s i)
 | 0,f,s=>by
   show Builtin.bitAnd 0 s=0
   rw [PyProof.Rows.bitAnd_comm,PyProof.Rows.bitAnd_zero]
 | n+1,f,s=>by
   rw [PySem.W.kbt_halves,IY,HG n]
   show _=(if (f 0 && bit s 0)=true then (1:Int) else 0)+2*CA n (fun i=>f (i+1) && bit s (i+1))
   have e:CA n (fun i=>f (i+1) && bit (s / 2) i)=CA n (fun i=>f (i+1) && bit s (i+1)):=Fx n fun i _=>by rw [HI]
   rw [e]
   have c:(CA (n+1) f % 2=1/\s % 2=1)↔(f 0 && bit s 0)=true:=by
    rw [Bool.and_eq_true,HK,Hz,decide_eq_true_eq]
   by_cases h:(f 0 && bit s 0)=true
   ·rw [if_pos h,if_pos (c.mpr h)];omega
   ·rw [if_neg h,if_neg (fun z=>h (c.mp z))];omega
noncomputable def hands (n:Nat) (f:Nat->Bool):List Int:=((List.range n).filter f).map fun i:Nat=>(i:Int)
theorem Ey (n:Nat) (f:Nat->Bool):hands (n+1) f=if f n=true then hands n f++[(n:Int)] else hands n f:=by
 unfold hands
 rw [range_succ,filter_append,map_append]
 by_cases h:f n=true
 ·rw [if_pos h];simp [h]
 ·rw [if_neg h]
  have h':f n=false:=by simpa using h
  simp [h']
theorem D6 (n:Nat) (f:Nat->Bool):(hands n f).length<=n:=by
 unfold hands
 rw [length_map]
 exact Nat.le_trans (length_filter_le _ _) (by simp)
theorem BM {n:Nat} {f:Nat->Bool} {z:Int}:z∈hands n f↔∃i:Nat,i < n/\f i=true/\z=(i:Int):=by
 unfold hands
 rw [mem_map]
 constructor
 ·rintro ⟨i,hi,rfl⟩
  obtain ⟨h1,h2⟩:=mem_filter.mp hi
  exact ⟨i,mem_range.mp h1,h2,rfl⟩
 ·rintro ⟨i,h1,h2,rfl⟩
  exact ⟨i,mem_filter.mpr ⟨mem_range.mpr h1,h2⟩,rfl⟩
noncomputable def ins (x:Int):List Int->List Int
 | []=>[x]
 | y :: r=>if x < y then x :: y :: r else if x=y then y :: r else y :: ins x r
def T4 (K:PySem.W.Frag):Sp:=fun vs H Q _=>∃(p:Addr) (ns:List Int) (k:Int),vs=[.ref p,.int k]/\SqL K H p (ns.map V.int)/\ns.length<=63/\0<=k/\k<=1000/\∀z:Int,0<=z->z < 10 ^ 40->Q (.int z) H
theorem Kl {c:Int} (h0:0<=c) (h:c < 10 ^ 40):Sz 200 c:=Bz (by omega) (by omega)
theorem A1 {H H':Hp} {l:Addr} {o:HO} (s:Au H H') (n:H l=none):Au H (upd H' l o):=fun b u e=>by
 rw [Al (AY e n)]
 exact s b u e
theorem ifT {c:Bool} {A B:Prop} (e:c=true) (h:A):if c=true then A else B:=by rw [if_pos e];exact h
theorem ifF {c:Bool} {A B:Prop} (e:c=false) (h:B):if c=true then A else B:=by rw [if_neg (by rw [e];decide)];exact h
theorem Sd {a b:Int} (h:a≠b):(!decide (V.int a=V.int b))=true:=by rw [decide_eq_false (fun e=>h (V.int.inj e))];rfl
theorem RF {a b:Int} (h:a=b):(!decide (V.int a=V.int b))=false:=by rw [h,decide_eq_true rfl];rfl
theorem DI {a b:Int} (h:a=b):decide (V.int a=V.int b)=true:=by rw [h];exact decide_eq_true rfl
theorem DH {a b:Int} (h:a≠b):decide (V.int a=V.int b)=false:=decide_eq_false fun e=>h (V.int.inj e)
theorem E5 {ns:List Int} {i:Nat} {x:V} (h:(ns.map V.int)[i]?=some x):∃z,ns[i]?=some z/\x=.int z:=by
 rw [List.getElem?_map] at h
 cases e:ns[i]? with
 | none=>rw [e] at h;cases h
 | some z=>rw [e] at h;exact ⟨z,rfl,(Option.some.inj h).symm⟩
theorem atN {ns:List Int} {i:Nat} {z:Int} (h:ns[i]?=some z):atI (ns.map V.int) (i:Int)=some (.int z):=Dj (by rw [List.getElem?_map,h];rfl)
theorem PM {n j:Nat} (h:j < n):seqIndex? (j:Int) n=some j:=(JF (i:=(j:Int)) (by unfold ixN;rw [if_pos (by omega)];simp [h])).1
theorem Fa {α β:Type} (f:α->β):∀(l:List α) (k:Nat),(l.map f).eraseIdx k=(l.eraseIdx k).map f
 | [],_=>rfl
 | _ :: _,0=>rfl
 | x :: l,k+1=>by
   show f x :: (l.map f).eraseIdx k=f x :: (l.eraseIdx k).map f
   rw [Fa f l k]
theorem Kh {z d:Int} (z0:0<=z) (h:1<=d) (z1:z < 10 ^ 31):0<=z.fdiv d/\z.fdiv d < 10 ^ 31:=by
 rw [Int.fdiv_eq_ediv_of_nonneg z (by omega)]
 exact ⟨Int.ediv_nonneg z0 (by omega),Int.lt_of_le_of_lt (Int.ediv_le_self d z0) z1⟩
theorem Ua (x:Int):Builtin.bitAnd x 1=x % 2:=PySem.W.kbt_mask x 1
theorem IS (m:Int) (h:Int):decide (V.int (Builtin.bitAnd (m / 2 ^ h.toNat) 1)=V.int 1)=bit m h.toNat:=by
 unfold bit
 rw [Ua]
 by_cases c:m / 2 ^ h.toNat % 2=1
 ·rw [decide_eq_true c,decide_eq_true (congrArg V.int c)]
 ·rw [decide_eq_false c,decide_eq_false fun e=>c (V.int.inj e)]
theorem R9 (m:Int) (i:Nat):m / 2 ^ i % 2=if bit m i=true then 1 else 0:=by
 have e:m / 2 ^ i % 2=0\/m / 2 ^ i % 2=1:=by omega
 unfold bit
 rcases e with e | e
 ·rw [e];rfl
 ·rw [e];rfl
theorem M9 (m:Int) (h:Nat):Builtin.bitAnd m (Builtin.bitNot (1*2 ^ h))=m - 2 ^ h*(if bit m h=true then 1 else 0):=by
 rw [Int.one_mul,PyProof.Rows.bitAnd_not,PySem.W.kbt_bit,R9]
 cases bit m h <;> simp
def QO:Sp:=fun vs H Q _=>∃m h:Int,vs=[.int m,.int h]/\0<=h/\Q (.bl (bit m h.toNat)) H
def Tp:Sp:=fun vs H Q _=>∃h:Int,vs=[.int h]/\0<=h/\h<=12/\Q (.int (1*2 ^ h.toNat - 1)) H
def NX:Sp:=fun vs H Q _=>∃m h:Int,vs=[.int m,.int h]/\0<=h/\h < 12/\Q (.int (Builtin.bitAnd m (Builtin.bitNot (1*2 ^ h.toNat)))) H
def Of:Sp:=fun vs H Q _=>∃m:Int,vs=[.int m]/\0<=m/\m < 4096/\∀(p:Addr) (H':Hp),H p=none->Au H H'->H' p=some (.lst ((hands 12 (bit m)).map V.int))->Q (.ref p) H'
def QF:Sp:=fun vs H Q _=>∃c b:Int,vs=[.int c,.int b]/\Sz 200 c/\0<=b/\b<=100/\∀z:Int,0<=z->z < 10 ^ 31->Q (.int z) H
theorem u1 {n:Nat} (h:n+64 < cLine):n+1 < cLine:=by omega
theorem none_of {H H':Hp} {a:Addr} (s:Au H H') (h:H' a=none):H a=none:=by
 cases e:H a with
 | none=>rfl
 | some u=>rw [s _ _ e] at h;cases h
abbrev Ls:=List (Addr × Addr × List Int × Int)
abbrev Ds:=List (List Int × Int)
noncomputable def vls (ls:Ls):List V:=ls.map fun q=>.ref q.1
noncomputable def Av (ls:Ls):Ds:=ls.map fun q=>(q.2.2.1,q.2.2.2)
def BH (H:Hp) (ls:Ls):Prop:=∀q∈ls,H q.1=some (.tup [.ref q.2.1,.int q.2.2.2])/\H q.2.1=some (.tup (q.2.2.1.map V.int))
theorem BH.same {H H':Hp} {ls:Ls} (s:Au H H') (g:BH H ls):BH H' ls:=fun q m=>⟨s _ _ (g q m).1,s _ _ (g q m).2⟩
theorem BH.append {H:Hp} {a b:Ls} (g:BH H a) (k:BH H b):BH H (a++b):=fun q m=>(mem_append.mp m).elim (g q) (k q)
theorem BH.upd {H:Hp} {ls:Ls} {l:Addr} {xs:List V} {o:HO} (e:H l=some (.lst xs)) (g:BH H ls):BH (upd H l o) ls:=fun q m=>by
 refine ⟨?_,?_⟩
 ·rw [Al (Cw (g q m).1 e (fun z=>by cases z))];exact (g q m).1
 ·rw [Al (Cw (g q m).2 e (fun z=>by cases z))];exact (g q m).2
theorem GS {ls:Ls} {i:Nat} {x:V} (h:(vls ls)[i]?=some x):∃q,ls[i]?=some q/\x=.ref q.1/\q∈ls/\ls.take (i+1)=ls.take i++[q]:=by
 unfold vls at h
 rw [List.getElem?_map] at h
 cases e:ls[i]? with
 | none=>rw [e] at h;cases h
 | some q =>
   rw [e] at h
   refine ⟨q,rfl,(Option.some.inj h).symm,mem_of_getElem? e,?_⟩
   rw [take_succ,e]
   rfl
theorem DT (ls:Ls):(vls ls).length=ls.length:=length_map ..
theorem LX (a b:Ls):vls (a++b)=vls a++vls b:=map_append ..
theorem GB (a b:Ls):Av (a++b)=Av a++Av b:=map_append ..
theorem Lv:∀{a b:List Int},HT.lexLt a b=true->HT.lexLt b a=false
 | [],[],h=>by cases h
 | [],_ :: _,_=>rfl
 | _ :: _,[],h=>by cases h
 | x :: a,y :: b,h=>by
   rw [HT.lexLt_cons] at h ⊢
   by_cases c:x=y
   ·rw [if_pos c] at h
    rw [if_pos c.symm]
    exact Lv h
   ·rw [if_neg c] at h
    rw [if_neg (Ne.symm c)]
    have:=of_decide_eq_true h
    exact decide_eq_false (by omega)
theorem Np:∀{a b:List Int},HT.lexLt b a=false->a≠b->HT.lexLt a b=true
 | [],[],_,n=>absurd rfl n
 | [],_ :: _,_,_=>rfl
 | _ :: _,[],h,_=>by cases h
 | x :: a,y :: b,h,n=>by
   rw [HT.lexLt_cons] at h ⊢
   by_cases c:x=y
   ·rw [if_pos c.symm] at h
    rw [if_pos c]
    exact Np h fun e=>n (by rw [c,e])
   ·rw [if_neg (Ne.symm c)] at h
    rw [if_neg c]
    have:=of_decide_eq_false h
    exact decide_eq_true (by omega)
noncomputable def tot:Ds->List Int->Int
 | [],_=>0
 | q :: r,ts=>(if q.1=ts then q.2 else 0)+tot r ts
theorem Ie (ts:List Int):∀a b:Ds,tot (a++b) ts=tot a ts+tot b ts
 | [],b=>by show tot b ts=0+tot b ts;omega
 | q :: a,b=>by
   show (if q.1=ts then q.2 else 0)+tot (a++b) ts=(if q.1=ts then q.2 else 0)+tot a ts+tot b ts
   rw [Ie ts a b]
   omega
def Pos (ds:Ds):Prop:=∀q∈ds,1<=q.2
theorem Ho {ts:List Int}:∀{ds:Ds},Pos ds->0<=tot ds ts
 | [],_=>Int.le_refl _
 | q :: r,h=>by
   have h1:=h q (mem_cons_self ..)
   have h2:=Ho (ts:=ts) (ds:=r) fun p m=>h p (mem_cons_of_mem _ m)
   show 0<=(if q.1=ts then q.2 else 0)+tot r ts
   split <;> omega
theorem GX {ts:List Int}:∀{ds:Ds},ts ∉ ds.map (·.1)->tot ds ts=0
 | [],_=>rfl
 | q :: r,h=>by
   rw [map_cons,mem_cons,not_or] at h
   show (if q.1=ts then q.2 else 0)+tot r ts=0
   rw [if_neg (fun e=>h.1 e.symm),GX h.2]
   rfl
theorem L8 {ts:List Int}:∀{ds:Ds},Pos ds->ts∈ds.map (·.1)->0 < tot ds ts
 | [],_,m=>nomatch m
 | q :: r,h,m=>by
   have h1:=h q (mem_cons_self ..)
   have hr:Pos r:=fun p m=>h p (mem_cons_of_mem _ m)
   have h2:=Ho (ts:=ts) hr
   show 0 < (if q.1=ts then q.2 else 0)+tot r ts
   by_cases c:q.1=ts
   ·rw [if_pos c];omega
   ·rw [if_neg c]
    rcases mem_cons.mp m with e | e
    ·exact absurd e.symm c
    ·have:=L8 hr e
     omega
structure MQ (ds out:Ds):Prop where
 srt:out.Pairwise (fun x y=>HT.lexLt x.1 y.1=true)
 mem:∀ts n,(ts,n)∈out↔n=tot ds ts/\0 < n
theorem JU (ts:List Int):(ts.map Sum.inl:List Key).map kV=ts.map V.int:=by rw [map_map];rfl
theorem Nh {a b:List Int} (h:(a.map Sum.inl:List Key)=b.map Sum.inl):a=b:=by
 have e:=congrArg (List.map kV) h
 rw [JU,JU] at e
 have:∀{a b:List Int},a.map V.int=b.map V.int->a=b:=by
  intro a
  induction a with
  | nil=>intro b h;cases b with | nil=>rfl | cons _ _=>cases h
  | cons x a ih =>
    intro b h
    cases b with
    | nil=>cases h
    | cons y b =>
      injection h with h1 h2
      injection h1 with h1
      rw [h1,ih h2]
 exact this e
theorem Jo {α β:Type} {f:α->β}:∀{l:List α},(l.map f).Nodup->l.Nodup
 | [],_=>nodup_nil
 | x :: l,h=>by
   rw [map_cons,nodup_cons] at h
   rw [nodup_cons]
   exact ⟨fun m=>h.1 (mem_map.mpr ⟨x,m,rfl⟩),Jo h.2⟩
structure VD (kvs:List (List Key × V)):Prop where
 nd:(kvs.map (·.1)).Nodup
 all:∀q∈kvs,∃(ts:List Int) (n:Int),q=(ts.map Sum.inl,.int n)
theorem IV {κ:Type} [DecidableEq κ] {kvs:List (κ × V)} {k:κ} {v w:V} (h:Bd kvs k=some w):(BW kvs k v).map (·.1)=kvs.map (·.1):=by
 unfold BW
 rw [CJ,h,if_pos (show (some w).isSome=true from rfl),map_map]
 refine map_congr_left fun q _=>?_
 show (if q.1=k then (q.1,v) else q).1=q.1
 split <;> rfl
theorem VD.put {kvs:List (List Key × V)} (h:VD kvs) (ts:List Int) (n:Int):VD (BW kvs (ts.map Sum.inl) (.int n)):=by
 refine ⟨?_,fun q m=>?_⟩
 ·cases e:Bd kvs (ts.map Sum.inl:List Key) with
  | none=>exact M8 _ h.nd e
  | some w=>rw [IV e];exact h.nd
 ·unfold BW at m
  split at m
  ·obtain ⟨p,pm,rfl⟩:=mem_map.mp m
   split
   ·rename_i e
    exact ⟨ts,n,by rw [e]⟩
   ·exact h.all p pm
  ·rcases mem_append.mp m with m | m
   ·exact h.all q m
   ·exact ⟨ts,n,mem_singleton.mp m⟩
theorem VD.val {kvs:List (List Key × V)} (h:VD kvs) {k:List Key} {v:V} (e:Bd kvs k=some v):∃n:Int,v=.int n:=by
 unfold Bd at e
 cases c:kvs.find? fun kv=>decide (kv.1=k) with
 | none=>rw [c] at e;cases e
 | some q =>
   rw [c] at e
   obtain ⟨ts,n,rfl⟩:=h.all q (mem_of_find?_eq_some c)
   exact ⟨n,(Option.some.inj e).symm⟩
theorem VD.keys {kvs:List (List Key × V)} (h:VD kvs):∃ks:List (List Int),kvs.map (·.1)=ks.map (List.map Sum.inl)/\ks.length=kvs.length/\ks.Nodup/\∀ts,ts∈ks↔∃n:Int,Bd kvs (ts.map Sum.inl)=some (.int n):=by
 have key:∀{l:List (List Key × V)},(∀q∈l,q∈kvs)->∃ks:List (List Int),l.map (·.1)=ks.map (List.map Sum.inl)/\ks.length=l.length:=by
  intro l
  induction l with
  | nil=>intro _;exact ⟨[],rfl,rfl⟩
  | cons q r ih =>
    intro sub
    obtain ⟨ks,e1,e2⟩:=ih fun p m=>sub p (mem_cons_of_mem _ m)
    obtain ⟨ts,n,eq⟩:=h.all q (sub q (mem_cons_self ..))
    exact ⟨ts :: ks,by rw [map_cons,map_cons,e1,eq],by rw [length_cons,length_cons,e2]⟩
 obtain ⟨ks,e1,e2⟩:=key fun q m=>m
 have mm:∀ts,ts∈ks↔(ts.map Sum.inl:List Key)∈kvs.map (·.1):=fun ts=>by
  rw [e1]
  constructor
  ·intro m;exact mem_map.mpr ⟨ts,m,rfl⟩
  ·intro m
   obtain ⟨us,um,e⟩:=mem_map.mp m
   rw [<- Nh e]
   exact um
 refine ⟨ks,e1,e2,?_,fun ts=>⟨fun m=>?_,fun ⟨n,e⟩=>(mm ts).mpr (QA e)⟩⟩
 ·have nd:=h.nd
  rw [e1] at nd
  exact Jo nd
 ·cases c:Bd kvs (ts.map Sum.inl:List Key) with
  | none=>exact absurd ((mm ts).mp m) (HZ c)
  | some v =>
    obtain ⟨n,rfl⟩:=h.val c
    exact ⟨n,rfl⟩
structure DictOf (ds:Ds) (kvs:List (List Key × V)):Prop where
 vd:VD kvs
 val:∀ts:List Int,Bd kvs (ts.map Sum.inl)=if ts∈ds.map (·.1) then some (.int (tot ds ts)) else none
theorem DictOf.nil:DictOf [] []:=⟨⟨nodup_nil,fun _ m=>absurd m List.not_mem_nil⟩,fun _=>rfl⟩
noncomputable def Qr (kvs:List (List Key × V)) (ts:List Int):Int:=match Bd kvs (ts.map Sum.inl:List Key) with
 | some (.int n)=>n
 | _=>0
theorem DictOf.put {ds:Ds} {kvs:List (List Key × V)} (h:DictOf ds kvs) (ts:List Int) (n:Int):DictOf (ds++[(ts,n)]) (BW kvs (ts.map Sum.inl) (.int (tot ds ts+n))):=by
 refine ⟨h.vd.put ts _,fun us=>?_⟩
 rw [HL,h.val us,Ie,map_append]
 show (if (us.map Sum.inl:List Key)=ts.map Sum.inl then _ else _)=if us∈ds.map (·.1)++[ts] then some (V.int (tot ds us+((if ts=us then n else 0)+0))) else none
 by_cases c:us=ts
 ·subst c
  rw [if_pos rfl,if_pos (by simp),if_pos rfl]
  rw [Int.add_zero]
 ·rw [if_neg (fun e=>c (Nh e)),if_neg (Ne.symm c)]
  by_cases m:us∈ds.map (·.1)
  ·rw [if_pos m,if_pos (by simp;left;simpa using m)]
   rw [Int.add_zero,Int.add_zero]
  ·rw [if_neg m,if_neg (by simp;exact ⟨by simpa using m,c⟩)]
theorem En {α:Type} [DecidableEq α]:∀{l p:List α},l.Nodup->(∀x∈l,x∈p)->l.length<=p.length
 | [],_,_,_=>Nat.zero_le _
 | x :: l,p,n,s=>by
   rw [nodup_cons] at n
   have m:=s x (mem_cons_self ..)
   have ih:=En (p:=p.erase x) n.2 fun y hy=>(mem_erase_of_ne (fun e:y=x=>n.1 (by rw [<- e];exact hy))).mpr (s y (mem_cons_of_mem _ hy))
   rw [length_erase_of_mem m] at ih
   have:=length_pos_of_mem m
   rw [length_cons]
   omega
theorem DictOf.len {ds:Ds} {kvs:List (List Key × V)} (h:DictOf ds kvs) {p:List (List Int)} (s:∀q∈ds,q.1∈p):kvs.length<=p.length:=by
 obtain ⟨ks,_,e2,nd,mm⟩:=h.vd.keys
 rw [<- e2]
 refine En nd fun ts m=>?_
 obtain ⟨n,e⟩:=(mm ts).mp m
 rw [h.val ts] at e
 by_cases c:ts∈ds.map (·.1)
 ·obtain ⟨q,qm,rfl⟩:=mem_map.mp c
  exact s q qm
 ·rw [if_neg c] at e;cases e
theorem DictOf.sheet {ds out:Ds} {kvs:List (List Key × V)} (h:DictOf ds kvs) (p:Pos ds) (srt:out.Pairwise (fun x y=>HT.lexLt x.1 y.1=true)) (mem:∀ts n,(ts,n)∈out↔Bd kvs (ts.map Sum.inl)=some (.int n)/\0 < n):MQ ds out:=by
 refine ⟨srt,fun ts n=>?_⟩
 rw [mem,h.val]
 by_cases c:ts∈ds.map (·.1)
 ·rw [if_pos c]
  constructor
  ·rintro ⟨e,z⟩;injection e with e;injection e with e;exact ⟨e.symm,z⟩
  ·rintro ⟨e,z⟩;exact ⟨by rw [e],z⟩
 ·rw [if_neg c,GX c]
  constructor
  ·rintro ⟨e,_⟩;cases e
  ·rintro ⟨e,z⟩;omega
theorem QC {ds:Ds} {kvs:List (List Key × V)} (h:DictOf ds kvs) (ts:List Int):(Bd kvs (ts.map Sum.inl:List Key)).getD (.int 0)=.int (tot ds ts):=by
 rw [h.val ts]
 by_cases c:ts∈ds.map (·.1)
 ·rw [if_pos c];rfl
 ·rw [if_neg c,GX c];rfl
def Nz:Sp:=fun vs H Q _=>∃(l:Addr) (ls:Ls),vs=[.ref l]/\H l=some (.lst (vls ls))/\BH H ls/\ls.length<=900/\∀H':Hp,Au H H'->Q (.int ((Av ls).map (·.2)).sum) H'
theorem EN {n:Nat} (h:n<=900):n<=sizeLine:=Nat.le_of_lt (AH (by omega))
theorem Eb {m:Int} {i:Nat} (h0:0<=m) (h:m < 2 ^ i):bit m i=false:=by
 unfold bit
 rw [Int.ediv_eq_zero_of_lt h0 h]
 decide
theorem Hx {m:Int} {k:Nat} (h0:0<=m) (h:m < 2 ^ k):∀d:Nat,hands (k+d) (bit m)=hands k (bit m)
 | 0=>rfl
 | d+1=>by
   have p:(2:Int) ^ k<=2 ^ (k+d):=by
    have q:2 ^ k<=2 ^ (k+d):=Nat.pow_le_pow_right (by decide) (by omega)
    have e1:((2 ^ k:Nat):Int)=(2:Int) ^ k:=by simp
    have e2:((2 ^ (k+d):Nat):Int)=(2:Int) ^ (k+d):=by simp
    omega
   show hands ((k+d)+1) (bit m)=hands k (bit m)
   rw [Ey,Eb h0 (by omega),if_neg (by decide),Hx h0 h d]
theorem Pl {m:Int} (h0:0<=m) (h:m < 4096):hands (Builtin.Int.intBits m) (bit m)=hands 12 (bit m):=by
 have b:Builtin.Int.intBits m<=12:=intBits_le_iff.mpr (by show m.natAbs < 4096;omega)
 have l:m.natAbs < 2 ^ Builtin.Int.intBits m:=intBits_le_iff.mp (Nat.le_refl _)
 have l':m < (2:Int) ^ Builtin.Int.intBits m:=by
  have e:((2 ^ Builtin.Int.intBits m:Nat):Int)=(2:Int) ^ Builtin.Int.intBits m:=by simp
  omega
 obtain ⟨d,hd⟩:∃d,12=Builtin.Int.intBits m+d:=⟨12 - Builtin.Int.intBits m,by omega⟩
 rw [hd,Hx h0 l' d]
noncomputable def E1 (hs:List Int):Int:=(hs.map fun h=>(1:Int)*2 ^ h.toNat).sum
theorem Ju:∀{hs:List Int} {a n:Nat},hs.Pairwise (· < ·)->(∀h∈hs,(a:Int)<=h/\h < (n:Int))->a<=n->0<=E1 hs/\E1 hs<=2 ^ n - 2 ^ a
 | [],a,n,_,_,l=>by
   have:(2:Int) ^ a<=2 ^ n:=by
    have:=Nat.pow_le_pow_right (show 0 < 2 by decide) l
    exact_mod_cast this
   exact ⟨Int.le_refl _,by show (0:Int)<=_;omega⟩
 | h :: hs,a,n,p,k,l=>by
   rw [pairwise_cons] at p
   obtain ⟨k1,k2⟩:=k h (mem_cons_self ..)
   obtain ⟨j,rfl⟩:∃j:Nat,h=(j:Int):=⟨h.toNat,by omega⟩
   have ih:=Ju (hs:=hs) (a:=j+1) (n:=n) p.2 (fun x m=>⟨by have:=p.1 x m;omega,(k x (mem_cons_of_mem _ m)).2⟩) (by omega)
   show 0<=1*2 ^ (j:Int).toNat+E1 hs/\1*2 ^ (j:Int).toNat+E1 hs<=_
   rw [Int.toNat_natCast,Int.one_mul]
   have e:(2:Int) ^ (j+1)=2 ^ j*2:=Int.pow_succ ..
   have le:(2:Int) ^ a<=2 ^ j:=by
    have:=Nat.pow_le_pow_right (show 0 < 2 by decide) (show a<=j by omega)
    exact_mod_cast this
   have pos:(0:Int) < 2 ^ j:=Int.pow_pos (by decide)
   omega
theorem QW {hs:List Int} {n:Nat} (p:hs.Pairwise (· < ·)) (k:∀h∈hs,0<=h/\h < (n:Int)) (ne:hs≠[]):0 < E1 hs/\E1 hs < 2 ^ n:=by
 have a:=Ju (a:=0) p k (Nat.zero_le _)
 have e:(2:Int) ^ 0=1:=rfl
 refine ⟨?_,by omega⟩
 cases hs with
 | nil=>exact absurd rfl ne
 | cons h hs =>
   obtain ⟨k1,k2⟩:=k h (mem_cons_self ..)
   rw [pairwise_cons] at p
   have b:=Ju (a:=0) p.2 (fun x m=>k x (mem_cons_of_mem _ m)) (Nat.zero_le _)
   show 0 < 1*2 ^ h.toNat+E1 hs
   have:(0:Int) < 2 ^ h.toNat:=Int.pow_pos (by decide)
   omega
theorem SR {t:TT} {σ:St} {H:Hp} {Q:Bool->Hp->Prop} (b:Bool) (h:∀R:Bool->Hp->Prop,(∀H',Au H H'->R b H')->t σ H R) (q:∀H',Au H H'->Q b H'):t σ H Q:=h Q q
theorem Nx {t:TT} {σ:St} {H:Hp} {Q:Bool->Hp->Prop} (b:Bool) (h:∀R:Bool->Hp->Prop,R b H->t σ H R) (q:Q b H):t σ H Q:=h Q q
def S1:Sp:=fun vs H Q _=>∃(l:Addr) (hs:List Int),vs=[.ref l]/\H l=some (.lst (hs.map V.int))/\hs.length<=100/\(∀h∈hs,0<=h/\h < 64)/\∀H':Hp,Au H H'->Q (.int (E1 hs)) H'
theorem O9 {κ:Type} [DecidableEq κ] {kvs:List (κ × V)} {k:κ} {v:V} {q:κ × V} (h:q∈BW kvs k v):q=(k,v)\/q∈kvs:=by
 unfold BW at h
 split at h
 ·obtain ⟨p,pm,rfl⟩:=mem_map.mp h
  by_cases c:p.1=k
  ·rw [if_pos c,c];exact .inl rfl
  ·rw [if_neg c];exact .inr pm
 ·rcases mem_append.mp h with m | m
  ·exact .inr m
  ·exact .inl (mem_singleton.mp m)
theorem SM {κ:Type} [DecidableEq κ] {kvs:List (κ × V)} {k:κ} {v:V} (h:(kvs.map (·.1)).Nodup):((BW kvs k v).map (·.1)).Nodup:=by
 cases e:Bd kvs k with
 | none=>exact M8 _ h e
 | some w=>rw [IV e];exact h
theorem Lo {κ:Type} [DecidableEq κ] {kvs:List (κ × V)} {k:κ} {v:V} (h:Bd kvs k=some v):(k,v)∈kvs:=by
 unfold Bd at h
 cases c:kvs.find? fun kv=>decide (kv.1=k) with
 | none=>rw [c] at h;cases h
 | some q =>
   rw [c] at h
   have e:q.1=k:=of_decide_eq_true (List.find?_some (p:=fun kv:κ × V=>decide (kv.1=k)) c)
   have f:q.2=v:=Option.some.inj h
   rw [<- e,<- f]
   exact mem_of_find?_eq_some c
def KC (n i:Nat) (w:Int) (hs:List Int):Prop:=hs≠[]/\hs.Pairwise (· < ·)/\∀h∈hs,0<=h/\h < (n:Int)/\(w=1\/w=2->h < (i:Int))
def CK (J:Hp) (l:Addr) (n i:Nat) (w:Int) (kvs:List (Key × V)):Prop:=(kvs.map (·.1)).Nodup/\∀q∈kvs,∃(z:Int) (a:Addr) (hs:List Int),q=(Sum.inl z,.ref a)/\J a=some (.lst (hs.map V.int))/\a≠l/\KC n i w hs
theorem CK.same {J J':Hp} {l:Addr} {n i:Nat} {w:Int} {kvs:List (Key × V)} (s:Au J J') (h:CK J l n i w kvs):CK J' l n i w kvs:=⟨h.1,fun q m=>by
 obtain ⟨z,a,hs,e,h1,h2,h3⟩:=h.2 q m
 exact ⟨z,a,hs,e,s _ _ h1,h2,h3⟩⟩
theorem CK.up {J:Hp} {l:Addr} {n i:Nat} {w:Int} {kvs:List (Key × V)} (h:CK J l n i w kvs):CK J l n (i+1) w kvs:=⟨h.1,fun q m=>by
 obtain ⟨z,a,hs,e,h1,h2,h3,h4,h5⟩:=h.2 q m
 exact ⟨z,a,hs,e,h1,h2,h3,h4,fun x xm=>⟨(h5 x xm).1,(h5 x xm).2.1,fun k=>by have:=(h5 x xm).2.2 k;omega⟩⟩⟩
theorem CK.off {J:Hp} {l:Addr} {n i:Nat} {w:Int} {kvs:List (Key × V)} {o:HO} (h:CK J l n i w kvs):CK (upd J l o) l n i w kvs:=⟨h.1,fun q m=>by
 obtain ⟨z,a,hs,e,h1,h2,h3⟩:=h.2 q m
 exact ⟨z,a,hs,e,by rw [Al h2];exact h1,h2,h3⟩⟩
theorem CK.put {J:Hp} {l d a:Addr} {n i:Nat} {w z:Int} {kvs ks:List (Key × V)} {hs:List Int} (h:CK J l n i w kvs) (hd:J d=some (.dK ks)) (ha:J a=some (.lst (hs.map V.int))) (al:a≠l) (t:KC n i w hs):CK (upd J d (.dK (BW kvs (Sum.inl z) (.ref a)))) l n i w (BW kvs (Sum.inl z) (.ref a)):=by
 have keep:∀{b:Addr} {xs:List V},J b=some (.lst xs)->(upd J d (.dK (BW kvs (Sum.inl z) (.ref a)))) b=some (.lst xs):=fun {b xs} e=>by rw [Al (Cw e hd (fun z=>by cases z))];exact e
 refine ⟨SM h.1,fun q m=>?_⟩
 rcases O9 m with rfl | m
 ·exact ⟨z,a,hs,rfl,keep ha,al,t⟩
 ·obtain ⟨z',a',hs',e,h1,h2,h3⟩:=h.2 q m
  exact ⟨z',a',hs',e,keep h1,h2,h3⟩
theorem CK.keys {J:Hp} {l:Addr} {n i:Nat} {w:Int} {kvs:List (Key × V)} (h:CK J l n i w kvs):∃ns:List Int,kvs.map (·.1)=ns.map Sum.inl/\ns.length=kvs.length/\∀z∈ns,∃(a:Addr) (hs:List Int),Bd kvs (Sum.inl z)=some (.ref a)/\J a=some (.lst (hs.map V.int))/\KC n i w hs:=by
 have key:∀{r:List (Key × V)},(∀q∈r,q∈kvs)->∃ns:List Int,r.map (·.1)=ns.map Sum.inl/\ns.length=r.length:=by
  intro r
  induction r with
  | nil=>intro _;exact ⟨[],rfl,rfl⟩
  | cons q r ih =>
    intro sub
    obtain ⟨ns,e1,e2⟩:=ih fun p m=>sub p (mem_cons_of_mem _ m)
    obtain ⟨z,a,hs,eq,_⟩:=h.2 q (sub q (mem_cons_self ..))
    exact ⟨z :: ns,by rw [map_cons,map_cons,e1,eq],by rw [length_cons,length_cons,e2]⟩
 obtain ⟨ns,e1,e2⟩:=key fun q m=>m
 refine ⟨ns,e1,e2,fun z m=>?_⟩
 have zm:(Sum.inl z:Key)∈kvs.map (·.1):=by rw [e1];exact mem_map.mpr ⟨z,m,rfl⟩
 cases c:Bd kvs (Sum.inl z:Key) with
 | none=>exact absurd zm (HZ c)
 | some v =>
   obtain ⟨z',a,hs,eq,h1,_,h3⟩:=h.2 _ (Lo c)
   injection eq with eq1 eq2
   exact ⟨a,hs,by rw [eq2],h1,h3⟩
def OkT (n:Nat) (ts:List Int):Prop:=(∀x∈ts,0 < x/\x < 2 ^ n)/\ts.length<=12
def O0:Sp:=fun vs H Q _=>∃(c:Int) (n:Nat),vs=[.int c,.int (n:Int)]/\Sz 200 c/\1<=n/\n<=12/\∀(t:Addr) (ts:List Int) (H':Hp),H t=none->Au H H'->H' t=some (.tup (ts.map V.int))->OkT n ts->Q (.ref t) H'
def LF:Sp:=fun vs H Q _=>∃c m:Int,vs=[.int c,.int m]/\Sz 200 c/\1<=m/\m<=10 ^ 10/\∀z:Int,1<=z->z<=m->Q (.int z) H
structure Drawn (n:Nat) (most:Int) (ds:Ds):Prop where
 srt:ds.Pairwise (fun x y=>HT.lexLt x.1 y.1=true)
 ok:∀q∈ds,OkT n q.1/\1<=q.2/\q.2<=64*most
 len:ds.length<=13
 pos:1<=ds.length
def NE (K:PySem.W.Frag):Sp:=fun vs H Q _=>∃(p:Addr) (ns:List Int) (k:Int) (n m:Nat) (most:Int),vs=[.ref p,.int k,.int (n:Int),.int (m:Int),.int most]/\SqL K H p (ns.map V.int)/\ns.length<=63/\0<=k/\k<=100/\1<=n/\n<=12/\1<=m/\m<=12/\1<=most/\most<=10 ^ 9 /\
 ∀(l:Addr) (ls:Ls) (H':Hp),H l=none->Au H H'->H' l=some (.lst (vls ls))->BH H' ls->Drawn n most (Av ls)->Q (.ref l) H'
theorem K9 {most:Int} {ts:List Int}:∀{ds:Ds},(∀q∈ds,1<=q.2/\q.2<=most)->0<=most->tot ds ts<=(ds.length:Int)*most
 | [],_,m=>by show (0:Int)<=0*most;omega
 | q :: r,h,m=>by
   have h1:=h q (mem_cons_self ..)
   have h2:=K9 (ts:=ts) (fun p k=>h p (mem_cons_of_mem _ k)) m
   show (if q.1=ts then q.2 else 0)+tot r ts<=((r.length+1:Nat):Int)*most
   rw [show ((r.length+1:Nat):Int)*most=(r.length:Int)*most+most from by rw [Int.natCast_add,Int.add_mul];omega]
   split <;> omega
theorem MQ.drawn {n:Nat} {most:Int} {ds out:Ds} {p:List (List Int)} (h:MQ ds out) (po:Pos ds) (sub:∀q∈ds,q.1∈p) (ok:∀t∈p,OkT n t) (l13:p.length<=13) (ne:ds≠[]) (b:∀ts,tot ds ts<=64*most):Drawn n most out:=by
 have key:∀q∈out,q.1∈ds.map (·.1):=fun q m=>by
  have:=(h.mem q.1 q.2).mp m
  by_cases c:q.1∈ds.map (·.1)
  ·exact c
  ·rw [GX c] at this
   omega
 refine ⟨h.srt,fun q m=>?_,?_,?_⟩
 ·obtain ⟨d,dm,de⟩:=mem_map.mp (key q m)
  have a:=(h.mem q.1 q.2).mp m
  exact ⟨ok _ (by rw [<- de];exact sub d dm),by omega,by rw [a.1];exact b _⟩
 ·have nd:(out.map (·.1)).Nodup:=pairwise_map.mpr (h.srt.imp fun h e=>by
   rw [e] at h
   have:=Lv h
   rw [h] at this
   cases this)
  have:=En (p:=p) nd (fun t m=>by
   obtain ⟨q,qm,rfl⟩:=mem_map.mp m
   obtain ⟨d,dm,de⟩:=mem_map.mp (key q qm)
   rw [<- de]
   exact sub d dm)
  rw [length_map] at this
  omega
 ·obtain ⟨d,r,rfl⟩:=exists_cons_of_ne_nil ne
  have t:=L8 (ts:=d.1) po (by rw [map_cons];exact mem_cons_self ..)
  exact length_pos_of_mem ((h.mem d.1 _).mpr ⟨rfl,t⟩)
noncomputable def DV (ps:List (Int × Int)):List (Key × V):=ps.map fun q=>(Sum.inl q.1,V.int q.2)
noncomputable def FT (ps:List (Int × Int)) (b z:Int):List (Int × Int):=if (ps.any fun q=>decide (q.1=b))=true then ps.map (fun q=>if q.1=b then (q.1,z) else q) else ps++[(b,z)]
noncomputable def Fr (ps:List (Int × Int)) (b:Int):Option Int:=(ps.find? fun q=>decide (q.1=b)).map (·.2)
theorem Q7 (ps:List (Int × Int)) (b:Int):((DV ps).any fun kv=>decide (kv.1=Sum.inl b))=ps.any fun q=>decide (q.1=b):=by
 unfold DV
 rw [any_map]
 congr 1
 funext q
 show decide ((Sum.inl q.1:Key)=Sum.inl b)=decide (q.1=b)
 exact decide_eq_decide.mpr ⟨fun e=>Sum.inl.inj e,fun e=>by rw [e]⟩
theorem Rt (ps:List (Int × Int)) (b z:Int):BW (DV ps) (Sum.inl b) (.int z)=DV (FT ps b z):=by
 unfold BW FT
 rw [Q7]
 split
 ·unfold DV
  rw [map_map,map_map]
  refine map_congr_left fun q _=>?_
  show (if (Sum.inl q.1:Key)=Sum.inl b then _ else _)=_
  by_cases c:q.1=b
  ·rw [if_pos (by rw [c])]
   show _=((fun q:Int × Int=>((Sum.inl q.1:Key),V.int q.2)) (if q.1=b then (q.1,z) else q))
   rw [if_pos c]
  ·rw [if_neg (fun e=>c (Sum.inl.inj e))]
   show _=((fun q:Int × Int=>((Sum.inl q.1:Key),V.int q.2)) (if q.1=b then (q.1,z) else q))
   rw [if_neg c]
 ·unfold DV
  rw [map_append]
  rfl
theorem MV:∀(ps:List (Int × Int)) (b:Int),Bd (DV ps) (Sum.inl b)=(Fr ps b).map V.int
 | [],b=>rfl
 | q :: r,b=>by
   have ih:=MV r b
   unfold Bd Fr DV at ih ⊢
   rw [map_cons,List.find?_cons,List.find?_cons]
   by_cases c:q.1=b
   ·rw [decide_eq_true c,decide_eq_true (show (Sum.inl q.1:Key)=Sum.inl b from by rw [c])]
    rfl
   ·rw [decide_eq_false c,decide_eq_false (show ¬ (Sum.inl q.1:Key)=Sum.inl b from fun e=>c (Sum.inl.inj e))]
    exact ih
noncomputable def GN (φ:Int->Int) (ps:List (Int × Int)):Int:=(ps.map fun q=>q.2*φ q.1).sum
theorem Df (φ:Int->Int) (q:Int × Int) (r:List (Int × Int)):GN φ (q :: r)=q.2*φ q.1+GN φ r:=by unfold GN;rw [map_cons,sum_cons]
theorem G5 (φ:Int->Int):∀a b:List (Int × Int),GN φ (a++b)=GN φ a+GN φ b
 | [],b=>(Int.zero_add _).symm
 | q :: r,b=>by rw [cons_append,Df,Df,G5 φ r b,Int.add_assoc]
theorem Jc (φ:Int->Int) (b z:Int):∀{ps:List (Int × Int)},b ∉ ps.map (·.1)->GN φ (ps.map fun q=>if q.1=b then (q.1,z) else q)=GN φ ps
 | [],_=>rfl
 | q :: r,h=>by
   rw [map_cons,mem_cons,not_or] at h
   rw [map_cons,if_neg (fun e=>h.1 e.symm),Df,Df,Jc φ b z h.2]
theorem Pu (φ:Int->Int) (b x:Int):∀{ps:List (Int × Int)},(ps.map (·.1)).Nodup->GN φ (FT ps b ((Fr ps b).getD 0+x))=GN φ ps+x*φ b:=by
 intro ps nd
 unfold FT
 by_cases c:(ps.any fun q=>decide (q.1=b))=true
 ·rw [if_pos c]
  induction ps with
  | nil=>cases c
  | cons q r ih =>
    rw [map_cons,nodup_cons] at nd
    rw [map_cons,Df,Df]
    by_cases e:q.1=b
    ·have v:Fr (q :: r) b=some q.2:=by unfold Fr;rw [List.find?_cons,decide_eq_true e];rfl
     rw [v,if_pos e,Jc φ b _ (by rw [<- e];exact nd.1)]
     show (q.2+x)*φ q.1+_=_
     rw [Int.add_mul,e]
     omega
    ·have v:Fr (q :: r) b=Fr r b:=by unfold Fr;rw [List.find?_cons,decide_eq_false e]
     rw [v,if_neg e]
     rw [any_cons,decide_eq_false e,Bool.false_or] at c
     rw [ih nd.2 c]
     omega
 ·rw [if_neg c]
  have v:Fr ps b=none:=by
   unfold Fr
   rw [List.find?_eq_none.mpr fun q m=>?_]
   ·rfl
   ·intro z
    exact c (any_eq_true.mpr ⟨q,m,z⟩)
  rw [v,G5,Df]
  show _+((0+x)*φ b+0)=_
  rw [Int.zero_add,Int.add_zero]
theorem Gf {ps:List (Int × Int)} {b z:Int}:(FT ps b z).map (·.1)=if (ps.any fun q=>decide (q.1=b))=true then ps.map (·.1) else ps.map (·.1)++[b]:=by
 unfold FT
 split
 ·rw [map_map]
  refine map_congr_left fun q _=>?_
  show (if q.1=b then (q.1,z) else q).1=q.1
  split <;> rfl
 ·rw [map_append];rfl
theorem QX {ps:List (Int × Int)} {b z:Int} (nd:(ps.map (·.1)).Nodup):((FT ps b z).map (·.1)).Nodup:=by
 rw [Gf]
 split
 ·exact nd
 ·rename_i c
  refine nodup_append.mpr ⟨nd,nodup_cons.mpr ⟨(fun m=>nomatch m),nodup_nil⟩,fun x m y k e=>?_⟩
  rw [mem_singleton.mp k] at e
  obtain ⟨q,qm,rfl⟩:=mem_map.mp m
  exact c (any_eq_true.mpr ⟨q,qm,decide_eq_true e⟩)
theorem EL {ps:List (Int × Int)} {b z:Int} {q:Int × Int} (m:q∈FT ps b z):q∈ps\/q=(b,z):=by
 unfold FT at m
 split at m
 ·obtain ⟨p,pm,rfl⟩:=mem_map.mp m
  by_cases c:p.1=b
  ·rw [if_pos c,c];exact .inr rfl
  ·rw [if_neg c];exact .inl pm
 ·rcases mem_append.mp m with m | m
  ·exact .inl m
  ·exact .inr (mem_singleton.mp m)
theorem O6 {ps:List (Int × Int)} {b z x:Int} (m:x∈ps.map (·.1)):x∈(FT ps b z).map (·.1):=by
 rw [Gf]
 split
 ·exact m
 ·exact mem_append_left _ m
theorem OE {ps:List (Int × Int)} {b z:Int}:b∈(FT ps b z).map (·.1):=by
 rw [Gf]
 split
 ·rename_i c
  obtain ⟨q,m,e⟩:=any_eq_true.mp c
  exact mem_map.mpr ⟨q,m,of_decide_eq_true e⟩
 ·exact mem_append_right _ (mem_singleton.mpr rfl)
theorem R4 (o:Option Int):(o.map V.int).getD (.int 0)=.int (o.getD 0):=by cases o <;> rfl
theorem OP (ps:List (Int × Int)) (b z:Int):(FT ps b z).length<=ps.length+1:=by
 unfold FT
 split
 ·rw [length_map];exact Nat.le_succ _
 ·rw [length_append];exact Nat.le_refl _
theorem PB {ps:List (Int × Int)} {b v:Int} (e:Fr ps b=some v):(b,v)∈ps:=by
 unfold Fr at e
 obtain ⟨q,hq,rfl⟩:=Option.map_eq_some_iff.mp e
 have:=List.find?_some hq
 have c:q.1=b:=of_decide_eq_true this
 rw [<- c]
 exact mem_of_find?_eq_some hq
abbrev Wz:=List (Int × Int × Int)
noncomputable def Ec (φ:Int->Int) (zs:Wz):Int:=(zs.map fun z=>if z.2.1=0 then 0 else z.1*z.2.1*φ z.2.2).sum
theorem Jd (φ:Int->Int) (zs:Wz) (z:Int × Int × Int):Ec φ (zs++[z])=Ec φ zs+if z.2.1=0 then 0 else z.1*z.2.1*φ z.2.2:=by
 unfold Ec
 rw [map_append,sum_append]
 show _+((if z.2.1=0 then 0 else z.1*z.2.1*φ z.2.2)+0)=_
 rw [Int.add_zero]
noncomputable def DA (c b:Int):Int:=if c.fmod b≠0 then c*b.fdiv (AJ c b) else c
theorem NM {c b:Int} (c0:0 < c) (b0:0 < b):c ∣ DA c b/\b ∣ DA c b/\0 < DA c b:=by
 unfold DA
 split
 ·have g0:(0:Int) < AJ c b:=by
   unfold AJ
   have:0 < Int.gcd c b:=Int.gcd_pos_of_ne_zero_left _ (Int.ne_of_gt c0)
   exact_mod_cast this
  obtain ⟨x,hx⟩:AJ c b ∣ b:=Int.gcd_dvd_right ..
  obtain ⟨y,hy⟩:AJ c b ∣ c:=Int.gcd_dvd_left ..
  generalize AJ c b=g at g0 hx hy ⊢
  have e:b.fdiv g=x:=by
   rw [Int.fdiv_eq_ediv_of_nonneg b (Int.le_of_lt g0),hx]
   exact Int.mul_ediv_cancel_left _ (Int.ne_of_gt g0)
  have x0:0 < x:=by
   rcases Int.lt_trichotomy x 0 with h | h | h
   ·have:=Int.mul_neg_of_pos_of_neg g0 h;omega
   ·rw [h,Int.mul_zero] at hx;omega
   ·exact h
  rw [e]
  refine ⟨⟨x,rfl⟩,⟨y,?_⟩,Int.mul_pos c0 x0⟩
  rw [hy,hx]
  ac_rfl
 ·rename_i h
  have h':c.fmod b=0:=Classical.byContradiction h
  refine ⟨⟨1,(Int.mul_one _).symm⟩,?_,c0⟩
  rw [Int.fmod_eq_emod_of_nonneg c (Int.le_of_lt b0)] at h'
  exact Int.dvd_of_emod_eq_zero h'
abbrev Fq:=Addr × Int × Int
noncomputable def fqv (fs:List Fq):List V:=fs.map fun f=>.ref f.1
def FqG (H:Hp) (f:Fq):Prop:=H f.1=some (.tup [.int f.2.1,.int f.2.2])
theorem FqG.same {H H':Hp} {f:Fq} (e:Au H H') (g:FqG H f):FqG H' f:=e _ _ g
structure FqB (m:Nat) (f:Fq):Prop where
 b0:0 < f.2.2
 t0:0<=f.2.1
 szt:Sz m f.2.1
 szb:Sz m f.2.2
noncomputable def Da (ls:Ls) (fs:List Fq):Wz:=(ls.zip fs).map fun p=>(p.1.2.2.2,p.2.2.1,p.2.2.2)
structure Tq (m:Nat) (ps:List (Int × Int)):Prop where
 b0:∀q∈ps,0 < q.1
 szb:∀q∈ps,Sz m q.1
def SF (m:Nat):Sp:=fun vs H Q _=>∃(f:Fq) (n:Nat),vs=[.ref f.1,.int (n:Int)]/\FqG H f/\FqB m f/\1<=n/\n<=12 /\
 ∀(T:Addr) (H':Hp),H T=none->Au H H'->H' T=some (.tup [.int (f.2.1.fdiv (AJ f.2.1 n)),.int (f.2.2*(n:Int).fdiv (AJ f.2.1 n))])->Q (.ref T) H'
theorem Mt {n:Nat}:∀{xs:List Int},(∀x∈xs,Sz n x)->Sz (n+xs.length) xs.sum
 | [],_=>by show (0:Int).natAbs < _;exact Nat.pow_pos (by decide)
 | x :: r,h=>by
   rw [sum_cons,length_cons]
   exact ((h x (mem_cons_self ..)).add (Mt fun y m=>h y (mem_cons_of_mem _ m))).mono (by omega)
theorem SI {ps:List (Int × Int)} {i:Nat} {k:Key} {v:V} (h:(DV ps)[i]?=some (k,v)):∃q,ps[i]?=some q/\k=Sum.inl q.1/\v=.int q.2:=by
 unfold DV at h
 rw [List.getElem?_map] at h
 obtain ⟨q,hq,e⟩:=Option.map_eq_some_iff.mp h
 injection e with e1 e2
 exact ⟨q,hq,e1.symm,e2.symm⟩
theorem MS (ps:List (Int × Int)):(DV ps).length=ps.length:=length_map ..
noncomputable def Co:List Int->Int->Int
 | [],_=>0
 | t :: ts,s=>if Builtin.bitAnd t s=0 then Co ts s else Builtin.bitAnd t s
theorem DQ {n i:Nat} (h:i < n):ixN n (i:Int)=some i:=by
 unfold ixN
 rw [if_pos (by omega)]
 simp [h]
def Sa (K:PySem.W.Frag):Sp:=fun vs H Q _=>∃(p:Addr) (ts:List Int) (s:Int),vs=[.ref p,.int s]/\SqT K H p (ts.map V.int)/\Q (.int (Co ts s)) H
noncomputable def Bi (fr:Int × Int) (n:Nat):Int × Int:=(fr.1.fdiv (AJ fr.1 n),fr.2*(n:Int).fdiv (AJ fr.1 n))
noncomputable def Ky (wh:List Int) (fr:Int × Int) (ks:List (Int × Int)):List (Int × Int):=if wh=[] then ks++[fr] else wh.foldl (fun r x=>r.set x.toNat (Bi fr wh.length)) (ks++[(0,1)])
noncomputable def A3 (ts:List Int) (s:Int):List Int:=hands 12 (bit (Co ts s))
def LZ (m:Nat):Sp:=fun vs H Q _=>∃(sp kl:Addr) (h:Nat) (ts:List Int) (fr:Fq) (ks:List Fq) (s:Int),vs=[.ref sp,.ref fr.1,.ref kl,.int s]/\H sp=some (.tup (ts.map V.int))/\FqG H fr/\FqB m fr/\H kl=some (.lst (fqv ks))/\(∀f∈ks,FqG H f)/\ks.length=h/\h<=12/\0<=Co ts s/\Co ts s < 2 ^ h/\(∀x∈A3 ts s,0<=x/\x < h)/\(A3 ts s).length<=12 /\
 ∀(r:Addr) (fs:List Fq) (H':Hp),H r=none->Au H H'->H' r=some (.lst (fqv fs))->(∀f∈fs,FqG H' f)->fs.map (·.2)=Ky (A3 ts s) fr.2 (ks.map (·.2))->Q (.ref r) H'
theorem FqG.upd {H:Hp} {f:Fq} {a:Addr} {xs:List V} {o:HO} (g:FqG H f) (e:H a=some (.lst xs)):FqG (L2.upd H a o) f:=by
 show (L2.upd H a o) f.1=_
 rw [Al (Cw g e (fun z=>by cases z))]
 exact g
theorem MT (fs:List Fq) (i:Nat) (f:Fq):(fqv fs).set i (.ref f.1)=fqv (fs.set i f):=by unfold fqv;rw [map_set]
theorem Gk {α:Type} (x:α):∀(wh:List Int) (r:List α),(wh.foldl (fun r y=>r.set y.toNat x) r).length=r.length
 | [],_=>rfl
 | y :: w,r=>by rw [foldl_cons,Gk x w,length_set]
abbrev Sh:=Addr × Fq × Addr × List Fq
noncomputable def shv (xs:List Sh):List V:=xs.map fun x=>.ref x.1
structure ShG (H:Hp) (x:Sh):Prop where
 t:H x.1=some (.tup [.ref x.2.1.1,.ref x.2.2.1])
 f:FqG H x.2.1
 l:H x.2.2.1=some (.lst (fqv x.2.2.2))
 k:∀f∈x.2.2.2,FqG H f
theorem ShG.same {H H':Hp} {x:Sh} (e:Au H H') (g:ShG H x):ShG H' x:=⟨e _ _ g.t,g.f.same e,e _ _ g.l,fun f m=>(g.k f m).same e⟩
abbrev Rw:=Addr × List Fq
noncomputable def rwv (rs:List Rw):List V:=rs.map fun r=>.ref r.1
def RwG (H:Hp) (r:Rw):Prop:=H r.1=some (.lst (fqv r.2))/\∀f∈r.2,FqG H f
theorem RwG.same {H H':Hp} {r:Rw} (e:Au H H') (g:RwG H r):RwG H' r:=⟨e _ _ g.1,fun f m=>(g.2 f m).same e⟩
def Qm (h:Nat) (s:Int) (ts:List Int):Prop:=0<=Co ts s/\Co ts s < 2 ^ h/\(∀x∈A3 ts s,0<=x/\x < h)/\(A3 ts s).length<=12
noncomputable def JX (s:Int) (ls:Ls) (xs:List Sh):List (List (Int × Int)):=(ls.zip xs).map fun p=>Ky (A3 p.1.2.2.1 s) p.2.2.1.2 (p.2.2.2.2.map (·.2))
def QJ (m:Nat):Sp:=fun vs H Q _=>∃(l st:Addr) (h:Nat) (ls:Ls) (xs:List Sh) (s:Int),vs=[.ref l,.ref st,.int s]/\H l=some (.lst (vls ls))/\BH H ls/\H st=some (.lst (shv xs))/\(∀x∈xs,ShG H x/\FqB m x.2.1/\x.2.2.2.length=h)/\ls.length=xs.length/\ls.length<=60/\h<=12/\(∀q∈ls,Qm h s q.2.2.1) /\
 ∀(r:Addr) (rs:List Rw) (H':Hp),H r=none->Au H H'->H' r=some (.lst (rwv rs))->(∀x∈rs,RwG H' x/\H x.1=none)->(rs.map fun x=>x.2.map (·.2))=JX s ls xs->Q (.ref r) H'
noncomputable def Dw (rs:List Rw) (j:Nat):List Fq:=rs.map fun r=>r.2.getD j (0,0,1)
theorem P2 {fs:List Fq} {j:Nat} (h:j < fs.length):fs[j]?=some (fs.getD j (0,0,1)):=by rw [getD_eq_getElem?_getD,List.getElem?_eq_getElem h];rfl
def R6:Sp:=fun vs H Q _=>∃(l:Addr) (h:Nat) (ls:Ls),vs=[.ref l,.int (h:Int)]/\H l=some (.lst (vls ls))/\ls.length<=60/\h<=12 /\
 ∀(a:Addr) (xs:List Sh) (H':Hp),H a=none->Au H H'->H' a=some (.lst (shv xs))->(∀x∈xs,ShG H' x/\x.2.1.2=(1,1)/\x.2.2.2.map (·.2)=List.replicate h (0,1)/\H x.2.2.1=none/\x.2.2.1≠a)->(xs.map fun x=>x.2.2.1).Nodup->xs.length=ls.length->Q (.ref a) H'
theorem ShG.upd {H:Hp} {x:Sh} {a:Addr} {ys:List V} {o:HO} (g:ShG H x) (e:H a=some (.lst ys)) (ne:x.2.2.1≠a):ShG (L2.upd H a o) x:=by
 refine ⟨?_,g.f.upd e,?_,fun f m=>(g.k f m).upd e⟩
 ·rw [Al (Cw g.t e (fun z=>by cases z))];exact g.t
 ·rw [Al ne];exact g.l
theorem JR:∀(n:Nat) {t:Int},0<=t->t < 2 ^ n->t=CA n (bit t)
 | 0,t,h0,h1=>by
   have:(2:Int) ^ 0=1:=rfl
   show t=0
   omega
 | n+1,t,h0,h1=>by
   have e:(2:Int) ^ (n+1)=2 ^ n*2:=Int.pow_succ ..
   have ih:=JR n (t:=t / 2) (by omega) (by omega)
   show t=(if bit t 0=true then 1 else 0)+2*CA n (fun i=>bit t (i+1))
   rw [show CA n (fun i=>bit t (i+1))=CA n (bit (t / 2)) from Fx n fun i _=>(HI t i).symm,<- ih,Hz]
   by_cases c:t % 2=1
   ·rw [if_pos (decide_eq_true c)];omega
   ·rw [if_neg (by rw [decide_eq_false c];decide)];omega
theorem Pj {n:Nat} {t s:Int} (h0:0<=t) (h1:t < 2 ^ n):0<=Builtin.bitAnd t s/\Builtin.bitAnd t s < 2 ^ n:=by
 rw [JR n h0 h1,HG]
 exact ⟨GA ..,Ng ..⟩
theorem Ii {n:Nat} {s:Int}:∀{ts:List Int},(∀t∈ts,0 < t/\t < 2 ^ n)->0<=Co ts s/\Co ts s < 2 ^ n
 | [],_=>⟨Int.le_refl _,Int.pow_pos (by decide)⟩
 | t :: r,h=>by
   have a:=h t (mem_cons_self ..)
   have b:=Ii (s:=s) (ts:=r) fun x m=>h x (mem_cons_of_mem _ m)
   show 0<=(if Builtin.bitAnd t s=0 then Co r s else Builtin.bitAnd t s)/\(if Builtin.bitAnd t s=0 then Co r s else Builtin.bitAnd t s) < 2 ^ n
   split
   ·exact b
   ·exact Pj (by omega) a.2
theorem Jy {h:Nat} {ts:List Int} {s:Int} (ok:OkT h ts):Qm h s ts:=by
 obtain ⟨a,b⟩:=Ii (s:=s) ok.1
 refine ⟨a,b,fun x m=>?_,D6 ..⟩
 obtain ⟨i,i12,e,rfl⟩:=BM.mp m
 refine ⟨by omega,?_⟩
 rcases (by omega:i < h\/h<=i) with c | c
 ·omega
 ·have:(2:Int) ^ h<=2 ^ i:=by
   have:=Nat.pow_le_pow_right (show 0 < 2 by decide) c
   exact_mod_cast this
  rw [Eb a (by omega)] at e
  cases e
theorem IX {t b:Int} (h:b≠0):∃d,d≠0/\t=Cr t b*d/\b=Cm t b*d/\d.natAbs=Int.gcd t b:=by
 have n:=ME (t:=t) h
 obtain ⟨k,hk⟩:=Pc (x:=t) (y:=b)
 have d2:E9 t b ∣ b:=by
  have d:AJ t b ∣ b:=Int.gcd_dvd_right ..
  unfold E9
  by_cases c:b < 0
  ·rw [if_pos c];exact Int.neg_dvd.mpr d
  ·rw [if_neg c];exact d
 obtain ⟨l,hl⟩:=d2
 refine ⟨E9 t b,n,?_,?_,?_⟩
 ·unfold Cr
  conv=>rhs;arg 1;arg 1;rw [hk]
  rw [Int.mul_fdiv_cancel_left k n,Int.mul_comm]
  exact hk
 ·unfold Cm
  conv=>rhs;arg 1;arg 1;rw [hl]
  rw [Int.mul_fdiv_cancel_left l n,Int.mul_comm]
  exact hl
 ·unfold E9 AJ
  by_cases c:b < 0
  ·rw [if_pos c,Int.natAbs_neg,Int.natAbs_natCast]
  ·rw [if_neg c,Int.natAbs_natCast]
theorem Q0 {t b:Int} (h:b≠0):AJ (Cr t b) (Cm t b)=1:=by
 obtain ⟨d,d0,e1,e2,e3⟩:=IX (t:=t) h
 generalize Cr t b=x at *
 generalize Cm t b=y at *
 rw [e1,e2,Int.gcd_mul_right] at e3
 have dp:0 < d.natAbs:=by omega
 have z:Int.gcd x y=1:=by
  have f:Int.gcd x y*d.natAbs=1*d.natAbs:=by rw [Nat.one_mul];exact e3.symm
  exact Nat.eq_of_mul_eq_mul_right dp f
 unfold AJ
 rw [z]
 rfl
theorem FB {v d:Int} (h:0 < d):∃g,0 < g/\v=Cr v d*g/\d=Cm v d*g:=by
 obtain ⟨g,g0,e1,e2,_⟩:=IX (t:=v) (b:=d) (by omega)
 have lb:=Kq (t:=v) (b:=d) (by omega)
 refine ⟨g,?_,e1,e2⟩
 rcases (by omega:0 < g\/g<=0) with h' | h'
 ·exact h'
 ·have:=Int.mul_nonpos_of_nonneg_of_nonpos (Int.le_of_lt lb) h'
  omega
theorem Im {t b:Int} {n:Nat} (t0:0<=t) (b0:0 < b) (n1:1<=n) (g1:AJ t b=1):0<=(Bi (t,b) n).1/\0 < (Bi (t,b) n).2/\AJ (Bi (t,b) n).1 (Bi (t,b) n).2=1/\(Bi (t,b) n).1*(b*n)=t*(Bi (t,b) n).2:=by
 obtain ⟨tn,rfl⟩:=Int.eq_ofNat_of_zero_le t0
 obtain ⟨bn,rfl⟩:=Int.eq_ofNat_of_zero_le (Int.le_of_lt b0)
 have gp:0 < Nat.gcd tn n:=Nat.gcd_pos_of_pos_right _ n1
 have cop:Nat.Coprime tn bn:=by
  have:((Nat.gcd tn bn:Nat):Int)=1:=g1
  exact_mod_cast this
 obtain ⟨t',ht⟩:=Nat.gcd_dvd_left tn n
 obtain ⟨n',hn⟩:=Nat.gcd_dvd_right tn n
 have ht':tn / Nat.gcd tn n=t':=Nat.div_eq_of_eq_mul_right gp ht
 have hn':n / Nat.gcd tn n=n':=Nat.div_eq_of_eq_mul_right gp hn
 have e:Bi ((tn:Int),(bn:Int)) n=((t':Int),((bn*n':Nat):Int)):=by
  unfold Bi
  show (((tn:Int).fdiv ((Nat.gcd tn n:Nat):Int)),(bn:Int)*((n:Int).fdiv ((Nat.gcd tn n:Nat):Int)))=_
  rw [Int.fdiv_eq_ediv_of_nonneg _ (Int.natCast_nonneg _),Int.fdiv_eq_ediv_of_nonneg _ (Int.natCast_nonneg _)]
  show (((tn / Nat.gcd tn n:Nat):Int),(bn:Int)*((n / Nat.gcd tn n:Nat):Int))=_
  rw [ht',hn']
  push_cast
  rfl
 have n0:0 < n':=Nat.pos_of_ne_zero fun z=>by rw [z,Nat.mul_zero] at hn;omega
 have bp:0 < bn:=by omega
 rw [e]
 refine ⟨Int.natCast_nonneg _,by have:=Nat.mul_pos bp n0;show (0:Int) < ((bn*n':Nat):Int);omega,?_,?_⟩
 ·have c1:Nat.Coprime t' bn:=Nat.Coprime.coprime_dvd_left ⟨Nat.gcd tn n,by rw [Nat.mul_comm];exact ht⟩ cop
  have c2:Nat.Coprime t' n':=by rw [<- ht',<- hn'];exact Nat.coprime_div_gcd_div_gcd gp
  have:Nat.gcd t' (bn*n')=1:=Nat.Coprime.mul_right c1 c2
  show ((Nat.gcd t' (bn*n'):Nat):Int)=1
  rw [this]
  rfl
 ·show (t':Int)*((bn:Int)*(n:Int))=(tn:Int)*((bn*n':Nat):Int)
  have:t'*(bn*n)=tn*(bn*n'):=by
   generalize Nat.gcd tn n=g at ht hn
   rw [hn,ht]
   ac_rfl
  exact_mod_cast this
def Lay (k:Nat) (d:PyData):Prop:=d.canLay0=true/\d.depth<=k
mutual
theorem Qi:∀d:PyData,d.canLay0=true->PyData.eqv d d=true
 | .none,_=>rfl
 | .bool b,_=>by show (b == b)=true;exact beq_self_eq_true b
 | .int i,_=>by show (i == i)=true;exact beq_self_eq_true i
 | .str x,_=>by show (x == x)=true;exact beq_self_eq_true x
 | .list xs,h=>eqv_mes xs h
 | .tuple xs,h=>eqv_mes xs h
 | .dict _,h=>nomatch h
theorem eqv_mes:∀xs:List PyData,PyData.canLayAll0 xs=true->PyData.eqvAll xs xs=true
 | [],_=>rfl
 | x :: xs,h=>by
   have h':(PyData.canLay0 x && PyData.canLayAll0 xs)=true:=h
   rw [Bool.and_eq_true] at h'
   show (PyData.eqv x x && PyData.eqvAll xs xs)=true
   rw [Qi x h'.1,eqv_mes xs h'.2]
   rfl
end
theorem FO {k:Nat}:∀{xs:List PyData},(∀x∈xs,Lay k x)->PyData.canLayAll0 xs=true/\PyData.depthAll xs<=k
 | [],_=>⟨rfl,Nat.zero_le _⟩
 | x :: xs,h=>by
   obtain ⟨a,b⟩:=FO (xs:=xs) fun y m=>h y (mem_cons_of_mem _ m)
   obtain ⟨c,d⟩:=h x (mem_cons_self ..)
   refine ⟨?_,?_⟩
   ·show (PyData.canLay0 x && PyData.canLayAll0 xs)=true
    rw [a,c];rfl
   ·show max (PyData.depth x) (PyData.depthAll xs)<=k
    omega
theorem BX {k:Nat} {xs:List PyData} (h:∀x∈xs,Lay k x):Lay (k+1) (.list xs):=⟨(FO h).1,Nat.succ_le_succ (FO h).2⟩
theorem FJ {k:Nat} {xs:List PyData} (h:∀x∈xs,Lay k x):Lay (k+1) (.tuple xs):=⟨(FO h).1,Nat.succ_le_succ (FO h).2⟩
theorem FZ (k:Nat) (i:Int):Lay k (.int i):=⟨rfl,Nat.zero_le _⟩
theorem Lay.mono {k n:Nat} {d:PyData} (h:Lay k d) (kn:k<=n):Lay n d:=⟨h.1,Nat.le_trans h.2 kn⟩
theorem Fb {α:Type} {k:Nat} {f:α->PyData} (h:∀x,Lay k (f x)) (xs:List α):∀d∈xs.map f,Lay k d:=fun d m=>by
 obtain ⟨x,_,rfl⟩:=mem_map.mp m
 exact h x
theorem lay_ints (k:Nat) (ns:List Int):∀d∈ns.map PyData.int,Lay k d:=Fb (fun i=>FZ k i) ns
theorem L3 {k:Nat} {a b:PyData} (ha:Lay k a) (hb:Lay k b):Lay (k+1) (.tuple [a,b]):=FJ fun x m=>by
 rcases mem_cons.mp m with rfl | m
 ·exact ha
 ·rw [mem_singleton.mp m];exact hb
theorem Lay.shaped {k:Nat} {d:PyData} (h:Lay k d) (k64:k<=64):SeqAt.shaped d=true:=by
 unfold SeqAt.shaped
 rw [h.1,decide_eq_true (Nat.le_trans h.2 k64)]
 rfl
theorem Lay.eqv {k:Nat} {d:PyData} (h:Lay k d):PyData.eqv d d=true:=Qi d h.1
theorem ED {α:Type} {K:PySem.W.Frag} {H:Hp} {v:α->V} {d:α->PyData}:∀{xs:List α},(∀x∈xs,Rep K H (v x) (d x))->Reps K H (xs.map v) (xs.map d)
 | [],_=>.nil
 | x :: xs,h=>.cons (h x (mem_cons_self ..)) (ED fun y m=>h y (mem_cons_of_mem _ m))
structure Ma (m:Nat) (v:Int × Int):Prop where
 t0:0<=v.1
 b0:0 < v.2
 g:AJ v.1 v.2=1
 szt:Sz m v.1
 szb:Sz m v.2
theorem MJ {α β:Type} (c:α) (P:β->Bool) (g:β->Nat):∀(wh:List β) (r:List α) (j:Nat),(wh.foldl (fun r x=>if P x=true then r.set (g x) c else r) r)[j]?=if j < r.length/\(∃x∈wh,P x=true/\g x=j) then some c else r[j]?
 | [],r,j=>by
   rw [if_neg (fun z=>by obtain ⟨_,x,m,_⟩:=z;exact nomatch m)]
   rfl
 | y :: w,r,j=>by
   rw [foldl_cons,MJ c P g w]
   have ll:(if P y=true then r.set (g y) c else r).length=r.length:=by
    split
    ·rw [length_set]
    ·rfl
   rw [ll]
   by_cases a:j < r.length/\∃x∈w,P x=true/\g x=j
   ·rw [if_pos a,if_pos ⟨a.1,by obtain ⟨x,m,e⟩:=a.2;exact ⟨x,mem_cons_of_mem _ m,e⟩⟩]
   ·rw [if_neg a]
    by_cases b:j < r.length/\(P y=true/\g y=j)
    ·rw [if_pos b.2.1,if_pos ⟨b.1,y,mem_cons_self ..,b.2⟩,b.2.2,List.getElem?_set_self b.1]
    ·have nb:¬ (j < r.length/\∃x∈y :: w,P x=true/\g x=j):=fun z=>by
      obtain ⟨z1,x,m,z2⟩:=z
      rcases mem_cons.mp m with rfl | m
      ·exact b ⟨z1,z2⟩
      ·exact a ⟨z1,x,m,z2⟩
     rw [if_neg nb]
     by_cases p:P y=true
     ·rw [if_pos p]
      by_cases e:g y=j
      ·have:¬ j < r.length:=fun z=>b ⟨z,p,e⟩
       rw [List.getElem?_eq_none (by rw [length_set];omega),List.getElem?_eq_none (by omega)]
      ·rw [List.getElem?_set_ne e]
     ·rw [if_neg p]
theorem Md {a b c d:Int} (b0:0 < b) (d0:0 < d) (a0:0<=a) (c0:0<=c) (g1:AJ a b=1) (g2:AJ c d=1) (e:a*d=c*b):a=c/\b=d:=by
 obtain ⟨a,rfl⟩:=Int.eq_ofNat_of_zero_le a0
 obtain ⟨c,rfl⟩:=Int.eq_ofNat_of_zero_le c0
 obtain ⟨b,rfl⟩:=Int.eq_ofNat_of_zero_le (Int.le_of_lt b0)
 obtain ⟨d,rfl⟩:=Int.eq_ofNat_of_zero_le (Int.le_of_lt d0)
 have c1:Nat.Coprime a b:=by have:((Nat.gcd a b:Nat):Int)=1:=g1;exact_mod_cast this
 have c2:Nat.Coprime c d:=by have:((Nat.gcd c d:Nat):Int)=1:=g2;exact_mod_cast this
 have e':a*d=c*b:=by exact_mod_cast e
 have k1:b ∣ d:=c1.symm.dvd_of_dvd_mul_left (by rw [e'];exact Nat.dvd_mul_left _ _)
 have k2:d ∣ b:=c2.symm.dvd_of_dvd_mul_left (by rw [<- e'];exact Nat.dvd_mul_left _ _)
 have bd:b=d:=Nat.dvd_antisymm k1 k2
 subst bd
 have:a=c:=Nat.eq_of_mul_eq_mul_right (by omega) e'
 exact ⟨by rw [this],rfl⟩
theorem MO (D:Int) (d0:0 < D):∀{zs:Wz},(∀z∈zs,0 < z.2.2/\0<=z.1/\0<=z.2.1)->0<=Ec (fun b=>D.fdiv b) zs
 | [],_=>Int.le_refl _
 | z :: r,h=>by
   have ih:=MO D d0 (zs:=r) fun x m=>h x (mem_cons_of_mem _ m)
   obtain ⟨a,b,c⟩:=h z (mem_cons_self ..)
   show 0<=(if z.2.1=0 then 0 else z.1*z.2.1*D.fdiv z.2.2)+Ec (fun b=>D.fdiv b) r
   split
   ·omega
   ·have:0<=D.fdiv z.2.2:=by rw [Int.fdiv_eq_ediv_of_nonneg D (Int.le_of_lt a)];exact Int.ediv_nonneg (Int.le_of_lt d0) (Int.le_of_lt a)
    have:=Int.mul_nonneg (Int.mul_nonneg b c) this
    omega
theorem JO {S D:Int} (s0:0<=S) (D0:0 < D):0<=Cr S D/\0 < Cm S D/\AJ (Cr S D) (Cm S D)=1:=by
 obtain ⟨g,g0,h1,h2⟩:=FB (v:=S) D0
 refine ⟨?_,Kq (by omega),Q0 (by omega)⟩
 rcases (by omega:0<=Cr S D\/Cr S D < 0) with h | h
 ·exact h
 ·have:=Int.mul_neg_of_neg_of_pos h g0
  omega
abbrev Vs:=(Int × Int) × List (Int × Int)
noncomputable def shV (x:Sh):Vs:=(x.2.1.2,x.2.2.2.map (·.2))
noncomputable def fD (v:Int × Int):PyData:=.tuple [.int v.1,.int v.2]
noncomputable def Qj (r:List (Int × Int)):PyData:=.list (r.map fD)
theorem RH (v:Int × Int):Lay 1 (fD v):=L3 (FZ 0 _) (FZ 0 _)
theorem Q6 (v:List (Int × Int)):Lay 2 (Qj v):=BX (Fb RH _)
section
variable {K:PySem.W.Frag} {H:Hp}
theorem Tb {f:Fq} (g:FqG H f):Rep K H (.ref f.1) (fD f.2):=.tup (SqT.of g) (.cons (.int _) (.cons (.int _) .nil))
theorem Ov {fs:List Fq} (g:∀f∈fs,FqG H f):Reps K H (fqv fs) ((fs.map (·.2)).map fD):=by
 rw [map_map]
 exact ED fun f m=>Tb (g f m)
theorem QQ {rs:List Rw} (g:∀x∈rs,RwG H x):Reps K H (rwv rs) ((rs.map fun x=>x.2.map (·.2)).map Qj):=by
 rw [map_map]
 exact ED fun r m=>.lst (SqL.of (g r m).1) (Ov (g r m).2)
end
theorem RC {m:Nat} {t b:Int} (t0:0<=t) (b0:0 < b) (szt:Sz m t) (szb:Sz m b):Ma m (Cr t b,Cm t b):=by
 have e1:Cr t b=t.fdiv (AJ t b):=by unfold Cr E9;rw [if_neg (by omega)]
 have e2:Cm t b=b.fdiv (AJ t b):=by unfold Cm E9;rw [if_neg (by omega)]
 obtain ⟨k1,k2,k3⟩:=JO t0 b0
 exact ⟨k1,k2,k3,by show Sz m (Cr t b);rw [e1];exact szt.fdiv,by show Sz m (Cm t b);rw [e2];exact szb.fdiv⟩
theorem Ip {fs:List Fq} {j:Nat} {f:Fq} (e:fs[j]?=some f):atI (fqv fs) (j:Int)=some (.ref f.1):=Dj (by unfold fqv;rw [List.getElem?_map,e];rfl)
section
variable {L:List Addr} {H J:Hp}
end
theorem P5 (s:Int) (ls:Ls) (xs:List Sh):JX s ls xs=(ls.zip (xs.map shV)).map fun p=>Ky (A3 p.1.2.2.1 s) p.2.1 p.2.2:=by
 unfold JX
 rw [zip_map_right,map_map]
 rfl
noncomputable def lnD (q:Addr × Addr × List Int × Int):PyData:=.tuple [.tuple (q.2.2.1.map .int),.int q.2.2.2]
theorem Si (q:Addr × Addr × List Int × Int):Lay 2 (lnD q):=L3 (FJ (lay_ints 0 _)) (FZ 1 _)
theorem JY (ls:Ls):Lay 3 (.list (ls.map lnD)):=BX (Fb Si ls)
theorem Nm {K:PySem.W.Frag} {H:Hp} {ls:Ls} (g:BH H ls):Reps K H (vls ls) (ls.map lnD):=ED fun q m=>.tup (SqT.of (g q m).1) (.cons (.tup (SqT.of (g q m).2) (.ints _)) (.cons (.int _) .nil))
theorem I0 {X:Cx} (K:PySem.W.Frag) (hK:X.K=K:=by rfl):DG X (.type "list") (fun xs H Q=>∃p ys,xs=[.ref p]/\(SqL K H p ys\/SqT K H p ys)/\∀l,H l=none->Q (.ref l) (upd H l (.lst ys))):=by
 subst hK
 exact AX
def Q2 (v w:Int × Int):Prop:=v.1*w.2=w.1*v.2
def L2' (v w:Int × Int):Prop:=v.1*w.2<=w.1*v.2
theorem Q2.low {a b:Int} (b0:0 < b):Q2 (Cr a b,Cm a b) (a,b):=by
 obtain ⟨g,g0,e1,e2⟩:=FB (v:=a) b0
 show Cr a b*b=a*Cm a b
 generalize Cr a b=x at *
 generalize Cm a b=y at *
 rw [e1,e2]
 ac_rfl
theorem L2'.trans {u v w:Int × Int} (v0:0 < v.2) (u0:0<=u.2) (w0:0<=w.2) (h:L2' u v) (k:L2' v w):L2' u w:=by
 unfold L2' at *
 have a:=Int.mul_le_mul_of_nonneg_right h w0
 have b:=Int.mul_le_mul_of_nonneg_right k u0
 have:u.1*w.2*v.2<=w.1*u.2*v.2:=by
  rw [show u.1*w.2*v.2=u.1*v.2*w.2 from by ac_rfl,show w.1*u.2*v.2=w.1*v.2*u.2 from by ac_rfl]
  refine Int.le_trans a ?_
  rw [show v.1*u.2*w.2=v.1*w.2*u.2 from by ac_rfl]
  exact b
 exact Int.le_of_mul_le_mul_right this v0
theorem L2'.of {v w:Int × Int} (h:Q2 v w):L2' v w:=Int.le_of_eq h
noncomputable def Em (v:Int × Int) (q:Int):Int × Int:=if q*v.2 < v.1*1 then (Cr (q*v.2) (1*v.1),Cm (q*v.2) (1*v.1)) else (1,1)
noncomputable def Bk (s p:Int × Int):Int × Int:=(Cr (s.1*p.1) (s.2*p.2),Cm (s.1*p.1) (s.2*p.2))
noncomputable def Fk (f g:Int × Int):Int × Int:=(Cr (f.1*g.2 - g.1*f.2) (f.2*g.2),Cm (f.1*g.2 - g.1*f.2) (f.2*g.2))
structure RR (m:Nat) (p:Int × Int):Prop where
 t0:0<=p.1
 b0:0 < p.2
 le:p.1<=p.2
 szt:Sz m p.1
 szb:Sz m p.2
def JZ (K:PySem.W.Frag) (f g:Int->Int->Int->Int->Int):Sp:=fun vs H Q _=>∃(p r:Addr) (t b u c:Int),vs=[.ref p,.ref r]/\H p=some (.tup [.int t,.int b])/\H r=some (.tup [.int u,.int c])/\g t b u c≠0/\Sz 6600 t/\Sz 6600 b/\Sz 6600 u/\Sz 6600 c /\
 ∀(z:Addr) (H':Hp),Au H H'->FqG H' (z,Cr (f t b u c) (g t b u c),Cm (f t b u c) (g t b u c))->Q (.ref z) H'
def Oi:Sp:=fun vs H Q _=>∃(p r:Addr) (t b u c:Int),vs=[.ref p,.ref r]/\H p=some (.tup [.int t,.int b])/\H r=some (.tup [.int u,.int c])/\Sz 9000 t/\Sz 9000 b/\Sz 9000 u/\Sz 9000 c/\Q (.bl (decide (t*c < u*b))) H
def Po:Sp:=fun vs H Q _=>∃m:Int,vs=[.int m]/\0<=m/\m < 4096/\∀H':Hp,Au H H'->Q (.int ((hands 12 (bit m)).length:Nat)) H'
noncomputable def Cl (ts:List Int) (s:Int) (hd:Nat) (fr:Int × Int):Int × Int:=if bit (Co ts s) hd=true then Bi fr (A3 ts s).length else (0,1)
def NY (m:Nat):Sp:=fun vs H Q _=>∃(sp:Addr) (h hd:Nat) (ts:List Int) (fr:Fq) (s:Int),vs=[.ref sp,.ref fr.1,.int s,.int (hd:Int)]/\H sp=some (.tup (ts.map V.int))/\FqG H fr/\FqB m fr/\h<=12/\hd < h/\Qm h s ts/\∀(a:Addr) (H':Hp),Au H H'->FqG H' (a,Cl ts s hd fr.2)->Q (.ref a) H'
def PZ:Sp:=fun vs H Q _=>∃(f:Fq) (q:Int),vs=[.ref f.1,.int q]/\FqG H f/\0 < f.2.2/\1<=q/\Sz 1900 q/\Sz 6400 f.2.1/\Sz 6400 f.2.2/\∀(a:Addr) (H':Hp),Au H H'->FqG H' (a,Em f.2 q)->Q (.ref a) H'
def Mc:Sp:=fun vs H Q _=>∃(kl:Addr) (hd:Nat) (ks:List Fq) (g:Fq),vs=[.ref kl,.int (hd:Int),.ref g.1]/\H kl=some (.lst (fqv ks))/\(∀f∈ks,FqG H f)/\FqG H g/\hd < ks.length/\ks.length<=12/\∀(l:Addr) (H':Hp),H l=none->Au H H'->H' l=some (.lst (fqv (ks.set hd g)))->Q (.ref l) H'
noncomputable def IZ (hd:Nat) (sh part:Int × Int) (v:Vs):Vs:=(Fk v.1 (Bk sh part),v.2.set hd (Bk sh part))
noncomputable def BA (ls:Ls) (xs:List Sh) (s:Int) (hd:Nat):List (Int × Int):=(ls.zip xs).map fun p=>Cl p.1.2.2.1 s hd p.2.2.1.2
noncomputable def nk (f s:Int × Int):List (List Key):=[[Sum.inl f.1,Sum.inl f.2],[Sum.inl s.1,Sum.inl s.2]]
theorem SD {f s g r:Int × Int} (e:nk f s=nk g r):f=g/\s=r:=by
 unfold nk at e
 injection e with e1 e2
 injection e2 with e3 _
 injection e1 with a1 a2
 injection a2 with a3 _
 injection e3 with b1 b2
 injection b2 with b3 _
 exact ⟨Prod.ext (Sum.inl.inj a1) (Sum.inl.inj a3),Prod.ext (Sum.inl.inj b1) (Sum.inl.inj b3)⟩
theorem QS {H:Hp} {a:Addr} {f s:Fq} (e:H a=some (.tup [.ref f.1,.ref s.1])) (gf:FqG H f) (gs:FqG H s):Go H a (nk f.2 s.2):=⟨[f.1,s.1],e,.cons gf (.cons gs .nil)⟩
def RIn (part:Int × Int) (J:Hp) (kvs:List (List (List Key) × V)):Prop:=∀k v,Bd kvs k=some v->∃(f s:Int × Int) (t g r:Addr),k=nk f s/\v=.ref t/\J t=some (.tup [.ref g,.ref r])/\FqG J (g,Bk s part)/\FqG J (r,Fk f (Bk s part))
theorem RIn.tups {part:Int × Int} {J J':Hp} {kvs:List (List (List Key) × V)} (h:RIn part J kvs) (t:∀b xs,J b=some (.tup xs)->J' b=some (.tup xs)):RIn part J' kvs:=fun k v e=>by
 obtain ⟨f,s,t1,g,r,a1,a2,a3,a4,a5⟩:=h k v e
 exact ⟨f,s,t1,g,r,a1,a2,t _ _ a3,t _ _ a4,t _ _ a5⟩
theorem RIn.same {part:Int × Int} {J J':Hp} {kvs:List (List (List Key) × V)} (h:RIn part J kvs) (t:Au J J'):RIn part J' kvs:=h.tups fun b xs e=>t b _ e
theorem RIn.put {part f s:Int × Int} {J:Hp} {kvs:List (List (List Key) × V)} {t g r:Addr} (h:RIn part J kvs) (e:J t=some (.tup [.ref g,.ref r])) (eg:FqG J (g,Bk s part)) (er:FqG J (r,Fk f (Bk s part))):RIn part J (BW kvs (nk f s) (.ref t)):=fun k v z=>by
 rw [HL] at z
 split at z
 ·rename_i c
  exact ⟨f,s,t,g,r,c,(Option.some.inj z).symm,e,eg,er⟩
 ·exact h k v z
def LM (d:Addr) (H J:Hp):Prop:=∀b u,H b=some u->b≠d->J b=some u
theorem LM.tup {d:Addr} {H J:Hp} {ob:Obj} (o:LM d H J) (e:H d=some (hoF d ob)):∀b xs,H b=some (.tup xs)->J b=some (.tup xs):=fun b xs h=>o b _ h (Cw h e (fun z=>by cases z))
theorem LM.lst {d:Addr} {H J:Hp} {ob:Obj} (o:LM d H J) (e:H d=some (hoF d ob)):∀b xs,H b=some (.lst xs)->J b=some (.lst xs):=fun b xs h=>o b _ h (Cw h e (fun z=>by cases z))
theorem LM.sh {d:Addr} {H J:Hp} {ob:Obj} {x:Sh} (o:LM d H J) (e:H d=some (hoF d ob)) (g:ShG H x):ShG J x:=⟨o.tup e _ _ g.t,o.tup e _ _ g.f,o.lst e _ _ g.l,fun f m=>o.tup e _ _ (g.k f m)⟩
noncomputable def pr (r:Rat):Int × Int:=(r.num,(r.den:Int))
noncomputable def vq (v:Int × Int):Rat:=(v.1:Rat) / (v.2:Rat)
theorem Ci (r:Rat):0 < (pr r).2:=by have:=r.den_pos;show (0:Int) < (r.den:Int);omega
theorem JH (r:Rat):AJ (pr r).1 (pr r).2=1:=by
 show ((Int.gcd r.num (r.den:Int):Nat):Int)=1
 have:Int.gcd r.num (r.den:Int)=1:=r.reduced
 rw [this]
 rfl
theorem HF {r:Rat} (h:0<=r):0<=(pr r).1:=Rat.num_nonneg.mpr h
theorem E8 (r:Rat):vq (pr r)=r:=by
 unfold vq pr
 show ((r.num:Int):Rat) / (((r.den:Nat):Int):Rat)=r
 rw [<- Rat.divInt_eq_div]
 exact Rat.num_divInt_den r
theorem RZ {r s:Rat} (e:pr r=pr s):r=s:=by rw [<- E8 r,e,E8]
theorem EM {v:Int × Int} (h:0 < v.2):(v.2:Rat)≠0:=by
 intro e
 have:=Rat.intCast_inj.mp (show (v.2:Rat)=((0:Int):Rat) from e)
 omega
theorem OH {v w:Int × Int} (v0:0 < v.2) (w0:0 < w.2):Q2 v w↔vq v=vq w:=by
 have a:=EM v0
 have b:=EM w0
 unfold Q2 vq
 constructor
 ·intro h
  have h':(v.1:Rat)*(w.2:Rat)=(w.1:Rat)*(v.2:Rat):=by
   rw [<- Rat.intCast_mul,<- Rat.intCast_mul,h]
  grind
 ·intro h
  have h':(v.1:Rat)*(w.2:Rat)=(w.1:Rat)*(v.2:Rat):=by grind
  rw [<- Rat.intCast_mul,<- Rat.intCast_mul] at h'
  exact Rat.intCast_inj.mp h'
theorem Tu {v:Int × Int} (t0:0<=v.1) (b0:0 < v.2):0<=vq v:=by
 unfold vq
 rw [<- Rat.divInt_eq_div]
 exact Rat.divInt_nonneg t0 (Int.le_of_lt b0)
theorem RK {v:Int × Int} (t0:0<=v.1) (b0:0 < v.2) (g:AJ v.1 v.2=1):v=pr (vq v):=by
 have e:Q2 v (pr (vq v)):=(OH b0 (Ci _)).mpr (E8 _).symm
 obtain ⟨x,y⟩:=Md b0 (Ci (vq v)) t0 (HF (Tu t0 b0)) g (JH _) e
 exact Prod.ext x y
theorem Kj {a b:Int} (a0:0<=a) (b0:0 < b):(Cr a b,Cm a b)=pr ((a:Rat) / (b:Rat)):=by
 obtain ⟨k1,k2,k3⟩:=JO a0 b0
 have e:=RK (v:=(Cr a b,Cm a b)) k1 k2 k3
 rw [e]
 congr 1
 exact (OH (v:=(Cr a b,Cm a b)) (w:=(a,b)) k2 b0).mp (Q2.low b0)
theorem Nl {r:Rat} {n:Nat} (r0:0<=r) (n1:1<=n):Bi (pr r) n=pr (r / (n:Rat)):=by
 obtain ⟨e1,e2,e3,e4⟩:=Im (t:=(pr r).1) (b:=(pr r).2) (HF r0) (Ci r) n1 (JH r)
 have e:=RK (v:=Bi (pr r) n) e1 e2 e3
 rw [e]
 congr 1
 have hn:0 < (pr r).2*(n:Int):=Int.mul_pos (Ci r) (by omega)
 rw [(OH (v:=Bi (pr r) n) (w:=((pr r).1,(pr r).2*(n:Int))) e2 hn).mp e4]
 have hr:=E8 r
 have hb:=EM (Ci r)
 unfold vq at hr ⊢
 rw [Rat.intCast_mul]
 have hn':((n:Int):Rat)≠0:=by
  intro z
  have:=Rat.intCast_inj.mp (show ((n:Int):Rat)=((0:Int):Rat) from z)
  omega
 have hc:((n:Int):Rat)=(n:Rat):=rfl
 rw [<- hc]
 grind
theorem RM {n:Nat} (h:1<=n):(n:Rat)≠0:=by
 intro z
 have:=Rat.natCast_inj.mp (show (n:Rat)=((0:Nat):Rat) from z)
 omega
def Bh (M:Int) (r:Rat):Prop:=∃k:Int,r*(M:Rat)=(k:Rat)
theorem Bh.dvd {M:Int} {r:Rat} (h:Bh M r):(pr r).2 ∣ M:=by
 obtain ⟨k,e⟩:=h
 have hr:=E8 r
 have hb:=EM (Ci r)
 unfold vq at hr
 have e2:((pr r).1:Rat)*(M:Rat)=(k:Rat)*((pr r).2:Rat):=by grind
 rw [<- Rat.intCast_mul,<- Rat.intCast_mul] at e2
 have e3:(pr r).1*M=k*(pr r).2:=Rat.intCast_inj.mp e2
 have c:Int.gcd (pr r).2 (pr r).1=1:=by rw [Int.gcd_comm];exact r.reduced
 have:(pr r).2 ∣ (pr r).1*M:=⟨k,by rw [e3,Int.mul_comm]⟩
 have n1:=Int.natAbs_dvd_natAbs.mpr this
 rw [Int.natAbs_mul] at n1
 exact Int.natAbs_dvd_natAbs.mp (Nat.Coprime.dvd_of_dvd_mul_left (show Nat.Coprime (pr r).2.natAbs (pr r).1.natAbs from c) n1)
theorem Bh.sub {M:Int} {r s:Rat} (h:Bh M r) (k:Bh M s):Bh M (r - s):=by
 obtain ⟨a,e⟩:=h
 obtain ⟨b,f⟩:=k
 exact ⟨a - b,by rw [Rat.intCast_sub];grind⟩
theorem Bh.add {M:Int} {r s:Rat} (h:Bh M r) (k:Bh M s):Bh M (r+s):=by
 obtain ⟨a,e⟩:=h
 obtain ⟨b,f⟩:=k
 exact ⟨a+b,by rw [Rat.intCast_add];grind⟩
theorem Bh.more {M:Int} (n:Int) {r:Rat} (h:Bh M r):Bh (M*n) r:=by
 obtain ⟨a,e⟩:=h
 exact ⟨a*n,by rw [Rat.intCast_mul,Rat.intCast_mul];grind⟩
theorem Bh.div {M:Int} {n:Nat} {c:Int} {r:Rat} (h:Bh M r) (n1:1<=n):Bh (M*((n:Int)*c)) (r / (n:Rat)):=by
 obtain ⟨a,e⟩:=h
 have hn:=RM n1
 refine ⟨a*c,?_⟩
 rw [Rat.intCast_mul,Rat.intCast_mul,Rat.intCast_mul,show (((n:Nat):Int):Rat)=(n:Rat) from rfl]
 grind
theorem Bh.times {M:Int} {r:Rat} (n:Int) (h:Bh M r):Bh M ((n:Rat)*r):=by
 obtain ⟨a,e⟩:=h
 exact ⟨n*a,by rw [Rat.intCast_mul];grind⟩
theorem Bh.zero (M:Int):Bh M 0:=⟨0,by rw [Rat.zero_mul];rfl⟩
theorem Bh.one (M:Int):Bh M 1:=⟨M,Rat.one_mul _⟩
theorem Es {b M:Int} {m:Nat} (h:b ∣ M) (M0:0 < M) (z:Sz m M):Sz m b:=by
 obtain ⟨k,e⟩:=h
 have hk:k≠0:=fun z=>by rw [z,Int.mul_zero] at e;omega
 have:b.natAbs<=M.natAbs:=by
  rw [e,Int.natAbs_mul]
  exact Nat.le_mul_of_pos_right _ (by omega)
 exact Nat.lt_of_le_of_lt this z
theorem RB {c b M:Int} (c0:0 < c) (b0:0 < b) (hc:c ∣ M) (hb:b ∣ M):DA c b ∣ M:=by
 unfold DA
 split
 ·have g0:(0:Int) < AJ c b:=by
   unfold AJ
   have:0 < Int.gcd c b:=Int.gcd_pos_of_ne_zero_left _ (Int.ne_of_gt c0)
   exact_mod_cast this
  have e:c*b.fdiv (AJ c b)=((Nat.lcm c.natAbs b.natAbs:Nat):Int):=by
   obtain ⟨cn,rfl⟩:=Int.eq_ofNat_of_zero_le (Int.le_of_lt c0)
   obtain ⟨bn,rfl⟩:=Int.eq_ofNat_of_zero_le (Int.le_of_lt b0)
   show (cn:Int)*(bn:Int).fdiv ((Nat.gcd cn bn:Nat):Int)=((Nat.lcm cn bn:Nat):Int)
   rw [Int.fdiv_eq_ediv_of_nonneg _ (Int.natCast_nonneg _)]
   show ((cn:Nat):Int)*((bn / Nat.gcd cn bn:Nat):Int)=_
   have:cn*(bn / Nat.gcd cn bn)=Nat.lcm cn bn:=by
    unfold Nat.lcm
    rw [Nat.mul_div_assoc _ (Nat.gcd_dvd_right cn bn)]
   exact_mod_cast this
  rw [e]
  exact Int.ofNat_dvd_left.mpr (Nat.lcm_dvd (Int.natAbs_dvd_natAbs.mpr hc) (Int.natAbs_dvd_natAbs.mpr hb))
 ·exact hc
structure FqM (M:Int) (v:Int × Int):Prop where
 t0:0<=v.1
 b0:0 < v.2
 le:v.1<=v.2
 dv:v.2 ∣ M
theorem FqM.szb {M:Int} {v:Int × Int} {m:Nat} (h:FqM M v) (M0:0 < M) (z:Sz m M):Sz m v.2:=Es h.dv M0 z
theorem FqM.szt {M:Int} {v:Int × Int} {m:Nat} (h:FqM M v) (M0:0 < M) (z:Sz m M):Sz m v.1:=by
 have:=h.szb M0 z
 have a:=h.t0
 have b:=h.le
 unfold Sz at *
 omega
theorem FqM.fq {M:Int} {f:Fq} {m:Nat} (h:FqM M f.2) (M0:0 < M) (z:Sz m M):FqB m f:=⟨h.b0,h.t0,h.szt M0 z,h.szb M0 z⟩
noncomputable def Kt (ls:Ls):Int:=(ls.map fun q=>q.2.2.2).sum
theorem Nj (D:Int) (d0:0 < D):∀{ls:Ls} {fs:List Fq},(∀q∈ls,0<=q.2.2.2)->(∀f∈fs,0<=f.2.1/\f.2.1<=f.2.2/\0 < f.2.2)->(∀z∈Da ls fs,z.2.1≠0->z.2.2 ∣ D)->Ec (fun b=>D.fdiv b) (Da ls fs)<=Kt ls*D
 | [],fs,_,_,_=>by
   show (0:Int)<=0*D
   omega
 | q :: r,[],h,_,_=>by
   show (0:Int)<=Kt (q :: r)*D
   have:0<=Kt (q :: r):=by
    unfold Kt
    have:∀l:Ls,(∀q∈l,0<=q.2.2.2)->0<=(l.map fun q=>q.2.2.2).sum:=by
     intro l
     induction l with
     | nil=>intro _;exact Int.le_refl _
     | cons a b ih =>
       intro k
       rw [map_cons,sum_cons]
       have:=k a (mem_cons_self ..)
       have:=ih fun q m=>k q (mem_cons_of_mem _ m)
       omega
    exact this _ h
   exact Int.mul_nonneg this (Int.le_of_lt d0)
 | q :: r,f :: fs,h,hf,hd=>by
   have ih:=Nj D d0 (ls:=r) (fs:=fs) (fun x m=>h x (mem_cons_of_mem _ m)) (fun x m=>hf x (mem_cons_of_mem _ m)) (fun z m=>hd z (mem_cons_of_mem _ m))
   have n0:=h q (mem_cons_self ..)
   obtain ⟨t0,tb,b0⟩:=hf f (mem_cons_self ..)
   show (if f.2.1=0 then 0 else q.2.2.2*f.2.1*D.fdiv f.2.2)+Ec (fun b=>D.fdiv b) (Da r fs)<=(q.2.2.2+Kt r)*D
   rw [Int.add_mul]
   have:(if f.2.1=0 then 0 else q.2.2.2*f.2.1*D.fdiv f.2.2)<=q.2.2.2*D:=by
    split
    ·exact Int.mul_nonneg n0 (Int.le_of_lt d0)
    ·rename_i c
     obtain ⟨e,he⟩:=hd (q.2.2.2,f.2.1,f.2.2) (mem_cons_self ..) c
     have he':D=f.2.2*e:=he
     have de:D.fdiv f.2.2=e:=by
      rw [Int.fdiv_eq_ediv_of_nonneg D (Int.le_of_lt b0),he']
      exact Int.mul_ediv_cancel_left _ (Int.ne_of_gt b0)
     have e0:0<=e:=by
      rcases (by omega:0<=e\/e < 0) with k | k
      ·exact k
      ·have:=Int.mul_neg_of_pos_of_neg b0 k;omega
     rw [de,he',Int.mul_assoc]
     exact Int.mul_le_mul_of_nonneg_left (Int.mul_le_mul_of_nonneg_right tb e0) n0
   omega
structure WM (M:Int) (ls:Ls) (fs:List Fq) (v:Int × Int):Prop where
 ex:∃D:Int,0 < D/\(∀z∈Da ls fs,z.2.1≠0->z.2.2 ∣ D)/\v=(Cr (Ec (fun b=>D.fdiv b) (Da ls fs)) D,Cm (Ec (fun b=>D.fdiv b) (Da ls fs)) D)
 dv:v.2 ∣ M
def N2:Sp:=fun vs H Q _=>∃(d:Addr) (ps:List (Int × Int)) (M:Int),vs=[.ref d]/\H d=some (.dK (DV ps))/\(∀q∈ps,0 < q.1/\q.1 ∣ M)/\0 < M/\Sz 4500 M/\ps.length<=60 /\
 ∀(D:Int) (H':Hp),Au H H'->0 < D->(∀q∈ps,q.1 ∣ D)->D ∣ M->Q (.int D) H'
def Pr:Sp:=fun vs H Q _=>∃(l sl:Addr) (ls:Ls) (fs:List Fq) (M:Int),vs=[.ref l,.ref sl]/\H l=some (.lst (vls ls))/\BH H ls/\H sl=some (.lst (fqv fs))/\(∀f∈fs,FqG H f/\FqM M f.2)/\0 < M/\Sz 4500 M/\ls.length=fs.length/\ls.length<=60/\(∀q∈ls,0<=q.2.2.2/\Sz 64 q.2.2.2) /\
 ∀(T:Addr) (v:Int × Int) (H':Hp),Au H H'->WM M ls fs v->FqG H' (T,v)->Q (.ref T) H'
def LC:Sp:=fun vs H Q _=>∃(l rl:Addr) (h:Nat) (ls:Ls) (rs:List Rw) (M:Int),vs=[.ref l,.ref rl,.int (h:Int)]/\H l=some (.lst (vls ls))/\BH H ls/\H rl=some (.lst (rwv rs))/\(∀x∈rs,RwG H x/\x.2.length=h+1/\∀f∈x.2,FqM M f.2)/\0 < M/\Sz 4500 M/\ls.length=rs.length/\ls.length<=60/\h<=12/\(∀q∈ls,0<=q.2.2.2/\Sz 64 q.2.2.2) /\
 ∀(a:Addr) (fs:List Fq) (H':Hp),H a=none->Au H H'->H' a=some (.lst (fqv fs))->(∀f∈fs,FqG H' f)->fs.length=h+1->(∀j f,fs[j]?=some f->WM M ls (Dw rs j) f.2)->Q (.ref a) H'
noncomputable def AZ (ts:List Int) (s:Int) (hd:Nat) (r:Rat):Rat:=if bit (Co ts s) hd=true then r / ((A3 ts s).length:Rat) else 0
noncomputable def DY (t:Rat) (q:Int):Rat:=if (q:Rat) < t then (q:Rat) / t else 1
abbrev Sr:=Rat × List Rat
noncomputable def Ee (x:Sr):Vs:=(pr x.1,x.2.map pr)
noncomputable def Ia (hd:Nat) (sh part:Rat) (x:Sr):Sr:=(x.1 - sh*part,x.2.set hd (sh*part))
def Rx:Sp:=fun vs H Q _=>∃(l st:Addr) (h hd:Nat) (ls:Ls) (xs:List Sh) (s q M:Int),vs=[.ref l,.ref st,.int s,.int (hd:Int),.int q]/\H l=some (.lst (vls ls))/\BH H ls/\H st=some (.lst (shv xs))/\(∀x∈xs,ShG H x/\FqM M x.2.1.2/\AJ x.2.1.2.1 x.2.1.2.2=1/\x.2.2.2.length=h)/\0 < M/\Sz 2210 M/\ls.length=xs.length/\ls.length<=60/\h<=12/\hd < h/\1<=q/\Sz 64 q/\(∀p∈ls,Qm h s p.2.2.1/\0<=p.2.2.2/\Sz 64 p.2.2.2) /\
 ∀(a:Addr) (ys:List Sh) (fs:List Fq) (v:Int × Int) (H':Hp),H a=none->Au H H'->H' a=some (.lst (shv ys))->(∀y∈ys,ShG H' y/\H y.2.2.1=none/\y.2.2.1≠a)->(ys.map fun y=>y.2.2.1).Nodup->fs.map (·.2)=BA ls xs s hd->WM (M*27720) ls fs v->ys.map shV=(xs.zip (BA ls xs s hd)).map (fun p=>IZ hd p.2 (Em v q) (shV p.1))->Q (.ref a) H'
theorem Kd {n:Nat} (h1:1<=n) (h2:n<=12):∃c:Int,(27720:Int)=(n:Int)*c:=by
 rcases (by omega:n=1\/n=2\/n=3\/n=4\/n=5\/n=6\/n=7\/n=8\/n=9\/n=10\/n=11\/n=12) with rfl | rfl | rfl | rfl | rfl | rfl | rfl | rfl | rfl | rfl | rfl | rfl
 ·exact ⟨27720,rfl⟩
 ·exact ⟨13860,rfl⟩
 ·exact ⟨9240,rfl⟩
 ·exact ⟨6930,rfl⟩
 ·exact ⟨5544,rfl⟩
 ·exact ⟨4620,rfl⟩
 ·exact ⟨3960,rfl⟩
 ·exact ⟨3465,rfl⟩
 ·exact ⟨3080,rfl⟩
 ·exact ⟨2772,rfl⟩
 ·exact ⟨2520,rfl⟩
 ·exact ⟨2310,rfl⟩
theorem ST {M:Int} {f:Int × Int} {n:Nat} (n1:1<=n) (n12:n<=12) (fm:FqM M f) (g:AJ f.1 f.2=1):FqM (M*27720) (Bi f n)/\AJ (Bi f n).1 (Bi f n).2=1:=by
 obtain ⟨e1,e2,e3,e4⟩:=Im (t:=f.1) (b:=f.2) fm.t0 fm.b0 n1 g
 have e1':0<=(Bi f n).1:=e1
 have e2':0 < (Bi f n).2:=e2
 have e4':(Bi f n).1*(f.2*n)=f.1*(Bi f n).2:=e4
 refine ⟨⟨e1,e2,?_,?_⟩,e3⟩
 ·have k1:(Bi f n).1*(f.2*n)<=(Bi f n).2*(f.2*n):=by
   rw [e4',Int.mul_comm]
   refine Int.mul_le_mul_of_nonneg_left ?_ (Int.le_of_lt e2')
   have:=Int.mul_le_mul_of_nonneg_left (show (1:Int)<=n by omega) (Int.le_of_lt fm.b0)
   have:=fm.le
   omega
  exact Int.le_of_mul_le_mul_right k1 (Int.mul_pos fm.b0 (by omega))
 ·obtain ⟨c,hc⟩:=Kd n1 n12
  rw [hc]
  show f.2*(n:Int).fdiv (AJ f.1 n) ∣ M*((n:Int)*c)
  refine Int.mul_dvd_mul fm.dv ?_
  refine Int.dvd_trans ?_ ⟨c,rfl⟩
  obtain ⟨d,hd⟩:AJ f.1 n ∣ (n:Int):=Int.gcd_dvd_right ..
  have g0:(0:Int) < AJ f.1 n:=by
   unfold AJ
   have:0 < Int.gcd f.1 (n:Int):=Int.gcd_pos_of_ne_zero_right _ (by omega)
   omega
  generalize AJ f.1 n=gg at *
  refine ⟨gg,?_⟩
  have:(n:Int).fdiv gg=d:=by
   rw [Int.fdiv_eq_ediv_of_nonneg _ (Int.le_of_lt g0),hd]
   exact Int.mul_ediv_cancel_left _ (Int.ne_of_gt g0)
  rw [this,Int.mul_comm]
  exact hd
theorem MU {M:Int} {ts:List Int} {s:Int} {hd:Nat} {fr:Int × Int} (hd12:hd < 12) (M0:0 < M) (fm:FqM M fr) (g:AJ fr.1 fr.2=1):FqM (M*27720) (Cl ts s hd fr)/\AJ (Cl ts s hd fr).1 (Cl ts s hd fr).2=1/\L2' (Cl ts s hd fr) fr:=by
 unfold Cl
 split
 ·rename_i c
  have n12:(A3 ts s).length<=12:=D6 ..
  have n1:1<=(A3 ts s).length:=length_pos_of_mem (BM.mpr ⟨hd,hd12,c,rfl⟩:((hd:Nat):Int)∈A3 ts s)
  generalize (A3 ts s).length=n at n1 n12 ⊢
  obtain ⟨a,b⟩:=ST n1 n12 fm g
  obtain ⟨e1,e2,e3,e4⟩:=Im (t:=fr.1) (b:=fr.2) fm.t0 fm.b0 n1 g
  refine ⟨a,b,?_⟩
  have e5:(Bi fr n).1*(fr.2*n)=fr.1*(Bi fr n).2:=e4
  show (Bi fr n).1*fr.2<=fr.1*(Bi fr n).2
  rw [<- e5,<- Int.mul_assoc]
  have k:0<=(Bi fr n).1*fr.2:=Int.mul_nonneg e1 (Int.le_of_lt fm.b0)
  have:=Int.mul_le_mul_of_nonneg_left (show (1:Int)<=n by omega) k
  omega
 ·refine ⟨⟨by decide,by decide,by decide,Int.one_dvd _⟩,rfl,?_⟩
  show (0:Int)*fr.2<=fr.1*1
  have:=fm.t0
  omega
theorem Sj {v:Int × Int} {q:Int} {m n:Nat} (b0:0 < v.2) (q1:1<=q) (szt:Sz m v.1):RR (m+1) (Em v q):=by
 unfold Em
 split
 ·rename_i c
  rw [Int.mul_one] at c
  have qv:0 < q*v.2:=Int.mul_pos (by omega) b0
  have v0:0 < 1*v.1:=by omega
  obtain ⟨k1,k2,k3⟩:=JO (S:=q*v.2) (D:=1*v.1) (by omega) v0
  obtain ⟨g,g0,e1,e2⟩:=FB (v:=q*v.2) v0
  have le:Cr (q*v.2) (1*v.1)<=Cm (q*v.2) (1*v.1):=by
   refine Int.le_of_mul_le_mul_right ?_ g0
   rw [<- e1,<- e2]
   omega
  have zb:Sz m (Cm (q*v.2) (1*v.1)):=Es (M:=v.1) ⟨g,by rw [<- e2];omega⟩ (by omega) szt
  refine ⟨k1,k2,le,?_,zb.mono (by omega)⟩
  refine Sz.mono (m:=m) ?_ (by omega)
  unfold Sz at *
  show (Cr (q*v.2) (1*v.1)).natAbs < _
  omega
 ·exact ⟨by decide,by decide,by decide,(Bz (by decide) (by decide):Sz 1 (1:Int)).mono (by omega),(Bz (by decide) (by decide):Sz 1 (1:Int)).mono (by omega)⟩
theorem Rg {a b:Nat} {s p:Int × Int} (s0:0<=s.1) (b0:0 < s.2) (z1:Sz a s.1) (z2:Sz a s.2) (pr:RR b p):Ma (a+b) (Bk s p)/\L2' (Bk s p) s:=by
 have bb:=Int.mul_pos b0 pr.b0
 have lo:Ma (a+b) (Bk s p):=RC (Int.mul_nonneg s0 pr.t0) bb (z1.mul pr.szt) (z2.mul pr.szb)
 refine ⟨lo,?_⟩
 refine L2'.trans (v:=(s.1*p.1,s.2*p.2)) bb (Int.le_of_lt lo.b0) (Int.le_of_lt b0) (L2'.of (Q2.low bb)) ?_
 show s.1*p.1*s.2<=s.1*(s.2*p.2)
 rw [show s.1*p.1*s.2=s.1*s.2*p.1 from by ac_rfl,<- Int.mul_assoc]
 exact Int.mul_le_mul_of_nonneg_left pr.le (Int.mul_nonneg s0 (Int.le_of_lt b0))
theorem RQ {M:Int} {ls:Ls} {fs:List Fq} {v:Int × Int} {m:Nat} (w:WM M ls fs v) (M0:0 < M) (Mz:Sz m M) (hn:∀q∈ls,0<=q.2.2.2/\Sz 64 q.2.2.2) (hf:∀f∈fs,FqM M f.2) (l60:ls.length<=60):0<=v.1/\0 < v.2/\AJ v.1 v.2=1/\Sz m v.2/\v.1<=Kt ls*v.2/\Sz (m+124) v.1:=by
 obtain ⟨⟨D,D0,Dd,e⟩,dv⟩:=w
 have nn:=MO D D0 (zs:=Da ls fs) (fun z zm=>by
  obtain ⟨p,pm,rfl⟩:=mem_map.mp zm
  obtain ⟨a,b⟩:=of_mem_zip pm
  exact ⟨(hf _ b).b0,(hn _ a).1,(hf _ b).t0⟩)
 have le:=Nj D D0 (ls:=ls) (fs:=fs) (fun q m=>(hn q m).1) (fun f m=>⟨(hf f m).t0,(hf f m).le,(hf f m).b0⟩) Dd
 generalize Ec (fun b=>D.fdiv b) (Da ls fs)=Z at *
 obtain ⟨k1,k2,k3⟩:=JO nn D0
 obtain ⟨g,g0,e1,e2⟩:=FB (v:=Z) D0
 subst e
 have vb:Cr Z D<=Kt ls*Cm Z D:=by
  refine Int.le_of_mul_le_mul_right ?_ g0
  rw [Int.mul_assoc,<- e1,<- e2]
  exact le
 have zb:Sz m (Cm Z D):=Es dv M0 Mz
 have nz:Sz 124 (Kt ls):=(Mt (n:=64) fun x m=>by
  obtain ⟨q,qm,rfl⟩:=mem_map.mp m
  exact (hn q qm).2).mono (by rw [length_map];omega)
 refine ⟨k1,k2,k3,zb,vb,?_⟩
 have:=(nz.mul zb).mono (show 124+m<=m+124 by omega)
 unfold Sz at *
 show (Cr Z D).natAbs < _
 generalize 2 ^ (m+124)=X at *
 omega
noncomputable def off (H:Hp) (D:Addr):Hp:=fun b=>if b=D then none else H b
theorem LD (H:Hp) (D:Addr):Au (off H D) H:=fun b o e=>by
 unfold off at e
 split at e
 ·cases e
 ·exact e
theorem JC {H:Hp} {D b:Addr} {o:HO} (e:H b=some o) (n:b≠D):off H D b=some o:=by
 unfold off
 rw [if_neg n]
 exact e
theorem OA {H:Hp} {D:Addr}:off H D D=none:=by unfold off;rw [if_pos rfl]
theorem E2 {H H':Hp} {D:Addr} {o:HO} (s:Au (off H D) H'):Au (off H D) (upd H' D o):=fun b u e=>by
 rw [Al (fun z=>by rw [z,OA] at e;cases e)]
 exact s _ _ e
theorem LQ {H0 H:Hp} {D:Addr} (s:Au H0 H) (n:H0 D=none):Au H0 (off H D):=fun b o e=>JC (s _ _ e) fun z=>by rw [z,n] at e;cases e
theorem JL {H:Hp} {D:Addr} {o:HO}:off (upd H D o) D=off H D:=funext fun b=>by
 unfold off
 by_cases c:b=D
 ·rw [if_pos c,if_pos c]
 ·rw [if_neg c,if_neg c,Al c]
noncomputable def ups (n:Nat):List Int:=(List.range n).map fun i:Nat=>(i:Int)
theorem QN (n:Nat):(ups n).Pairwise (·<=·):=pairwise_map.mpr (pairwise_lt_range.imp fun h=>by omega)
theorem RO (n:Nat):(ups n).map V.int=(List.range n).map fun i:Nat=>V.int (i:Int):=by unfold ups;rw [map_map];rfl
theorem MB (n:Nat):(ups n).length=n:=by unfold ups;rw [length_map,length_range]
theorem SB {ms ns:List Int} {n:Nat} (p:ms.Perm ns) (s:ms.Pairwise (·<=·)) (h:ns.Perm (ups n)):ms=ups n:=(p.trans h).eq_of_pairwise (fun a b _ _ x y=>Int.le_antisymm x y) s (QN n)
def Re:Sp:=fun vs H Q _=>∃n:Int,vs=[.int n]/\1<=n/\n<=12/\Q (.bl true) H
def QH:Sp:=fun vs H Q _=>∃n:Int,vs=[.int n]/\1<=n/\n<=60/\Q (.bl true) H
def SG (K:PySem.W.Frag):Sp:=fun vs H Q _=>∃(l:Addr) (ns:List Int) (n:Nat),vs=[.ref l,.int (n:Int)]/\H l=some (.lst (ns.map V.int))/\ns.Perm (ups n)/\n<=12/\∀H':Hp,Au H H'->Q (.bl true) H'
abbrev fsW (h s:Int) (l:Addr):List (Str × V):=[("hands",.int h),("seats",.int s),("lots",.ref l)]
theorem Tj (x:V):DE "hands" x []=([("hands",x)]:List (Str × V)):=rfl
theorem SZ (x y:V):DE "seats" y [("hands",x)]=([("hands",x),("seats",y)]:List (Str × V)):=by
 unfold DE;rw [if_neg (by decide)];rfl
theorem Tm (x y z:V):DE "lots" z [("hands",x),("seats",y)]=([("hands",x),("seats",y),("lots",z)]:List (Str × V)):=by
 unfold DE;rw [if_neg (by decide)];unfold DE;rw [if_neg (by decide)];rfl
theorem GT {n:Nat} {x:Int}:x∈ups n↔0<=x/\x < n:=by
 unfold ups
 rw [mem_map]
 constructor
 ·rintro ⟨i,m,rfl⟩
  have:=mem_range.mp m
  omega
 ·rintro ⟨h0,h1⟩
  exact ⟨x.toNat,mem_range.mpr (by omega),by omega⟩
theorem Hn {m:Int} (h:0<=m) (i:Nat):bit m i=m.toNat.testBit i:=by
 obtain ⟨n,rfl⟩:∃n:Nat,m=(n:Int):=⟨m.toNat,by omega⟩
 rw [Int.toNat_natCast,Nat.testBit_eq_decide_div_mod_eq]
 unfold bit
 congr 1
 apply propext
 constructor
 ·intro z
  have:((n / 2 ^ i % 2:Nat):Int)=1:=by push_cast;exact z
  omega
 ·intro z
  have:((n / 2 ^ i % 2:Nat):Int)=1:=by rw [z];rfl
  push_cast at this
  exact this
theorem P9 {x h j:Nat} (c:x.testBit h=false):(2 ^ h+x).testBit j=(x.testBit j || decide (j=h)):=by
 rcases Nat.lt_trichotomy j h with l | l | l
 ·rw [Nat.testBit_two_pow_add_gt l,decide_eq_false (by omega),Bool.or_false]
 ·rw [l,Nat.testBit_two_pow_add_eq,c,decide_eq_true rfl];rfl
 ·rw [decide_eq_false (by omega),Bool.or_false]
  have q:(2 ^ h+x) / 2 ^ (h+1)=x / 2 ^ (h+1):=by
   rw [Nat.testBit_eq_decide_div_mod_eq] at c
   have c:=of_decide_eq_false c
   have p:0 < 2 ^ h:=Nat.two_pow_pos h
   rw [Nat.pow_succ,<- Nat.div_div_eq_div_mul,<- Nat.div_div_eq_div_mul,Nat.add_div_left _ p]
   omega
  have d:∀y:Nat,y.testBit j=(y / 2 ^ (h+1)).testBit (j - (h+1)):=fun y=>by
   rw [Nat.testBit_div_two_pow]
   congr 1
   omega
  rw [d,d x,q]
theorem Oz {m:Int} (h0:0<=m) (h j:Nat):0<=m - 2 ^ h*(if bit m h=true then 1 else 0)/\bit (m - 2 ^ h*(if bit m h=true then 1 else 0)) j=(bit m j && decide (j≠h)):=by
 by_cases c:bit m h=true
 ·rw [if_pos c,Int.mul_one]
  obtain ⟨n,rfl⟩:∃n:Nat,m=(n:Int):=⟨m.toNat,by omega⟩
  have ct:=c
  rw [Hn h0,Int.toNat_natCast] at ct
  have le:2 ^ h<=n:=Nat.ge_two_pow_of_testBit ct
  obtain ⟨x,rfl⟩:∃x,n=2 ^ h+x:=⟨n - 2 ^ h,by omega⟩
  have cx:x.testBit h=false:=by
   rw [Nat.testBit_two_pow_add_eq] at ct
   simpa using ct
  have e:((2 ^ h+x:Nat):Int) - 2 ^ h=(x:Int):=by push_cast;omega
  rw [e]
  refine ⟨by omega,?_⟩
  rw [Hn (by omega),Hn (by omega),Int.toNat_natCast,Int.toNat_natCast,P9 cx]
  by_cases z:j=h
  ·subst z;rw [cx];simp
  ·simp [z]
 ·rw [if_neg c,Int.mul_zero,Int.sub_zero]
  refine ⟨h0,?_⟩
  by_cases z:j=h
  ·subst z;simp at c;rw [c];rfl
  ·simp [z]
def IsS (C:Addr) (H:Hp) (a:Addr) (h s:Int) (xs:List Int):Prop:=∃dx l,H a=some (.ins C dx (fsW h s l))/\H l=some (.lst (xs.map V.int))
theorem IsS.same {C:Addr} {H H':Hp} {a:Addr} {h s:Int} {xs:List Int} (e:Au H H') (k:IsS C H a h s xs):IsS C H' a h s xs:=by
 obtain ⟨dx,l,k1,k2⟩:=k
 exact ⟨dx,l,e _ _ k1,e _ _ k2⟩
def QT (C:Addr):Sp:=fun vs H Q _=>∃(a:Addr) (h s:Int) (xs:List Int) (n:Int),vs=[.ref a,.int n]/\IsS C H a h s xs/\1<=s/\s<=6/\Q (.int (n.fdiv (s+1)+1)) H
inductive Dd
 | seat (h:Nat)
 | out (h:Nat)
 | rest
 | fin
 deriving DecidableEq
noncomputable def Dd.word:Dd->Str
 | .seat _=>"seat"
 | .out _=>"out"
 | .rest=>"rest"
 | .fin=>"end"
noncomputable def Dd.who:Dd->V
 | .seat h=>.int (h:Int)
 | .out h=>.int (h:Int)
 | .rest=>.non
 | .fin=>.non
noncomputable def at0 (su:List Rat) (x:Int):Rat:=su.getD x.toNat 0
noncomputable def Bc (xs:List Int) (m:Int):List Int:=xs.filter fun x=>bit m x.toNat
noncomputable def EH (su:List Rat) (zs:List Int):Int:=zs.foldl (fun b x=>if at0 su b < at0 su x then x else b) (zs.getD 0 0)
noncomputable def Gm (su:List Rat) (zs:List Int):Int:=zs.foldl (fun b x=>if at0 su b < at0 su x then b else x) (zs.getD 0 0)
noncomputable def Dq (xs:List Int) (su:List Rat) (m:Int) (pl:Nat) (q:Int):Dd :=
 if (hands 12 (bit m)).length<=pl then .rest else if pl=0 then .fin else
  if at0 su (EH su (Bc xs m)) < (q:Rat) then .out (Gm su (Bc xs m)).toNat else .seat (EH su (Bc xs m)).toNat
abbrev Lq:=List (List Int × Int)
noncomputable def Fv (wh:List Int) (x:Sr):List Rat:=if wh=[] then x.2++[x.1] else wh.foldl (fun r y=>r.set y.toNat (x.1 / (wh.length:Rat))) (x.2++[0])
noncomputable def AW (ds:Lq) (st:List Sr) (m:Int):List (List Rat):=(ds.zip st).map fun p=>Fv (A3 p.1.1 m) p.2
noncomputable def B3 (ds:Lq) (rs:List Rat):Rat:=((ds.zip rs).map fun p=>(p.1.2:Rat)*p.2).sum
noncomputable def B0 (ds:Lq) (rows:List (List Rat)) (h:Nat):List Rat:=(List.range (h+1)).map fun j=>B3 ds (rows.map fun r=>r.getD j 0)
noncomputable def AU (ds:Lq) (st:List Sr) (m:Int) (hd:Nat):List Rat:=(ds.zip st).map fun p=>AZ p.1.1 m hd p.2.1
noncomputable def BR (ds:Lq) (st:List Sr) (m:Int) (hd:Nat) (q:Int):List Sr:=(st.zip (AU ds st m hd)).map fun p=>Ia hd p.2 (DY (B3 ds (AU ds st m hd)) q) p.1
noncomputable def RE (ds:Lq) (st:List Sr) (m:Int) (q:Int):Dd->List Sr
 | .seat hd=>BR ds st m hd q
 | _=>st
abbrev Rnd:=List (List Rat) × List Rat × Dd
noncomputable def CN (ds:Lq) (h:Nat) (xs:List Int) (q:Int) (st:List Sr) (m:Int) (pl:Nat):Rnd :=
 (AW ds st m,B0 ds (AW ds st m) h,Dq xs (B0 ds (AW ds st m) h) m pl q)
noncomputable def A8 (ds:Lq) (h:Nat) (xs:List Int) (q:Int):Nat->List Sr->Int->Nat->List Rnd
 | 0,_,_,_=>[]
 | n+1,st,m,pl=>CN ds h xs q st m pl :: match (CN ds h xs q st m pl).2.2 with
   | .seat hd=>A8 ds h xs q n (BR ds st m hd q) (m - 2 ^ hd) (pl - 1)
   | .out hd=>A8 ds h xs q n st (m - 2 ^ hd) pl
   | _=>[]
noncomputable def Dt (n h:Nat):List Sr:=List.replicate n (1,List.replicate h 0)
noncomputable def AA (ds:Lq):Int:=(ds.map (·.2)).sum
noncomputable def AD (ds:Lq) (h:Nat) (xs:List Int) (s:Nat):List Rnd:=A8 ds h xs ((AA ds).fdiv ((s:Int)+1)+1) (h+1) (Dt ds.length h) (2 ^ h - 1) s
theorem MY (r s:Rat):((pr r).1*(pr s).2 < (pr s).1*(pr r).2)↔r < s:=by
 unfold pr
 exact (Rat.lt_iff r s).symm
theorem OY {r:Rat} (h:r<=1):(pr r).1<=(pr r).2:=by
 have:=(Rat.le_iff r 1).mp h
 show r.num<=(r.den:Int)
 have e1:(1:Rat).num=1:=rfl
 have e2:(1:Rat).den=1:=rfl
 rw [e1,e2] at this
 simpa using this
theorem QK:pr 0=(0,1):=rfl
theorem Sx:pr 1=(1,1):=rfl
theorem QU {t:Rat} {q:Int} (t0:0<=t) (q1:1<=q):Em (pr t) q=pr (DY t q):=by
 unfold Em DY
 have key:(q*(pr t).2 < (pr t).1*1)↔(q:Rat) < t:=MY (q:Rat) t
 by_cases c:(q:Rat) < t
 ·rw [if_pos c,if_pos (key.mpr c)]
  have b0:=Ci t
  have k:=key.mpr c
  have qb:0 < q*(pr t).2:=Int.mul_pos (by omega) b0
  rw [Kj (by omega) (by omega)]
  congr 1
  have hr:=E8 t
  have hb:=EM b0
  have hq:((pr t).1:Rat)≠0:=by
   intro z
   have:=Rat.intCast_inj.mp (show (((pr t).1:Int):Rat)=((0:Int):Rat) from z)
   omega
  unfold vq at hr
  rw [Rat.intCast_mul,Rat.intCast_mul,show ((1:Int):Rat)=1 from rfl]
  grind
 ·rw [if_neg c,if_neg (fun z=>c (key.mp z)),Sx]
theorem O5 {s p:Rat} (s0:0<=s) (p0:0<=p):Bk (pr s) (pr p)=pr (s*p):=by
 unfold Bk
 rw [Kj (Int.mul_nonneg (HF s0) (HF p0)) (Int.mul_pos (Ci s) (Ci p))]
 congr 1
 have h1:=E8 s
 have h2:=E8 p
 have b1:=EM (Ci s)
 have b2:=EM (Ci p)
 unfold vq at h1 h2
 rw [Rat.intCast_mul,Rat.intCast_mul]
 grind
theorem QG {f g:Rat} (h:g<=f):Fk (pr f) (pr g)=pr (f - g):=by
 unfold Fk
 have le:=(Rat.le_iff g f).mp h
 have le':(pr g).1*(pr f).2<=(pr f).1*(pr g).2:=le
 rw [Kj (by omega) (Int.mul_pos (Ci f) (Ci g))]
 congr 1
 have h1:=E8 f
 have h2:=E8 g
 have b1:=EM (Ci f)
 have b2:=EM (Ci g)
 unfold vq at h1 h2
 rw [Rat.intCast_sub,Rat.intCast_mul,Rat.intCast_mul,Rat.intCast_mul]
 grind
theorem Qe {ts:List Int} {s:Int} {hd:Nat} {r:Rat} (r0:0<=r) (hd12:hd < 12):Cl ts s hd (pr r)=pr (AZ ts s hd r):=by
 unfold Cl AZ
 by_cases c:bit (Co ts s) hd=true
 ·rw [if_pos c,if_pos c]
  exact Nl r0 (length_pos_of_mem (BM.mpr ⟨hd,hd12,c,rfl⟩:((hd:Nat):Int)∈A3 ts s))
 ·rw [if_neg c,if_neg c,QK]
theorem PF {r:Rat} {n:Nat} (r0:0<=r) (n1:1<=n):0<=r / (n:Rat)/\r / (n:Rat)<=r:=by
 have hn:(1:Rat)<=(n:Rat):=by
  have:=Rat.natCast_le_natCast.mpr n1
  exact this
 constructor
 ·rw [Rat.div_def]
  exact Rat.mul_nonneg r0 (Rat.le_of_lt (Rat.inv_pos.mpr (by grind)))
 ·rcases (Rat.le_total:r / (n:Rat)<=r\/r<=r / (n:Rat)) with h | h
  ·exact h
  ·have e:r / (n:Rat)*(n:Rat)=r:=Rat.div_mul_cancel (RM n1)
   have k:=Rat.mul_le_mul_of_nonneg_right hn (show 0<=r / (n:Rat) by grind)
   grind
theorem DC {ts:List Int} {s:Int} {hd:Nat} {r:Rat} (r0:0<=r) (hd12:hd < 12):0<=AZ ts s hd r/\AZ ts s hd r<=r:=by
 unfold AZ
 split
 ·rename_i c
  exact PF r0 (length_pos_of_mem (BM.mpr ⟨hd,hd12,c,rfl⟩:((hd:Nat):Int)∈A3 ts s))
 ·exact ⟨Rat.le_refl,r0⟩
theorem Jz {t:Rat} {q:Int} (q1:1<=q):0<=DY t q/\DY t q<=1:=by
 have hq:(1:Rat)<=(q:Rat):=by
  have:=Rat.intCast_le_intCast.mpr q1
  exact this
 unfold DY
 split
 ·rename_i c
  have t0:(0:Rat) < t:=by grind
  have e:(q:Rat) / t*t=(q:Rat):=Rat.div_mul_cancel (by grind)
  constructor
  ·rw [Rat.div_def]
   exact Rat.mul_nonneg (by grind) (Rat.le_of_lt (Rat.inv_pos.mpr t0))
  ·rcases (Rat.le_total:(q:Rat) / t<=1\/1<=(q:Rat) / t) with h | h
   ·exact h
   ·have k:=Rat.mul_le_mul_of_nonneg_right h (Rat.le_of_lt t0)
    grind
 ·exact ⟨by decide,Rat.le_refl⟩
theorem GY {s p:Rat} (s0:0<=s) (p1:p<=1) (p0:0<=p):0<=s*p/\s*p<=s:=by
 refine ⟨Rat.mul_nonneg s0 p0,?_⟩
 have:=Rat.mul_le_mul_of_nonneg_left p1 s0
 grind
theorem Q8 {x:Sr} {sh p:Rat} {hd:Nat} (s0:0<=sh) (sx:sh<=x.1) (p0:0<=p) (p1:p<=1):IZ hd (pr sh) (pr p) (Ee x)=Ee (Ia hd sh p x):=by
 have m:=GY s0 p1 p0
 unfold IZ Ee Ia
 rw [O5 s0 p0]
 show (Fk (pr x.1) (pr (sh*p)),(x.2.map pr).set hd (pr (sh*p)))=(pr (x.1 - sh*p),(x.2.set hd (sh*p)).map pr)
 rw [QG (by grind),map_set]
theorem SE {wh:List Int} {x:Sr} (x0:0<=x.1):Ky wh (pr x.1) (x.2.map pr)=(Fv wh x).map pr:=by
 unfold Ky Fv
 by_cases c:wh=[]
 ·rw [if_pos c,if_pos c,map_append]
  rfl
 ·rw [if_neg c,if_neg c]
  have n1:1<=wh.length:=length_pos_iff.mpr c
  rw [Nl x0 n1]
  have:∀(ys:List Int) (l:List Rat) (z:Rat),(ys.foldl (fun r y=>r.set y.toNat z) l).map pr=ys.foldl (fun r y=>r.set y.toNat (pr z)) (l.map pr):=by
   intro ys
   induction ys with
   | nil=>intro l z;rfl
   | cons y ys ih =>
     intro l z
     rw [foldl_cons,foldl_cons,ih,map_set]
  rw [this,map_append]
  rfl
theorem Nt (D:Int):∀{ls:Ls} {fs:List Fq} {rs:List Rat},fs.map (·.2)=rs.map pr->(∀z∈Da ls fs,z.2.1≠0->z.2.2 ∣ D)->((Ec (fun b=>D.fdiv b) (Da ls fs):Int):Rat)=(D:Rat)*B3 (Av ls) rs
 | [],fs,rs,_,_=>by
   show ((0:Int):Rat)=(D:Rat)*0
   rw [Rat.mul_zero]
   rfl
 | q :: r,fs,rs,e,hd=>by
   cases fs with
   | nil =>
     cases rs with
     | nil =>
       show ((0:Int):Rat)=(D:Rat)*0
       rw [Rat.mul_zero]
       rfl
     | cons a b=>cases e
   | cons f fs =>
     cases rs with
     | nil=>cases e
     | cons a b =>
       rw [map_cons,map_cons] at e
       injection e with e1 e2
       have ih:=Nt D (ls:=r) (fs:=fs) (rs:=b) e2 (fun z m=>hd z (mem_cons_of_mem _ m))
       show (((if f.2.1=0 then 0 else q.2.2.2*f.2.1*D.fdiv f.2.2)+Ec (fun b=>D.fdiv b) (Da r fs):Int):Rat)=(D:Rat)*((q.2.2.2:Rat)*a+B3 (Av r) b)
       rw [Rat.intCast_add,ih]
       have va:=E8 a
       have vb:=EM (Ci a)
       unfold vq at va
       have f1:f.2.1=(pr a).1:=congrArg Prod.fst e1
       have f2:f.2.2=(pr a).2:=congrArg Prod.snd e1
       have b0:=Ci a
       by_cases c:f.2.1=0
       ·rw [if_pos c]
        rw [<- f1,c] at va
        have:a=0:=by
         rw [<- va,Rat.div_def,show ((0:Int):Rat)=0 from rfl,Rat.zero_mul]
        rw [this,show ((0:Int):Rat)=0 from rfl]
        grind
       ·rw [if_neg c]
        obtain ⟨k,hk⟩:=hd (q.2.2.2,f.2.1,f.2.2) (mem_cons_self ..) c
        have hk':D=f.2.2*k:=hk
        have de:D.fdiv f.2.2=k:=by
         rw [Int.fdiv_eq_ediv_of_nonneg D (by omega),hk']
         exact Int.mul_ediv_cancel_left _ (by omega)
        rw [de,hk',Rat.intCast_mul,Rat.intCast_mul,Rat.intCast_mul,f1,f2]
        grind
theorem FQ:∀{ds:Lq} {rs:List Rat},(∀q∈ds,0<=q.2)->(∀r∈rs,0<=r)->0<=B3 ds rs
 | [],rs,_,_=>Rat.le_refl
 | q :: d,[],_,_=>Rat.le_refl
 | q :: d,r :: rs,h,k=>by
   have ih:=FQ (ds:=d) (rs:=rs) (fun x m=>h x (mem_cons_of_mem _ m)) (fun x m=>k x (mem_cons_of_mem _ m))
   show 0<=(q.2:Rat)*r+B3 d rs
   have:=Rat.mul_nonneg (Rat.intCast_nonneg.mpr (h q (mem_cons_self ..))) (k r (mem_cons_self ..))
   grind
theorem RG {M:Int} {ls:Ls} {fs:List Fq} {rs:List Rat} {v:Int × Int} (w:WM M ls fs v) (e:fs.map (·.2)=rs.map pr) (hn:∀q∈Av ls,0<=q.2) (hr:∀r∈rs,0<=r):v=pr (B3 (Av ls) rs):=by
 obtain ⟨⟨D,D0,Dd,ev⟩,_⟩:=w
 have k:=Nt D e Dd
 have nn:=FQ hn hr
 have d0:(0:Rat) < (D:Rat):=by
  have:=Rat.intCast_lt_intCast.mpr D0
  exact this
 have S0:0<=Ec (fun b=>D.fdiv b) (Da ls fs):=by
  apply Rat.intCast_nonneg.mp
  rw [k]
  exact Rat.mul_nonneg (Rat.le_of_lt d0) nn
 rw [ev,Kj S0 D0,k]
 congr 1
 grind
theorem Se {s:Int} {ls:Ls} {xs:List Sh} {st:List Sr} (e:xs.map shV=st.map Ee) (h0:∀x∈st,0<=x.1):JX s ls xs=(AW (Av ls) st s).map fun r=>r.map pr:=by
 rw [P5,e]
 unfold AW Av
 rw [zip_map_left,map_map,map_map]
 have:ls.zip (st.map Ee)=(ls.zip st).map (Prod.map id Ee):=by rw [zip_map_right]
 rw [this,map_map]
 refine map_congr_left fun p m=>?_
 obtain ⟨_,b⟩:=of_mem_zip m
 exact SE (h0 _ b)
theorem Ja {s:Int} {hd:Nat} {ls:Ls} {xs:List Sh} {st:List Sr} (hd12:hd < 12) (e:xs.map shV=st.map Ee) (h0:∀x∈st,0<=x.1):BA ls xs s hd=(AU (Av ls) st s hd).map pr:=by
 have k:BA ls xs s hd=(ls.zip (xs.map shV)).map fun p=>Cl p.1.2.2.1 s hd p.2.1:=by
  unfold BA
  rw [zip_map_right,map_map]
  rfl
 rw [k,e]
 unfold AU Av
 rw [zip_map_left,map_map,map_map]
 have:ls.zip (st.map Ee)=(ls.zip st).map (Prod.map id Ee):=by rw [zip_map_right]
 rw [this,map_map]
 refine map_congr_left fun p m=>?_
 obtain ⟨_,b⟩:=of_mem_zip m
 exact Qe (h0 _ b) hd12
theorem R5 {s q:Int} {hd:Nat} {ls:Ls} {xs:List Sh} {st:List Sr} (hd12:hd < 12) (q1:1<=q) (e:xs.map shV=st.map Ee) (h0:∀x∈st,0<=x.1) (hn:∀q∈Av ls,0<=q.2):(xs.zip (BA ls xs s hd)).map (fun p=>IZ hd p.2 (Em (pr (B3 (Av ls) (AU (Av ls) st s hd))) q) (shV p.1))=(BR (Av ls) st s hd q).map Ee:=by
 rw [Ja hd12 e h0]
 have k:∀(ss:List Rat) (f:Int × Int->Vs->Vs),(xs.zip (ss.map pr)).map (fun p=>f p.2 (shV p.1))=(st.zip ss).map fun p=>f (pr p.2) (Ee p.1):=fun ss f=>by
  have:(xs.zip (ss.map pr)).map (fun p=>f p.2 (shV p.1))=((xs.map shV).zip (ss.map pr)).map fun p=>f p.2 p.1:=by
   rw [zip_map_left,map_map]
   rfl
  rw [this,e,zip_map,map_map]
  rfl
 have sn:∀r∈AU (Av ls) st s hd,0<=r:=fun r m=>by
  obtain ⟨p,pm,rfl⟩:=mem_map.mp m
  exact (DC (h0 _ (of_mem_zip pm).2) hd12).1
 rw [k _ fun a b=>IZ hd a (Em (pr (B3 (Av ls) (AU (Av ls) st s hd))) q) b,QU (FQ hn sn) q1]
 unfold BR
 rw [map_map]
 have pn:=Jz (t:=B3 (Av ls) (AU (Av ls) st s hd)) q1
 generalize DY (B3 (Av ls) (AU (Av ls) st s hd)) q=part at pn ⊢
 refine map_congr_left fun p m=>?_
 obtain ⟨i,hi⟩:=mem_iff_getElem?.mp m
 obtain ⟨p1,p2⟩:=List.getElem?_zip_eq_some.mp hi
 unfold AU at p2
 rw [List.getElem?_map] at p2
 obtain ⟨z,hz,ez⟩:=Option.map_eq_some_iff.mp p2
 obtain ⟨z1,z2⟩:=List.getElem?_zip_eq_some.mp hz
 have zx:z.2=p.1:=Option.some.inj (z2.symm.trans p1)
 have sh:=DC (ts:=z.1.1) (s:=s) (h0 _ (mem_of_getElem? z2)) hd12
 rw [ez,zx] at sh
 exact Q8 sh.1 sh.2 pn.1 pn.2
structure StI (M:Int) (h:Nat) (st:List Sr):Prop where
 free:∀x∈st,0<=x.1/\x.1<=1/\Bh M x.1
 kept:∀x∈st,∀k∈x.2,0<=k/\k<=1/\Bh M k
 len:∀x∈st,x.2.length=h
theorem Jm {M:Int} {ts:List Int} {s:Int} {hd:Nat} {r:Rat} (i:Bh M r) (hd12:hd < 12):Bh (M*27720) (AZ ts s hd r):=by
 unfold AZ
 split
 ·rename_i c
  have n1:=length_pos_of_mem (BM.mpr ⟨hd,hd12,c,rfl⟩:((hd:Nat):Int)∈A3 ts s)
  obtain ⟨k,e⟩:=Kd n1 (D6 ..)
  rw [e]
  exact i.div n1
 ·exact Bh.zero _
theorem Gw {M:Int}:∀{ds:Lq} {rs:List Rat},(∀r∈rs,Bh M r)->Bh M (B3 ds rs)
 | [],rs,_=>Bh.zero _
 | q :: d,[],_=>Bh.zero _
 | q :: d,r :: rs,k=>Bh.add (Bh.times q.2 (k r (mem_cons_self ..))) (Gw (ds:=d) (rs:=rs) fun x m=>k x (mem_cons_of_mem _ m))
theorem StI.next {M c:Int} {h hd:Nat} {st:List Sr} {ds:Lq} {s q:Int} (i:StI M h st) (hd12:hd < 12) (q1:1<=q) (hc:(q:Rat) < B3 ds (AU ds st s hd)->c=(pr (B3 ds (AU ds st s hd))).1):StI (M*27720*c) h (BR ds st s hd q):=by
 have hq:(1:Rat)<=(q:Rat):=Rat.intCast_le_intCast.mpr q1
 generalize hT:B3 ds (AU ds st s hd)=T at hc
 have pn:=Jz (t:=T) q1
 have key:∀p∈st.zip (AU ds st s hd),p.1∈st/\0<=p.2/\p.2<=p.1.1/\Bh (M*27720) p.2:=fun p m=>by
  obtain ⟨j,hj⟩:=mem_iff_getElem?.mp m
  obtain ⟨p1,p2⟩:=List.getElem?_zip_eq_some.mp hj
  unfold AU at p2
  rw [List.getElem?_map] at p2
  obtain ⟨z,hz,ez⟩:=Option.map_eq_some_iff.mp p2
  obtain ⟨z1,z2⟩:=List.getElem?_zip_eq_some.mp hz
  have zx:z.2=p.1:=Option.some.inj (z2.symm.trans p1)
  have zm:=mem_of_getElem? p1
  obtain ⟨f0,f1,f2⟩:=i.free _ zm
  rw [<- ez,zx]
  exact ⟨zm,(DC f0 hd12).1,(DC f0 hd12).2,Jm f2 hd12⟩
 have giv:∀sh:Rat,Bh (M*27720) sh->Bh (M*27720*c) (sh*DY T q):=fun sh hs=>by
  unfold DY
  split
  ·rename_i cc
   rw [hc cc]
   obtain ⟨k,e⟩:=hs
   refine ⟨k*q*(pr T).2,?_⟩
   have hr:=E8 T
   have hb:=EM (Ci T)
   unfold vq at hr
   have hT0:T≠0:=by grind
   rw [Rat.intCast_mul,Rat.intCast_mul,Rat.intCast_mul]
   grind
  ·rw [Rat.mul_one]
   exact hs.more _
 have part:=pn
 generalize hP:DY T q=P at part giv
 have nx:BR ds st s hd q=(st.zip (AU ds st s hd)).map fun p=>Ia hd p.2 P p.1:=by
  unfold BR
  rw [hT,hP]
 rw [nx]
 have m2:∀r,Bh M r->Bh (M*27720*c) r:=fun r hr=>(hr.more _).more _
 refine ⟨fun x m=>?_,fun x m k km=>?_,fun x m=>?_⟩
 ·obtain ⟨p,pm,rfl⟩:=mem_map.mp m
  obtain ⟨a,b,c,d⟩:=key p pm
  obtain ⟨f0,f1,f2⟩:=i.free _ a
  have ml:=GY b part.2 part.1
  unfold Ia
  refine ⟨by show 0<=p.1.1 - p.2*P;grind,by show p.1.1 - p.2*P<=1;grind,Bh.sub (m2 _ f2) (giv _ d)⟩
 ·obtain ⟨p,pm,rfl⟩:=mem_map.mp m
  obtain ⟨a,b,c,d⟩:=key p pm
  obtain ⟨f0,f1,f2⟩:=i.free _ a
  have ml:=GY b part.2 part.1
  rcases mem_or_eq_of_mem_set (show k∈p.1.2.set hd (p.2*P) from km) with km | rfl
  ·obtain ⟨k0,k1,k2⟩:=i.kept _ a _ km
   exact ⟨k0,k1,m2 _ k2⟩
  ·exact ⟨ml.1,by grind,giv _ d⟩
 ·obtain ⟨p,pm,rfl⟩:=mem_map.mp m
  show (p.1.2.set hd (p.2*P)).length=h
  rw [length_set]
  exact i.len _ (key p pm).1
theorem Ml {M:Int} {r:Rat} (h0:0<=r) (h1:r<=1) (i:Bh M r):FqM M (pr r):=⟨HF h0,Ci r,OY h1,i.dvd⟩
theorem Jl {α:Type} {z:α}:∀{ys:List Int} {l:List α} {x:α},x∈ys.foldl (fun r y=>r.set y.toNat z) l->x∈l\/x=z
 | [],l,x,m=>.inl m
 | y :: ys,l,x,m=>by
   rw [foldl_cons] at m
   rcases Jl m with m | m
   ·exact mem_or_eq_of_mem_set m
   ·exact .inr m
theorem GR {M:Int} {h:Nat} {st:List Sr} {ds:Lq} {s:Int} (i:StI M h st):∀r∈AW ds st s,r.length=h+1/\∀z∈r,0<=z/\z<=1/\Bh (M*27720) z:=fun r m=>by
 obtain ⟨p,pm,rfl⟩:=mem_map.mp m
 have xm:=(of_mem_zip pm).2
 obtain ⟨f0,f1,f2⟩:=i.free _ xm
 have n12:(A3 p.1.1 s).length<=12:=D6 ..
 unfold Fv
 split
 ·refine ⟨by rw [length_append,i.len _ xm];rfl,fun z zm=>?_⟩
  rcases mem_append.mp zm with zm | zm
  ·obtain ⟨a,b,c⟩:=i.kept _ xm _ zm
   exact ⟨a,b,c.more _⟩
  ·rw [mem_singleton.mp zm]
   exact ⟨f0,f1,f2.more _⟩
 ·rename_i c
  have n1:1<=(A3 p.1.1 s).length:=length_pos_iff.mpr c
  refine ⟨by rw [Gk,length_append,i.len _ xm];rfl,fun z zm=>?_⟩
  rcases Jl zm with zm | rfl
  ·rcases mem_append.mp zm with zm | zm
   ·obtain ⟨a,b,c⟩:=i.kept _ xm _ zm
    exact ⟨a,b,c.more _⟩
   ·rw [mem_singleton.mp zm]
    exact ⟨Rat.le_refl,by decide,Bh.zero _⟩
  ·obtain ⟨a,b⟩:=PF f0 n1
   obtain ⟨k,e⟩:=Kd n1 n12
   exact ⟨a,by grind,by rw [e];exact f2.div n1⟩
theorem Lb (n h:Nat):StI 1 h (Dt n h):=by
 refine ⟨fun x m=>?_,fun x m k km=>?_,fun x m=>?_⟩
 ·rw [eq_of_mem_replicate m]
  exact ⟨(by decide:(0:Rat)<=1),Rat.le_refl,Bh.one _⟩
 ·rw [eq_of_mem_replicate m] at km
  rw [eq_of_mem_replicate km]
  exact ⟨Rat.le_refl,by decide,Bh.zero _⟩
 ·rw [eq_of_mem_replicate m]
  exact length_replicate ..
theorem L4 {su:List Rat} {zs:List Int} (h:zs≠[]):EH su zs∈zs:=by
 unfold EH
 have:∀(ys:List Int) (b:Int),b∈zs->(∀y∈ys,y∈zs)->ys.foldl (fun b x=>if at0 su b < at0 su x then x else b) b∈zs:=by
  intro ys
  induction ys with
  | nil=>intro b hb _;exact hb
  | cons y ys ih =>
    intro b hb hy
    rw [foldl_cons]
    refine ih _ ?_ (fun z m=>hy z (mem_cons_of_mem _ m))
    split
    ·exact hy y (mem_cons_self ..)
    ·exact hb
 refine this zs _ ?_ (fun _ m=>m)
 cases zs with
 | nil=>exact absurd rfl h
 | cons a b=>exact mem_cons_self ..
theorem Jq {su:List Rat} {zs:List Int} (h:zs≠[]):Gm su zs∈zs:=by
 unfold Gm
 have:∀(ys:List Int) (b:Int),b∈zs->(∀y∈ys,y∈zs)->ys.foldl (fun b x=>if at0 su b < at0 su x then b else x) b∈zs:=by
  intro ys
  induction ys with
  | nil=>intro b hb _;exact hb
  | cons y ys ih =>
    intro b hb hy
    rw [foldl_cons]
    refine ih _ ?_ (fun z m=>hy z (mem_cons_of_mem _ m))
    split
    ·exact hb
    ·exact hy y (mem_cons_self ..)
 refine this zs _ ?_ (fun _ m=>m)
 cases zs with
 | nil=>exact absurd rfl h
 | cons a b=>exact mem_cons_self ..
noncomputable def mB:Nat->Nat
 | 0=>1
 | k+1=>2*mB k+70
theorem RI:∀{k:Nat},k<=5->mB k<=2210:=fun {k} h=>by
 rcases (by omega:k=0\/k=1\/k=2\/k=3\/k=4\/k=5) with rfl | rfl | rfl | rfl | rfl | rfl <;> decide
theorem OO:∀{k:Nat},k<=6->mB k<=4480:=fun {k} h=>by
 rcases (by omega:k<=5\/k=6) with h | rfl
 ·exact Nat.le_trans (RI h) (by decide)
 ·decide
theorem EO:∀{ds:Lq} {rs:List Rat},(∀q∈ds,0<=q.2)->(∀r∈rs,0<=r/\r<=1)->B3 ds rs<=((AA ds:Int):Rat)
 | [],rs,_,_=>Rat.le_refl
 | q :: d,[],h,_=>by
   show (0:Rat)<=((q.2+AA d:Int):Rat)
   have ih:=EO (ds:=d) (rs:=[]) (fun x m=>h x (mem_cons_of_mem _ m)) (fun _ m=>absurd m List.not_mem_nil)
   have e:B3 d []=0:=by unfold B3;rw [zip_nil_right];rfl
   rw [e] at ih
   have k:(0:Rat)<=(q.2:Rat):=Rat.intCast_nonneg.mpr (h q (mem_cons_self ..))
   rw [Rat.intCast_add]
   grind
 | q :: d,r :: rs,h,k=>by
   have ih:=EO (ds:=d) (rs:=rs) (fun x m=>h x (mem_cons_of_mem _ m)) (fun x m=>k x (mem_cons_of_mem _ m))
   show (q.2:Rat)*r+B3 d rs<=((q.2+AA d:Int):Rat)
   have n0:(0:Rat)<=(q.2:Rat):=Rat.intCast_nonneg.mpr (h q (mem_cons_self ..))
   have:=Rat.mul_le_mul_of_nonneg_left (k r (mem_cons_self ..)).2 n0
   rw [Rat.intCast_add]
   grind
theorem Qy {t:Rat} {n:Int} (h:t<=(n:Rat)):(pr t).1<=n*(pr t).2:=by
 have:=(Rat.le_iff t (n:Rat)).mp h
 have e1:((n:Int):Rat).num=n:=rfl
 have e2:((n:Int):Rat).den=1:=rfl
 rw [e1,e2] at this
 show t.num<=n*(t.den:Int)
 simpa using this
theorem StI.step {M:Int} {h hd k:Nat} {st:List Sr} {ds:Lq} {s q:Int} (i:StI M h st) (M0:0 < M) (Mz:Sz (mB k) M) (hd12:hd < 12) (q1:1<=q) (hn:∀p∈ds,0<=p.2) (N:AA ds < 2 ^ 40):∃M',0 < M'/\Sz (mB (k+1)) M'/\StI M' h (BR ds st s hd q):=by
 have hq:(1:Rat)<=(q:Rat):=Rat.intCast_le_intCast.mpr q1
 have sh:∀r∈AU ds st s hd,0<=r/\r<=1/\Bh (M*27720) r:=fun r m=>by
  obtain ⟨p,pm,rfl⟩:=mem_map.mp m
  obtain ⟨f0,f1,f2⟩:=i.free _ (of_mem_zip pm).2
  have:=DC (ts:=p.1.1) (s:=s) f0 hd12
  exact ⟨this.1,by grind,Jm f2 hd12⟩
 have le:=EO hn (fun r m=>⟨(sh r m).1,(sh r m).2.1⟩)
 have iT:Bh (M*27720) (B3 ds (AU ds st s hd)):=Gw fun r m=>(sh r m).2.2
 have nx:=fun c hc=>StI.next (c:=c) (hd:=hd) (ds:=ds) (s:=s) (q:=q) i hd12 q1 hc
 generalize B3 ds (AU ds st s hd)=T at le iT nx
 have Mz1:Sz (mB k+15) (M*27720):=Mz.mul (Bz (by decide) (by decide):Sz 15 (27720:Int))
 have M1:0 < M*27720:=by omega
 by_cases c:(q:Rat) < T
 ·have t0:(0:Rat) < T:=by grind
  have n0:0 < (pr T).1:=by
   have z:=(Rat.lt_iff 0 T).mp t0
   have e1:(0:Rat).num=0:=rfl
   have e2:(0:Rat).den=1:=rfl
   rw [e1,e2] at z
   show 0 < T.num
   simpa using z
  refine ⟨M*27720*(pr T).1,Int.mul_pos M1 n0,?_,nx _ fun _=>rfl⟩
  have nl:=Qy le
  have bz:Sz (mB k+15) (pr T).2:=Es iT.dvd M1 Mz1
  have tz:Sz (40+(mB k+15)) (pr T).1:=by
   have b0:=Ci T
   have n00:0<=AA ds:=by
    rcases (by omega:0<=AA ds\/AA ds < 0) with z | z
    ·exact z
    ·have:=Int.mul_neg_of_neg_of_pos z b0
     omega
   have nz:Sz 40 (AA ds):=Bz (by omega) (by exact_mod_cast N)
   have:=nz.mul bz
   unfold Sz at *
   generalize 2 ^ (40+(mB k+15))=X at *
   omega
  exact (Mz1.mul tz).mono (by show _<=2*mB k+70;omega)
 ·refine ⟨M*27720*1,by omega,?_,nx 1 fun z=>absurd z c⟩
  rw [Int.mul_one]
  exact Mz1.mono (by show _<=2*mB k+70;omega)
theorem HY {xs:List Int} {su:List Rat} {m q:Int} {pl hd:Nat} (hx:∀x∈xs,0<=x) (hb:∀j,bit m j=true->(j:Int)∈xs) (h:Dq xs su m pl q=.seat hd\/Dq xs su m pl q=.out hd):bit m hd=true/\1<=pl:=by
 unfold Dq at h
 by_cases c1:(hands 12 (bit m)).length<=pl
 ·rw [if_pos c1] at h
  rcases h with h | h <;> cases h
 rw [if_neg c1] at h
 by_cases c2:pl=0
 ·rw [if_pos c2] at h
  rcases h with h | h <;> cases h
 rw [if_neg c2] at h
 have ne:Bc xs m≠[]:=fun e=>by
  have:hands 12 (bit m)≠[]:=fun z=>by rw [z] at c1;exact c1 (Nat.zero_le _)
  obtain ⟨z,zm⟩:=exists_mem_of_ne_nil _ this
  obtain ⟨j,j12,bj,rfl⟩:=BM.mp zm
  have:(j:Int)∈Bc xs m:=mem_filter.mpr ⟨hb j bj,by rw [Int.toNat_natCast];exact bj⟩
  rw [e] at this
  exact nomatch this
 have bm:=mem_filter.mp (L4 (su:=su) ne)
 have wm:=mem_filter.mp (Jq (su:=su) ne)
 refine ⟨?_,by omega⟩
 split at h
 ·rcases h with h | h
  ·cases h
  ·injection h with e
   rw [<- e]
   exact wm.2
 ·rcases h with h | h
  ·injection h with e
   rw [<- e]
   exact bm.2
  ·cases h
theorem DF {m:Int} (m0:0<=m) {hd:Nat} (b:bit m hd=true) (hd12:hd < 12):0<=m - 2 ^ hd/\(∀j,bit (m - 2 ^ hd) j=(bit m j && decide (j≠hd)))/\(hands 12 (bit (m - 2 ^ hd))).length < (hands 12 (bit m)).length:=by
 have k:=fun j=>Oz m0 hd j
 rw [if_pos b,Int.mul_one] at k
 refine ⟨(k 0).1,fun j=>(k j).2,?_⟩
 have sub:∀n,(hands n (bit (m - 2 ^ hd))).length+(if hd < n then 1 else 0)=(hands n (bit m)).length:=by
  intro n
  induction n with
  | zero=>rfl
  | succ n ih =>
    rw [Ey,Ey,(k n).2]
    by_cases e:n=hd
    ·subst e
     rw [b,decide_eq_false (fun z=>z rfl),if_pos (show n < n+1 by omega)]
     rw [if_neg (by omega)] at ih
     rw [if_neg (by decide),if_pos rfl,length_append]
     show _=_+1
     omega
    ·rw [decide_eq_true e,Bool.and_true]
     have hl:(if hd < n+1 then 1 else 0)=(if hd < n then 1 else 0):=by
      by_cases c:hd < n
      ·rw [if_pos c,if_pos (by omega)]
      ·rw [if_neg c,if_neg (by omega)]
     rw [hl]
     split
     ·rw [length_append,length_append];omega
     ·exact ih
 have:=sub 12
 rw [if_pos hd12] at this
 omega
theorem Ig {h:Nat} (h12:h<=12):(hands 12 (bit ((2:Int) ^ h - 1))).length=h:=by
 rcases (by omega:h=0\/h=1\/h=2\/h=3\/h=4\/h=5\/h=6\/h=7\/h=8\/h=9\/h=10\/h=11\/h=12) with rfl | rfl | rfl | rfl | rfl | rfl | rfl | rfl | rfl | rfl | rfl | rfl | rfl <;> decide
theorem QB {M:Int} {h:Nat} {st:List Sr} {ds:Lq} {m:Int} (si:StI M h st) (M0:0 < M) (Mz:Sz 4480 M) (hn:∀p∈ds,0<=p.2) (N:AA ds < 2 ^ 40):∀v∈B0 ds (AW ds st m) h,0<=v/\Sz 4700 (pr v).1/\Sz 4700 (pr v).2:=fun v k=>by
 obtain ⟨j,_,rfl⟩:=mem_map.mp k
 have col:∀r∈(AW ds st m).map fun r=>r.getD j 0,0<=r/\r<=1/\Bh (M*27720) r:=fun r k=>by
  obtain ⟨y,ym,rfl⟩:=mem_map.mp k
  obtain ⟨yl,yz⟩:=GR (ds:=ds) (s:=m) si y ym
  rw [getD_eq_getElem?_getD]
  cases e:y[j]? with
  | none=>exact ⟨Rat.le_refl,by decide,Bh.zero _⟩
  | some z=>exact yz z (mem_of_getElem? e)
 have nn:=FQ hn (fun r k=>(col r k).1)
 have le:=EO hn (fun r k=>⟨(col r k).1,(col r k).2.1⟩)
 have iT:Bh (M*27720) (B3 ds ((AW ds st m).map fun r=>r.getD j 0)):=Gw fun r m=>(col r m).2.2
 generalize B3 ds ((AW ds st m).map fun r=>r.getD j 0)=T at nn le iT ⊢
 have M1:0 < M*27720:=by omega
 have Mz1:Sz 4500 (M*27720):=(Mz.mul (Bz (by decide) (by decide):Sz 15 (27720:Int))).mono (by decide)
 have bz:Sz 4500 (pr T).2:=Es iT.dvd M1 Mz1
 have nl:=Qy le
 have b0:=Ci T
 have t0:=HF nn
 have n00:0<=AA ds:=by
  rcases (by omega:0<=AA ds\/AA ds < 0) with z | z
  ·exact z
  ·have:=Int.mul_neg_of_neg_of_pos z b0
   omega
 have nz:Sz 40 (AA ds):=Bz (by omega) (by exact_mod_cast N)
 have tz:Sz (40+4500) (pr T).1:=by
  have:=nz.mul bz
  unfold Sz at *
  generalize 2 ^ (40+4500)=X at *
  omega
 exact ⟨nn,tz.mono (by decide),bz.mono (by decide)⟩
structure SuG (H:Hp) (l:Addr) (fs:List Fq) (su:List Rat):Prop where
 l:H l=some (.lst (fqv fs))
 g:∀f∈fs,FqG H f
 v:fs.map (·.2)=su.map pr
 z:∀r∈su,Sz 9000 (pr r).1/\Sz 9000 (pr r).2
theorem SuG.same {H H':Hp} {l:Addr} {fs:List Fq} {su:List Rat} (s:Au H H') (g:SuG H l fs su):SuG H' l fs su:=⟨s _ _ g.l,fun f m=>(g.g f m).same s,g.v,g.z⟩
theorem SuG.len {H:Hp} {l:Addr} {fs:List Fq} {su:List Rat} (g:SuG H l fs su):fs.length=su.length:=by
 have:=congrArg List.length g.v
 rw [length_map,length_map] at this
 exact this
theorem SuG.at {H:Hp} {l:Addr} {fs:List Fq} {su:List Rat} (g:SuG H l fs su) {x:Int} (x0:0<=x) (x1:x.toNat < su.length):∃a,atI (fqv fs) x=some (.ref a)/\FqG H (a,pr (at0 su x))/\Sz 9000 (pr (at0 su x)).1/\Sz 9000 (pr (at0 su x)).2:=by
 obtain ⟨j,rfl⟩:∃j:Nat,x=(j:Int):=⟨x.toNat,by omega⟩
 rw [Int.toNat_natCast] at x1
 obtain ⟨f,hf⟩:∃f,fs[j]?=some f:=⟨_,List.getElem?_eq_getElem (by rw [g.len];exact x1)⟩
 have e:(fs.map (·.2))[j]?=(su.map pr)[j]?:=by rw [g.v]
 rw [List.getElem?_map,List.getElem?_map,hf,List.getElem?_eq_getElem x1] at e
 have e2:f.2=pr su[j]:=Option.some.inj e
 have e3:at0 su (j:Int)=su[j]:=by
  unfold at0
  rw [Int.toNat_natCast,getD_eq_getElem?_getD,List.getElem?_eq_getElem x1]
  rfl
 rw [e3]
 refine ⟨f.1,Ip hf,?_,g.z _ (getElem_mem x1)⟩
 rw [<- e2]
 exact g.g f (mem_of_getElem? hf)
def TZ (C:Addr):Sp:=fun vs H Q _=>∃(a:Addr) (h s:Int) (xs:List Int) (m:Int),vs=[.ref a,.int m]/\IsS C H a h s xs/\(∀x∈xs,0<=x)/\xs.length<=12/\∀(l:Addr) (H':Hp),Au H H'->H' l=some (.lst ((Bc xs m).map V.int))->Q (.ref l) H'
def Pw (C:Addr) (f:List Rat->List Int->Int):Sp:=fun vs H Q _=>∃(a l:Addr) (h s:Int) (xs:List Int) (m:Int) (fs:List Fq) (su:List Rat),vs=[.ref a,.ref l,.int m]/\IsS C H a h s xs/\SuG H l fs su/\(∀x∈xs,0<=x/\x.toNat < su.length)/\xs.length<=12/\Bc xs m≠[]/\∀H',Au H H'->Q (.int (f su (Bc xs m))) H'
def Ra (C:Addr):Sp:=fun vs H Q _=>∃(a l:Addr) (h s:Int) (xs:List Int) (m q:Int) (pl:Nat) (fs:List Fq) (su:List Rat),vs=[.ref a,.ref l,.int m,.int (pl:Int),.int q]/\IsS C H a h s xs/\SuG H l fs su/\(∀x∈xs,0<=x/\x.toNat < su.length)/\xs.length<=12/\0<=m/\m < 4096/\(∀j,bit m j=true->(j:Int)∈xs)/\Sz 64 q /\
 ∀(t:Addr) (H':Hp),H t=none->Au H H'->H' t=some (.tup [.str (Dq xs su m pl q).word,(Dq xs su m pl q).who])->Q (.ref t) H'
abbrev Rq:=Addr × (Addr × List Rw) × (Addr × List Fq) × (Addr × Dd)
noncomputable def rqs (ps:List Rq):List V:=ps.map fun r=>.ref r.1
structure RqG (H:Hp) (r:Rq):Prop where
 t:H r.1=some (.tup [.ref r.2.1.1,.ref r.2.2.1.1,.ref r.2.2.2.1])
 rl:H r.2.1.1=some (.lst (rwv r.2.1.2))
 rg:∀x∈r.2.1.2,RwG H x
 sl:H r.2.2.1.1=some (.lst (fqv r.2.2.1.2))
 sg:∀f∈r.2.2.1.2,FqG H f
 d:H r.2.2.2.1=some (.tup [.str r.2.2.2.2.word,r.2.2.2.2.who])
theorem RqG.same {H H':Hp} {r:Rq} (s:Au H H') (g:RqG H r):RqG H' r:=⟨s _ _ g.t,s _ _ g.rl,fun x m=>(g.rg x m).same s,s _ _ g.sl,fun f m=>(g.sg f m).same s,s _ _ g.d⟩
abbrev Rv:=List (List (Int × Int)) × List (Int × Int) × Dd
noncomputable def rqV (r:Rq):Rv:=(r.2.1.2.map fun x=>x.2.map (·.2),r.2.2.1.2.map (·.2),r.2.2.2.2)
noncomputable def BG (x:Rnd):Rv:=(x.1.map fun r=>r.map pr,x.2.1.map pr,x.2.2)
theorem KY:∀(σ:St) (H:Hp) (Q Q':Bool->Hp->Prop),(∀b H1,Q b H1->Q' b H1)->tB (tC (V.bl true)) σ H Q->tB (tC (V.bl true)) σ H Q':=fun _ _ _ _ f ⟨c,e,q⟩=>⟨c,e,f _ _ q⟩
def N3 (p:Addr) (r:Rq):Prop:=r.2.1.1≠p/\r.2.2.1.1≠p/\∀x∈r.2.1.2,x.1≠p
theorem RqG.upd {H:Hp} {r:Rq} {p:Addr} {ys:List V} {o:HO} (g:RqG H r) (e:H p=some (.lst ys)) (n:N3 p r):RqG (L2.upd H p o) r:=by
 have tup:∀c cs,H c=some (.tup cs)->(L2.upd H p o) c=some (.tup cs):=fun c cs ec=>by rw [Al (Cw ec e (fun z=>by cases z))];exact ec
 refine ⟨tup _ _ g.t,by rw [Al n.1];exact g.rl,fun x m=>⟨by rw [Al (n.2.2 x m)];exact (g.rg x m).1,fun f fm=>tup _ _ ((g.rg x m).2 f fm)⟩,by rw [Al n.2.1];exact g.sl,fun f m=>tup _ _ (g.sg f m),tup _ _ g.d⟩
def Ms:Sp:=fun vs H Q _=>∃(l st dt:Addr) (h:Nat) (ls:Ls) (xs:List Sh) (rs:List Sr) (s q M:Int) (d:Dd),vs=[.ref l,.ref st,.int s,.ref dt,.int q]/\H dt=some (.tup [.str d.word,d.who])/\(∀hd,d=.seat hd->hd < h/\Sz 2210 M)/\H l=some (.lst (vls ls))/\BH H ls/\H st=some (.lst (shv xs))/\(∀x∈xs,ShG H x)/\xs.map shV=rs.map Ee/\StI M h rs/\0 < M/\ls.length=xs.length/\ls.length<=60/\h<=12/\1<=q/\Sz 64 q/\(∀p∈ls,Qm h s p.2.2.1/\0<=p.2.2.2/\Sz 64 p.2.2.2) /\
 ∀(a:Addr) (ys:List Sh) (H':Hp),Au H H'->H' a=some (.lst (shv ys))->(∀y∈ys,ShG H' y/\(H y.2.2.1=none\/∃x∈xs,x.2.2.1=y.2.2.1))->(H a=none\/a=st)->ys.map shV=(RE (Av ls) rs s q d).map Ee->Q (.ref a) H'
def Oc (C:Addr):Sp:=fun vs H Q _=>∃(a l:Addr) (h s:Nat) (xs:List Int) (ls:Ls),vs=[.ref a,.ref l]/\IsS C H a (h:Int) (s:Int) xs/\1<=h/\h<=12/\1<=s/\s<=6/\xs.Perm (ups h)/\H l=some (.lst (vls ls))/\BH H ls/\(∀q∈ls,OkT h q.2.2.1/\0<=q.2.2.2/\Sz 64 q.2.2.2)/\ls.length<=60/\AA (Av ls) < 2 ^ 40 /\
 ∀(p:Addr) (ps:List Rq) (H':Hp),H p=none->Au H H'->H' p=some (.lst (rqs ps))->(∀r∈ps,RqG H' r)->ps.map rqV=(AD (Av ls) h xs s).map BG->Q (.ref p) H'
theorem Sn {z:Int} {zs:List Int}:inV (V.int z) (zs.map V.int)=decide (z∈zs):=by
 unfold inV
 rw [any_map]
 by_cases c:z∈zs
 ·rw [decide_eq_true c]
  exact any_eq_true.mpr ⟨z,c,by simp [eqV]⟩
 ·rw [decide_eq_false c]
  refine Bool.eq_false_iff.mpr fun e=>c ?_
  obtain ⟨y,my,ey⟩:=any_eq_true.mp e
  have:y=z:=by simpa [eqV] using ey
  rw [<- this];exact my
noncomputable def ddD (w:Str) (x:PyData):PyData:=.tuple [.str w,x]
noncomputable def Dd.data:Dd->PyData
 | .seat h=>.int (h:Int)
 | .out h=>.int (h:Int)
 | .rest=>.none
 | .fin=>.none
theorem O8 {K:PySem.W.Frag} {H:Hp} {a:Addr} {d:Dd} (e:H a=some (.tup [.str d.word,d.who])):Rep K H (.ref a) (ddD d.word d.data):=by
 refine .tup (SqT.of e) (.cons (.str _) (.cons ?_ .nil))
 cases d
 ·exact .int _
 ·exact .int _
 ·exact .non
 ·exact .non
theorem FU {w:Str} {x:PyData} (h:PyData.strOk w=true) (hx:x.canLay0=true/\x.depth=0):SeqAt.shaped (ddD w x)=true:=by
 unfold SeqAt.shaped
 rw [Bool.and_eq_true]
 refine ⟨?_,decide_eq_true ?_⟩
 ·show (PyData.strOk w && (x.canLay0 && true))=true
  rw [h,hx.1]
  rfl
 ·show max 0 (max x.depth 0)+1<=64
  rw [hx.2]
  decide
theorem Lj (d:Dd):SeqAt.shaped (ddD d.word d.data)=true:=by
 cases d
 ·exact FU (w:="seat") (by decide +kernel) ⟨rfl,rfl⟩
 ·exact FU (w:="out") (by decide +kernel) ⟨rfl,rfl⟩
 ·exact FU (w:="rest") (by decide +kernel) ⟨rfl,rfl⟩
 ·exact FU (w:="end") (by decide +kernel) ⟨rfl,rfl⟩
noncomputable def Dd.seatOf:Dd->Option Nat
 | .seat h=>some h
 | _=>none
noncomputable def Bu (ds:List Dd):List Nat:=ds.filterMap Dd.seatOf
noncomputable def Et (ds:List Dd) (j:Nat):Bool:=ds.any fun d=>decide (d=.seat j) || decide (d=.out j)
noncomputable def Ev (h:Nat) (ds:List Dd):List Nat:=(List.range h).filter fun j=>!Et ds j
noncomputable def Bl (h:Nat) (ds:List Dd):List Nat:=Bu ds++(if ds.getLast?=some .rest then Ev h ds else [])
noncomputable def ES (h:Nat) (ds:List Dd):List Int:=(List.range h).map fun j=>if j∈Bl h ds then 1 else 0
noncomputable def Eo (ns:List Nat):List V:=ns.map fun j:Nat=>V.int (j:Int)
theorem S5 {j:Nat} {ns:List Nat}:inV (V.int (j:Int)) (Eo ns)=decide (j∈ns):=by
 have e:Eo ns=(ns.map fun i:Nat=>(i:Int)).map V.int:=by unfold Eo;rw [map_map];rfl
 rw [e,Sn]
 refine decide_eq_decide.mpr ⟨fun m=>?_,fun m=>mem_map.mpr ⟨j,m,rfl⟩⟩
 obtain ⟨i,im,z⟩:=mem_map.mp m
 have:i=j:=by omega
 rw [<- this]
 exact im
theorem OR (ns:List Nat):(Eo ns).all Fj=true:=all_eq_true.mpr fun x m=>by
 obtain ⟨j,_,rfl⟩:=mem_map.mp m
 rfl
theorem Pm {j:Nat}:∀{ds:List Dd},inV (V.int (j:Int)) (ds.map Dd.who)=Et ds j
 | []=>rfl
 | d :: ds=>by
   show (eqV d.who (V.int (j:Int)) || inV (V.int (j:Int)) (ds.map Dd.who))=((decide (d=.seat j) || decide (d=.out j)) || Et ds j)
   rw [Pm]
   congr 1
   cases d with
   | seat g =>
     show ((g:Int) == (j:Int))=_
     by_cases c:g=j
     ·subst c;rw [decide_eq_true rfl,Bool.true_or];exact beq_self_eq_true _
     ·rw [decide_eq_false (fun e=>c (by injection e)),decide_eq_false (fun e=>nomatch e)]
      exact beq_eq_false_iff_ne.mpr (by omega)
   | out g =>
     show ((g:Int) == (j:Int))=_
     by_cases c:g=j
     ·subst c;rw [decide_eq_true rfl,Bool.or_true];exact beq_self_eq_true _
     ·rw [decide_eq_false (show ¬ Dd.out g=.out j from fun e=>c (by injection e)),decide_eq_false (fun e=>nomatch e)]
      exact beq_eq_false_iff_ne.mpr (by omega)
   | rest=>rw [decide_eq_false (fun e=>nomatch e),decide_eq_false (fun e=>nomatch e)];rfl
   | fin=>rw [decide_eq_false (fun e=>nomatch e),decide_eq_false (fun e=>nomatch e)];rfl
theorem Pi (ds:List Dd):(ds.map Dd.who).all Fj=true:=all_eq_true.mpr fun x m=>by
 obtain ⟨d,_,rfl⟩:=mem_map.mp m
 cases d <;> rfl
theorem R7 (d:Dd):PyData.eqv (ddD d.word d.data) (ddD "rest" .none)=decide (d=.rest):=by
 cases d with
 | rest =>
   rw [decide_eq_true rfl]
   show ((("rest":Str) == "rest") && (true && true))=true
   rw [show (("rest":Str) == "rest")=true from by decide +kernel]
   rfl
 | seat g =>
   rw [decide_eq_false (fun e=>nomatch e)]
   show ((("seat":Str) == "rest") && (false && true))=false
   rw [show (("seat":Str) == "rest")=false from by decide +kernel,Bool.false_and]
 | out g =>
   rw [decide_eq_false (fun e=>nomatch e)]
   show ((("out":Str) == "rest") && (false && true))=false
   rw [show (("out":Str) == "rest")=false from by decide +kernel,Bool.false_and]
 | fin =>
   rw [decide_eq_false (fun e=>nomatch e)]
   show ((("end":Str) == "rest") && (true && true))=false
   rw [show (("end":Str) == "rest")=false from by decide +kernel,Bool.false_and]
noncomputable def BV (ps:List Rq):List Dd:=ps.map fun r=>r.2.2.2.2
def S7 (C:Addr):Sp:=fun vs H Q _=>∃(a p:Addr) (h:Nat) (s:Int) (xs:List Int) (ps:List Rq),vs=[.ref a,.ref p]/\IsS C H a (h:Int) s xs/\h<=12/\H p=some (.lst (rqs ps))/\(∀r∈ps,RqG H r)/\ps≠[]/\ps.length<=900/\∀(l:Addr) (H':Hp),H l=none->Au H H'->H' l=some (.lst ((ES h (BV ps)).map V.int))->Q (.ref l) H'
def Lm (C:Addr):Sp:=fun vs H Q _=>∃(a l:Addr) (h s:Nat) (xs:List Int) (ls:Ls),vs=[.ref a,.ref l]/\IsS C H a (h:Int) (s:Int) xs/\1<=h/\h<=12/\1<=s/\s<=6/\xs.Perm (ups h)/\H l=some (.lst (vls ls))/\BH H ls/\(∀q∈ls,OkT h q.2.2.1/\0<=q.2.2.2/\Sz 64 q.2.2.2)/\ls.length<=60/\AA (Av ls) < 2 ^ 40 /\
 ∀(o:Addr) (H':Hp),H o=none->Au H H'->H' o=some (.lst ((ES h ((AD (Av ls) h xs s).map fun r=>r.2.2)).map V.int))->Q (.ref o) H'
theorem Cs (ds:Lq) (h:Nat) (xs:List Int) (q:Int):∀(n:Nat) (st:List Sr) (m:Int) (pl:Nat),(A8 ds h xs q n st m pl).length<=n/\(1<=n->A8 ds h xs q n st m pl≠[])
 | 0,_,_,_=>⟨Nat.le_refl _,fun z=>absurd z (by decide)⟩
 | n+1,st,m,pl=>by
   refine ⟨?_,fun _ z=>by unfold A8 at z;cases z⟩
   unfold A8
   rw [length_cons]
   refine Nat.succ_le_succ ?_
   split
   ·exact (Cs ds h xs q n _ _ _).1
   ·exact (Cs ds h xs q n _ _ _).1
   ·exact Nat.zero_le _
theorem Rp (j:Nat):bit 0 j=false:=Eb (Int.le_refl _) (Int.pow_pos (by decide))
theorem QZ {h:Nat} {t s:Int} (t0:0<=t) (t1:t < 2 ^ h) {j:Nat} (hj:j < h):bit (Builtin.bitAnd t s) j=(bit t j && bit s j):=by
 rw [JR h t0 t1,HG,Ge,decide_eq_true hj,Bool.true_and,Ge,decide_eq_true hj,Bool.true_and]
noncomputable def CC (ds:Lq) (f:List Int->Rat):Rat:=(ds.map fun p=>(p.2:Rat)*f p.1).sum
theorem FR {α β γ:Type} (g:α->β) (F:α × β->γ):∀l:List α,(l.zip (l.map g)).map F=l.map fun p=>F (p,g p)
 | []=>rfl
 | x :: l=>by
   show F (x,g x) :: (l.zip (l.map g)).map F=F (x,g x) :: l.map fun p=>F (p,g p)
   rw [FR g F l]
theorem Qa (ds:Lq) (f:List Int->Rat):B3 ds (ds.map fun p=>f p.1)=CC ds f:=by
 unfold B3 CC
 rw [FR (fun p:List Int × Int=>f p.1) (fun p:(List Int × Int) × Rat=>(p.1.2:Rat)*p.2)]
theorem CT {ds:Lq} {f g:List Int->Rat} (h:∀p∈ds,f p.1=g p.1):CC ds f=CC ds g:=by
 unfold CC
 rw [map_congr_left fun p m=>by rw [h p m]]
noncomputable def stF (ds:Lq) (φ:List Int->Sr):List Sr:=ds.map fun p=>φ p.1
theorem LE (ds:Lq) (φ:List Int->Sr) (m:Int):AW ds (stF ds φ) m=ds.map fun p=>Fv (A3 p.1 m) (φ p.1):=by
 unfold AW stF
 rw [FR (fun p:List Int × Int=>φ p.1) (fun p:(List Int × Int) × Sr=>Fv (A3 p.1.1 m) p.2)]
theorem Pa (ds:Lq) (φ:List Int->Sr) (m:Int) (h:Nat):B0 ds (AW ds (stF ds φ) m) h=(List.range (h+1)).map fun j=>CC ds fun ts=>(Fv (A3 ts m) (φ ts)).getD j 0:=by
 unfold B0
 refine map_congr_left fun j _=>?_
 rw [LE,map_map]
 exact Qa ds fun ts=>(Fv (A3 ts m) (φ ts)).getD j 0
noncomputable def nxF (ds:Lq) (φ:List Int->Sr) (m:Int) (hd:Nat) (q:Int) (ts:List Int):Sr:=Ia hd (AZ ts m hd (φ ts).1) (DY (CC ds fun ts=>AZ ts m hd (φ ts).1) q) (φ ts)
theorem O4 (ds:Lq) (φ:List Int->Sr) (m:Int) (hd:Nat) (q:Int):BR ds (stF ds φ) m hd q=stF ds (nxF ds φ m hd q):=by
 have e:AU ds (stF ds φ) m hd=ds.map fun p=>AZ p.1 m hd (φ p.1).1:=by
  unfold AU stF
  rw [FR (fun p:List Int × Int=>φ p.1) (fun p:(List Int × Int) × Sr=>AZ p.1.1 m hd p.2.1)]
 unfold BR
 rw [e,Qa ds fun ts=>AZ ts m hd (φ ts).1]
 unfold stF nxF
 rw [zip_map',map_map]
 rfl
theorem MK (ds:Lq) (h:Nat):Dt ds.length h=stF ds fun _=>(1,List.replicate h 0):=by
 unfold Dt stF
 induction ds with
 | nil=>rfl
 | cons p ds ih=>rw [length_cons,replicate_succ,map_cons,ih]
def Okk (h:Nat) (ts:List Int):Prop:=∀t∈ts,0 < t/\t < 2 ^ h
theorem HH {l:List Rat} {i j:Nat} {x:Rat} (h:j < l.length):(l.set i x).getD j 0=if i=j then x else l.getD j 0:=by
 rw [getD_eq_getElem?_getD,getD_eq_getElem?_getD,List.getElem?_set]
 by_cases c:i=j
 ·rw [if_pos c,if_pos c,if_pos (by omega)]
  rfl
 ·rw [if_neg c,if_neg c]
theorem KE {l:List Rat} {j:Nat} {x:Rat}:(l++[x]).getD j 0=if j < l.length then l.getD j 0 else if j=l.length then x else 0:=by
 rw [getD_eq_getElem?_getD,getD_eq_getElem?_getD]
 by_cases c:j < l.length
 ·rw [if_pos c,List.getElem?_append_left c]
 ·rw [if_neg c,List.getElem?_append_right (by omega)]
  by_cases d:j=l.length
  ·rw [if_pos d,d,Nat.sub_self];rfl
  ·rw [if_neg d,List.getElem?_eq_none (by show 1<=_;omega)];rfl
theorem Qz {wh:List Int} {x:Sr} {h j:Nat} (l:x.2.length=h) (win:∀y∈wh,∃i:Nat,y=(i:Int)/\i < h) (hj:j < h+1):(Fv wh x).getD j 0=if wh=[] then (if j < h then x.2.getD j 0 else x.1) else if (j:Int)∈wh then x.1 / (wh.length:Rat) else if j < h then x.2.getD j 0 else 0:=by
 unfold Fv
 by_cases c:wh=[]
 ·rw [if_pos c,if_pos c,KE,l]
  by_cases d:j < h
  ·rw [if_pos d,if_pos d]
  ·rw [if_neg d,if_neg d,if_pos (by omega)]
 ·rw [if_neg c,if_neg c]
  have f:=MJ (x.1 / (wh.length:Rat)) (fun _:Int=>true) (fun y=>y.toNat) wh (x.2++[0]) j
  have f':(wh.foldl (fun r y=>r.set y.toNat (x.1 / (wh.length:Rat))) (x.2++[0]))[j]?=_:=f
  rw [getD_eq_getElem?_getD,f']
  have ll:(x.2++[(0:Rat)]).length=h+1:=by rw [length_append,l];rfl
  by_cases d:(j:Int)∈wh
  ·rw [if_pos d,if_pos ⟨by rw [ll];exact hj,(j:Int),d,rfl,by omega⟩]
   rfl
  ·rw [if_neg d,if_neg (fun z=>by
    obtain ⟨_,y,ym,_,e⟩:=z
    obtain ⟨i,rfl,_⟩:=win y ym
    have:i=j:=by omega
    rw [this] at ym
    exact d ym),<- getD_eq_getElem?_getD,KE,l]
   by_cases g:j < h
   ·rw [if_pos g,if_pos g]
   ·rw [if_neg g,if_neg g,if_pos (by omega)]
section
variable {h:Nat} {π:Nat->Nat} {m m':Int} {φ φ':List Int->Sr}
end
section
variable {h:Nat} {π:Nat->Nat} {m m':Int}
end
def O3:Sp:=fun vs H Q _=>∃c h:Int,vs=[.int c,.int h]/\Sz 200 c/\1<=h/\h<=12/\∀(l:Addr) (ns:List Int) (H':Hp),Au H H'->H' l=some (.lst (ns.map V.int))->ns.Perm (ups h.toNat)->Q (.ref l) H'
theorem L0:∀{b:List Int} {k:Nat} {y:Int},b[k]?=some y->(y :: b.eraseIdx k).Perm b
 | x :: b,0,y,h=>by
   have:x=y:=Option.some.inj h
   rw [this]
   exact List.Perm.refl _
 | x :: b,k+1,y,h=>by
   show (y :: x :: b.eraseIdx k).Perm (x :: b)
   exact (List.Perm.swap x y _).trans ((L0 (b:=b) (k:=k) h).cons x)
theorem JB {a b c:List Int} {k:Nat} {y:Int} (h:b[k]?=some y) (p:(a++b).Perm c):(a++[y]++b.eraseIdx k).Perm c:=by
 rw [append_assoc]
 exact (List.Perm.append_left a (L0 h)).trans p
def LP (K:PySem.W.Frag):Sp:=fun vs H Q _=>∃(a C dx:Addr) (h s:Nat) (lv:V) (ns:List Int),vs=[.ref a,.int (h:Int),.int (s:Int),lv]/\H a=some (.ins C dx [])/\Cls K C/\BP K C "hands"/\BP K C "seats"/\BP K C "lots" /\
 1<=h/\h<=12/\1<=s/\s<=60/\((lv=.non/\ns=ups h)\/∃l,lv=.ref l/\H l=some (.lst (ns.map V.int))/\ns.Perm (ups h)) /\
 ∀(l':Addr) (H':Hp),l'≠a->H l'=none->Au (off H a) H'->H' a=some (.ins C dx (fsW (h:Int) (s:Int) l'))->H' l'=some (.lst (ns.map V.int))->Q .non H'
def NU (K:PySem.W.Frag):Sp:=fun vs H Q _=>∃(a C dx:Addr) (h s:Nat) (lv:V) (ns:List Int),vs=[.ref a,.int (h:Int),.int (s:Int),lv]/\H a=some (.ins C dx [])/\Cls K C/\BP K C "hands"/\BP K C "seats"/\BP K C "lots"/\1<=h/\h<=12/\1<=s/\s<=6/\((lv=.non/\ns=ups h)\/∃l,lv=.ref l/\H l=some (.lst (ns.map V.int))/\ns.Perm (ups h)) /\
 ∀(l':Addr) (H':Hp),Au (off H a) H'->H' a=some (.ins C dx (fsW (h:Int) (s:Int) l'))->H' l'=some (.lst (ns.map V.int))->Q .non H'
theorem RS {ps:List Rq} {i:Nat} {r:Rq} (h:ps[i]?=some r):atI (rqs ps) (i:Int)=some (.ref r.1):=Dj (by unfold rqs;rw [List.getElem?_map,h];rfl)
noncomputable def roD (v:Rv):PyData:=.tuple [.list (v.1.map Qj),.list (v.2.1.map fD),ddD v.2.2.word v.2.2.data]
theorem Qb (d:Dd):Lay 3 (ddD d.word d.data):=by
 refine ⟨?_,?_⟩
 ·have h:=Lj d
  unfold SeqAt.shaped at h
  exact (Bool.and_eq_true_iff.mp h).1
 ·cases d <;> exact Nat.le_of_ble_eq_true rfl
theorem SO (v:Rv):Lay 4 (roD v):=FJ fun x m=>by
 rcases mem_cons.mp m with rfl | m
 ·exact BX (Fb Q6 _)
 rcases mem_cons.mp m with rfl | m
 ·exact (BX (Fb RH _)).mono (by decide)
 rw [mem_singleton.mp m]
 exact Qb _
theorem FH (vs:List Rv):Lay 5 (.list (vs.map roD)):=BX (Fb SO _)
theorem GZ {K:PySem.W.Frag} {H:Hp} {p:Addr} {ps:List Rq} (e:H p=some (.lst (rqs ps))) (g:∀r∈ps,RqG H r):Rep K H (.ref p) (.list ((ps.map rqV).map roD)):=by
 rw [map_map]
 exact .lst (SqL.of e) (ED fun r m=>.tup (SqT.of (g r m).t) (.cons (.lst (SqL.of (g r m).rl) (QQ (g r m).rg)) (.cons (.lst (SqL.of (g r m).sl) (Ov (g r m).sg)) (.cons (O8 (g r m).d) .nil))))
noncomputable def cnt:Nat->(Nat->Bool)->Nat
 | 0,_=>0
 | n+1,f=>cnt n f+(if f n=true then 1 else 0)
noncomputable def DW (g:Nat->Rat):Nat->(Nat->Bool)->Rat
 | 0,_=>0
 | n+1,f=>DW g n f+(if f n=true then g n else 0)
theorem C5:∀{n:Nat} {f g:Nat->Bool},(∀j,j < n->f j=g j)->cnt n f=cnt n g
 | 0,_,_,_=>rfl
 | n+1,f,g,e=>by
   show cnt n f+_=cnt n g+_
   rw [C5 (f:=f) (g:=g) fun j h=>e j (by omega),e n (by omega)]
theorem Ka:∀{n:Nat} {f:Nat->Bool} {k:Nat},k < n->f k=false->cnt n (fun i=>decide (i=k) || f i)=cnt n f+1
 | 0,_,_,h,_=>by omega
 | n+1,f,k,h,e=>by
   show cnt n (fun i=>decide (i=k) || f i)+(if (decide (n=k) || f n)=true then 1 else 0)=cnt n f+(if f n=true then 1 else 0)+1
   by_cases c:n=k
   ·subst c
    rw [C5 (g:=f) fun j hj=>by rw [decide_eq_false (by omega),Bool.false_or],e,decide_eq_true rfl]
    rfl
   ·rw [Ka (by omega) e,decide_eq_false c,Bool.false_or]
    omega
theorem EW:∀{n h:Nat} {f:Nat->Bool},h<=n->(∀j,h<=j->f j=false)->cnt n f=cnt h f
 | 0,h,_,le,_=>by rw [show h=0 by omega]
 | n+1,h,f,le,z=>by
   by_cases c:h=n+1
   ·rw [c]
   ·show cnt n f+_=_
    rw [EW (n:=n) (by omega) z,z n (by omega)]
    rfl
theorem EV:∀(n:Nat) (f:Nat->Bool),(hands n f).length=cnt n f
 | 0,_=>rfl
 | n+1,f=>by
   have ih:=EV n f
   unfold hands at ih ⊢
   rw [range_succ,filter_append,map_append,length_append,ih]
   show _=cnt n f+_
   congr 1
   rw [filter_cons]
   cases f n <;> rfl
theorem So {n:Nat} (h:0 < n):(n:Rat)≠0:=by exact_mod_cast (show n≠0 by omega)
theorem Oo (ds:Lq) (f g:List Int->Rat):CC ds (fun ts=>f ts+g ts)=CC ds f+CC ds g:=by
 unfold CC
 induction ds with
 | nil=>show (0:Rat)=0+0;grind
 | cons p ds ih =>
   rw [map_cons,map_cons,map_cons,sum_cons,sum_cons,sum_cons,ih]
   grind
theorem Hm (ds:Lq) (f:List Int->Rat) (c:Rat):CC ds (fun ts=>f ts*c)=CC ds f*c:=by
 unfold CC
 induction ds with
 | nil=>show (0:Rat)=0*c;grind
 | cons p ds ih =>
   rw [map_cons,map_cons,sum_cons,sum_cons,ih]
   grind
theorem Pz (ds:Lq) (g:Nat->List Int->Rat):∀(n:Nat) (f:Nat->Bool),DW (fun j=>CC ds (g j)) n f=CC ds fun ts=>DW (fun j=>g j ts) n f
 | 0,_=>by
   show (0:Rat)=CC ds fun _=>0
   unfold CC
   induction ds with
   | nil=>rfl
   | cons p ds ih=>rw [map_cons,sum_cons,<- ih];grind
 | n+1,f=>by
   show DW (fun j=>CC ds (g j)) n f+(if f n=true then CC ds (g n) else 0)=CC ds fun ts=>DW (fun j=>g j ts) n f+(if f n=true then g n ts else 0)
   rw [Oo,Pz ds g n f]
   congr 1
   by_cases c:f n=true
   ·rw [if_pos c];exact congrArg (CC ds) (funext fun ts=>by rw [if_pos c])
   ·rw [if_neg c,show (fun ts=>if f n=true then g n ts else (0:Rat))=fun ts=>g n ts*0 from funext fun ts=>by rw [if_neg c];grind,Hm]
    grind
theorem CY {h:Nat} {a:Int} (a0:0<=a) (a1:a < 2 ^ h) {j:Nat} (b:bit a j=true):j < h:=by
 rcases (by omega:j < h\/h<=j) with c | c
 ·exact c
 ·have:(2:Int) ^ h<=2 ^ j:=by
   have:=Nat.pow_le_pow_right (show 0 < 2 by decide) c
   exact_mod_cast this
  rw [Eb a0 (by omega)] at b
  cases b
section
variable {ds:Lq} {h:Nat} {C m:Int} {φ:List Int->Sr} {q:Int}
theorem K4 (h12:h<=12) {ts:List Int} (ok:Okk h ts):(∀y∈A3 ts m,∃i:Nat,y=(i:Int)/\i < h)/\(∀j,j < h->(((j:Nat):Int)∈A3 ts m↔bit (Co ts m) j=true))/\(A3 ts m).length=cnt h (bit (Co ts m)):=by
 have li:=Ii (s:=m) ok
 unfold A3
 refine ⟨fun y k=>?_,fun j hj=>?_,?_⟩
 ·obtain ⟨i,_,b,e⟩:=BM.mp k
  exact ⟨i,e,CY li.1 li.2 b⟩
 ·rw [BM]
  constructor
  ·rintro ⟨i,_,b,e⟩
   rw [show j=i by omega]
   exact b
  ·intro b
   exact ⟨j,by omega,b,rfl⟩
 ·rw [EV]
  refine EW h12 fun j hj=>?_
  cases c:bit (Co ts m) j with
  | false=>rfl
  | true=>have:=CY li.1 li.2 c;omega
variable {N:Rat} {k sg a:Nat}
end
noncomputable def Ej (m:Int) (dd:List Dd) (j:Nat):Bool:=decide (Dd.seat j∈dd) || (decide (dd.getLast?=some .rest) && (bit m j && !Et dd j))
theorem Jk {x:Dd} {dd:List Dd} (ne:dd≠[]):(x :: dd).getLast?=dd.getLast?:=by
 cases dd with
 | nil=>exact absurd rfl ne
 | cons y r=>rw [List.getLast?_cons_cons]
theorem Pt {m:Int} {i j:Nat} {dd:List Dd} (ne:dd≠[]) (hb:bit (m - 2 ^ i) j=(bit m j && decide (j≠i))):Ej m (.seat i :: dd) j=(decide (j=i) || Ej (m - 2 ^ i) dd j):=by
 unfold Ej
 rw [Jk ne,hb]
 have e1:decide (Dd.seat j∈Dd.seat i :: dd)=(decide (j=i) || decide (Dd.seat j∈dd)):=by
  by_cases c:j=i
  ·rw [decide_eq_true c,c,decide_eq_true (mem_cons_self ..)];rfl
  ·rw [decide_eq_false c,Bool.false_or]
   exact decide_eq_decide.mpr ⟨fun k=>(mem_cons.mp k).resolve_left fun e=>c (by injection e),fun k=>mem_cons_of_mem _ k⟩
 have e2:Et (.seat i :: dd) j=(decide (j=i) || Et dd j):=by
  show ((decide (Dd.seat i=.seat j) || decide (Dd.seat i=.out j)) || Et dd j)=_
  rw [decide_eq_false (show ¬ Dd.seat i=.out j from fun e=>nomatch e),Bool.or_false]
  congr 1
  exact decide_eq_decide.mpr ⟨fun e=>by injection e with e;exact e.symm,fun e=>by rw [e]⟩
 rw [e1,e2]
 by_cases c:j=i
 ·rw [decide_eq_true c];rfl
 ·rw [decide_eq_false c,decide_eq_true c,Bool.and_true,Bool.false_or,Bool.false_or,Bool.false_or]
theorem Rb {m:Int} {i j:Nat} {dd:List Dd} (ne:dd≠[]) (hb:bit (m - 2 ^ i) j=(bit m j && decide (j≠i))):Ej m (.out i :: dd) j=Ej (m - 2 ^ i) dd j:=by
 unfold Ej
 rw [Jk ne,hb]
 have e1:decide (Dd.seat j∈Dd.out i :: dd)=decide (Dd.seat j∈dd):=decide_eq_decide.mpr ⟨fun k=>(mem_cons.mp k).resolve_left (fun e=>nomatch e),fun k=>mem_cons_of_mem _ k⟩
 have e2:Et (.out i :: dd) j=(decide (j=i) || Et dd j):=by
  show ((decide (Dd.out i=.seat j) || decide (Dd.out i=.out j)) || Et dd j)=_
  rw [decide_eq_false (show ¬ Dd.out i=.seat j from fun e=>nomatch e),Bool.false_or]
  congr 1
  exact decide_eq_decide.mpr ⟨fun e=>by injection e with e;exact e.symm,fun e=>by rw [e]⟩
 rw [e1,e2]
 by_cases c:j=i
 ·rw [decide_eq_true c,decide_eq_false (show ¬ j≠i from fun z=>z c),Bool.and_false,Bool.true_or,Bool.not_true,Bool.and_false,Bool.false_and]
 ·rw [decide_eq_false c,decide_eq_true c,Bool.and_true,Bool.false_or]
theorem Rk {xs:List Int} {su:List Rat} {m q:Int} {pl:Nat} (e:Dq xs su m pl q=.fin):pl=0:=by
 unfold Dq at e
 by_cases c1:(hands 12 (bit m)).length<=pl
 ·rw [if_pos c1] at e;cases e
 rw [if_neg c1] at e
 by_cases c2:pl=0
 ·exact c2
 rw [if_neg c2] at e
 split at e <;> cases e
theorem OZ {xs:List Int} {su:List Rat} {m q:Int} {pl hd:Nat} (e:Dq xs su m pl q=.seat hd):(q:Rat)<=su.getD hd 0:=by
 unfold Dq at e
 by_cases c1:(hands 12 (bit m)).length<=pl
 ·rw [if_pos c1] at e;cases e
 rw [if_neg c1] at e
 by_cases c2:pl=0
 ·rw [if_pos c2] at e;cases e
 rw [if_neg c2] at e
 split at e
 ·cases e
 ·rename_i c3
  injection e with e
  unfold at0 at c3
  rw [e] at c3
  exact Rat.not_lt.mp c3
theorem Fy {ds:Lq} {h:Nat} {xs:List Int} {q:Int} (h12:h<=12) (hx:∀x∈xs,0<=x/\x < h) (hxa:∀j:Nat,j < h->(j:Int)∈xs):∀(n:Nat) (st:List Sr) (m:Int) (pl:Nat),0<=m->m < 2 ^ h->∀r∈A8 ds h xs q n st m pl,∀i,r.2.2=.seat i->bit m i=true
 | 0,_,_,_,_,_,r,k=>nomatch k
 | n+1,st,m,pl,m0,m1,r,k=>by
   have hbm:∀j,bit m j=true->(j:Int)∈xs:=fun j b=>hxa j (CY m0 m1 b)
   have hd:∀j,((CN ds h xs q st m pl).2.2=.seat j\/(CN ds h xs q st m pl).2.2=.out j)->bit m j=true:=fun j c=>(HY (fun x k=>(hx x k).1) hbm c).1
   unfold A8 at k
   rcases mem_cons.mp k with rfl | k
   ·exact fun j c=>hd j (.inl c)
   ·have less:∀j,bit m j=true->0<=m - 2 ^ j/\m - 2 ^ j < 2 ^ h/\∀i,bit (m - 2 ^ j) i=true->bit m i=true:=fun j b=>by
     obtain ⟨a,lb,_⟩:=DF m0 b (by have:=CY m0 m1 b;omega)
     have:(0:Int) < 2 ^ j:=Int.pow_pos (by decide)
     exact ⟨a,by omega,fun i bi=>by rw [lb i] at bi;exact (Bool.and_eq_true_iff.mp bi).1⟩
    split at k
    ·rename_i j e
     have:=less j (hd j (.inl e))
     exact fun i c=>this.2.2 i (Fy h12 hx hxa n _ _ _ this.1 this.2.1 r k i c)
    ·rename_i j e
     have:=less j (hd j (.inr e))
     exact fun i c=>this.2.2 i (Fy h12 hx hxa n _ _ _ this.1 this.2.1 r k i c)
    ·exact nomatch k
theorem Nu:∀ds:Lq,(CC ds fun _=>1)=(AA ds:Rat)
 | []=>rfl
 | p :: ds=>by
   have ih:=Nu ds
   unfold CC AA at ih ⊢
   rw [map_cons,map_cons,sum_cons,sum_cons,ih]
   have e:((p.2+(ds.map (·.2)).sum:Int):Rat)=(p.2:Rat)+(((ds.map (·.2)).sum:Int):Rat):=Rat.intCast_add ..
   rw [e]
   grind
theorem Oy {h j:Nat} (hj:j < h):bit ((2:Int) ^ h - 1) j=true:=by
 have e:∀n:Nat,(2:Int) ^ n - 1=CA n fun _=>true:=fun n=>by
  induction n with
  | zero=>rfl
  | succ n ih =>
    rw [Ji,<- ih,if_pos rfl,Int.pow_succ]
    omega
 rw [e,Ge,decide_eq_true hj]
 rfl
theorem Qn {h:Nat} {dd:List Dd} {j:Nat} (hj:j < h):Ej (2 ^ h - 1) dd j=decide (j∈Bl h dd):=by
 have b1:bit (2 ^ h - 1) j=true:=Oy hj
 unfold Ej Bl
 rw [b1,Bool.true_and]
 have s:Dd.seat j∈dd↔j∈Bu dd:=by
  unfold Bu
  rw [mem_filterMap]
  constructor
  ·exact fun k=>⟨_,k,rfl⟩
  ·rintro ⟨d,dm,de⟩
   cases d with
   | seat i =>
     have:i=j:=Option.some.inj de
     rw [<- this];exact dm
   | out i=>cases de
   | rest=>cases de
   | fin=>cases de
 by_cases c:dd.getLast?=some .rest
 ·rw [if_pos c,decide_eq_true c,Bool.true_and]
  have t:j∈Ev h dd↔(!Et dd j)=true:=by
   unfold Ev
   rw [mem_filter,mem_range]
   exact ⟨fun k=>k.2,fun k=>⟨hj,k⟩⟩
  by_cases x:Dd.seat j∈dd
  ·rw [decide_eq_true x,decide_eq_true (mem_append.mpr (.inl (s.mp x))),Bool.true_or]
  ·rw [decide_eq_false x,Bool.false_or]
   by_cases y:(!Et dd j)=true
   ·rw [y,decide_eq_true (mem_append.mpr (.inr (t.mpr y)))]
   ·rw [Bool.eq_false_iff.mpr y,decide_eq_false fun z=>by
     rcases mem_append.mp z with z | z
     ·exact x (s.mpr z)
     ·exact y (t.mp z)]
 ·rw [if_neg c,decide_eq_false c,Bool.false_and,Bool.or_false,append_nil]
  exact decide_eq_decide.mpr s
theorem J0 {h:Nat} {m:Int}:∀{ts:List Int},Okk h ts->∀{j:Nat},bit (Co ts m) j=true->bit m j=true
 | [],_,j,b=>by rw [show Co [] m=0 from rfl,Rp] at b;cases b
 | t :: r,ok,j,b=>by
   have ht:=ok t (mem_cons_self ..)
   unfold Co at b
   by_cases c:Builtin.bitAnd t m=0
   ·rw [if_pos c] at b
    exact J0 (ts:=r) (fun x k=>ok x (mem_cons_of_mem _ k)) b
   ·rw [if_neg c] at b
    have a:=Pj (s:=m) (Int.le_of_lt ht.1) ht.2
    have hj:=CY a.1 a.2 b
    rw [QZ (Int.le_of_lt ht.1) ht.2 hj] at b
    exact (Bool.and_eq_true_iff.mp b).2
theorem Lx:∀(l:List Rat) (x:Rat),(l++[x]).sum=l.sum+x
 | [],x=>by show x+0=0+x;grind
 | y :: l,x=>by rw [cons_append,sum_cons,sum_cons,Lx l x];grind
theorem Gr (g:Nat->Rat):∀n,((List.range n).map g).sum=DW g n fun _=>true
 | 0=>rfl
 | n+1=>by
   rw [range_succ,map_append]
   show (_++[g n]).sum=DW g n (fun _=>true)+(if true=true then g n else 0)
   rw [Lx,Gr g n,if_pos rfl]
theorem HR {l:List Rat} {n:Nat} (h:l.length=n):l.sum=DW (fun j=>l.getD j 0) n fun _=>true:=by
 rw [<- Gr]
 refine congrArg List.sum (ext_getElem? fun j=>?_)
 rw [List.getElem?_map]
 rcases (by omega:j < n\/n<=j) with c | c
 ·rw [List.getElem?_range c,List.getElem?_eq_getElem (by omega)]
  show _=some (l.getD j 0)
  rw [getD_eq_getElem?_getD,List.getElem?_eq_getElem (by omega)]
  rfl
 ·rw [List.getElem?_eq_none (by omega),List.getElem?_eq_none (by rw [length_range];omega)]
  rfl
theorem Ft {f g:Nat->Rat} {e:Nat->Bool}:∀(n:Nat),(∀j,j < n->f j=g j)->DW f n e=DW g n e
 | 0,_=>rfl
 | n+1,h=>by
   show DW f n e+(if e n=true then f n else 0)=DW g n e+(if e n=true then g n else 0)
   rw [Ft n (fun j k=>h j (by omega)),h n (by omega)]
theorem Ku (f g:Nat->Rat):∀(n:Nat),DW (fun j=>f j+g j) n (fun _=>true)=DW f n (fun _=>true)+DW g n (fun _=>true)
 | 0=>by show (0:Rat)=0+0;grind
 | n+1=>by
   show DW (fun j=>f j+g j) n (fun _=>true)+(if true=true then f n+g n else 0)=DW f n (fun _=>true)+(if true=true then f n else 0)+(DW g n (fun _=>true)+(if true=true then g n else 0))
   rw [Ku f g n,if_pos rfl,if_pos rfl,if_pos rfl]
   grind
theorem M6 (x:Rat) (e:Nat->Bool):∀(n:Nat),DW (fun j=>if e j=true then x else 0) n (fun _=>true)=x*(cnt n e:Rat)
 | 0=>by show (0:Rat)=x*((0:Nat):Rat);grind
 | n+1=>by
   show DW (fun j=>if e j=true then x else 0) n (fun _=>true)+(if true=true then (if e n=true then x else 0) else 0)=x*((cnt n e+(if e n=true then 1 else 0):Nat):Rat)
   rw [M6 x e n,if_pos rfl]
   by_cases c:e n=true
   ·rw [if_pos c,if_pos c]
    have k:((cnt n e+1:Nat):Rat)=(cnt n e:Rat)+1:=by grind
    rw [k]
    grind
   ·rw [if_neg c,if_neg c,Nat.add_zero]
    grind
theorem Nn:∀{l:List Rat} {i:Nat} {x:Rat},i < l.length->(l.set i x).sum=l.sum - l.getD i 0+x
 | [],i,x,h=>by exact absurd h (Nat.not_lt_zero _)
 | y :: l,0,x,_=>by
   show (x :: l).sum=(y :: l).sum - y+x
   rw [sum_cons,sum_cons]
   grind
 | y :: l,i+1,x,h=>by
   show (y :: l.set i x).sum=(y :: l).sum - l.getD i 0+x
   rw [sum_cons,sum_cons,Nn (l:=l) (Nat.lt_of_succ_lt_succ h)]
   grind
theorem KQ {wh:List Int} {x:Sr}:(Fv wh x).length=x.2.length+1:=by
 unfold Fv
 split
 ·rw [length_append];rfl
 ·rw [Gk,length_append];rfl
structure ER (ds:Lq) (h:Nat) (q:Int) (φ:List Int->Sr) (m:Int) (mt:List (Nat × Bool)):Prop where
 fr:∀ts,0<=(φ ts).1
 len:∀ts,(φ ts).2.length=h
 zero:∀ts j,bit m j=true->(φ ts).2.getD j 0=0
 one:∀ts,(φ ts).1+(φ ts).2.sum=1
 met:∀p∈mt,p.1 < h/\bit m p.1=false/\(CC ds fun ts=>(φ ts).2.getD p.1 0)=if p.2=true then (q:Rat) else 0
section
variable {ds:Lq} {h:Nat} {m:Int} {φ:List Int->Sr} {q:Int} {mt:List (Nat × Bool)}
theorem ER.row (h12:h<=12) (R:ER ds h q φ m mt) {ts:List Int} (ok:Okk h ts) {j:Nat} (hj:j < h+1):(Fv (A3 ts m) (φ ts)).getD j 0=(if j < h then (φ ts).2.getD j 0 else if A3 ts m=[] then (φ ts).1 else 0)+if bit (Co ts m) j=true then (φ ts).1 / ((A3 ts m).length:Rat) else 0:=by
 obtain ⟨w1,w2,w3⟩:=K4 (m:=m) h12 ok
 have li:=Ii (s:=m) ok
 rw [Qz (R.len ts) w1 hj]
 by_cases c:A3 ts m=[]
 ·rw [if_pos c,if_pos c]
  have:¬ bit (Co ts m) j=true:=fun b=>by
   have:=(w2 j (CY li.1 li.2 b)).mpr b
   rw [c] at this
   exact nomatch this
  rw [if_neg this]
  grind
 ·rw [if_neg c,if_neg c]
  by_cases b:bit (Co ts m) j=true
  ·have jh:=CY li.1 li.2 b
   rw [if_pos ((w2 j jh).mpr b),if_pos b,if_pos jh,R.zero ts j (J0 ok b)]
   grind
  ·have nm:¬ (j:Int)∈A3 ts m:=fun k=>by
    obtain ⟨i,e,ih⟩:=w1 _ k
    have e':j=i:=by omega
    subst e'
    exact b ((w2 j ih).mp k)
   rw [if_neg nm,if_neg b]
   grind
theorem ER.rowOne (h12:h<=12) (R:ER ds h q φ m mt) {ts:List Int} (ok:Okk h ts):(Fv (A3 ts m) (φ ts)).sum=1:=by
 obtain ⟨w1,w2,w3⟩:=K4 (m:=m) h12 ok
 have li:=Ii (s:=m) ok
 rw [HR (show _=h+1 by rw [KQ,R.len ts]),Ft (h+1) (fun j hj=>R.row h12 ok hj),Ku,M6]
 show (DW _ h (fun _=>true)+(if true=true then _ else 0))+_=(1:Rat)
 rw [if_pos rfl,Ft (g:=fun j=>(φ ts).2.getD j 0) h (fun j hj=>if_pos hj),<- HR (R.len ts)]
 dsimp only
 rw [if_neg (Nat.lt_irrefl h)]
 have c1:cnt (h+1) (bit (Co ts m))=(A3 ts m).length:=by
  rw [w3]
  exact EW (by omega) fun j hj=>by
   cases c:bit (Co ts m) j with
   | false=>rfl
   | true=>have:=CY li.1 li.2 c;omega
 rw [c1]
 have o:=R.one ts
 by_cases c:A3 ts m=[]
 ·rw [if_pos c,c]
  show _+_*((0:Nat):Rat)=1
  grind
 ·rw [if_neg c]
  have l0:((A3 ts m).length:Rat)≠0:=So (Nat.pos_of_ne_zero fun e=>c (length_eq_zero_iff.mp e))
  rw [Rat.div_mul_cancel l0]
  grind
theorem ER.sums (h12:h<=12) (okd:∀p∈ds,Okk h p.1) (R:ER ds h q φ m mt):(B0 ds (AW ds (stF ds φ) m) h).sum=((AA ds:Int):Rat):=by
 rw [Pa,Gr,Pz,<- Nu]
 refine CT fun p pm=>?_
 rw [<- HR (show _=h+1 by rw [KQ,R.len p.1])]
 exact R.rowOne h12 (okd p pm)
theorem gdS {j:Nat} (hj:j < h+1):(B0 ds (AW ds (stF ds φ) m) h).getD j 0=CC ds fun ts=>(Fv (A3 ts m) (φ ts)).getD j 0:=by
 rw [Pa,getD_eq_getElem?_getD,List.getElem?_map,List.getElem?_range hj]
 rfl
theorem ER.at (h12:h<=12) (okd:∀p∈ds,Okk h p.1) (R:ER ds h q φ m mt) {p:Nat × Bool} (pm:p∈mt):(B0 ds (AW ds (stF ds φ) m) h).getD p.1 0=if p.2=true then (q:Rat) else 0:=by
 obtain ⟨p1,p2,p3⟩:=R.met p pm
 rw [gdS (by omega),<- p3]
 refine CT fun x xm=>?_
 rw [R.row h12 (okd x xm) (by omega),if_pos p1,if_neg (fun b=>by rw [J0 (okd x xm) b] at p2;cases p2)]
 grind
theorem ER.share (h12:h<=12) (okd:∀p∈ds,Okk h p.1) (R:ER ds h q φ m mt) {hd:Nat} (hh:hd < h) (b:bit m hd=true):(B0 ds (AW ds (stF ds φ) m) h).getD hd 0=CC ds fun ts=>AZ ts m hd (φ ts).1:=by
 rw [gdS (by omega)]
 refine CT fun x xm=>?_
 rw [R.row h12 (okd x xm) (by omega),if_pos hh,R.zero x.1 hd b]
 unfold AZ
 grind
theorem ER.next (q1:1<=q) (R:ER ds h q φ m mt) (m0:0<=m) (h12:h<=12) {hd:Nat} (hh:hd < h) (b:bit m hd=true) (ge:(q:Rat)<=CC ds fun ts=>AZ ts m hd (φ ts).1):ER ds h q (nxF ds φ m hd q) (m - 2 ^ hd) (mt++[(hd,true)]):=by
 generalize hT:(CC ds fun ts=>AZ ts m hd (φ ts).1)=T at ge
 generalize hP:DY T q=P
 have hq:(1:Rat)<=(q:Rat):=Rat.intCast_le_intCast.mpr q1
 have pn:=Jz (t:=T) q1
 rw [hP] at pn
 have tp:T*P=(q:Rat):=by
  rw [<- hP]
  unfold DY
  split
  ·have:T≠0:=by grind
   rw [Rat.mul_comm]
   exact Rat.div_mul_cancel this
  ·grind
 have sn:∀ts,0<=AZ ts m hd (φ ts).1/\AZ ts m hd (φ ts).1<=(φ ts).1:=fun ts=>DC (R.fr ts) (by omega)
 have sp:∀ts,0<=AZ ts m hd (φ ts).1*P/\AZ ts m hd (φ ts).1*P<=AZ ts m hd (φ ts).1:=fun ts=>GY (sn ts).1 pn.2 pn.1
 have nx:∀ts,nxF ds φ m hd q ts=((φ ts).1 - AZ ts m hd (φ ts).1*P,(φ ts).2.set hd (AZ ts m hd (φ ts).1*P)):=fun ts=>by
  unfold nxF Ia
  rw [hT,hP]
 obtain ⟨_,lb,_⟩:=DF m0 b (by omega)
 refine ⟨fun ts=>?_,fun ts=>?_,fun ts j bj=>?_,fun ts=>?_,fun p pm=>?_⟩
 ·rw [nx ts]
  have:=sp ts
  have:=sn ts
  show (0:Rat)<=(φ ts).1 - AZ ts m hd (φ ts).1*P
  grind
 ·rw [nx ts]
  show ((φ ts).2.set hd _).length=h
  rw [length_set]
  exact R.len ts
 ·rw [lb j] at bj
  have bj':=Bool.and_eq_true_iff.mp bj
  have ne:j≠hd:=of_decide_eq_true bj'.2
  rw [nx ts]
  show ((φ ts).2.set hd _).getD j 0=0
  rcases (by omega:j < h\/h<=j) with c | c
  ·rw [HH (by rw [R.len ts];exact c),if_neg (Ne.symm ne)]
   exact R.zero ts j bj'.1
  ·rw [getD_eq_getElem?_getD,List.getElem?_eq_none (by rw [length_set,R.len ts];exact c)]
   rfl
 ·rw [nx ts]
  show (φ ts).1 - AZ ts m hd (φ ts).1*P+((φ ts).2.set hd (AZ ts m hd (φ ts).1*P)).sum=1
  rw [Nn (by rw [R.len ts];exact hh),R.zero ts hd b]
  have:=R.one ts
  grind
 ·rcases mem_append.mp pm with pm | pm
  ·obtain ⟨p1,p2,p3⟩:=R.met p pm
   have ne:hd≠p.1:=fun e=>by rw [<- e,b] at p2;cases p2
   refine ⟨p1,by rw [lb p.1,p2];rfl,?_⟩
   rw [<- p3]
   refine CT fun x xm=>?_
   rw [nx x.1]
   show ((φ x.1).2.set hd _).getD p.1 0=_
   rw [HH (by rw [R.len x.1];exact p1),if_neg ne]
  ·rw [mem_singleton.mp pm]
   refine ⟨hh,by rw [lb hd,decide_eq_false (fun z=>z rfl),Bool.and_false],?_⟩
   rw [if_pos rfl,<- tp,<- hT,<- Hm]
   refine CT fun x xm=>?_
   rw [nx x.1]
   show ((φ x.1).2.set hd _).getD hd 0=_
   rw [HH (by rw [R.len x.1];exact hh),if_pos rfl]
theorem ER.out (R:ER ds h q φ m mt) (m0:0<=m) (h12:h<=12) {hd:Nat} (hh:hd < h) (b:bit m hd=true):ER ds h q φ (m - 2 ^ hd) (mt++[(hd,false)]):=by
 obtain ⟨_,lb,_⟩:=DF m0 b (by omega)
 refine ⟨R.fr,R.len,fun ts j bj=>R.zero ts j (by rw [lb j] at bj;exact (Bool.and_eq_true_iff.mp bj).1),R.one,fun p pm=>?_⟩
 rcases mem_append.mp pm with pm | pm
 ·obtain ⟨p1,p2,p3⟩:=R.met p pm
  exact ⟨p1,by rw [lb p.1,p2];rfl,p3⟩
 ·rw [mem_singleton.mp pm]
  refine ⟨hh,by rw [lb hd,decide_eq_false (fun z=>z rfl),Bool.and_false],?_⟩
  rw [if_neg (show ¬ (false=true) by decide),CT (g:=fun _=>(0:Rat)*0) (fun x _=>by rw [R.zero x.1 hd b];grind),Hm]
  grind
end
def Fz (v:Rat):Prop:=0<=v/\Sz 4700 (pr v).1/\Sz 4700 (pr v).2
def Wl (h:Nat) (N q:Int) (s:Nat):List (Nat × Bool)->List Rnd->Prop
 | _,[]=>False
 | mt,r :: rs=>(r.2.1.length=h+1/\(∀v∈r.2.1,Fz v)/\r.2.1.sum=(N:Rat))/\(∀w∈r.1,w.length=h+1/\(∀v∈w,Fz v)/\w.sum=1)/\(∀p∈mt,p.1 < h/\r.2.1.getD p.1 0=if p.2=true then (q:Rat) else 0) /\
   match r.2.2 with
   | .seat hd=>hd < h/\(∀p∈mt,p.1≠hd)/\Wl h N q s (mt++[(hd,true)]) rs
   | .out hd=>hd < h/\(∀p∈mt,p.1≠hd)/\Wl h N q s (mt++[(hd,false)]) rs
   | _=>rs=[]/\(mt.filter (·.2)).length<=s
theorem Tg {M:Int} {z:Rat} (M0:0 < M) (Mz:Sz 4480 M) (h0:0<=z) (h1:z<=1) (i:Bh (M*27720) z):Fz z:=by
 have M1:0 < M*27720:=by omega
 have Mz1:Sz 4500 (M*27720):=(Mz.mul (Bz (by decide) (by decide):Sz 15 (27720:Int))).mono (by decide)
 have bz:Sz 4500 (pr z).2:=Es i.dvd M1 Mz1
 have l:=OY h1
 have b0:=Ci z
 have t0:=HF h0
 refine ⟨h0,?_,bz.mono (by decide)⟩
 have tz:Sz 4500 (pr z).1:=by
  unfold Sz at *
  generalize 2 ^ 4500=X at *
  omega
 exact tz.mono (by decide)
theorem Gh {ds:Lq} {h s:Nat} {xs:List Int} {q:Int} (hn:∀p∈ds,0<=p.2) (okd:∀p∈ds,Okk h p.1) (N:AA ds < 2 ^ 40) (q1:1<=q) (h12:h<=12) (s6:s<=6) (hx:∀x∈xs,0<=x/\x < h) (hxa:∀j:Nat,j < h->(j:Int)∈xs):∀(n:Nat) (φ:List Int->Sr) (m:Int) (pl:Nat) (M:Int) (mt:List (Nat × Bool)),StI M h (stF ds φ)->0 < M->Sz (mB (s - pl)) M->0<=m->m < 2 ^ h->(hands 12 (bit m)).length < n->ER ds h q φ m mt->(mt.filter (·.2)).length+pl=s ->
 Wl h (AA ds) q s mt (A8 ds h xs q n (stF ds φ) m pl)
 | 0,_,_,_,_,_,_,_,_,_,_,l,_,_=>absurd l (Nat.not_lt_zero _)
 | n+1,φ,m,pl,M,mt,si,M0,Mz,m0,m1,hl,R,sp=>by
   have hbm:∀j,bit m j=true->(j:Int)∈xs:=fun j b=>hxa j (CY m0 m1 b)
   have Mz6:Sz 4480 M:=Mz.mono (OO (by omega))
   refine ⟨⟨by unfold CN B0;rw [length_map,length_range],QB si M0 Mz6 hn N,R.sums h12 okd⟩,fun w wm=>?_,fun p pm=>⟨(R.met p pm).1,R.at h12 okd pm⟩,?_⟩
   ·obtain ⟨l,z⟩:=GR si w wm
    refine ⟨l,fun v vm=>?_,?_⟩
    ·obtain ⟨a,b,c⟩:=z v vm
     exact Tg M0 Mz6 a b c
    ·have wm':w∈AW ds (stF ds φ) m:=wm
     rw [LE] at wm'
     obtain ⟨p,pm,rfl⟩:=mem_map.mp wm'
     exact R.rowOne h12 (okd p pm)
   have step:∀hd,(Dq xs (B0 ds (AW ds (stF ds φ) m) h) m pl q=.seat hd\/Dq xs (B0 ds (AW ds (stF ds φ) m) h) m pl q=.out hd)->bit m hd=true/\1<=pl/\hd < h/\0<=m - 2 ^ hd/\m - 2 ^ hd < 2 ^ h/\(hands 12 (bit (m - 2 ^ hd))).length < n/\∀p∈mt,p.1≠hd:=fun hd c=>by
    obtain ⟨bh,p1⟩:=HY (fun x k=>(hx x k).1) hbm c
    have hh:=CY m0 m1 bh
    obtain ⟨a0,a1,a2⟩:=DF m0 bh (by omega)
    have p1':(0:Int) < 2 ^ hd:=Int.pow_pos (by decide)
    exact ⟨bh,p1,hh,a0,by omega,by omega,fun p pm e=>by have:=(R.met p pm).2.1;rw [e,bh] at this;cases this⟩
   show (match Dq xs (B0 ds (AW ds (stF ds φ) m) h) m pl q with
    | .seat hd=>hd < h/\(∀p∈mt,p.1≠hd)/\Wl h (AA ds) q s (mt++[(hd,true)]) (match Dq xs (B0 ds (AW ds (stF ds φ) m) h) m pl q with
      | .seat hd=>A8 ds h xs q n (BR ds (stF ds φ) m hd q) (m - 2 ^ hd) (pl - 1)
      | .out hd=>A8 ds h xs q n (stF ds φ) (m - 2 ^ hd) pl
      | _=>[])
    | .out hd=>hd < h/\(∀p∈mt,p.1≠hd)/\Wl h (AA ds) q s (mt++[(hd,false)]) (match Dq xs (B0 ds (AW ds (stF ds φ) m) h) m pl q with
      | .seat hd=>A8 ds h xs q n (BR ds (stF ds φ) m hd q) (m - 2 ^ hd) (pl - 1)
      | .out hd=>A8 ds h xs q n (stF ds φ) (m - 2 ^ hd) pl
      | _=>[])
    | _=>(match Dq xs (B0 ds (AW ds (stF ds φ) m) h) m pl q with
      | .seat hd=>A8 ds h xs q n (BR ds (stF ds φ) m hd q) (m - 2 ^ hd) (pl - 1)
      | .out hd=>A8 ds h xs q n (stF ds φ) (m - 2 ^ hd) pl
      | _=>[])=[]/\(mt.filter (·.2)).length<=s)
   cases e:Dq xs (B0 ds (AW ds (stF ds φ) m) h) m pl q with
   | rest=>exact ⟨rfl,by omega⟩
   | fin=>exact ⟨rfl,by omega⟩
   | seat hd =>
     obtain ⟨bh,p1,hh,a0,a1,ln,ne⟩:=step hd (.inl e)
     have ge:=OZ e
     rw [R.share h12 okd hh bh] at ge
     have R':=R.next q1 m0 h12 hh bh ge
     obtain ⟨M2,M20,Mz2,si2⟩:=si.step (k:=s - pl) (ds:=ds) (s:=m) (q:=q) M0 Mz (show hd < 12 by omega) q1 hn N
     refine ⟨hh,ne,?_⟩
     show Wl h (AA ds) q s (mt++[(hd,true)]) (A8 ds h xs q n (BR ds (stF ds φ) m hd q) (m - 2 ^ hd) (pl - 1))
     rw [O4] at si2 ⊢
     refine Gh hn okd N q1 h12 s6 hx hxa n _ _ _ M2 _ si2 M20 (by rw [show s - (pl - 1)=s - pl+1 from by omega];exact Mz2) a0 a1 ln R' ?_
     rw [filter_append,length_append]
     show _+1+(pl - 1)=s
     omega
   | out hd =>
     obtain ⟨bh,p1,hh,a0,a1,ln,ne⟩:=step hd (.inr e)
     refine ⟨hh,ne,?_⟩
     show Wl h (AA ds) q s (mt++[(hd,false)]) (A8 ds h xs q n (stF ds φ) (m - 2 ^ hd) pl)
     refine Gh hn okd N q1 h12 s6 hx hxa n _ _ _ M _ si M0 Mz a0 a1 ln (R.out m0 h12 hh bh) ?_
     rw [filter_append,length_append]
     show _+0+pl=s
     omega
theorem Ht {ds:Lq} {h:Nat} {q:Int} {xs:List Int} (h12:h<=12) (hx:∀x∈xs,0<=x/\x < h) (hxa:∀j:Nat,j < h->(j:Int)∈xs):∀(n:Nat) (st:List Sr) (m:Int) (pl:Nat),0<=m->m < 2 ^ h->(hands 12 (bit m)).length < n ->
 cnt h (Ej m ((A8 ds h xs q n st m pl).map fun r:Rnd=>r.2.2))=min pl (cnt h (bit m))
 | 0,_,_,_,_,_,l=>absurd l (Nat.not_lt_zero _)
 | n+1,st,m,pl,m0,m1,l=>by
   have hb:∀j,bit m j=true->(j:Int)∈xs:=fun j b=>hxa j (CY m0 m1 b)
   have hc:(hands 12 (bit m)).length=cnt h (bit m):=by
    rw [EV]
    exact EW h12 fun j hj=>by
     cases c:bit m j with
     | false=>rfl
     | true=>have:=CY m0 m1 c;omega
   have step:∀hd,(Dq xs (B0 ds (AW ds st m) h) m pl q=.seat hd\/Dq xs (B0 ds (AW ds st m) h) m pl q=.out hd)->bit m hd=true/\1<=pl/\hd < h/\0<=m - 2 ^ hd/\m - 2 ^ hd < 2 ^ h/\(∀j,bit (m - 2 ^ hd) j=(bit m j && decide (j≠hd)))/\(hands 12 (bit (m - 2 ^ hd))).length < n/\1<=n/\cnt h (bit m)=cnt h (bit (m - 2 ^ hd))+1/\pl < cnt h (bit m):=fun hd c=>by
    obtain ⟨bh,p1⟩:=HY (fun x k=>(hx x k).1) hb c
    have hh:=CY m0 m1 bh
    obtain ⟨a0,a1,a2⟩:=DF m0 bh (by omega)
    have p1':(0:Int) < 2 ^ hd:=Int.pow_pos (by decide)
    refine ⟨bh,p1,hh,a0,by omega,a1,by omega,by omega,?_,?_⟩
    ·rw [<- Ka (k:=hd) hh (by rw [a1 hd,decide_eq_false (fun z=>z rfl),Bool.and_false])]
     refine C5 fun j _=>?_
     rw [a1 j]
     by_cases d:j=hd
     ·rw [d,bh,decide_eq_true rfl];rfl
     ·rw [decide_eq_false d,decide_eq_true d,Bool.and_true,Bool.false_or]
    ·rcases (by omega:cnt h (bit m)<=pl\/pl < cnt h (bit m)) with z | z
     ·unfold Dq at c
      rw [if_pos (by rw [hc];exact z)] at c
      rcases c with c | c <;> cases c
     ·exact z
   show cnt h (Ej m (Dq xs (B0 ds (AW ds st m) h) m pl q :: (match Dq xs (B0 ds (AW ds st m) h) m pl q with
    | .seat hd=>A8 ds h xs q n (BR ds st m hd q) (m - 2 ^ hd) (pl - 1)
    | .out hd=>A8 ds h xs q n st (m - 2 ^ hd) pl
    | _=>[]).map fun r:Rnd=>r.2.2))=_
   cases e:Dq xs (B0 ds (AW ds st m) h) m pl q with
   | rest =>
     have le:cnt h (bit m)<=pl:=by
      rcases (by omega:cnt h (bit m)<=pl\/pl < cnt h (bit m)) with z | z
      ·exact z
      ·exfalso
       unfold Dq at e
       rw [if_neg (by omega)] at e
       split at e
       ·cases e
       ·split at e <;> cases e
     rw [Nat.min_eq_right le]
     refine C5 fun j _=>?_
     show Ej m [Dd.rest] j=bit m j
     unfold Ej
     rw [decide_eq_false (fun k=>by rcases mem_cons.mp k with k | k <;> exact nomatch k)]
     show (false || (decide (some Dd.rest=some Dd.rest) && (bit m j && !(Et [.rest] j))))=bit m j
     rw [decide_eq_true rfl]
     show (false || (true && (bit m j && true)))=bit m j
     rw [Bool.false_or,Bool.true_and,Bool.and_true]
   | fin =>
     rw [Rk e,Nat.zero_min,C5 (g:=fun _=>false) (fun j _=>?_),EW (h:=0) (Nat.zero_le _) fun _ _=>rfl]
     ·rfl
     show Ej m [Dd.fin] j=false
     unfold Ej
     rw [decide_eq_false (fun k=>by rcases mem_cons.mp k with k | k <;> exact nomatch k),decide_eq_false (show ¬ [Dd.fin].getLast?=some .rest from fun z=>by cases z)]
     rfl
   | seat hd =>
     obtain ⟨bh,p1,hh,a0,a1,lb,ln,n1,cc,lt⟩:=step hd (.inl e)
     have ih:=Ht (ds:=ds) (q:=q) h12 hx hxa n (BR ds st m hd q) (m - 2 ^ hd) (pl - 1) a0 a1 ln
     show cnt h (Ej m (Dd.seat hd :: (A8 ds h xs q n (BR ds st m hd q) (m - 2 ^ hd) (pl - 1)).map fun r:Rnd=>r.2.2))=_
     have ne:((A8 ds h xs q n (BR ds st m hd q) (m - 2 ^ hd) (pl - 1)).map fun r:Rnd=>r.2.2)≠[]:=fun z=>(Cs ds h xs q n (BR ds st m hd q) (m - 2 ^ hd) (pl - 1)).2 n1 (map_eq_nil_iff.mp z)
     have nw:Ej (m - 2 ^ hd) ((A8 ds h xs q n (BR ds st m hd q) (m - 2 ^ hd) (pl - 1)).map fun r:Rnd=>r.2.2) hd=false:=by
      have bz:bit (m - 2 ^ hd) hd=false:=by rw [lb hd,decide_eq_false (fun z=>z rfl),Bool.and_false]
      unfold Ej
      rw [bz,Bool.false_and,Bool.and_false,Bool.or_false]
      refine decide_eq_false fun k=>?_
      obtain ⟨r,rm,re⟩:=mem_map.mp k
      have:=Fy h12 hx hxa n _ _ _ a0 a1 r rm hd re
      rw [bz] at this
      cases this
     rw [C5 (g:=fun j=>decide (j=hd) || Ej (m - 2 ^ hd) ((A8 ds h xs q n (BR ds st m hd q) (m - 2 ^ hd) (pl - 1)).map fun r:Rnd=>r.2.2) j) (fun j _=>Pt ne (lb j)),Ka hh nw,ih]
     omega
   | out hd =>
     obtain ⟨bh,p1,hh,a0,a1,lb,ln,n1,cc,lt⟩:=step hd (.inr e)
     have ih:=Ht (ds:=ds) (q:=q) h12 hx hxa n st (m - 2 ^ hd) pl a0 a1 ln
     show cnt h (Ej m (Dd.out hd :: (A8 ds h xs q n st (m - 2 ^ hd) pl).map fun r:Rnd=>r.2.2))=_
     have ne:((A8 ds h xs q n st (m - 2 ^ hd) pl).map fun r:Rnd=>r.2.2)≠[]:=fun z=>(Cs ds h xs q n st (m - 2 ^ hd) pl).2 n1 (map_eq_nil_iff.mp z)
     rw [C5 (g:=Ej (m - 2 ^ hd) ((A8 ds h xs q n st (m - 2 ^ hd) pl).map fun r:Rnd=>r.2.2)) (fun j _=>Rb ne (lb j)),ih]
     omega
theorem Pg {h:Nat} {dd:List Dd}:(ES h dd).sum=((cnt h fun j=>decide (j∈Bl h dd):Nat):Int):=by
 unfold ES
 have:∀n,((List.range n).map fun j=>if j∈Bl h dd then (1:Int) else 0).sum=((cnt n fun j=>decide (j∈Bl h dd):Nat):Int):=fun n=>by
  induction n with
  | zero=>rfl
  | succ n ih =>
    show _=((cnt n (fun j=>decide (j∈Bl h dd))+(if decide (n∈Bl h dd)=true then 1 else 0):Nat):Int)
    rw [range_succ,map_append,sum_append,ih,Int.natCast_add]
    congr 1
    by_cases d:n∈Bl h dd
    ·rw [decide_eq_true d];show (if n∈Bl h dd then (1:Int) else 0)+0=_;rw [if_pos d];rfl
    ·rw [decide_eq_false d];show (if n∈Bl h dd then (1:Int) else 0)+0=_;rw [if_neg d];rfl
 exact this h
theorem Ke {ds:Lq} {h s:Nat} {xs:List Int} (hn:∀p∈ds,0<=p.2) (okd:∀p∈ds,Okk h p.1) (n0:0<=AA ds) (N:AA ds < 2 ^ 40) (h12:h<=12) (s6:s<=6) (hx:∀x∈xs,0<=x/\x < h) (hxa:∀j:Nat,j < h->(j:Int)∈xs) :
 Wl h (AA ds) ((AA ds).fdiv ((s:Int)+1)+1) s [] (AD ds h xs s)/\(ES h ((AD ds h xs s).map fun r:Rnd=>r.2.2)).sum=((min s h:Nat):Int):=by
 have p20:(0:Int) < 2 ^ h:=Int.pow_pos (by decide)
 have q1:1<=(AA ds).fdiv ((s:Int)+1)+1:=by
  rw [Int.fdiv_eq_ediv_of_nonneg _ (show (0:Int)<=(s:Int)+1 by omega)]
  have:=Int.ediv_nonneg n0 (show (0:Int)<=(s:Int)+1 by omega)
  omega
 have hl:(hands 12 (bit ((2:Int) ^ h - 1))).length < h+1:=by rw [Ig h12];omega
 constructor
 ·unfold AD
  have so:=Lb ds.length h
  rw [MK] at so ⊢
  refine Gh hn okd N q1 h12 s6 hx hxa (h+1) _ _ s 1 [] so (by decide) (by rw [Nat.sub_self];exact (Bz (by decide) (by decide):Sz 1 (1:Int))) (by omega) (by omega) hl ⟨fun _=>(show (0:Rat)<=1 by decide),fun _=>length_replicate ..,fun _ j _=>?_,fun _=>?_,fun _ m=>absurd m List.not_mem_nil⟩ (by show 0+s=s;omega)
  ·show (List.replicate h (0:Rat)).getD j 0=0
   rw [getD_eq_getElem?_getD,List.getElem?_replicate]
   split <;> rfl
  ·show (1:Rat)+(List.replicate h (0:Rat)).sum=1
   have:∀n,(List.replicate n (0:Rat)).sum=0:=fun n=>by
    induction n with
    | zero=>rfl
    | succ n ih=>rw [replicate_succ,sum_cons,ih];grind
   rw [this]
   grind
 ·rw [Pg]
  have w:=Ht (ds:=ds) (q:=(AA ds).fdiv ((s:Int)+1)+1) h12 hx hxa (h+1) (Dt ds.length h) (2 ^ h - 1) s (by omega) (by omega) hl
  have fb:cnt h (bit ((2:Int) ^ h - 1))=h:=by
   have:=EV 12 (bit ((2:Int) ^ h - 1))
   have hi:∀j,h<=j->bit ((2:Int) ^ h - 1) j=false:=fun j hj=>by
    have le:(2:Int) ^ h<=2 ^ j:=by
     have:=Nat.pow_le_pow_right (show 0 < 2 by decide) hj
     exact_mod_cast this
    exact Eb (by omega) (by omega)
   rw [Ig h12,EW h12 hi] at this
   exact this.symm
  rw [fb] at w
  rw [<- w]
  congr 1
  refine C5 fun j hj=>?_
  rw [<- Qn hj]
  rfl
theorem SH {X:Cx} {e:Expr} {t u:TE} (h1:PE X e t) (h2:PE X e u):PE X e (fun σ H Q=>t σ H Q\/u σ H Q):=fun pins s σ H Q I h=>h.elim (h1 pins s σ H Q I) (h2 pins s σ H Q I)
def IsM (C:Addr) (H:Hp) (g a:Addr):Prop:=∃dx,H g=some (.ins C dx [("way",.ref a)])
theorem IsM.same {C:Addr} {H H':Hp} {g a:Addr} (s:Au H H') (m:IsM C H g a):IsM C H' g a:=let ⟨dx,h⟩:=m;⟨dx,s _ _ h⟩
theorem TB (x:V):DE "way" x []=([("way",x)]:List (Str × V)):=rfl
def Atm (x:V):Prop:=(∃i,x=.int i)\/x=.non\/x=.str "seat"\/x=.str "out"\/x=.str "rest"\/x=.str "end"
theorem Atm.rep {K:PySem.W.Frag} {H:Hp} {x:V} (h:Atm x):∃d,Rep K H x d/\Lay 0 d:=by
 rcases h with ⟨i,rfl⟩ | rfl | rfl | rfl | rfl | rfl
 ·exact ⟨_,.int i,FZ 0 i⟩
 ·exact ⟨_,.non,rfl,Nat.le_refl _⟩
 ·exact ⟨_,.str _,by decide +kernel,Nat.le_refl _⟩
 ·exact ⟨_,.str _,by decide +kernel,Nat.le_refl _⟩
 ·exact ⟨_,.str _,by decide +kernel,Nat.le_refl _⟩
 ·exact ⟨_,.str _,by decide +kernel,Nat.le_refl _⟩
theorem Fe {K:PySem.W.Frag} {H:Hp} {k:Nat}:∀{xs:List V},(∀x∈xs,∃d,Rep K H x d/\Lay k d)->∃ds,Reps K H xs ds/\∀d∈ds,Lay k d
 | [],_=>⟨[],.nil,fun _ m=>absurd m List.not_mem_nil⟩
 | x :: xs,h=>by
   obtain ⟨d,r,l⟩:=h x (mem_cons_self ..)
   obtain ⟨ds,rs,ls⟩:=Fe (xs:=xs) fun y m=>h y (mem_cons_of_mem _ m)
   refine ⟨d :: ds,.cons r rs,fun e m=>?_⟩
   rcases mem_cons.mp m with rfl | m
   ·exact l
   ·exact ls e m
def Flt (H:Hp) (v:V):Prop:=∃(a:Addr) (xs:List V),v=.ref a/\H a=some (.tup xs)/\∀x∈xs,Atm x
theorem Flt.rep {K:PySem.W.Frag} {H:Hp} {v:V} (h:Flt H v):∃d,Rep K H v d/\Lay 1 d:=by
 obtain ⟨a,xs,rfl,e,f⟩:=h
 obtain ⟨ds,r,l⟩:=Fe (K:=K) (H:=H) fun x m=>(f x m).rep
 exact ⟨_,.tup (SqT.of e) r,FJ l⟩
theorem Flt.same {H H':Hp} {v:V} (s:Au H H') (h:Flt H v):Flt H' v:=let ⟨a,xs,e,t,f⟩:=h;⟨a,xs,e,s _ _ t,f⟩
theorem Flt.upd {H:Hp} {v:V} {l:Addr} {ys:List V} {o:HO} (e:H l=some (.lst ys)) (h:Flt H v):Flt (L2.upd H l o) v:=by
 obtain ⟨a,xs,rfl,t,f⟩:=h
 exact ⟨a,xs,rfl,by rw [Al (Cw t e (fun z=>by cases z))];exact t,f⟩
theorem Fo {H:Hp} {f:Fq} (g:FqG H f):Flt H (.ref f.1):=⟨f.1,_,rfl,g,fun x m=>by
 rcases mem_cons.mp m with rfl | m
 ·exact .inl ⟨_,rfl⟩
 ·rw [mem_singleton.mp m];exact .inl ⟨_,rfl⟩⟩
theorem HJ (d:Dd):Atm (.str d.word)/\Atm d.who:=by
 cases d
 ·exact ⟨.inr (.inr (.inl rfl)),.inl ⟨_,rfl⟩⟩
 ·exact ⟨.inr (.inr (.inr (.inl rfl))),.inl ⟨_,rfl⟩⟩
 ·exact ⟨.inr (.inr (.inr (.inr (.inl rfl)))),.inr (.inl rfl)⟩
 ·exact ⟨.inr (.inr (.inr (.inr (.inr rfl)))),.inr (.inl rfl)⟩
theorem Er {H:Hp} {a:Addr} {x y:V} (e:H a=some (.tup [x,y])) (hx:Atm x) (hy:Atm y):Flt H (.ref a):=⟨a,_,rfl,e,fun z m=>by
 rcases mem_cons.mp m with rfl | m
 ·exact hx
 ·rw [mem_singleton.mp m];exact hy⟩
structure Ed (B H:Hp) (W:Addr):Prop where
 new:B W=none
 ex:∃xs,H W=some (.lst xs)/\∀x∈xs,Flt H x
structure Dy (B H:Hp) (t:Addr):Prop where
 ex:∃(R S:Addr) (d:V) (Ws:List Addr) (xs:List V),H t=some (.tup [.ref R,.ref S,d])/\B R=none/\B S=none/\H R=some (.lst (Ws.map V.ref))/\(∀W∈Ws,Ed B H W)/\H S=some (.lst xs)/\(∀x∈xs,Flt H x)/\Flt H d
theorem Ed.same {B H H':Hp} {W:Addr} (s:Au H H') (k:Ed B H W):Ed B H' W:=let ⟨xs,e,f⟩:=k.ex;⟨k.new,xs,s _ _ e,fun x m=>(f x m).same s⟩
theorem Dy.same {B H H':Hp} {t:Addr} (s:Au H H') (k:Dy B H t):Dy B H' t:=by
 obtain ⟨R,S,d,Ws,xs,a,b,c,e,f,g,h,i⟩:=k.ex
 exact ⟨R,S,d,Ws,xs,s _ _ a,b,c,s _ _ e,fun W m=>(f W m).same s,s _ _ g,fun x m=>(h x m).same s,i.same s⟩
theorem Dy.rep {K:PySem.W.Frag} {B H:Hp} {t:Addr} (k:Dy B H t):∃D,Rep K H (.ref t) D/\Lay 4 D:=by
 obtain ⟨R,S,d,Ws,xs,a,b,c,e,f,g,h,i⟩:=k.ex
 obtain ⟨rd,r1,r2⟩:=Fe (K:=K) (H:=H) (k:=2) (xs:=Ws.map V.ref) fun x m=>by
  obtain ⟨W,wm,rfl⟩:=mem_map.mp m
  obtain ⟨ys,ey,fy⟩:=(f W wm).ex
  obtain ⟨ds,r,l⟩:=Fe (K:=K) (H:=H) fun x m=>(fy x m).rep
  exact ⟨_,.lst (SqL.of ey) r,BX l⟩
 obtain ⟨sd,s1,s2⟩:=Fe (K:=K) (H:=H) fun x m=>(h x m).rep
 obtain ⟨dd,d1,d2⟩:=i.rep (K:=K)
 refine ⟨.tuple [.list rd,.list sd,dd],.tup (SqT.of a) (.cons (.lst (SqL.of e) r1) (.cons (.lst (SqL.of g) s1) (.cons d1 .nil))),FJ fun x m=>?_⟩
 rcases mem_cons.mp m with rfl | m
 ·exact BX r2
 rcases mem_cons.mp m with rfl | m
 ·exact (BX s2).mono (by decide)
 ·rw [mem_singleton.mp m];exact d2.mono (by decide)
def Il (B H:Hp) (L:Addr):Prop:=B L=none/\∃ts:List Addr,H L=some (.lst (ts.map V.ref))/\∀t∈ts,Dy B H t
theorem Il.rep {K:PySem.W.Frag} {B H:Hp} {L:Addr} (k:Il B H L):∃D,Rep K H (.ref L) D/\Lay 5 D:=by
 obtain ⟨_,ts,e,f⟩:=k
 obtain ⟨ds,r,l⟩:=Fe (K:=K) (H:=H) (k:=4) (xs:=ts.map V.ref) fun x m=>by
  obtain ⟨t,tm,rfl⟩:=mem_map.mp m
  exact (f t tm).rep
 exact ⟨_,.lst (SqL.of e) r,BX l⟩
theorem M3 {B H:Hp} {W:Addr} {xs:List V} {Ws:List Addr} (k:∀x∈xs,Flt H x) (e:xs=Ws.map V.ref) (ne:xs≠[]) (h:∀W∈Ws,Ed B H W):False:=by
 cases Ws with
 | nil=>exact ne e
 | cons W r =>
   obtain ⟨a,ys,ea,ta,_⟩:=k (.ref W) (by rw [e];exact mem_cons_self ..)
   cases ea
   obtain ⟨zs,ez,_⟩:=(h W (mem_cons_self ..)).ex
   rw [ta] at ez
   cases ez
theorem PP {B H:Hp} {X:Addr} {xs ys:List V} (e:H X=some (.lst xs)) (ne:xs≠[]) (fx:∀x∈xs,Flt H x) (fy:∀y∈ys,Flt H y) :
 (∀{W},Ed B H W->Ed B (upd H X (.lst ys)) W)/\∀{t},Dy B H t->Dy B (upd H X (.lst ys)) t:=by
 have row:∀{W},Ed B H W->Ed B (upd H X (.lst ys)) W:=fun {W} k=>by
  by_cases c:W=X
  ·rw [c] at k ⊢
   exact ⟨k.new,ys,Ab,fun x m=>(fy x m).upd e⟩
  ·obtain ⟨zs,ez,fz⟩:=k.ex
   exact ⟨k.new,zs,by rw [Al c];exact ez,fun x m=>(fz x m).upd e⟩
 refine ⟨row,fun {t} k=>?_⟩
 obtain ⟨R,S,d,Ws,zs,a,b,c,e',f,g,h,i⟩:=k.ex
 have tX:t≠X:=Cw a e (fun z=>by cases z)
 have RX:R≠X:=fun z=>by
  rw [z,e] at e'
  have e2:xs=Ws.map V.ref:=by cases e';rfl
  exact M3 (W:=R) fx e2 ne f
 by_cases q:S=X
 ·exact ⟨R,S,d,Ws,ys,by rw [Al tX];exact a,b,c,by rw [Al RX];exact e',fun W m=>row (f W m),by rw [q];exact Ab,fun x m=>(fy x m).upd e,i.upd e⟩
 ·exact ⟨R,S,d,Ws,zs,by rw [Al tX];exact a,b,c,by rw [Al RX];exact e',fun W m=>row (f W m),by rw [Al q];exact g,fun x m=>(h x m).upd e,i.upd e⟩
theorem Qq {B H:Hp} {X:Addr} {Vs Us:List Addr} (e:H X=some (.lst (Vs.map V.ref))) (ne:Vs≠[]) (fx:∀W∈Vs,Ed B H W) (fy:∀W∈Us,Ed B H W):∀{t},Dy B H t->Dy B (upd H X (.lst (Us.map V.ref))) t:=by
 have nX:∀{W:Addr} {xs:List V},H W=some (.lst xs)->(∀x∈xs,Flt H x)->W≠X:=fun {W xs} ew fw z=>by
  rw [z,e] at ew
  have e2:xs=Vs.map V.ref:=by cases ew;rfl
  exact M3 (W:=W) fw e2 (by rw [e2];intro q;exact ne (map_eq_nil_iff.mp q)) fx
 have row:∀{W},Ed B H W->Ed B (upd H X (.lst (Us.map V.ref))) W:=fun {W} k=>by
  obtain ⟨zs,ez,fz⟩:=k.ex
  exact ⟨k.new,zs,by rw [Al (nX ez fz)];exact ez,fun x m=>(fz x m).upd e⟩
 intro t k
 obtain ⟨R,S,d,Ws,zs,a,b,c,e',f,g,h,i⟩:=k.ex
 have tX:t≠X:=Cw a e (fun z=>by cases z)
 by_cases q:R=X
 ·exact ⟨R,S,d,Us,zs,by rw [Al tX];exact a,b,c,by rw [q];exact Ab,fun W m=>row (fy W m),by rw [Al (nX g h)];exact g,fun x m=>(h x m).upd e,i.upd e⟩
 ·exact ⟨R,S,d,Ws,zs,by rw [Al tX];exact a,b,c,by rw [Al q];exact e',fun W m=>row (f W m),by rw [Al (nX g h)];exact g,fun x m=>(h x m).upd e,i.upd e⟩
theorem NF {B H:Hp} {X:Addr} {ts us:List Addr} (e:H X=some (.lst (ts.map V.ref))) (ne:ts≠[]) (fx:∀t∈ts,Dy B H t):∀{t},Dy B H t->Dy B (upd H X (.lst (us.map V.ref))) t:=by
 obtain ⟨t0,tr,et⟩:=exists_cons_of_ne_nil ne
 obtain ⟨R0,S0,d0,_,_,a0,_⟩:=(fx t0 (by rw [et];exact mem_cons_self ..)).ex
 have nX:∀{W:Addr} {xs:List V},H W=some (.lst xs)->(∀x∈xs,Flt H x)->W≠X:=fun {W xs} ew fw z=>by
  rw [z,e] at ew
  have e2:xs=ts.map V.ref:=by cases ew;rfl
  obtain ⟨a,ys,ea,ta,fa⟩:=fw (.ref t0) (by rw [e2,et];exact mem_cons_self ..)
  cases ea
  rw [a0] at ta
  cases ta
  rcases fa (.ref R0) (mem_cons_self ..) with ⟨_,q⟩ | q | q | q | q | q <;> cases q
 have row:∀{W},Ed B H W->Ed B (upd H X (.lst (us.map V.ref))) W:=fun {W} k=>by
  obtain ⟨zs,ez,fz⟩:=k.ex
  exact ⟨k.new,zs,by rw [Al (nX ez fz)];exact ez,fun x m=>(fz x m).upd e⟩
 intro t k
 obtain ⟨R,S,d,Ws,zs,a,b,c,e',f,g,h,i⟩:=k.ex
 have tX:t≠X:=Cw a e (fun z=>by cases z)
 have RX:R≠X:=fun z=>by
  rw [z,e] at e'
  have e2:ts.map V.ref=Ws.map V.ref:=HO.lst.inj (Option.some.inj e')
  have m0:V.ref t0∈Ws.map V.ref:=by rw [<- e2,et];exact mem_cons_self ..
  obtain ⟨W,wm,ew⟩:=mem_map.mp m0
  cases ew
  obtain ⟨ys,ey,_⟩:=(f t0 wm).ex
  rw [a0] at ey
  cases ey
 exact ⟨R,S,d,Ws,zs,by rw [Al tX];exact a,b,c,by rw [Al RX];exact e',fun W m=>row (f W m),by rw [Al (nX g h)];exact g,fun x m=>(h x m).upd e,i.upd e⟩
def Qo (B:Hp) (r:Rq):Prop:=B r.2.1.1=none/\B r.2.2.1.1=none/\∀x∈r.2.1.2,B x.1=none
theorem P8 {B H:Hp} {r:Rq} (g:RqG H r) (f:Qo B r):Dy B H r.1:=⟨r.2.1.1,r.2.2.1.1,.ref r.2.2.2.1,r.2.1.2.map (·.1),fqv r.2.2.1.2,g.t,f.1,f.2.1,by rw [g.rl];unfold rwv;rw [map_map];rfl,fun W m=>by
 obtain ⟨x,xm,rfl⟩:=mem_map.mp m
 exact ⟨f.2.2 x xm,fqv x.2,(g.rg x xm).1,fun v vm=>by
  obtain ⟨q,qm,rfl⟩:=mem_map.mp vm
  exact Fo ((g.rg x xm).2 q qm)⟩,g.sl,fun v vm=>by
 obtain ⟨q,qm,rfl⟩:=mem_map.mp vm
 exact Fo (g.sg q qm),Er g.d (HJ _).1 (HJ _).2⟩
def ZV (h n:Nat) (v:Rv):Prop:=v.1.length=n/\(∀r∈v.1,r.length=h+1/\∀q∈r,Sz 4700 q.1/\Sz 4700 q.2)/\v.2.1.length=h+1/\∀q∈v.2.1,Sz 4700 q.1/\Sz 4700 q.2
def O1:Sp:=fun vs H Q _=>∃(p:Addr) (ps:List Rq),vs=[.ref p]/\H p=some (.lst (rqs ps))/\(∀r∈ps,RqG H r)/\ps.length<=13/\(∀r∈ps,r.2.1.2.length<=60) /\
 ∀(L:Addr) (cs:List Rq) (H':Hp),H L=none->Au H H'->H' L=some (.lst (rqs cs))->(∀r∈cs,RqG H' r/\Qo H r)->cs.map rqV=ps.map rqV->Q (.ref L) H'
def NH:Sp:=fun vs H Q _=>∃(a:Addr) (n m c:Int),vs=[.ref a,.int c]/\H a=some (.tup [.int n,.int m])/\Sz 4700 n/\Sz 4700 m/\Sz 200 c/\∀(t:Addr) (H':Hp),Au H H'->Flt H' (.ref t)->Q (.ref t) H'
def PJ:Sp:=fun vs H Q _=>∃(a:Addr) (d:Dd) (c:Int) (h:Nat),vs=[.ref a,.int c,.int (h:Int)]/\H a=some (.tup [.str d.word,d.who])/\Sz 200 c/\h<=12/\∀(t:Addr) (H':Hp),Au H H'->Flt H' (.ref t)->Q (.ref t) H'
def Kg (K:PySem.W.Frag):Sp:=fun vs H Q _=>∃(g C dx a:Addr),vs=[.ref g,.ref a]/\H g=some (.ins C dx [])/\Cls K C/\BP K C "way"/\∀H':Hp,Au (off H g) H'->H' g=some (.ins C dx [("way",.ref a)])->Q .non H'
theorem KD {xs:List V} {j:Nat}:GH xs (some (j:Int)) none=xs.drop j:=by
 unfold GH
 rw [HT.sIx_none,HT.sIx_nat]
 by_cases h:j<=xs.length
 ·rw [Nat.min_eq_left h]
  exact take_of_length_le (by rw [length_drop];exact Nat.le_refl _)
 ·rw [Nat.min_eq_right (by omega),drop_of_length_le (Nat.le_refl _),drop_of_length_le (by omega)]
  exact take_nil
noncomputable def RL (a b c w:Int):Int:=if w=0 then a else if w=1 then b else c
theorem Qv {a b c w:Int} (h:0<=w/\w < 3):atI [V.int a,V.int b,V.int c] w=some (.int (RL a b c w)):=by
 rcases (by omega:w=0\/w=1\/w=2) with rfl | rfl | rfl <;> rfl
def Mv:Sp:=fun vs H Q _=>∃(L t:Addr) (B:Hp) (w:Int) (ts:List Addr) (k:Nat),vs=[.ref L,.int w,.int (k:Int),.ref t]/\Au B H/\H L=some (.lst (ts.map V.ref))/\ts.length<=60/\(∀t∈ts,Dy B H t)/\Dy B H t /\
 ∀(l:Addr) (H':Hp),Au B H'->Il B H' l->Q (.ref l) H'
theorem Pp {B H:Hp} {L X:Addr} {ts:List Addr} {ys:List V} (e:H L=some (.lst (ts.map V.ref))) (ne:ts≠[]) (g:∀t∈ts,Dy B H t) (ex:H X=some (.lst ys)) (f:∀y∈ys,Flt H y):L≠X:=fun z=>by
 obtain ⟨t0,tr,et⟩:=exists_cons_of_ne_nil ne
 obtain ⟨R0,S0,d0,_,_,a0,_⟩:=(g t0 (by rw [et];exact mem_cons_self ..)).ex
 rw [z,ex] at e
 have e2:ys=ts.map V.ref:=HO.lst.inj (Option.some.inj e)
 obtain ⟨a,zs,ea,ta,fa⟩:=f (.ref t0) (by rw [e2,et];exact mem_cons_self ..)
 cases ea
 rw [a0] at ta
 cases ta
 rcases fa (.ref R0) (mem_cons_self ..) with ⟨_,q⟩ | q | q | q | q | q <;> cases q
theorem Qw {B H:Hp} {L X:Addr} {ts Ws:List Addr} (e:H L=some (.lst (ts.map V.ref))) (ne:ts≠[]) (g:∀t∈ts,Dy B H t) (ex:H X=some (.lst (Ws.map V.ref))) (f:∀W∈Ws,Ed B H W):L≠X:=fun z=>by
 obtain ⟨t0,tr,et⟩:=exists_cons_of_ne_nil ne
 obtain ⟨R0,S0,d0,_,_,a0,_⟩:=(g t0 (by rw [et];exact mem_cons_self ..)).ex
 rw [z,ex] at e
 have e2:Ws.map V.ref=ts.map V.ref:=HO.lst.inj (Option.some.inj e)
 have m0:V.ref t0∈Ws.map V.ref:=by rw [e2,et];exact mem_cons_self ..
 obtain ⟨W,wm,ew⟩:=mem_map.mp m0
 cases ew
 obtain ⟨ys,ey,_⟩:=(f t0 wm).ex
 rw [a0] at ey
 cases ey
structure Cg (B H J:Hp):Prop where
 same:Au B J
 rnd:∀t,Dy B H t->Dy B J t
 out:∀L ts,H L=some (.lst (ts.map V.ref))->ts≠[]->(∀t∈ts,Dy B H t)->J L=some (.lst (ts.map V.ref))
theorem BS {B H:Hp} {X:Addr} {xs ys:List V} (s:Au B H) (b:B X=none) (e:H X=some (.lst xs)) (ne:xs≠[]) (fx:∀x∈xs,Flt H x) (fy:∀y∈ys,Flt H y):Cg B H (upd H X (.lst ys)) :=
 ⟨A1 s b,fun t k=>(PP e ne fx fy).2 k,fun L ts el n g=>by rw [Al (Pp el n g e fx)];exact el⟩
theorem HQ {B H:Hp} {X:Addr} {Vs Us:List Addr} (s:Au B H) (b:B X=none) (e:H X=some (.lst (Vs.map V.ref))) (ne:Vs≠[]) (fx:∀W∈Vs,Ed B H W) (fy:∀W∈Us,Ed B H W):Cg B H (upd H X (.lst (Us.map V.ref))) :=
 ⟨A1 s b,fun t k=>Qq e ne fx fy k,fun L ts el n g=>by rw [Al (Qw el n g e fx)];exact el⟩
theorem Cg.pre {B H H1 J:Hp} (s:Au H H1) (k:Cg B H1 J):Cg B H J:=⟨k.same,fun t r=>k.rnd t (r.same s),fun L ts e n g=>k.out L ts (s _ _ e) n fun t m=>(g t m).same s⟩
theorem Kr {B H:Hp} (s:Au B H):Cg B H H:=⟨s,fun _ k=>k,fun _ _ e _ _=>e⟩
def LW:Sp:=fun vs H Q _=>∃(R S t:Addr) (B:Hp) (w c:Int) (Ws:List Addr) (xs:List V) (d:V),vs=[.ref R,.ref S,.int w,.int c]/\Sz 200 c/\H t=some (.tup [.ref R,.ref S,d])/\Au B H/\B R=none/\B S=none/\H R=some (.lst (Ws.map V.ref))/\Ws≠[]/\Ws.length<=60/\(∀W∈Ws,Ed B H W/\∃ys,H W=some (.lst ys)/\ys≠[]/\ys.length<=20)/\H S=some (.lst xs)/\xs≠[]/\xs.length<=20/\(∀x∈xs,Flt H x) /\
 ∀H':Hp,Cg B H H'->Q .non H'
noncomputable def GG (ds:Lq) (h:Nat) (xs:List Int) (s:Nat):PyData:=.list (((AD ds h xs s).map BG).map roD)
def IW (C:Addr) (H:Hp) (a:Addr) (h s:Nat) (xs:List Int):Prop:=IsS C H a (h:Int) (s:Int) xs/\1<=h/\h<=12/\1<=s/\s<=6/\xs.Perm (ups h)
def G7 (H:Hp) (h:Nat) (l:Addr) (ls:Ls):Prop:=H l=some (.lst (vls ls))/\BH H ls/\(∀q∈ls,OkT h q.2.2.1/\0<=q.2.2.2/\Sz 64 q.2.2.2)/\ls.length<=60/\AA (Av ls) < 2 ^ 40
theorem IW.same {C:Addr} {H H':Hp} {a:Addr} {h s:Nat} {xs:List Int} (e:Au H H') (k:IW C H a h s xs):IW C H' a h s xs:=⟨let ⟨dx,l,k1,k2⟩:=k.1;⟨dx,l,e _ _ k1,e _ _ k2⟩,k.2⟩
theorem G7.same {H H':Hp} {h:Nat} {l:Addr} {ls:Ls} (e:Au H H') (k:G7 H h l ls):G7 H' h l ls:=⟨e _ _ k.1,k.2.1.same e,k.2.2⟩
def NG (K:PySem.W.Frag) (M C:Addr):Sp:=fun vs H Q _=>∃(g a l p:Addr) (h s:Nat) (xs:List Int) (ls:Ls) (D:PyData),vs=[.ref g,.ref l,.ref p]/\IsM M H g a/\IW C H a h s xs/\G7 H h l ls/\Rep K H (.ref p) D/\SeqAt.shaped D=true/\∀H':Hp,Au H H'->Q (.bl (PyData.eqv D (GG (Av ls) h xs s))) H'
def PU:Sp:=fun vs H Q _=>∃x y z:V,vs=[x,y,z]/\Q (.bl false) H
def Ij (K:PySem.W.Frag) (M M0 C:Addr):Sp:=fun vs H Q _=>∃(g a l p o:Addr),vs=[.ref g,.ref l,.ref p,.ref o] /\
 ((IsM M0 H g a/\Q (.bl false) H) \/
  ∃(h s:Nat) (xs:List Int) (ls:Ls),IsM M H g a/\IW C H a h s xs/\G7 H h l ls /\
   ((∃D,Rep K H (.ref p) D/\SeqAt.shaped D=true/\PyData.eqv D (GG (Av ls) h xs s)=false/\∀H':Hp,Au H H'->Q (.bl false) H') \/
    ∃(ps:List Rq) (os:List Int),H p=some (.lst (rqs ps))/\(∀r∈ps,RqG H r)/\ps.map rqV=(AD (Av ls) h xs s).map BG/\H o=some (.lst (os.map V.int))/\∀H':Hp,Au H H'->Q (.bl (decide (ES h ((AD (Av ls) h xs s).map fun r=>r.2.2)=os))) H'))
def Mw (K:PySem.W.Frag):Sp:=fun vs H Q _=>∃(p:Addr) (ps:List Rq) (w c:Int) (h n:Nat),vs=[.ref p,.int w,.int c,.int (h:Int)]/\H p=some (.lst (rqs ps))/\(∀r∈ps,RqG H r/\ZV h n (rqV r))/\ps≠[]/\ps.length<=13/\1<=n/\n<=60/\1<=h/\h<=12/\0<=w/\w<=16/\0<=c/\Sz 200 c /\
 ∀(l:Addr) (D:PyData) (H':Hp),Au H H'->Rep K H' (.ref l) D->SeqAt.shaped D=true->Q (.ref l) H'
theorem Cg.trans {B H J G:Hp} (a:Cg B H J) (b:Cg B J G):Cg B H G:=⟨b.same,fun t k=>b.rnd t (a.rnd t k),fun L ts e n g=>b.out L ts (a.out L ts e n g) n fun t m=>a.rnd t (g t m)⟩
theorem L7 {h s:Nat} {N q:Int}:∀{F:List Rnd} {mt:List (Nat × Bool)},Wl h N q s mt F->∀r∈F,(r.2.1.length=h+1/\∀v∈r.2.1,Fz v)/\∀w∈r.1,w.length=h+1/\∀v∈w,Fz v
 | [],_,_,r,m=>absurd m List.not_mem_nil
 | x :: F,mt,k,r,m=>by
   obtain ⟨⟨a1,a2,_⟩,b,_,d⟩:=k
   rcases mem_cons.mp m with rfl | m
   ·exact ⟨⟨a1,a2⟩,fun w wm=>⟨(b w wm).1,(b w wm).2.1⟩⟩
   ·cases e:x.2.2 with
    | seat hd=>rw [e] at d;exact L7 d.2.2 r m
    | out hd=>rw [e] at d;exact L7 d.2.2 r m
    | rest=>rw [e] at d;rw [d.1] at m;exact absurd m List.not_mem_nil
    | fin=>rw [e] at d;rw [d.1] at m;exact absurd m List.not_mem_nil
theorem EB (ds:Lq) (h:Nat) (xs:List Int) (q:Int):∀(n:Nat) (φ:List Int->Sr) (m:Int) (pl:Nat),∀r∈A8 ds h xs q n (stF ds φ) m pl,r.1.length=ds.length
 | 0,_,_,_,r,k=>absurd k List.not_mem_nil
 | n+1,φ,m,pl,r,k=>by
   unfold A8 at k
   rcases mem_cons.mp k with rfl | k
   ·show (AW ds (stF ds φ) m).length=_
    rw [LE,length_map]
   ·cases e:(CN ds h xs q (stF ds φ) m pl).2.2 with
    | seat hd =>
      rw [e] at k
      dsimp only at k
      rw [O4] at k
      exact EB ds h xs q n _ _ _ r k
    | out hd=>rw [e] at k;exact EB ds h xs q n _ _ _ r k
    | rest=>rw [e] at k;exact absurd k List.not_mem_nil
    | fin=>rw [e] at k;exact absurd k List.not_mem_nil
theorem Oj:∀{a b:List (Int × Int)},PyData.eqvAll (a.map fD) (b.map fD)=true->a=b
 | [],[],_=>rfl
 | [],_ :: _,h=>by cases h
 | _ :: _,[],h=>by cases h
 | x :: a,y :: b,h=>by
   have h':(PyData.eqv (fD x) (fD y) && PyData.eqvAll (a.map fD) (b.map fD))=true:=h
   rw [Bool.and_eq_true] at h'
   have k:PyData.eqvAll [PyData.int x.1,PyData.int x.2] [PyData.int y.1,PyData.int y.2]=true:=h'.1
   have e:=EJ [x.1,x.2] [y.1,y.2]
   rw [show PyData.eqvAll ([x.1,x.2].map PyData.int) ([y.1,y.2].map PyData.int)=true from k] at e
   have e2:[x.1,x.2]=[y.1,y.2]:=of_decide_eq_true e.symm
   have e3:x=y:=by
    obtain ⟨x1,x2⟩:=x
    obtain ⟨y1,y2⟩:=y
    dsimp only at e2
    injection e2 with q1 q2
    injection q2 with q2 _
    rw [q1,q2]
   rw [e3,Oj h'.2]
structure Nb (ds:Lq) (h s:Nat) (xs:List Int):Prop where
 zv:∀v∈(AD ds h xs s).map BG,ZV h ds.length v
 first:∃r rs,AD ds h xs s=r :: rs/\r.2.1.sum=((AA ds:Int):Rat)
theorem OS {ds:Lq} {h s:Nat} {xs:List Int} (hn:∀p∈ds,0<=p.2) (okd:∀p∈ds,Okk h p.1) (n0:0<=AA ds) (N:AA ds < 2 ^ 40) (h12:h<=12) (s6:s<=6) (px:xs.Perm (ups h)):Nb ds h s xs:=by
 have hx:∀x∈xs,0<=x/\x < (h:Int):=fun x m=>GT.mp (px.mem_iff.mp m)
 have hxa:∀j:Nat,j < h->(j:Int)∈xs:=fun j hj=>px.mem_iff.mpr (GT.mpr ⟨by omega,by omega⟩)
 have w:=(Ke (s:=s) hn okd n0 N h12 s6 hx hxa).1
 refine ⟨fun v m=>?_,?_⟩
 ·obtain ⟨r,rm,rfl⟩:=mem_map.mp m
  obtain ⟨⟨a1,a2⟩,b⟩:=L7 w r rm
  have rl:r.1.length=ds.length:=by
   unfold AD at rm
   rw [MK] at rm
   exact EB ds h xs _ _ _ _ _ r rm
  refine ⟨by unfold BG;dsimp only;rw [length_map];exact rl,fun u um=>?_,by unfold BG;dsimp only;rw [length_map];exact a1,fun q qm=>?_⟩
  ·obtain ⟨y,ym,rfl⟩:=mem_map.mp um
   refine ⟨by rw [length_map];exact (b y ym).1,fun q qm=>?_⟩
   obtain ⟨z,zm,rfl⟩:=mem_map.mp qm
   exact ((b y ym).2 z zm).2
  ·obtain ⟨z,zm,rfl⟩:=mem_map.mp qm
   exact (a2 z zm).2
 ·cases e:AD ds h xs s with
  | nil=>rw [e] at w;exact w.elim
  | cons r rs=>rw [e] at w;exact ⟨r,rs,rfl,w.1.2.2⟩
theorem QD {ds ds':Lq} {h s:Nat} {xs:List Int} (a:Nb ds h s xs) (b:Nb ds' h s xs) (ne:AA ds≠AA ds'):PyData.eqv (GG ds h xs s) (GG ds' h xs s)=false:=by
 obtain ⟨r,rs,e,f⟩:=a.first
 obtain ⟨r',rs',e',f'⟩:=b.first
 rw [Bool.eq_false_iff]
 intro h0
 unfold GG at h0
 rw [e,e'] at h0
 have h1:(PyData.eqv (roD (BG r)) (roD (BG r')) && PyData.eqvAll ((rs.map BG).map roD) ((rs'.map BG).map roD))=true:=h0
 rw [Bool.and_eq_true] at h1
 have h2:(PyData.eqv (.list ((BG r).1.map Qj)) (.list ((BG r').1.map Qj)) && (PyData.eqv (.list ((BG r).2.1.map fD)) (.list ((BG r').2.1.map fD)) && PyData.eqvAll [ddD (BG r).2.2.word (BG r).2.2.data] [ddD (BG r').2.2.word (BG r').2.2.data]))=true:=h1.1
 rw [Bool.and_eq_true,Bool.and_eq_true] at h2
 have h3:=Oj (show PyData.eqvAll ((BG r).2.1.map fD) ((BG r').2.1.map fD)=true from h2.2.1)
 have h4:r.2.1=r'.2.1:=by
  have h5:r.2.1.map pr=r'.2.1.map pr:=h3
  clear h0 h1 h2 h3 e e' f f'
  generalize r.2.1=u at h5 ⊢
  generalize r'.2.1=v at h5 ⊢
  induction u generalizing v with
  | nil=>cases v with
    | nil=>rfl
    | cons=>cases h5
  | cons x u ih=>cases v with
    | nil=>cases h5
    | cons y v =>
      injection h5 with q1 q2
      rw [RZ q1,ih v q2]
 rw [h4,f'] at f
 exact ne (by exact_mod_cast f.symm)
theorem Na {B:Int} (b0:0<=B):∀{ds:Lq},(∀q∈ds,0<=q.2/\q.2<=B)->0<=AA ds/\AA ds<=(ds.length:Int)*B
 | [],_=>⟨Int.le_refl _,by show (0:Int)<=0*B;omega⟩
 | f :: r,h=>by
   have a:=h f (mem_cons_self ..)
   have b:=Na b0 (ds:=r) fun q m=>h q (mem_cons_of_mem _ m)
   unfold AA at b ⊢
   rw [map_cons,sum_cons,length_cons,Int.natCast_add,Int.add_mul]
   omega
def top (i:Nat):Stmt:=PySem.Challenge.pw_pollproof_k49_papers_of_seats_let_by.main.body.getD i (.Pass ⟨0,0,0,0⟩)
abbrev CL:Stmt:=top 6
abbrev D5:Stmt:=top 7
abbrev Ei:Stmt:=top 19
abbrev Fg:Stmt:=top 20
abbrev D1:Stmt:=top 21
abbrev Dh:Stmt:=top 23
abbrev Gy:Stmt:=top 25
abbrev Ff:Stmt:=top 31
abbrev DM:Stmt:=top 33
abbrev C0:Stmt:=top 42
abbrev BC:Stmt:=top 46
abbrev De:Stmt:=top 51
abbrev C6:Stmt:=top 52
abbrev Cu:Stmt:=top 54
abbrev Cf:Stmt:=top 56
abbrev Cq:Stmt:=top 58
abbrev C8:Stmt:=top 59
abbrev CM:Stmt:=top 60
abbrev Cb:Stmt:=top 61
abbrev BZ:Stmt:=top 62
abbrev B6:Stmt:=BQ (top 15) 0
abbrev Bs:Stmt:=BQ (top 15) 1
abbrev BL:Stmt:=BQ (top 49) 1
abbrev AF:Stmt:=BQ (top 49) 7
abbrev C9:Stmt:=top 11
abbrev Cz:Stmt:=top 12
abbrev Cv:Stmt:=top 13
abbrev Gi:Stmt:=top 22
abbrev CV:Stmt:=top 27
abbrev C2:Stmt:=top 34
abbrev Br:Stmt:=top 37
abbrev CP:Stmt:=top 53
abbrev Ct:Stmt:=top 55
abbrev Cc:Stmt:=top 63
abbrev A7:Stmt:=BQ (top 49) 2
abbrev Fc:Stmt:=top 28
abbrev EY:Stmt:=top 29
abbrev Ef:Stmt:=top 30
abbrev C7:Stmt:=top 35
abbrev CU:Stmt:=top 38
abbrev Di:Stmt:=top 40
abbrev B8:Stmt:=top 57
abbrev BD:Stmt:=BQ (top 14) 0
abbrev Bn:Stmt:=BQ (top 49) 3
abbrev B7:Stmt:=BQ (top 49) 4
abbrev E3:Stmt:=top 36
abbrev C1:Stmt:=top 39
abbrev C4:Stmt:=top 41
abbrev Bj:Stmt:=BQ (top 49) 0
abbrev Bm:Stmt:=BQ (top 49) 5
abbrev CQ:Stmt:=top 43
abbrev B5:Stmt:=top 44
abbrev Bq:Stmt:=BQ (top 49) 6
abbrev BN:Stmt:=BQ (top 14) 4
abbrev AT:Stmt:=BQ (top 17) 0
abbrev Bo:Stmt:=BQ (top 15) 2
abbrev FN:Stmt:=top 64
theorem K0:Ap ["thing"] ["thing"] (Ad CL):=⟨rfl,rfl,rfl,by decide +kernel,rfl,by decide +kernel,by decide +kernel⟩
theorem CZ:Ap ["one","other","great","small","rest"] ["one","other"] (Ad D5):=⟨rfl,rfl,rfl,by decide +kernel,rfl,by decide +kernel,by decide +kernel⟩
theorem NK:Ap ["hands"] ["hands"] (Ad Ei):=⟨rfl,rfl,rfl,by decide +kernel,rfl,by decide +kernel,by decide +kernel⟩
theorem O2:Ap ["mask","hand"] ["mask","hand"] (Ad Fg):=⟨rfl,rfl,rfl,by decide +kernel,rfl,by decide +kernel,by decide +kernel⟩
theorem L9:Ap ["mask","hand"] ["mask","hand"] (Ad D1):=⟨rfl,rfl,rfl,by decide +kernel,rfl,by decide +kernel,by decide +kernel⟩
theorem Mg:Ap ["mask"] ["mask"] (Ad Dh):=⟨rfl,rfl,rfl,by decide +kernel,rfl,by decide +kernel,by decide +kernel⟩
theorem MA:Ap ["slip","standing","tier"] ["slip","standing"] (Ad Gy):=⟨rfl,rfl,rfl,by decide +kernel,rfl,by decide +kernel,by decide +kernel⟩
theorem OU:Ap ["one","other"] ["one","other"] (Ad Ff):=⟨rfl,rfl,rfl,by decide +kernel,rfl,by decide +kernel,by decide +kernel⟩
theorem Pf:Ap ["sheet","hands"] ["sheet","hands"] (Ad DM):=⟨rfl,rfl,rfl,by decide +kernel,rfl,by decide +kernel,by decide +kernel⟩
theorem FK:Ap ["kept","hand","given","new"] ["kept","hand","given"] (Ad C0):=⟨rfl,rfl,rfl,by decide +kernel,rfl,by decide +kernel,by decide +kernel⟩
theorem IA:Ap ["sheet"] ["sheet"] (Ad BC):=⟨rfl,rfl,rfl,by decide +kernel,rfl,by decide +kernel,by decide +kernel⟩
theorem EF:Ap ["_law_script","_law_k","_law_number_here"] ["_law_script","_law_k"] (Ad De):=⟨rfl,rfl,rfl,by decide +kernel,rfl,by decide +kernel,by decide +kernel⟩
theorem FX:Ap ["_law_cell_here","_law_by","_law_step"] ["_law_cell_here","_law_by"] (Ad C6):=⟨rfl,rfl,rfl,by decide +kernel,rfl,by decide +kernel,by decide +kernel⟩
theorem K7:Ap ["_law_some"] ["_law_some"] (Ad Cu):=⟨rfl,rfl,rfl,by decide +kernel,rfl,by decide +kernel,by decide +kernel⟩
theorem IL:Ap ["_law_cell_here","_law_most"] ["_law_cell_here","_law_most"] (Ad Cf):=⟨rfl,rfl,rfl,by decide +kernel,rfl,by decide +kernel,by decide +kernel⟩
theorem Dn:Ap ["_law_paper","_law_found","_law_rows","_law_sums","_law_deed_here"] ["_law_paper"] (Ad Cq):=⟨rfl,rfl,rfl,by decide +kernel,rfl,by decide +kernel,by decide +kernel⟩
theorem JJ:Ap ["_law_one","_law_cell_here"] ["_law_one","_law_cell_here"] (Ad C8):=⟨rfl,rfl,rfl,by decide +kernel,rfl,by decide +kernel,by decide +kernel⟩
theorem DR:Ap ["_law_deed_here","_law_cell_here","_law_hands","_law_word","_law_hand","_law_some"] ["_law_deed_here","_law_cell_here","_law_hands"] (Ad CM):=⟨rfl,rfl,rfl,by decide +kernel,rfl,by decide +kernel,by decide +kernel⟩
theorem Fl:Ap ["_law_rows","_law_sums","_law_way","_law_cell_here","_law_line"] ["_law_rows","_law_sums","_law_way","_law_cell_here"] (Ad Cb):=⟨rfl,rfl,rfl,by decide +kernel,rfl,by decide +kernel,by decide +kernel⟩
theorem IR:Ap ["_law_paper","_law_way","_law_at","_law_round_of"] ["_law_paper","_law_way","_law_at","_law_round_of"] (Ad BZ):=⟨rfl,rfl,rfl,by decide +kernel,rfl,by decide +kernel,by decide +kernel⟩
theorem GK:Ap ["self","way"] ["self","way"] (Ad B6):=⟨rfl,rfl,rfl,by decide +kernel,rfl,by decide +kernel,by decide +kernel⟩
theorem Gj:Ap ["self","sheet","paper"] ["self","sheet","paper"] (Ad Bs):=⟨rfl,rfl,rfl,by decide +kernel,rfl,by decide +kernel,by decide +kernel⟩
theorem HX:Ap ["self","ballots"] ["self","ballots"] (Ad BL):=⟨rfl,rfl,rfl,by decide +kernel,rfl,by decide +kernel,by decide +kernel⟩
theorem Dc:Ap ["self","paper","seated","named"] ["self","paper"] (Ad AF):=⟨rfl,rfl,rfl,by decide +kernel,rfl,by decide +kernel,by decide +kernel⟩
theorem Ki:Ap ["thing"] ["thing"] (Ad C9):=⟨rfl,rfl,rfl,by decide +kernel,rfl,by decide +kernel,by decide +kernel⟩
theorem JS:Ap ["thing"] ["thing"] (Ad Cz):=⟨rfl,rfl,rfl,by decide +kernel,rfl,by decide +kernel,by decide +kernel⟩
theorem KL:Ap ["thing","hands"] ["thing","hands"] (Ad Cv):=⟨rfl,rfl,rfl,by decide +kernel,rfl,by decide +kernel,by decide +kernel⟩
theorem QE:Ap ["mask"] ["mask"] (Ad Gi):=⟨rfl,rfl,rfl,by decide +kernel,rfl,by decide +kernel,by decide +kernel⟩
theorem ET:Ap ["top","bottom","common"] ["top","bottom"] (Ad CV):=⟨rfl,rfl,rfl,by decide +kernel,rfl,by decide +kernel,by decide +kernel⟩
theorem FL:Ap ["free","many","common"] ["free","many"] (Ad C2):=⟨rfl,rfl,rfl,by decide +kernel,rfl,by decide +kernel,by decide +kernel⟩
theorem Ca:Ap ["bottoms","common","bottom"] ["bottoms"] (Ad Br):=⟨rfl,rfl,rfl,by decide +kernel,rfl,by decide +kernel,by decide +kernel⟩
theorem BY:Ap ["_law_cell_here","_law_hands","_law_number_here","_law_left","_law_lots_here","_law_k","_law_lot"] ["_law_cell_here","_law_hands"] (Ad CP):=⟨rfl,rfl,rfl,by decide +kernel,rfl,by decide +kernel,by decide +kernel⟩
theorem Bf:Ap ["_law_cell_here","_law_hands","_law_number_here","_law_way","_law_many","_law_left","_law_tiers","_law_k","_law_base","_law_lot"] ["_law_cell_here","_law_hands"] (Ad Ct):=⟨rfl,rfl,rfl,by decide +kernel,rfl,by decide +kernel,by decide +kernel⟩
theorem AC:Ap ["_law_paper","_law_way","_law_cell_here","_law_hands","_law_some","_law_at","_law_rows","_law_sums","_law_deed_here","_law_line","_law_place","_law_kept"] ["_law_paper","_law_way","_law_cell_here","_law_hands"] (Ad Cc):=⟨rfl,rfl,rfl,by decide +kernel,rfl,by decide +kernel,by decide +kernel⟩
theorem DJ:Ap ["self","standing"] ["self","standing"] (Ad A7):=⟨rfl,rfl,rfl,by decide +kernel,rfl,by decide +kernel,by decide +kernel⟩
theorem On:Ap ["one","other"] ["one","other"] (Ad Fc):=⟨rfl,rfl,rfl,by decide +kernel,rfl,by decide +kernel,by decide +kernel⟩
theorem Px:Ap ["one","other"] ["one","other"] (Ad EY):=⟨rfl,rfl,rfl,by decide +kernel,rfl,by decide +kernel,by decide +kernel⟩
theorem NV:Ap ["one","other"] ["one","other"] (Ad Ef):=⟨rfl,rfl,rfl,by decide +kernel,rfl,by decide +kernel,by decide +kernel⟩
theorem CB:Ap ["slip","free","kept","standing","row","where","part","hand"] ["slip","free","kept","standing"] (Ad C7):=⟨rfl,rfl,rfl,by decide +kernel,rfl,by decide +kernel,by decide +kernel⟩
theorem DB:Ap ["sheet","shares","tops","line","share","common"] ["sheet","shares"] (Ad CU):=⟨rfl,rfl,rfl,by decide +kernel,rfl,by decide +kernel,by decide +kernel⟩
theorem GD:Ap ["slip","free","standing","hand","where"] ["slip","free","standing","hand"] (Ad Di):=⟨rfl,rfl,rfl,by decide +kernel,rfl,by decide +kernel,by decide +kernel⟩
theorem CF:Ap ["_law_script","_law_at","_law_hands","_law_lines","_law_most","_law_slips","_law_many","_law_k","_law_slip_here"] ["_law_script","_law_at","_law_hands","_law_lines","_law_most"] (Ad B8):=⟨rfl,rfl,rfl,by decide +kernel,rfl,by decide +kernel,by decide +kernel⟩
theorem Ld:Ap ["self","hands","seats","lots"] ["self","hands","seats","lots"] (Ad BD):=⟨rfl,rfl,rfl,by decide +kernel,rfl,by decide +kernel,by decide +kernel⟩
theorem Bw:Ap ["self","sums","standing","by_lots","best","hand"] ["self","sums","standing"] (Ad Bn):=⟨rfl,rfl,rfl,by decide +kernel,rfl,by decide +kernel,by decide +kernel⟩
theorem BK:Ap ["self","sums","standing","by_lots","worst","hand"] ["self","sums","standing"] (Ad B7):=⟨rfl,rfl,rfl,by decide +kernel,rfl,by decide +kernel,by decide +kernel⟩
theorem P3:Ap ["sheet","state","standing"] ["sheet","state","standing"] (Ad E3):=⟨rfl,rfl,rfl,by decide +kernel,rfl,by decide +kernel,by decide +kernel⟩
theorem LV:Ap ["sheet","rows","hands"] ["sheet","rows","hands"] (Ad C1):=⟨rfl,rfl,rfl,by decide +kernel,rfl,by decide +kernel,by decide +kernel⟩
theorem JD:Ap ["tally","quota"] ["tally","quota"] (Ad C4):=⟨rfl,rfl,rfl,by decide +kernel,rfl,by decide +kernel,by decide +kernel⟩
theorem IP:Ap ["self","hands","seats","lots"] ["self","hands","seats","lots"] (Ad Bj):=⟨rfl,rfl,rfl,by decide +kernel,rfl,by decide +kernel,by decide +kernel⟩
theorem DS:Ap ["self","sums","standing","places","quota","best"] ["self","sums","standing","places","quota"] (Ad Bm):=⟨rfl,rfl,rfl,by decide +kernel,rfl,by decide +kernel,by decide +kernel⟩
theorem BF:Ap ["sheet","state","standing","hand","quota","shares","part","reckoned","behind","one","share","asked","given"] ["sheet","state","standing","hand","quota"] (Ad CQ):=⟨rfl,rfl,rfl,by decide +kernel,rfl,by decide +kernel,by decide +kernel⟩
theorem GL:Ap ["sheet","state","standing","deed","quota"] ["sheet","state","standing","deed","quota"] (Ad B5):=⟨rfl,rfl,rfl,by decide +kernel,rfl,by decide +kernel,by decide +kernel⟩
theorem A4:Ap ["self","sheet","quota","state","standing","places","rounds","rows","sums","deed"] ["self","sheet"] (Ad Bq):=⟨rfl,rfl,rfl,by decide +kernel,rfl,by decide +kernel,by decide +kernel⟩
theorem HD:Ap ["self","sheet"] ["self","sheet"] (Ad BN):=⟨rfl,rfl,rfl,by decide +kernel,rfl,by decide +kernel,by decide +kernel⟩
theorem EA:Ap ["self","sheet","paper"] ["self","sheet","paper"] (Ad AT):=⟨rfl,rfl,rfl,by decide +kernel,rfl,by decide +kernel,by decide +kernel⟩
theorem FV:Ap ["self","sheet","paper","outcome"] ["self","sheet","paper","outcome"] (Ad Bo):=⟨rfl,rfl,rfl,by decide +kernel,rfl,by decide +kernel,by decide +kernel⟩
theorem Ck:Ap ["_law_script","_law_hands","_law_seats","_law_sheet_here","_law_way","_law_checker","_law_paper","_law_outcome","_law_told","_law_lent","_law_cell_here","_law_spoilt_here","_law_wrong","_law_hand","_law_more","_law_plain"] ["_law_script"] (Ad FN):=⟨rfl,rfl,rfl,by decide +kernel,rfl,by decide +kernel,by decide +kernel⟩
set_option genInjectivity false in
set_option genSizeOf false in
structure Ads where
 f_is_whole:Addr
 d_is_whole:FuncData
 f_divisor:Addr
 d_divisor:FuncData
 f_all_of:Addr
 d_all_of:FuncData
 f_holds:Addr
 d_holds:FuncData
 f_without:Addr
 d_without:FuncData
 f_members:Addr
 d_members:FuncData
 f_lies:Addr
 d_lies:FuncData
 f_under:Addr
 d_under:FuncData
 f_begin:Addr
 d_begin:FuncData
 f_with_kept:Addr
 d_with_kept:FuncData
 f_ballots_in:Addr
 d_ballots_in:FuncData
 f_law_cell:Addr
 d_law_cell:FuncData
 f_law_mixed:Addr
 d_law_mixed:FuncData
 f_law_mask:Addr
 d_law_mask:FuncData
 f_law_number:Addr
 d_law_number:FuncData
 f_law_copy:Addr
 d_law_copy:FuncData
 f_law_other:Addr
 d_law_other:FuncData
 f_law_deed:Addr
 d_law_deed:FuncData
 f_law_longer:Addr
 d_law_longer:FuncData
 f_law_rounds:Addr
 d_law_rounds:FuncData
 f_Checker_init:Addr
 d_Checker_init:FuncData
 f_Checker_right:Addr
 d_Checker_right:FuncData
 f_Seats_quota:Addr
 d_Seats_quota:FuncData
 f_Seats_told_by:Addr
 d_Seats_told_by:FuncData
 f_are_hands:Addr
 d_are_hands:FuncData
 f_are_seats:Addr
 d_are_seats:FuncData
 f_are_lots:Addr
 d_are_lots:FuncData
 f_size:Addr
 d_size:FuncData
 f_fraction:Addr
 d_fraction:FuncData
 f_even_part:Addr
 d_even_part:FuncData
 f_common_bottom:Addr
 d_common_bottom:FuncData
 f_law_lots:Addr
 d_law_lots:FuncData
 f_law_slip:Addr
 d_law_slip:FuncData
 f_law_spoilt:Addr
 d_law_spoilt:FuncData
 f_Seats_standing_by_lots:Addr
 d_Seats_standing_by_lots:FuncData
 f_minus:Addr
 d_minus:FuncData
 f_times:Addr
 d_times:FuncData
 f_parted:Addr
 d_parted:FuncData
 f_table_row:Addr
 d_table_row:FuncData
 f_weighed:Addr
 d_weighed:FuncData
 f_share_at:Addr
 d_share_at:FuncData
 f_law_sheet:Addr
 d_law_sheet:FuncData
 f_Way_init:Addr
 d_Way_init:FuncData
 f_Seats_greatest:Addr
 d_Seats_greatest:FuncData
 f_Seats_lowest:Addr
 d_Seats_lowest:FuncData
 f_table:Addr
 d_table:FuncData
 f_tallies:Addr
 d_tallies:FuncData
 f_part_kept:Addr
 d_part_kept:FuncData
 f_Seats_init:Addr
 d_Seats_init:FuncData
 f_Seats_deed_due:Addr
 d_Seats_deed_due:FuncData
 f_kept_by:Addr
 d_kept_by:FuncData
 f_state_behind:Addr
 d_state_behind:FuncData
 f_Seats_counted:Addr
 d_Seats_counted:FuncData
 f_Way_outcome:Addr
 d_Way_outcome:FuncData
 f_SeatsChecker_right:Addr
 d_SeatsChecker_right:FuncData
 f_Checker_passes:Addr
 d_Checker_passes:FuncData
 f_law:Addr
 d_law:FuncData
 c_Way:Addr
 c_Seats:Addr
 c_SeatsChecker:Addr
 c_Checker:Addr
 t_MOST_HANDS:Tok
 t_MOST_SEATS:Tok
 t_MOST_PLACES:Tok
structure Tx (K:PySem.W.Frag) (mg:Str->Option Value) (a:Ads):Prop where
 F_is_whole:Fun K "is_whole" "is_whole" CL a.f_is_whole a.d_is_whole
 b_is_whole:Az K a.d_is_whole ["thing"] []
 m_is_whole:mg "is_whole"=some (.ref a.f_is_whole)
 F_divisor:Fun K "divisor" "divisor" D5 a.f_divisor a.d_divisor
 b_divisor:Az K a.d_divisor ["one","other"] []
 m_divisor:mg "divisor"=some (.ref a.f_divisor)
 F_all_of:Fun K "all_of" "all_of" Ei a.f_all_of a.d_all_of
 b_all_of:Az K a.d_all_of ["hands"] []
 m_all_of:mg "all_of"=some (.ref a.f_all_of)
 F_holds:Fun K "holds" "holds" Fg a.f_holds a.d_holds
 b_holds:Az K a.d_holds ["mask","hand"] []
 m_holds:mg "holds"=some (.ref a.f_holds)
 F_without:Fun K "without" "without" D1 a.f_without a.d_without
 b_without:Az K a.d_without ["mask","hand"] []
 m_without:mg "without"=some (.ref a.f_without)
 F_members:Fun K "members" "members" Dh a.f_members a.d_members
 b_members:Az K a.d_members ["mask"] []
 m_members:mg "members"=some (.ref a.f_members)
 F_lies:Fun K "lies" "lies" Gy a.f_lies a.d_lies
 b_lies:Az K a.d_lies ["slip","standing"] []
 m_lies:mg "lies"=some (.ref a.f_lies)
 F_under:Fun K "under" "under" Ff a.f_under a.d_under
 b_under:Az K a.d_under ["one","other"] []
 m_under:mg "under"=some (.ref a.f_under)
 F_begin:Fun K "begin" "begin" DM a.f_begin a.d_begin
 b_begin:Az K a.d_begin ["sheet","hands"] []
 m_begin:mg "begin"=some (.ref a.f_begin)
 F_with_kept:Fun K "with_kept" "with_kept" C0 a.f_with_kept a.d_with_kept
 b_with_kept:Az K a.d_with_kept ["kept","hand","given"] []
 m_with_kept:mg "with_kept"=some (.ref a.f_with_kept)
 F_ballots_in:Fun K "ballots_in" "ballots_in" BC a.f_ballots_in a.d_ballots_in
 b_ballots_in:Az K a.d_ballots_in ["sheet"] []
 m_ballots_in:mg "ballots_in"=some (.ref a.f_ballots_in)
 F_law_cell:Fun K "_law_cell" "_law_cell" De a.f_law_cell a.d_law_cell
 b_law_cell:Az K a.d_law_cell ["_law_script","_law_k"] []
 m_law_cell:mg "_law_cell"=some (.ref a.f_law_cell)
 F_law_mixed:Fun K "_law_mixed" "_law_mixed" C6 a.f_law_mixed a.d_law_mixed
 b_law_mixed:Az K a.d_law_mixed ["_law_cell_here","_law_by"] []
 m_law_mixed:mg "_law_mixed"=some (.ref a.f_law_mixed)
 F_law_mask:Fun K "_law_mask" "_law_mask" Cu a.f_law_mask a.d_law_mask
 b_law_mask:Az K a.d_law_mask ["_law_some"] []
 m_law_mask:mg "_law_mask"=some (.ref a.f_law_mask)
 F_law_number:Fun K "_law_number" "_law_number" Cf a.f_law_number a.d_law_number
 b_law_number:Az K a.d_law_number ["_law_cell_here","_law_most"] []
 m_law_number:mg "_law_number"=some (.ref a.f_law_number)
 F_law_copy:Fun K "_law_copy" "_law_copy" Cq a.f_law_copy a.d_law_copy
 b_law_copy:Az K a.d_law_copy ["_law_paper"] []
 m_law_copy:mg "_law_copy"=some (.ref a.f_law_copy)
 F_law_other:Fun K "_law_other" "_law_other" C8 a.f_law_other a.d_law_other
 b_law_other:Az K a.d_law_other ["_law_one","_law_cell_here"] []
 m_law_other:mg "_law_other"=some (.ref a.f_law_other)
 F_law_deed:Fun K "_law_deed" "_law_deed" CM a.f_law_deed a.d_law_deed
 b_law_deed:Az K a.d_law_deed ["_law_deed_here","_law_cell_here","_law_hands"] []
 m_law_deed:mg "_law_deed"=some (.ref a.f_law_deed)
 F_law_longer:Fun K "_law_longer" "_law_longer" Cb a.f_law_longer a.d_law_longer
 b_law_longer:Az K a.d_law_longer ["_law_rows","_law_sums","_law_way","_law_cell_here"] []
 m_law_longer:mg "_law_longer"=some (.ref a.f_law_longer)
 F_law_rounds:Fun K "_law_rounds" "_law_rounds" BZ a.f_law_rounds a.d_law_rounds
 b_law_rounds:Az K a.d_law_rounds ["_law_paper","_law_way","_law_at","_law_round_of"] []
 m_law_rounds:mg "_law_rounds"=some (.ref a.f_law_rounds)
 F_Checker_init:Fun K "__init__" "Checker.__init__" B6 a.f_Checker_init a.d_Checker_init
 b_Checker_init:Az K a.d_Checker_init ["self","way"] []
 F_Checker_right:Fun K "right" "Checker.right" Bs a.f_Checker_right a.d_Checker_right
 b_Checker_right:Az K a.d_Checker_right ["self","sheet","paper"] []
 F_Seats_quota:Fun K "quota" "Seats.quota" BL a.f_Seats_quota a.d_Seats_quota
 b_Seats_quota:Az K a.d_Seats_quota ["self","ballots"] []
 F_Seats_told_by:Fun K "told_by" "Seats.told_by" AF a.f_Seats_told_by a.d_Seats_told_by
 b_Seats_told_by:Az K a.d_Seats_told_by ["self","paper"] []
 F_are_hands:Fun K "are_hands" "are_hands" C9 a.f_are_hands a.d_are_hands
 b_are_hands:Az K a.d_are_hands ["thing"] []
 m_are_hands:mg "are_hands"=some (.ref a.f_are_hands)
 F_are_seats:Fun K "are_seats" "are_seats" Cz a.f_are_seats a.d_are_seats
 b_are_seats:Az K a.d_are_seats ["thing"] []
 m_are_seats:mg "are_seats"=some (.ref a.f_are_seats)
 F_are_lots:Fun K "are_lots" "are_lots" Cv a.f_are_lots a.d_are_lots
 b_are_lots:Az K a.d_are_lots ["thing","hands"] []
 m_are_lots:mg "are_lots"=some (.ref a.f_are_lots)
 F_size:Fun K "size" "size" Gi a.f_size a.d_size
 b_size:Az K a.d_size ["mask"] []
 m_size:mg "size"=some (.ref a.f_size)
 F_fraction:Fun K "fraction" "fraction" CV a.f_fraction a.d_fraction
 b_fraction:Az K a.d_fraction ["top","bottom"] []
 m_fraction:mg "fraction"=some (.ref a.f_fraction)
 F_even_part:Fun K "even_part" "even_part" C2 a.f_even_part a.d_even_part
 b_even_part:Az K a.d_even_part ["free","many"] []
 m_even_part:mg "even_part"=some (.ref a.f_even_part)
 F_common_bottom:Fun K "common_bottom" "common_bottom" Br a.f_common_bottom a.d_common_bottom
 b_common_bottom:Az K a.d_common_bottom ["bottoms"] []
 m_common_bottom:mg "common_bottom"=some (.ref a.f_common_bottom)
 F_law_lots:Fun K "_law_lots" "_law_lots" CP a.f_law_lots a.d_law_lots
 b_law_lots:Az K a.d_law_lots ["_law_cell_here","_law_hands"] []
 m_law_lots:mg "_law_lots"=some (.ref a.f_law_lots)
 F_law_slip:Fun K "_law_slip" "_law_slip" Ct a.f_law_slip a.d_law_slip
 b_law_slip:Az K a.d_law_slip ["_law_cell_here","_law_hands"] []
 m_law_slip:mg "_law_slip"=some (.ref a.f_law_slip)
 F_law_spoilt:Fun K "_law_spoilt" "_law_spoilt" Cc a.f_law_spoilt a.d_law_spoilt
 b_law_spoilt:Az K a.d_law_spoilt ["_law_paper","_law_way","_law_cell_here","_law_hands"] []
 m_law_spoilt:mg "_law_spoilt"=some (.ref a.f_law_spoilt)
 F_Seats_standing_by_lots:Fun K "standing_by_lots" "Seats.standing_by_lots" A7 a.f_Seats_standing_by_lots a.d_Seats_standing_by_lots
 b_Seats_standing_by_lots:Az K a.d_Seats_standing_by_lots ["self","standing"] []
 F_minus:Fun K "minus" "minus" Fc a.f_minus a.d_minus
 b_minus:Az K a.d_minus ["one","other"] []
 m_minus:mg "minus"=some (.ref a.f_minus)
 F_times:Fun K "times" "times" EY a.f_times a.d_times
 b_times:Az K a.d_times ["one","other"] []
 m_times:mg "times"=some (.ref a.f_times)
 F_parted:Fun K "parted" "parted" Ef a.f_parted a.d_parted
 b_parted:Az K a.d_parted ["one","other"] []
 m_parted:mg "parted"=some (.ref a.f_parted)
 F_table_row:Fun K "table_row" "table_row" C7 a.f_table_row a.d_table_row
 b_table_row:Az K a.d_table_row ["slip","free","kept","standing"] []
 m_table_row:mg "table_row"=some (.ref a.f_table_row)
 F_weighed:Fun K "weighed" "weighed" CU a.f_weighed a.d_weighed
 b_weighed:Az K a.d_weighed ["sheet","shares"] []
 m_weighed:mg "weighed"=some (.ref a.f_weighed)
 F_share_at:Fun K "share_at" "share_at" Di a.f_share_at a.d_share_at
 b_share_at:Az K a.d_share_at ["slip","free","standing","hand"] []
 m_share_at:mg "share_at"=some (.ref a.f_share_at)
 F_law_sheet:Fun K "_law_sheet" "_law_sheet" B8 a.f_law_sheet a.d_law_sheet
 b_law_sheet:Az K a.d_law_sheet ["_law_script","_law_at","_law_hands","_law_lines","_law_most"] []
 m_law_sheet:mg "_law_sheet"=some (.ref a.f_law_sheet)
 F_Way_init:PX K "__init__" "Way.__init__" BD a.f_Way_init a.d_Way_init
 b_Way_init:Az K a.d_Way_init ["self","hands","seats","lots"] []
 F_Seats_greatest:Fun K "greatest" "Seats.greatest" Bn a.f_Seats_greatest a.d_Seats_greatest
 b_Seats_greatest:Az K a.d_Seats_greatest ["self","sums","standing"] []
 F_Seats_lowest:Fun K "lowest" "Seats.lowest" B7 a.f_Seats_lowest a.d_Seats_lowest
 b_Seats_lowest:Az K a.d_Seats_lowest ["self","sums","standing"] []
 F_table:Fun K "table" "table" E3 a.f_table a.d_table
 b_table:Az K a.d_table ["sheet","state","standing"] []
 m_table:mg "table"=some (.ref a.f_table)
 F_tallies:Fun K "tallies" "tallies" C1 a.f_tallies a.d_tallies
 b_tallies:Az K a.d_tallies ["sheet","rows","hands"] []
 m_tallies:mg "tallies"=some (.ref a.f_tallies)
 F_part_kept:Fun K "part_kept" "part_kept" C4 a.f_part_kept a.d_part_kept
 b_part_kept:Az K a.d_part_kept ["tally","quota"] []
 m_part_kept:mg "part_kept"=some (.ref a.f_part_kept)
 F_Seats_init:PX K "__init__" "Seats.__init__" Bj a.f_Seats_init a.d_Seats_init
 b_Seats_init:Az K a.d_Seats_init ["self","hands","seats","lots"] []
 F_Seats_deed_due:Fun K "deed_due" "Seats.deed_due" Bm a.f_Seats_deed_due a.d_Seats_deed_due
 b_Seats_deed_due:Az K a.d_Seats_deed_due ["self","sums","standing","places","quota"] []
 F_kept_by:Fun K "kept_by" "kept_by" CQ a.f_kept_by a.d_kept_by
 b_kept_by:Az K a.d_kept_by ["sheet","state","standing","hand","quota"] []
 m_kept_by:mg "kept_by"=some (.ref a.f_kept_by)
 F_state_behind:Fun K "state_behind" "state_behind" B5 a.f_state_behind a.d_state_behind
 b_state_behind:Az K a.d_state_behind ["sheet","state","standing","deed","quota"] []
 m_state_behind:mg "state_behind"=some (.ref a.f_state_behind)
 F_Seats_counted:Fun K "counted" "Seats.counted" Bq a.f_Seats_counted a.d_Seats_counted
 b_Seats_counted:Az K a.d_Seats_counted ["self","sheet"] []
 F_Way_outcome:Fun K "outcome" "Way.outcome" BN a.f_Way_outcome a.d_Way_outcome
 b_Way_outcome:Az K a.d_Way_outcome ["self","sheet"] []
 F_SeatsChecker_right:Fun K "right" "SeatsChecker.right" AT a.f_SeatsChecker_right a.d_SeatsChecker_right
 b_SeatsChecker_right:Az K a.d_SeatsChecker_right ["self","sheet","paper"] []
 F_Checker_passes:Fun K "passes" "Checker.passes" Bo a.f_Checker_passes a.d_Checker_passes
 b_Checker_passes:Az K a.d_Checker_passes ["self","sheet","paper","outcome"] []
 F_law:Fun K "law" "law" FN a.f_law a.d_law
 b_law:Az K a.d_law ["_law_script"] []
 m_law:mg "law"=some (.ref a.f_law)
 z_abs:mg "abs"=none
 z_all:mg "all"=none
 z_bool:mg "bool"=none
 z_int:mg "int"=none
 z_isinstance:mg "isinstance"=none
 z_len:mg "len"=none
 z_list:mg "list"=none
 z_max:mg "max"=none
 z_min:mg "min"=none
 z_range:mg "range"=none
 z_reversed:mg "reversed"=none
 z_sorted:mg "sorted"=none
 z_sum:mg "sum"=none
 z_tuple:mg "tuple"=none
 z_zip:mg "zip"=none
 k_MOST_HANDS:mg "MOST_HANDS"=some (.int 12 a.t_MOST_HANDS)
 k_MOST_SEATS:mg "MOST_SEATS"=some (.int 60 a.t_MOST_SEATS)
 k_MOST_PLACES:mg "MOST_PLACES"=some (.int 6 a.t_MOST_PLACES)
 m_Way:mg "Way"=some (.ref a.c_Way)
 cl_Way:Cls K a.c_Way
 cf_Way_init__:CFn K a.c_Way "__init__" a.f_Way_init
 m_Seats:mg "Seats"=some (.ref a.c_Seats)
 cl_Seats:Cls K a.c_Seats
 mk_Seats:Mk K a.c_Seats a.f_Seats_init
 me_Seats_quota:FS K a.c_Seats "quota" a.f_Seats_quota
 me_Seats_standing_by_lots:FS K a.c_Seats "standing_by_lots" a.f_Seats_standing_by_lots
 me_Seats_greatest:FS K a.c_Seats "greatest" a.f_Seats_greatest
 me_Seats_lowest:FS K a.c_Seats "lowest" a.f_Seats_lowest
 me_Seats_deed_due:FS K a.c_Seats "deed_due" a.f_Seats_deed_due
 me_Seats_counted:FS K a.c_Seats "counted" a.f_Seats_counted
 me_Seats_told_by:FS K a.c_Seats "told_by" a.f_Seats_told_by
 me_Seats_outcome:FS K a.c_Seats "outcome" a.f_Way_outcome
 na_Seats_hands:BP K a.c_Seats "hands"
 na_Seats_seats:BP K a.c_Seats "seats"
 na_Seats_lots:BP K a.c_Seats "lots"
 m_SeatsChecker:mg "SeatsChecker"=some (.ref a.c_SeatsChecker)
 cl_SeatsChecker:Cls K a.c_SeatsChecker
 mk_SeatsChecker:Mk K a.c_SeatsChecker a.f_Checker_init
 me_SeatsChecker_right:FS K a.c_SeatsChecker "right" a.f_SeatsChecker_right
 me_SeatsChecker_passes:FS K a.c_SeatsChecker "passes" a.f_Checker_passes
 na_SeatsChecker_way:BP K a.c_SeatsChecker "way"
 m_Checker:mg "Checker"=some (.ref a.c_Checker)
 cl_Checker:Cls K a.c_Checker
 mk_Checker:Mk K a.c_Checker a.f_Checker_init
 me_Checker_right:FS K a.c_Checker "right" a.f_Checker_right
 me_Checker_passes:FS K a.c_Checker "passes" a.f_Checker_passes
 na_Checker_way:BP K a.c_Checker "way"
local macro_rules | `(tactic| trivial)=>`(tactic| refine Sz.neg (by trivial))
local macro_rules | `(tactic| trivial)=>`(tactic| refine Sz.fdiv (by trivial))
local macro_rules | `(tactic| trivial)=>`(tactic| refine Sz.sub (by trivial) (by trivial))
local macro_rules | `(tactic| trivial)=>`(tactic| refine Sz.add (by trivial) (by trivial))
local macro_rules | `(tactic| trivial)=>`(tactic| refine Sz.mul (by trivial) (by trivial))
local macro_rules | `(tactic| trivial)=>`(tactic| exact QP _ (by first | decide | decide +kernel) (szd 200))
local macro_rules | `(tactic| trivial)=>`(tactic| first | assumption | exact szd 64 | exact szd 200 | exact szd 1000)
local macro_rules | `(tactic| and_intros)=>`(tactic| (repeat (first | refine ⟨_,rfl,?_⟩ | refine ⟨_,_,rfl,rfl,?_⟩ | refine ⟨rfl,?_⟩ | refine ⟨(by show (_:Int)≠0;first | decide | decide +kernel),?_⟩ | refine ⟨⟨(by show (_:Int)≠0;decide),szd 9000⟩,?_⟩ | refine ⟨(by show QL _ _;exact ⟨by decide,by decide,by decide⟩),?_⟩ | refine ⟨(by show PD _ _;refine ⟨_,_,(by trivial),(by trivial),?_⟩;decide +kernel),?_⟩ | refine ⟨_,_,_,_,rfl,rfl,SqL.of (by assumption),(by rfl),?_⟩ | refine ⟨_,_,_,_,rfl,rfl,SqT.of (by assumption),(by rfl),?_⟩ | refine ⟨_,_,rfl,.inl (SqL.of (by assumption)),?_⟩ | refine ⟨_,_,rfl,.inr (SqT.of (by assumption)),?_⟩)))
local macro_rules | `(tactic| nofun)=>`(tactic| first | exact .inl rfl | exact .inr rfl | assumption | exact ⟨rfl,by decide +kernel,by decide +kernel,rfl,by decide +kernel,rfl,by decide +kernel,rfl,by decide +kernel⟩)
local macro_rules | `($a *> $b)=>`(@Aa _ _ _ _ _ $a $b (by rfl))
local macro_rules | `($a >> $b)=>`(@Ac _ _ _ _ _ $a $b)
local macro_rules | `($a <&> ($b <|> $c))=>`(@Ai _ _ _ _ _ _ _ _ $a $b $c)
section
variable {P:Program} {w:World} {K:PySem.W.Frag} {mg:Str->Option Value} {base:Heap} {ad:Ads}
theorem Dp (T:Tx K mg ad):AG P w K mg base CX0 1 ad.f_is_whole ad.d_is_whole ["thing"] Q5:=by
 refine T.F_is_whole.ok K0 (fun vs H Q E h=>?_) (fun cdv A outer s H vs Q E hr h=>?_)
 ·obtain ⟨c,rfl,_⟩:=h
  rfl
 obtain ⟨c,rfl,q⟩:=h
 refine ⟨_,(@Ah _ _ _ (@Ao _ _ _ _ (@Gx _ _ _ _ _ _ _ (@A2 _ _ _ _ _ _ _ _ _ HB (by rfl) T.z_isinstance PyProof.Rows.boot_isinstance ((pv 0)*>((Kc (v:=.ty "int") rfl T.z_int PyProof.Rows.boot_int rfl)*>Ae)) (by decide) (by decide) (by rfl) (by rfl)) (@HN _ _ _ _ _ (@Sg _ _ _ _ (@A2 _ _ _ _ _ _ _ _ _ HB (by rfl) T.z_isinstance PyProof.Rows.boot_isinstance ((pv 0)*>((Kc (v:=.ty "bool") rfl T.z_bool PyProof.Rows.boot_bool rfl)*>Ae)) (by decide) (by decide) (by rfl) (by rfl))))))),?_⟩
 refine ⟨_,rfl,_,_,_,_,rfl,Fi.int c,KZ,_,rfl,?_⟩
 refine Tk ?_
 exact ⟨_,rfl,_,_,_,_,rfl,Fi.int c,JM,_,rfl,q⟩
theorem Fn (T:Tx K mg ad):AG P w K mg base CX0 1 ad.f_divisor ad.d_divisor ["one","other"] N5:=by
 refine T.F_divisor.ok CZ (fun vs H Q E h=>?_) (fun cdv A outer s H vs Q E hr h=>?_)
 ·obtain ⟨a,b,rfl,_⟩:=h
  rfl
 obtain ⟨a,b,rfl,q⟩:=h
 refine ⟨_,((@Ak _ _ (2) _ _ _ _ CZ.nd rfl (Or.inl rfl) (@A2 _ _ _ _ _ _ _ _ _ Le (by rfl) T.z_abs PyProof.Rows.boot_abs ((pv 0)*>Ae) (by decide) (by decide) (by rfl) (by rfl)) (by rfl) (by nofun))>>((@Ak _ _ (3) _ _ _ _ CZ.nd rfl (Or.inl rfl) (@A2 _ _ _ _ _ _ _ _ _ Le (by rfl) T.z_abs PyProof.Rows.boot_abs ((pv 1)*>Ae) (by decide) (by decide) (by rfl) (by rfl)) (by rfl) (by nofun))>>((Ks PassesOwn.never (@Aq _ _ _ _ _ _ _ _ MZ (pv 3) Af (Aw _)) ((@Ak _ _ (4) _ _ _ _ CZ.nd rfl (Or.inl rfl) (A0<&>((pv 2)<|>(pv 3))) (by rfl) (by nofun))>>((@Ak _ _ (2) _ _ _ _ CZ.nd rfl (Or.inl rfl) (pv 3) (by rfl) (by nofun))>>(@Ah _ _ _ (@Ak _ _ (3) _ _ _ _ CZ.nd rfl (Or.inl rfl) (pv 4) (by rfl) (by nofun))))))>>(@Ah _ _ _ (@Ao _ _ _ _ (pv 2)))))),?_⟩
 refine ⟨_,rfl,_,rfl,?_⟩
 refine ⟨_,rfl,_,rfl,?_⟩
 refine Lc (fun σ' H'=>∃(x y:Int) (v:Option V),σ'=[some (.int a),some (.int b),some (.int x),some (.int y),v]/\H'=H/\0<=x/\0<=y/\Int.gcd x y=Int.gcd a b) (fun σ' _=>match σ' with | [_,_,_,some (.int y),_]=>y.toNat | _=>0) ⟨_,_,_,rfl,rfl,?_,?_,Rz a b⟩ ?_ Kv
 ·rw [R3];omega
 ·rw [R3];omega
 rintro σ1 H1 ⟨x,y,v,rfl,rfl,x0,y0,g⟩
 refine ⟨_,rfl,_,_,rfl,rfl,_,rfl,?_⟩
 refine P7 (fun c=>?_) (fun c=>?_)
 ·have c':0 < y:=of_decide_eq_true c
  have m:=AB x c'
  refine ⟨_,rfl,_,rfl,_,_,rfl,rfl,Int.ne_of_gt c',?_⟩
  refine ⟨_,rfl,?_⟩
  refine ⟨_,rfl,?_⟩
  refine ⟨⟨y,x.fmod y,_,rfl,rfl,y0,m.1,(Ps x0 c').trans g⟩,?_⟩
  show (x.fmod y).toNat < y.toNat
  omega
 ·have c':¬ 0 < y:=fun e=>c (decide_eq_true e)
  refine ⟨_,rfl,?_⟩
  have e:=Ri x0 y0 c'
  have e2:AJ x y=AJ a b:=by unfold AJ;rw [g]
  rw [e,e2]
  exact q
theorem N9 (T:Tx K mg ad):AG P w K mg base CX0 1 ad.f_all_of ad.d_all_of ["hands"] Tp:=by
 refine T.F_all_of.ok NK (fun vs H Q E h=>?_) (fun cdv A outer s H vs Q E hr h=>?_)
 ·obtain ⟨h,rfl,_⟩:=h
  rfl
 obtain ⟨h,rfl,h0,h1,q⟩:=h
 refine ⟨_,(@Ah _ _ _ (@Ao _ _ _ _ (EI<&>((LB<&>(Af<|>(pv 0)))<|>Af)))),?_⟩
 exact ⟨_,rfl,_,_,rfl,rfl,⟨h0,by omega,by decide⟩,_,_,rfl,rfl,q⟩
theorem KH (T:Tx K mg ad):AG P w K mg base CX0 1 ad.f_holds ad.d_holds ["mask","hand"] QO:=by
 refine T.F_holds.ok O2 (fun vs H Q E h=>?_) (fun cdv A outer s H vs Q E hr h=>?_)
 ·obtain ⟨m,h,rfl,_⟩:=h
  rfl
 obtain ⟨m,h,rfl,h0,q⟩:=h
 refine ⟨_,(@Ah _ _ _ (@Ao _ _ _ _ (@DL _ _ _ _ _ _ _ _ By (Hu<&>((OL<&>((pv 0)<|>(pv 1)))<|>Af)) Af (Aw _)))),?_⟩
 refine ⟨_,rfl,_,rfl,_,_,rfl,rfl,h0,_,_,rfl,rfl,rfl,?_⟩
 show Q (.bl (decide (V.int (Builtin.bitAnd (m / 2 ^ h.toNat) 1)=V.int 1))) H
 rw [IS]
 exact q
theorem Mp (T:Tx K mg ad):AG P w K mg base CX0 1 ad.f_without ad.d_without ["mask","hand"] NX:=by
 refine T.F_without.ok L9 (fun vs H Q E h=>?_) (fun cdv A outer s H vs Q E hr h=>?_)
 ·obtain ⟨m,h,rfl,_⟩:=h
  rfl
 obtain ⟨m,h,rfl,h0,h1,q⟩:=h
 refine ⟨_,(@Ah _ _ _ (@Ao _ _ _ _ (Hu<&>((pv 0)<|>(@M7 _ _ _ _ _ _ S3 (LB<&>(Af<|>(pv 1)))))))),?_⟩
 exact ⟨_,rfl,_,rfl,_,_,rfl,rfl,⟨h0,by omega,by decide⟩,_,rfl,_,_,rfl,rfl,q⟩
theorem Ik (T:Tx K mg ad):AG P w K mg base CX0 1 ad.f_members ad.d_members ["mask"] Of:=by
 refine T.F_members.ok Mg (fun vs H Q E h=>?_) (fun cdv A outer s H vs Q E hr h=>?_)
 ·obtain ⟨m,rfl,_⟩:=h
  rfl
 obtain ⟨m,rfl,m0,m1,q⟩:=h
 refine ⟨_,(@Ah _ _ _ (@Ao _ _ _ _ (Cp (fsc:=Ad Dh) (N:=["mask"]) (Nc:=["mask","hand"]) rfl rfl (by nofun) rfl (Ce rfl T.z_range ((Jw PySem.F.plainAttrs_int PySem.F.slot_int_bit_length PySem.F.type_int_bit_length QM (pv 0))*>Ae)) (fun _ _ _ _=>(Hi (@Aq _ _ _ _ _ _ _ _ By (Hu<&>((OL<&>((pv 0)<|>(pv 1)))<|>Af)) Af (Aw _)))) (fun _ _ _ _=>(pv 1))))),?_⟩
 have hb:(Builtin.Int.intBits m)<=12:=intBits_le_iff.mpr (by show m.natAbs < 4096;omega)
 refine ⟨_,rfl,rfl,m,rfl,rfl,_,rfl,by omega,by omega,?_⟩
 have en:((Builtin.Int.intBits m:Nat):Int).toNat=Builtin.Int.intBits m:=by omega
 rw [en]
 refine Db (Bx (by omega)) (fun D i ys H'=>ys=(hands i (bit m)).map V.int/\H'=upd H D (.lst ys)) (fun D hD=>⟨rfl,rfl⟩) (fun D i ys H' hq_=>by obtain ⟨e1,e2⟩:=hq_;rw [e2,e1];exact ⟨Ab,by rw [length_map];exact D6 i (bit m)⟩) ?_ ?_
 ·rintro D i ys H' K1 K2 hD hi ⟨e1,rfl⟩ k1 k2
  have ei:(0+(i:Int)).toNat=i:=by omega
  refine ⟨_,rfl,_,rfl,_,_,rfl,rfl,(by show (0:Int)<=0+(i:Int);omega),_,_,rfl,rfl,rfl,_,rfl,?_⟩
  dsimp only
  rw [show decide (V.int (Builtin.bitAnd (m / 2 ^ (0+(i:Int)).toNat) 1)=V.int 1)=bit m i from by rw [IS,ei]]
  have ms:=Ey i (bit m)
  cases e:bit m i with
  | true =>
    rw [e,if_pos rfl] at ms
    refine Tk ⟨_,rfl,?_⟩
    refine k1 _ _ Ab ⟨?_,by rw [Dk]⟩
    rw [ms,map_append,e1,Int.zero_add]
    rfl
  | false =>
    rw [e,if_neg (by decide)] at ms
    refine Sb ?_
    exact k2 _ ⟨by rw [ms];exact e1,rfl⟩
 ·rintro D ys H' hD ⟨rfl,rfl⟩
  refine q D _ hD (Ag hD _) ?_
  rw [Ab,Pl m0 m1]
theorem No (T:Tx K mg ad):AG P w K mg base CX0 1 ad.f_lies ad.d_lies ["slip","standing"] (Sa K):=by
 refine T.F_lies.ok MA (fun vs H Q E h=>?_) (fun cdv A outer s H vs Q E hr h=>?_)
 ·obtain ⟨p,ts,st,rfl,_⟩:=h
  rfl
 obtain ⟨p,ts,st,rfl,hT,q⟩:=h
 refine ⟨_,((D9 PassesOwn.never rfl (SA (pv 0)) (Bg (i:=2) MA.nd rfl (Or.inl rfl)) (@Ah _ _ _ (@AS _ _ _ _ _ _ _ _ (@Aq _ _ _ _ _ _ _ _ MH (Hu<&>((pv 2)<|>(pv 1))) Af (Aw _)) (@Ah _ _ _ (@Ao _ _ _ _ (Hu<&>((pv 2)<|>(pv 1))))) As)))>>(@Ah _ _ _ (@Ao _ _ _ _ Af))),?_⟩
 refine ⟨_,rfl,p,rfl,⟨_,hT⟩,Ro (xs:=ts.map V.int) (fun i σ' H'=>∃v,σ'=[some (.ref p),some (.int st),v]/\H'=H/\Co (ts.drop i) st=Co ts st) ⟨none,rfl,rfl,rfl⟩ (fun i σ' H' _ hq_=>by obtain ⟨v,_,e2,_⟩:=hq_;rw [e2];exact hT) ?_ ?_⟩
 ·rintro i x σ' H' hx ⟨v,rfl,rfl,e⟩
  obtain ⟨t,ht,rfl⟩:=E5 hx
  have ed:ts.drop i=t :: ts.drop (i+1):=by
   obtain ⟨hlt,e⟩:=List.getElem?_eq_some_iff.mp ht
   rw [drop_eq_getElem_cons hlt,e]
  rw [ed] at e
  have e':(if Builtin.bitAnd t st=0 then Co (ts.drop (i+1)) st else Builtin.bitAnd t st)=Co ts st:=e
  and_intros
  by_cases z:Builtin.bitAnd t st=0
  ·rw [if_pos z] at e'
   exact ifF (RF z) ⟨_,rfl,rfl,e'⟩
  ·rw [if_neg z] at e'
   refine ifT (Sd z) ⟨_,rfl,_,rfl,_,_,rfl,rfl,?_⟩
   show Q (V.int (Builtin.bitAnd t st)) H'
   rw [e']
   exact q
 ·rintro σ' H' ⟨v,rfl,rfl,e⟩
  rw [length_map,drop_of_length_le (Nat.le_refl _)] at e
  have e':(0:Int)=Co ts st:=e
  show Q (V.int 0) H'
  rw [e']
  exact q
theorem FD (T:Tx K mg ad):AG P w K mg base CX0 1 ad.f_under ad.d_under ["one","other"] Oi:=by
 refine T.F_under.ok OU (fun vs H Q E h=>?_) (fun cdv A outer s H vs Q E hr h=>?_)
 ·obtain ⟨p,r,t,b,u,c,rfl,_⟩:=h
  rfl
 obtain ⟨p,r,t,b,u,c,rfl,h1,h2,st,sb,su,sc,q⟩:=h
 refine ⟨_,(@Ah _ _ _ (@Ao _ _ _ _ (@DL _ _ _ _ _ _ _ _ MF (AO<&>((@At _ _ _ _ _ _ _ Ay (pv 0) Af (fun _ _=>rfl))<|>(@At _ _ _ _ _ _ _ Ay (pv 1) Af (fun _ _=>rfl)))) (AO<&>((@At _ _ _ _ _ _ _ Ay (pv 1) Af (fun _ _=>rfl))<|>(@At _ _ _ _ _ _ _ Ay (pv 0) Af (fun _ _=>rfl)))) (Aw _)))),?_⟩
 and_intros
 exact q
theorem Pd (T:Tx K mg ad):AG P w K mg base CX0 1 ad.f_begin ad.d_begin ["sheet","hands"] R6:=by
 refine T.F_begin.ok Pf (fun vs H Q E h=>?_) (fun cdv A outer s H vs Q E hr h=>?_)
 ·obtain ⟨l,h,ls,rfl,_⟩:=h
  rfl
 obtain ⟨l,h,ls,rfl,hl,l60,h12,q⟩:=h
 refine ⟨_,(@Ah _ _ _ (@Ao _ _ _ _ (Cp (fsc:=Ad DM) (N:=["sheet","hands"]) (Nc:=["sheet","hands","line"]) rfl rfl (by nofun) rfl (B1 (pv 0)) (fun _ _ _ _=>B2) (fun _ _ _ _=>(@AI _ _ _ _ _ ((@AI _ _ _ _ _ (Af*>(Af*>Ae)))*>((by exact (LR (fsc:=Ad DM) (Nc:=["sheet","hands","line"]) (Nd:=["sheet","hands","line","hand"]) rfl (by nofun) rfl (Ce rfl T.z_range ((pv 1)*>Ae)) (fun _ _ _ _=>B2) (fun _ _ _ _=>(@AI _ _ _ _ _ (Af*>(Af*>Ae))))))*>Ae))))))),?_⟩
 have vl:=DT ls
 and_intros
 refine ⟨⟨_,SqL.of hl⟩,?_⟩
 refine Cy (xs:=vls ls) (by rw [vl];exact Bx (by omega)) (fun D i ys J=>∃xs:List Sh,ys=shv xs/\xs.length=i/\J D=some (.lst ys)/\Au H J/\(∀x∈xs,ShG J x/\x.2.1.2=(1,1)/\x.2.2.2.map (·.2)=List.replicate h (0,1)/\H x.2.2.1=none/\x.2.2.1≠D)/\(xs.map fun x=>x.2.2.1).Nodup) (fun D hD=>⟨[],rfl,rfl,Ab,Ag hD _,(fun _ m=>absurd m List.not_mem_nil),nodup_nil⟩) (fun D i ys J hq_=>by obtain ⟨xs,f1,f2,f3,_⟩:=hq_;exact ⟨f3,by rw [f1];unfold shv;rw [length_map,f2];exact Nat.le_refl _⟩) (fun D i ys J hD hq_=>by obtain ⟨_,_,_,_,f4,_⟩:=hq_;exact SqL.of (f4 _ _ hl)) ?_ ?_
 ·rintro D i y ys J K1 K2 hD hy ⟨xs,rfl,n1,n2,n3,n4,n5⟩ kk1 kk2
  refine yes (ifT rfl ?_)
  refine ⟨(by show 2<=sizeLine;decide),fun f1 hf1=>?_⟩
  have s1:=Ag hf1 (.tup [V.int 1,V.int 1])
  have e1:(upd J f1 (.tup [V.int 1,V.int 1])) f1=some (.tup [V.int 1,V.int 1]):=Ab
  generalize upd J f1 (.tup [V.int 1,V.int 1])=J1 at s1 e1 ⊢
  refine ⟨_,rfl,(h:Int),rfl,by omega,by omega,?_⟩
  rw [Int.toNat_natCast]
  refine Db (Bx (by omega)) (fun D2 k ys J2=>∃fs:List Fq,ys=fqv fs/\J2 D2=some (.lst ys)/\Au J1 J2/\(∀f∈fs,FqG J2 f)/\fs.map (·.2)=List.replicate k (0,1)) (fun D2 hD2=>⟨[],rfl,Ab,Ag hD2 _,(fun _ m=>absurd m List.not_mem_nil),rfl⟩) (fun D2 k ys J2 hq_=>by obtain ⟨fs,f1,f2,_,_,f5⟩:=hq_;exact ⟨f2,by rw [f1];unfold fqv;rw [length_map,<- length_map (f:=(·.2)),f5,length_replicate];exact Nat.le_refl _⟩) ?_ ?_
  ·rintro D2 k ys J2 L1 L2 hD2 hk ⟨fs,rfl,m1,m2,m3,m4⟩ ll1 ll2
   refine yes (ifT rfl ?_)
   refine ⟨(by show 2<=sizeLine;decide),fun t0 ht0=>?_⟩
   have s2:=Ag ht0 (.tup [V.int 0,V.int 1])
   have e2:(upd J2 t0 (.tup [V.int 0,V.int 1])) t0=some (.tup [V.int 0,V.int 1]):=Ab
   generalize upd J2 t0 (.tup [V.int 0,V.int 1])=J3 at s2 e2 ⊢
   have m1':=s2 _ _ m1
   refine ll1 _ _ m1' ⟨fs++[(t0,0,1)],by unfold fqv;rw [map_append];rfl,Ab,A1 (m2.trans s2) hD2,(fun f m=>FqG.upd ?_ m1'),?_⟩
   ·rcases mem_append.mp m with m | m
    ·exact (m3 f m).same s2
    ·rw [mem_singleton.mp m];exact e2
   ·rw [map_append,m4,replicate_succ']
    rfl
  rintro D2 ys J2 hD2 ⟨fs,rfl,m1,m2,m3,m4⟩
  refine ⟨(by show 2<=sizeLine;decide),fun t ht=>?_⟩
  have s3:=Ag ht (.tup [V.ref f1,V.ref D2])
  have e3:(upd J2 t (.tup [V.ref f1,V.ref D2])) t=some (.tup [V.ref f1,V.ref D2]):=Ab
  generalize upd J2 t (.tup [V.ref f1,V.ref D2])=J3 at s3 e3 ⊢
  have s13:=s1.trans (m2.trans s3)
  have n2':=s13 _ _ n2
  have dD:D2≠D:=fun z=>by rw [z,s1 _ _ n2] at hD2;cases hD2
  have hDn:H D2=none:=none_of (n3.trans s1) hD2
  refine kk1 _ _ n2' ⟨xs++[(t,(f1,1,1),D2,fs)],by unfold shv;rw [map_append];rfl,by rw [length_append,n1];rfl,Ab,A1 (n3.trans s13) hD,(fun x m=>?_),?_⟩
  ·rcases mem_append.mp m with m | m
   ·obtain ⟨a1,a2,a3,a4,a5⟩:=n4 x m
    exact ⟨(a1.same s13).upd n2' a5,a2,a3,a4,a5⟩
   ·rw [mem_singleton.mp m]
    exact ⟨ShG.upd ⟨e3,(m2.trans s3) _ _ e1,s3 _ _ m1,fun f m=>(m3 f m).same s3⟩ n2' dD,rfl,m4,hDn,dD⟩
  ·rw [map_append,nodup_append]
   refine ⟨n5,nodup_cons.mpr ⟨(fun m=>nomatch m),nodup_nil⟩,fun x m y k e=>?_⟩
   obtain ⟨x0,xm,rfl⟩:=mem_map.mp m
   rw [mem_singleton.mp k] at e
   have:=(n4 x0 xm).1.l
   rw [e] at this
   have:=s1 _ _ this
   rw [hD2] at this
   cases this
 rintro D ys J hD ⟨xs,rfl,n1,n2,n3,n4,n5⟩
 rw [vl] at n1
 exact q D xs J hD n3 n2 n4 n5 n1
theorem JI (T:Tx K mg ad):AG P w K mg base CX0 1 ad.f_with_kept ad.d_with_kept ["kept","hand","given"] Mc:=by
 refine T.F_with_kept.ok FK (fun vs H Q E h=>?_) (fun cdv A outer s H vs Q E hr h=>?_)
 ·obtain ⟨kl,hd,ks,g,rfl,_⟩:=h
  rfl
 obtain ⟨kl,hd,ks,g,rfl,hk,gk,gg,hh,k12,q⟩:=h
 refine ⟨_,((@Ak _ _ (3) _ _ _ _ FK.nd rfl (Or.inl rfl) (@Bt _ _ _ _ _ _ _ _ _ AX (by rfl) T.z_list PyProof.Rows.boot_list ((pv 0)*>Ae) (by decide) (by decide) (by rfl) (by rfl)) (by rfl) (by nofun))>>((Eu (pv 2) (EE (pv 3) (pv 1) Do))>>(@Ah _ _ _ (@Ao _ _ _ _ (pv 3))))),?_⟩
 and_intros
 intro l hl
 have s1:=Ag hl (.lst (fqv ks))
 have e1:(upd H l (.lst (fqv ks))) l=some (.lst (fqv ks)):=Ab
 generalize upd H l (.lst (fqv ks))=H1 at s1 e1 ⊢
 and_intros
 refine ⟨l,_,_,hd,rfl,rfl,e1,DQ (by unfold fqv;rw [length_map];exact hh),?_⟩
 rw [show (fqv ks).set hd (V.ref g.1)=fqv (ks.set hd g) from MT ks hd g]
 exact ⟨_,rfl,q l _ hl (A1 s1 hl) Ab⟩
theorem IQ (T:Tx K mg ad):AG P w K mg base CX0 1 ad.f_ballots_in ad.d_ballots_in ["sheet"] Nz:=by
 refine T.F_ballots_in.ok IA (fun vs H Q E h=>?_) (fun cdv A outer s H vs Q E hr h=>?_)
 ·obtain ⟨l,ls,rfl,_⟩:=h
  rfl
 obtain ⟨l,ls,rfl,hl,g,l900,q⟩:=h
 refine ⟨_,(@Ah _ _ _ (@Ao _ _ _ _ (@A2 _ _ _ _ _ _ _ _ _ (HC rfl) (by rfl) T.z_sum PyProof.Rows.boot_sum ((Io (fsc:=Ad BC) (N:=["sheet"]) (Nc:=["sheet","slip","number"]) rfl rfl ⟨rfl,by decide +kernel,by decide +kernel,by decide +kernel,by decide +kernel,rfl,by decide +kernel,rfl,by decide +kernel⟩ rfl (B1 (pv 0)) (fun _ _ _ _=>B2) (fun _ _ _ _=>(pv 2)))*>Ae) (by decide) (by decide) (by rfl) (by rfl)))),?_⟩
 refine ⟨_,rfl,l,rfl,⟨_,SqL.of hl⟩,?_⟩
 refine LK (zs:=vls ls) rfl rfl (by rw [DT];exact EN l900) (fun D i ys H'=>ys=((Av (ls.take i)).map (·.2)).map V.int/\H'=upd H D (.lst ys)) (fun D hD=>⟨rfl,rfl⟩) (fun D i ys H' hq_=>by obtain ⟨f1,f2⟩:=hq_;exact ⟨by rw [f2];exact Ab,by rw [f1,length_map,length_map];unfold Av;rw [length_map];exact length_take_le _ _⟩) (fun D i ys H' hD hq_=>by obtain ⟨_,f2⟩:=hq_;rw [f2];exact SqL.of (Ag hD _ _ _ hl)) ?_ ?_
 ·rintro D i x ys H' K1 K2 hD hx ⟨f1,rfl⟩ k1 k2
  obtain ⟨f,hf,rfl,fm,et⟩:=GS hx
  refine ⟨f.1,_,_,rfl,SqT.of (Ag hD _ _ _ (g f fm).1),?_⟩
  refine yes (ifT rfl ?_)
  refine ⟨_,rfl,?_⟩
  refine k1 _ _ Ab ⟨?_,by rw [Dk]⟩
  rw [et,GB,map_append,map_append,f1]
  rfl
 rintro D ys H' hD ⟨rfl,rfl⟩
 rw [DT,take_of_length_le (Nat.le_refl _)]
 exact ⟨D,_,rfl,SqL.of Ab,q _ (Ag hD _)⟩
theorem B9 (T:Tx K mg ad):AG P w K mg base CX0 1 ad.f_law_cell ad.d_law_cell ["_law_script","_law_k"] (T4 K):=by
 refine T.F_law_cell.ok EF (fun vs H Q E h=>?_) (fun cdv A outer s H vs Q E hr h=>?_)
 ·obtain ⟨p,ns,k,rfl,_⟩:=h
  rfl
 obtain ⟨p,ns,k,rfl,hS,h63,k0,k1,q⟩:=h
 refine ⟨_,((@AS _ _ _ _ _ _ _ _ (@Aq _ _ _ _ _ _ _ _ MF (pv 1) (@A2 _ _ _ _ _ _ _ _ _ A6 (by rfl) T.z_len PySem.boot_len ((pv 0)*>Ae) (by decide) (by decide) (by rfl) (by rfl)) (Aw _)) (@Ah _ _ _ (@Ao _ _ _ _ (A0<&>((@At _ _ _ _ _ _ _ A5 (pv 0) (pv 1) (fun _ _=>rfl))<|>(Km<&>(Af<|>Af)))))) As)>>((@Ak _ _ (2) _ _ _ _ EF.nd rfl (Or.inl rfl) (AQ<&>((AO<&>((pv 1)<|>Af))<|>Af)) (by rfl) (by nofun))>>((@Cj _ _ _ _ _ _ _ _ (@Aq _ _ _ _ _ _ _ _ MZ (@A2 _ _ _ _ _ _ _ _ _ A6 (by rfl) T.z_len PySem.boot_len ((pv 0)*>Ae) (by decide) (by decide) (by rfl) (by rfl)) Af (Aw _)) (@Ah _ _ _ (@Ak _ _ (2) _ _ _ _ EF.nd rfl (Or.inl rfl) (AQ<&>((AO<&>((A0<&>((@At _ _ _ _ _ _ _ A5 (pv 0) (A0<&>((AO<&>((pv 1)<|>Af))<|>(@A2 _ _ _ _ _ _ _ _ _ A6 (by rfl) T.z_len PySem.boot_len ((pv 0)*>Ae) (by decide) (by decide) (by rfl) (by rfl)))) (fun _ _=>rfl))<|>(Km<&>(Af<|>Af))))<|>Af))<|>(AO<&>((AO<&>((pv 1)<|>(pv 1)))<|>Af)))) (by rfl) (by nofun))) As)>>(@Ah _ _ _ (@Ao _ _ _ _ (A0<&>((AO<&>((A0<&>((pv 2)<|>Af))<|>Af))<|>Af))))))),?_⟩
 have hl:(ns.map V.int).length=ns.length:=length_map _
 have szk:Sz 64 k:=Bz (by omega) (by omega)
 have p40:(0:Int) < 10 ^ (40:Int).toNat:=by decide +kernel
 refine ⟨_,rfl,_,rfl,p,_,rfl,.inl hS,_,_,rfl,rfl,_,rfl,?_⟩
 refine P7 (fun c=>?_) (fun c=>?_)
 ·have c':k < (((ns.map V.int).length:Nat):Int):=of_decide_eq_true c
  rw [hl] at c'
  obtain ⟨v,hv⟩:=MG k0 c'
  refine ⟨_,rfl,_,rfl,p,_,_,_,rfl,rfl,hS,hv,_,_,rfl,rfl,P6,_,_,rfl,rfl,(Int.ne_of_gt p40),?_⟩
  exact q _ (AB v p40).1 (AB v p40).2
 ·and_intros
  refine ⟨fun σ' H'=>∃z:Int,σ'=[some (.ref p),some (.int k),some (.int z)]/\H=H',?_,?_⟩
  ·refine ⟨_,rfl,p,_,rfl,.inl hS,_,_,rfl,rfl,_,rfl,?_⟩
   refine P7 (fun c2=>?_) (fun c2=>?_)
   ·have c2':0 < (((ns.map V.int).length:Nat):Int):=of_decide_eq_true c2
    rw [hl] at c2'
    have m:=AB (k*7) c2'
    obtain ⟨v,hv⟩:=MG m.1 m.2
    refine ⟨_,rfl,?_⟩
    and_intros
    refine ⟨p,_,rfl,.inl hS,?_⟩
    rw [hl]
    refine ⟨_,_,rfl,rfl,(by show (_:Int)≠0;omega),?_⟩
    refine ⟨p,_,_,_,rfl,rfl,hS,hv,_,_,rfl,rfl,P6,_,_,rfl,rfl,(Int.ne_of_gt p40),?_⟩
    have szv:Sz 200 (v.fmod (10 ^ (40:Int).toNat)):=Kl (AB v p40).1 (AB v p40).2
    and_intros
    exact rfl
   ·exact ⟨_,rfl,rfl⟩
  rintro σ' H' ⟨z,rfl,rfl⟩
  have m1:=AB z (show (0:Int) < 2147483647 by decide)
  have sz1:Sz 64 (z.fmod 2147483647):=Bz (by omega) (by omega)
  and_intros
  have m:=AB (z.fmod 2147483647*69621) (show (0:Int) < 2147483629 by decide)
  exact q _ m.1 (Int.lt_trans m.2 (by decide))
theorem Ew (T:Tx K mg ad):AG P w K mg base CX0 1 ad.f_law_mixed ad.d_law_mixed ["_law_cell_here","_law_by"] QF:=by
 refine T.F_law_mixed.ok FX (fun vs H Q E h=>?_) (fun cdv A outer s H vs Q E hr h=>?_)
 ·obtain ⟨c,b,rfl,_⟩:=h
  rfl
 obtain ⟨c,b,rfl,szc,b0,b1,q⟩:=h
 refine ⟨_,((@Ak _ _ (2) _ _ _ _ FX.nd rfl (Or.inl rfl) (AQ<&>(Af<|>(AO<&>((pv 1)<|>Af)))) (by rfl) (by nofun))>>(@Ah _ _ _ (@Ao _ _ _ _ (A0<&>((AO<&>((AQ<&>((pv 0)<|>Af))<|>(pv 2)))<|>(AQ<&>((Km<&>(Af<|>Af))<|>Af))))))),?_⟩
 have szb:Sz 64 b:=Bz (by omega) (by omega)
 and_intros
 have m:=AB ((c+3)*(618033988749894848204586834365+b*271828182845904523536028747)) (show (0:Int) < 10 ^ (30:Int).toNat+57 by decide)
 exact q _ m.1 (Int.lt_trans m.2 (by decide))
theorem Li (T:Tx K mg ad):AG P w K mg base CX0 1 ad.f_law_mask ad.d_law_mask ["_law_some"] S1:=by
 refine T.F_law_mask.ok K7 (fun vs H Q E h=>?_) (fun cdv A outer s H vs Q E hr h=>?_)
 ·obtain ⟨l,hs,rfl,_⟩:=h
  rfl
 obtain ⟨l,hs,rfl,hl,l100,h64,q⟩:=h
 refine ⟨_,(@Ah _ _ _ (@Ao _ _ _ _ (@A2 _ _ _ _ _ _ _ _ _ (HC rfl) (by rfl) T.z_sum PyProof.Rows.boot_sum ((Cp (fsc:=Ad Cu) (N:=["_law_some"]) (Nc:=["_law_some","_law_hand"]) rfl rfl (by nofun) rfl (B1 (pv 0)) (fun _ _ _ _=>B2) (fun _ _ _ _=>(LB<&>(Af<|>(pv 1)))))*>Ae) (by decide) (by decide) (by rfl) (by rfl)))),?_⟩
 and_intros
 refine ⟨⟨_,SqL.of hl⟩,?_⟩
 refine Cy (xs:=hs.map V.int) (by rw [length_map];exact EN (by omega)) (fun D i ys H'=>ys=((hs.take i).map fun h=>(1:Int)*2 ^ h.toNat).map V.int/\H'=upd H D (.lst ys)) (fun D hD=>⟨rfl,rfl⟩) (fun D i ys H' hq_=>by obtain ⟨f1,f2⟩:=hq_;exact ⟨by rw [f2];exact Ab,by rw [f1,length_map,length_map];exact length_take_le _ _⟩) (fun D i ys H' hD hq_=>by obtain ⟨_,f2⟩:=hq_;rw [f2];exact SqL.of (Ag hD _ _ _ hl)) ?_ ?_
 ·rintro D i x ys H' K1 K2 hD hx ⟨f1,rfl⟩ k1 k2
  obtain ⟨z,hz,rfl⟩:=E5 hx
  have et:hs.take (i+1)=hs.take i++[z]:=by rw [take_succ,hz];rfl
  obtain ⟨z0,z64⟩:=h64 z (mem_of_getElem? hz)
  refine yes (ifT rfl ?_)
  refine ⟨_,rfl,_,_,rfl,rfl,⟨by omega,by omega,by decide⟩,?_⟩
  refine k1 _ _ Ab ⟨?_,by rw [Dk]⟩
  rw [f1,et,map_append,map_append]
  rfl
 ·rintro D ys H' hD ⟨rfl,rfl⟩
  refine ⟨D,_,rfl,SqL.of Ab,?_⟩
  rw [length_map,take_length]
  exact q _ (Ag hD _)
theorem IH (T:Tx K mg ad):AG P w K mg base CX0 1 ad.f_law_number ad.d_law_number ["_law_cell_here","_law_most"] LF:=by
 refine T.F_law_number.ok IL (fun vs H Q E h=>?_) (fun cdv A outer s H vs Q E hr h=>?_)
 ·obtain ⟨c,m,rfl,_⟩:=h
  rfl
 obtain ⟨c,m,rfl,szc,m1,m9,q⟩:=h
 refine ⟨_,(@Ah _ _ _ (@Ao _ _ _ _ (AQ<&>(Af<|>(A0<&>((A0<&>((AQ<&>((AO<&>((pv 0)<|>Af))<|>Af))<|>Af))<|>(pv 1))))))),?_⟩
 and_intros
 refine ⟨(by show (_:Int)≠0;omega),?_⟩
 have k:=AB ((c*48271+5).fmod 1000000007) (show (0:Int) < m by omega)
 and_intros
 exact q _ (by omega) (by omega)
theorem EK (T:Tx K mg ad):AG P w K mg base CX0 1 ad.f_law_copy ad.d_law_copy ["_law_paper"] O1:=by
 refine T.F_law_copy.ok Dn (fun vs H Q E h=>?_) (fun cdv A outer s H vs Q E hr h=>?_)
 ·obtain ⟨p,ps,rfl,_⟩:=h
  rfl
 obtain ⟨p,ps,rfl,hp,gp,l13,r60,q⟩:=h
 refine ⟨_,((@Ak _ _ (1) _ _ _ _ Dn.nd rfl (Or.inl rfl) (@BU _ _ _ _ Ae) (by rfl) (by nofun))>>((D9 PassesOwn.never rfl (B1 (pv 0)) (Fw rfl (Be (Bg (i:=2) Dn.nd rfl (Or.inl rfl)) (Be (Bg (i:=3) Dn.nd rfl (Or.inl rfl)) (Be (Bg (i:=4) Dn.nd rfl (Or.inl rfl)) E4)))) (@Ah _ _ _ (@BE _ _ _ _ (Eg PySem.F.plainAttrs_list PySem.F.slot_list_append PySem.F.type_list_append BO (pv 1) ((@AI _ _ _ _ _ ((Cp (fsc:=Ad Cq) (N:=["_law_paper","_law_found","_law_rows","_law_sums","_law_deed_here"]) (Nc:=["_law_paper","_law_found","_law_rows","_law_sums","_law_deed_here","_law_row"]) rfl rfl (by nofun) rfl (B1 (pv 2)) (fun _ _ _ _=>B2) (fun _ _ _ _=>(@Bt _ _ _ _ _ _ _ _ _ (I0 K) (by rfl) T.z_list PyProof.Rows.boot_list ((pv 5)*>Ae) (by decide) (by decide) (by rfl) (by rfl))))*>((@Bt _ _ _ _ _ _ _ _ _ AX (by rfl) T.z_list PyProof.Rows.boot_list ((pv 3)*>Ae) (by decide) (by decide) (by rfl) (by rfl))*>((pv 4)*>Ae))))*>Ae)) (by rfl))))>>(@Ah _ _ _ (@Ao _ _ _ _ (pv 1))))),?_⟩
 and_intros
 refine ⟨(by show 0<=sizeLine;decide),fun L hL=>?_⟩
 have s1:=Ag hL (.lst [])
 have e1:(upd H L (.lst [])) L=some (.lst (rqs [])):=Ab
 generalize upd H L (.lst [])=H1 at s1 e1 ⊢
 and_intros
 have hp1:=s1 _ _ hp
 refine ⟨⟨_,SqL.of hp1⟩,EQ (xs:=rqs ps) (fun i σ' J=>∃(v2 v3 v4:Option V) (cs:List Rq),σ'=[some (.ref p),some (.ref L),v2,v3,v4]/\Au H J/\J L=some (.lst (rqs cs))/\(∀r∈cs,RqG J r/\Qo H r/\N3 L r)/\cs.map rqV=(ps.take i).map rqV) ⟨none,none,none,[],rfl,s1,e1,(fun _ m=>absurd m List.not_mem_nil),rfl⟩ (fun i σ' J _ hq_=>by obtain ⟨_,_,_,_,_,e,_⟩:=hq_;exact SqL.of (e _ _ hp)) ?_ ?_⟩
 ·rintro i w σ' J hw ⟨v2,v3,v4,cs,rfl,sJ,eL,gc,ec⟩
  obtain ⟨r,hr0,rfl⟩:∃r,ps[i]?=some r/\w=.ref r.1:=by
   unfold rqs at hw
   rw [List.getElem?_map] at hw
   obtain ⟨r,h1,h2⟩:=Option.map_eq_some_iff.mp hw
   exact ⟨r,h1,h2.symm⟩
  have rm:=mem_of_getElem? hr0
  have g:=(gp r rm).same sJ
  have r6:=r60 r rm
  have cl:cs.length<=13:=by
   have a:=congrArg List.length ec
   rw [length_map,length_map,length_take] at a
   omega
  refine ⟨r.1,_,rfl,SqT.of g.t,rfl,_,_,rfl,_,_,rfl,_,_,rfl,rfl,?_⟩
  have grl:=g.rl
  have gsl:=g.sl
  and_intros
  refine ⟨.inl ⟨rfl,_,SqL.of eL⟩,?_⟩
  and_intros
  refine ⟨⟨_,SqL.of grl⟩,?_⟩
  refine Cy (xs:=rwv r.2.1.2) (by unfold rwv;rw [length_map];exact Bx (by omega)) (fun D k ys G=>∃ws:List Rw,ys=rwv ws/\G D=some (.lst ys)/\Au J G/\(∀x∈ws,RwG G x/\J x.1=none/\x.1≠D)/\ws.map (fun x=>x.2.map (·.2))=(r.2.1.2.take k).map fun x=>x.2.map (·.2)) (fun D hD=>⟨[],rfl,Ab,Ag hD _,(fun _ m=>absurd m List.not_mem_nil),rfl⟩) (fun D k ys G hq=>by
   obtain ⟨ws,f1,f2,_,_,f5⟩:=hq
   refine ⟨f2,?_⟩
   have a:=congrArg List.length f5
   rw [length_map,length_map] at a
   rw [f1]
   unfold rwv
   rw [length_map,a]
   exact length_take_le _ _) (fun D k ys G hD hq=>by
   obtain ⟨_,_,_,f3,_⟩:=hq
   exact SqL.of (f3 _ _ grl)) ?_ ?_
  ·rintro D k y ys G K1 K2 hD hy ⟨ws,rfl,f2,f3,f4,f5⟩ kk1 kk2
   obtain ⟨x,hx,rfl⟩:∃x,r.2.1.2[k]?=some x/\y=.ref x.1:=by
    unfold rwv at hy
    rw [List.getElem?_map] at hy
    obtain ⟨x,h1,h2⟩:=Option.map_eq_some_iff.mp hy
    exact ⟨x,h1,h2.symm⟩
   have xm:=mem_of_getElem? hx
   have xl:=f3 _ _ (g.rg x xm).1
   refine yes (ifT rfl ?_)
   and_intros
   intro c hc
   have g1:=Ag hc (.lst (fqv x.2))
   have ec1:(upd G c (.lst (fqv x.2))) c=some (.lst (fqv x.2)):=Ab
   generalize upd G c (.lst (fqv x.2))=G1 at g1 ec1 ⊢
   have eD:=g1 _ _ f2
   have cD:c≠D:=fun z=>by rw [z,f2] at hc;cases hc
   have up:∀{x:Rw},RwG G1 x->x.1≠D->RwG (upd G1 D (.lst (rwv ws++[V.ref c]))) x:=fun {x} k n=>⟨by rw [Al n];exact k.1,fun f fm=>by rw [FqG,Al (Cw (k.2 f fm) eD (fun z=>by cases z))];exact k.2 f fm⟩
   refine kk1 _ _ eD ⟨ws++[(c,x.2)],by unfold rwv;rw [map_append];rfl,Ab,A1 (f3.trans g1) hD,fun z m=>?_,?_⟩
   ·rcases mem_append.mp m with m | m
    ·exact ⟨up ⟨g1 _ _ (f4 z m).1.1,fun f fm=>g1 _ _ ((f4 z m).1.2 f fm)⟩ (f4 z m).2.2,(f4 z m).2.1,(f4 z m).2.2⟩
    ·rw [mem_singleton.mp m]
     exact ⟨up ⟨ec1,fun f fm=>(f3.trans g1) _ _ ((g.rg x xm).2 f fm)⟩ cD,none_of f3 hc,cD⟩
   ·rw [map_append,f5,take_succ,hx,map_append]
    rfl
  rintro D ys G hD ⟨ws,rfl,f2,f3,f4,f5⟩
  rw [show (rwv r.2.1.2).length=r.2.1.2.length from length_map _,take_length] at f5
  have gsl1:=f3 _ _ gsl
  and_intros
  intro c hc
  have g1:=Ag hc (.lst (fqv r.2.2.1.2))
  have ec1:(upd G c (.lst (fqv r.2.2.1.2))) c=some (.lst (fqv r.2.2.1.2)):=Ab
  generalize upd G c (.lst (fqv r.2.2.1.2))=G1 at g1 ec1 ⊢
  and_intros
  refine ⟨(by show 3<=sizeLine;decide),fun t ht=>?_⟩
  have g2:=Ag ht (.tup [V.ref D,V.ref c,V.ref r.2.2.2.1])
  have et:(upd G1 t (.tup [V.ref D,V.ref c,V.ref r.2.2.2.1])) t=some (.tup [V.ref D,V.ref c,V.ref r.2.2.2.1]):=Ab
  generalize upd G1 t (.tup [V.ref D,V.ref c,V.ref r.2.2.2.1])=G2 at g2 et ⊢
  have s2:=(f3.trans g1).trans g2
  have eL2:=s2 _ _ eL
  refine ⟨L,_,_,rfl,rfl,eL2,(by unfold rqs;rw [length_map];exact AH (by omega)),?_⟩
  have nL:∀{z:Addr},J z=none->z≠L:=fun e z=>by rw [z,eL] at e;cases e
  have cJ:J c=none:=none_of f3 hc
  have nw:RqG G2 (t,(D,ws),(c,r.2.2.1.2),r.2.2.2):=⟨et,(g1.trans g2) _ _ f2,fun x m=>⟨(g1.trans g2) _ _ (f4 x m).1.1,fun f fm=>(g1.trans g2) _ _ ((f4 x m).1.2 f fm)⟩,g2 _ _ ec1,fun f fm=>s2 _ _ (g.sg f fm),s2 _ _ g.d⟩
  have aw:N3 L (t,(D,ws),(c,r.2.2.1.2),r.2.2.2):=⟨nL hD,nL cJ,fun x m=>nL (f4 x m).2.1⟩
  and_intros
  refine ⟨_,_,_,cs++[(t,(D,ws),(c,r.2.2.1.2),r.2.2.2)],rfl,A1 (sJ.trans s2) hL,by rw [Ab];unfold rqs;rw [map_append];rfl,fun z m=>?_,?_⟩
  ·rcases mem_append.mp m with m | m
   ·exact ⟨((gc z m).1.same s2).upd eL2 (gc z m).2.2,(gc z m).2.1,(gc z m).2.2⟩
   ·rw [mem_singleton.mp m]
    exact ⟨nw.upd eL2 aw,⟨none_of sJ hD,none_of sJ cJ,fun x m=>none_of sJ (f4 x m).2.1⟩,aw⟩
  ·rw [map_append,ec,take_succ,hr0,map_append]
   show _++[_]=_++[_]
   unfold rqV
   dsimp only
   rw [f5]
 ·rintro σ' J ⟨v2,v3,v4,cs,rfl,sJ,eL,gc,ec⟩
  rw [show (rqs ps).length=ps.length from length_map _,take_length] at ec
  and_intros
  exact q L cs J hL sJ eL (fun r m=>⟨(gc r m).1,(gc r m).2.1⟩) ec
theorem FI (T:Tx K mg ad):AG P w K mg base CX0 1 ad.f_law_other ad.d_law_other ["_law_one","_law_cell_here"] NH:=by
 refine T.F_law_other.ok JJ (fun vs H Q E h=>?_) (fun cdv A outer s H vs Q E hr h=>?_)
 ·obtain ⟨a,n,m,c,rfl,_⟩:=h
  rfl
 obtain ⟨a,n,m,c,rfl,e,z1,z2,zc,q⟩:=h
 refine ⟨_,((@AS _ _ _ _ _ _ _ _ (@Aq _ _ _ _ _ _ _ _ By (A0<&>((pv 1)<|>Af)) Af (Aw _)) (@Ah _ _ _ (@Ao _ _ _ _ (@AI _ _ _ _ _ ((AQ<&>((@At _ _ _ _ _ _ _ Ay (pv 0) Af (fun _ _=>rfl))<|>Af))*>((@At _ _ _ _ _ _ _ Ay (pv 0) Af (fun _ _=>rfl))*>Ae))))) As)>>((@AS _ _ _ _ _ _ _ _ (@Aq _ _ _ _ _ _ _ _ By (A0<&>((pv 1)<|>Af)) Af (Aw _)) (@Ah _ _ _ (@Ao _ _ _ _ (@AI _ _ _ _ _ ((EI<&>((EI<&>((@At _ _ _ _ _ _ _ Ay (pv 0) Af (fun _ _=>rfl))<|>Af))<|>(A0<&>((AR<&>((pv 1)<|>Af))<|>Af))))*>((@At _ _ _ _ _ _ _ Ay (pv 0) Af (fun _ _=>rfl))*>Ae))))) As)>>((@AS _ _ _ _ _ _ _ _ (@Aq _ _ _ _ _ _ _ _ By (A0<&>((pv 1)<|>Af)) Af (Aw _)) (@Ah _ _ _ (@Ao _ _ _ _ (@AI _ _ _ _ _ ((@At _ _ _ _ _ _ _ Ay (pv 0) Af (fun _ _=>rfl))*>((AQ<&>((@At _ _ _ _ _ _ _ Ay (pv 0) Af (fun _ _=>rfl))<|>Af))*>Ae))))) As)>>(@Ah _ _ _ (@Ao _ _ _ _ (@AI _ _ _ _ _ ((AO<&>(Af<|>(@At _ _ _ _ _ _ _ Ay (pv 0) Af (fun _ _=>rfl))))*>((AO<&>(Af<|>(@At _ _ _ _ _ _ _ Ay (pv 0) Af (fun _ _=>rfl))))*>Ae)))))))),?_⟩
 have two:∀{x y:Int} {t:Addr},H t=none->Q (.ref t) (upd H t (.tup [.int x,.int y])):=fun ht=>q _ _ (Ag ht _) (Er Ab (.inl ⟨_,rfl⟩) (.inl ⟨_,rfl⟩))
 and_intros
 by_cases c0:Int.fmod c 4=0
 ·refine ifT (DI c0) ?_
  and_intros
  exact ⟨(by show 2<=sizeLine;decide),fun t ht=>two ht⟩
 refine ifF (DH c0) ?_
 and_intros
 by_cases c1:Int.fmod c 4=1
 ·refine ifT (DI c1) ?_
  and_intros
  exact ⟨(by show 2<=sizeLine;decide),fun t ht=>two ht⟩
 refine ifF (DH c1) ?_
 and_intros
 by_cases c2:Int.fmod c 4=2
 ·refine ifT (DI c2) ?_
  and_intros
  exact ⟨(by show 2<=sizeLine;decide),fun t ht=>two ht⟩
 refine ifF (DH c2) ?_
 and_intros
 exact ⟨(by show 2<=sizeLine;decide),fun t ht=>two ht⟩
theorem KK (T:Tx K mg ad):AG P w K mg base CX0 1 ad.f_law_deed ad.d_law_deed ["_law_deed_here","_law_cell_here","_law_hands"] PJ:=by
 refine T.F_law_deed.ok DR (fun vs H Q E h=>?_) (fun cdv A outer s H vs Q E hr h=>?_)
 ·obtain ⟨a,d,c,h,rfl,_⟩:=h
  rfl
 obtain ⟨a,d,c,h,rfl,e,zc,h12,q⟩:=h
 refine ⟨_,((@Ak _ _ (3) _ _ _ _ DR.nd rfl (Or.inl rfl) (@At _ _ _ _ _ _ _ A5 (@BU _ _ _ _ (Dr*>(Dr*>(Dr*>(Dr*>Ae))))) (A0<&>((pv 1)<|>Af)) (fun _ _=>rfl)) (by rfl) (by nofun))>>((@Ak _ _ (4) _ _ _ _ DR.nd rfl (Or.inl rfl) (@At _ _ _ _ _ _ _ A5 (@BU _ _ _ _ ((A0<&>((pv 1)<|>(AQ<&>((pv 2)<|>Af))))*>((EI<&>((@M7 _ _ _ _ _ _ LH Af)<|>(A0<&>((pv 1)<|>Af))))*>((AQ<&>((Km<&>(Af<|>Af))<|>(pv 1)))*>Ae)))) (A0<&>((AR<&>((pv 1)<|>Af))<|>Af)) (fun _ _=>rfl)) (by rfl) (by nofun))>>((@Ak _ _ (5) _ _ _ _ DR.nd rfl (Or.inl rfl) (@BU _ _ _ _ ((@AI _ _ _ _ _ ((pv 3)*>((@At _ _ _ _ _ _ _ Ay (pv 0) Af (fun _ _=>rfl))*>Ae)))*>((@AI _ _ _ _ _ ((@At _ _ _ _ _ _ _ Ay (pv 0) Af (fun _ _=>rfl))*>((pv 4)*>Ae)))*>((@AI _ _ _ _ _ ((@At _ _ _ _ _ _ _ Ay (pv 0) Af (fun _ _=>rfl))*>(FA*>Ae)))*>Ae)))) (by rfl) (by nofun))>>(@Ah _ _ _ (@Ao _ _ _ _ (@At _ _ _ _ _ _ _ A5 (pv 5) (A0<&>((AR<&>((pv 1)<|>Af))<|>Af)) (fun _ _=>rfl))))))),?_⟩
 have m4:=AB c (show (0:Int) < 4 by decide)
 have m3:=AB (c.fdiv 100) (show (0:Int) < 3 by decide)
 have m3':=AB (c.fdiv 4) (show (0:Int) < 3 by decide)
 obtain ⟨dw,dh⟩:=HJ d
 generalize d.word=dwd at e dw
 generalize d.who=dwh at e dh
 and_intros
 refine ⟨(by show 4<=sizeLine;decide),fun wl hwl=>?_⟩
 have s1:=Ag hwl (.lst [V.str "seat",V.str "out",V.str "rest",V.str "end"])
 have e1:(upd H wl (.lst [V.str "seat",V.str "out",V.str "rest",V.str "end"])) wl=some (.lst [V.str "seat",V.str "out",V.str "rest",V.str "end"]):=Ab
 generalize upd H wl (.lst [V.str "seat",V.str "out",V.str "rest",V.str "end"])=H1 at s1 e1 ⊢
 obtain ⟨x,ax,xa⟩:∃x:V,atI [V.str "seat",V.str "out",V.str "rest",V.str "end"] (c.fmod 4)=some x/\Atm x:=by
  generalize c.fmod 4=w at m4
  rcases (by omega:w=0\/w=1\/w=2\/w=3) with rfl | rfl | rfl | rfl
  ·exact ⟨_,rfl,.inr (.inr (.inl rfl))⟩
  ·exact ⟨_,rfl,.inr (.inr (.inr (.inl rfl)))⟩
  ·exact ⟨_,rfl,.inr (.inr (.inr (.inr (.inl rfl))))⟩
  ·exact ⟨_,rfl,.inr (.inr (.inr (.inr (.inr rfl))))⟩
 and_intros
 refine ⟨wl,_,_,_,rfl,rfl,SqL.of e1,ax,?_⟩
 and_intros
 refine ⟨(by show (_:Int)≠0;omega),?_⟩
 and_intros
 refine ⟨(by show 3<=sizeLine;decide),fun hl hhl=>?_⟩
 dsimp only
 have s2:∀o,Au H1 (upd H1 hl o):=fun o=>Ag hhl o
 and_intros
 refine ⟨hl,_,_,_,rfl,rfl,SqL.of Ab,Qv m3,?_⟩
 generalize RL _ _ _ _=z
 generalize hG:upd H1 hl _=H2
 have s12:Au H H2:=by rw [<- hG];exact s1.trans (s2 _)
 have e2:=s12 _ _ e
 and_intros
 refine ⟨(by show 2<=sizeLine;decide),fun t1 ht1=>?_⟩
 have s3:=Ag ht1 (.tup [x,dwh])
 have et1:(upd H2 t1 (.tup [x,dwh])) t1=some (.tup [x,dwh]):=Ab
 generalize upd H2 t1 (.tup [x,dwh])=H3 at s3 et1 ⊢
 have e3:=s3 _ _ e2
 and_intros
 refine ⟨(by show 2<=sizeLine;decide),fun t2 ht2=>?_⟩
 have s4:=Ag ht2 (.tup [V.str dwd,V.int z])
 have et2:(upd H3 t2 (.tup [V.str dwd,V.int z])) t2=some (.tup [V.str dwd,V.int z]):=Ab
 generalize upd H3 t2 (.tup [V.str dwd,V.int z])=H4 at s4 et2 ⊢
 have e4:=s4 _ _ e3
 and_intros
 refine ⟨(by show 2<=sizeLine;decide),fun t3 ht3=>?_⟩
 have s5:=Ag ht3 (.tup [V.str dwd,V.non])
 have et3:(upd H4 t3 (.tup [V.str dwd,V.non])) t3=some (.tup [V.str dwd,V.non]):=Ab
 generalize upd H4 t3 (.tup [V.str dwd,V.non])=H5 at s5 et3 ⊢
 refine ⟨(by show 3<=sizeLine;decide),fun l3 hl3=>?_⟩
 have s6:=Ag hl3 (.lst [V.ref t1,V.ref t2,V.ref t3])
 have e6:(upd H5 l3 (.lst [V.ref t1,V.ref t2,V.ref t3])) l3=some (.lst [V.ref t1,V.ref t2,V.ref t3]):=Ab
 generalize upd H5 l3 (.lst [V.ref t1,V.ref t2,V.ref t3])=H6 at s6 e6 ⊢
 have s26:=((s3.trans s4).trans s5).trans s6
 have k1:Flt H6 (.ref t1):=Er (((s4.trans s5).trans s6) _ _ et1) xa dh
 have k2:Flt H6 (.ref t2):=Er ((s5.trans s6) _ _ et2) dw (.inl ⟨_,rfl⟩)
 have k3:Flt H6 (.ref t3):=Er (s6 _ _ et3) dw (.inr (.inl rfl))
 obtain ⟨tt,at',ft⟩:∃tt:Addr,atI [V.ref t1,V.ref t2,V.ref t3] ((c.fdiv 4).fmod 3)=some (.ref tt)/\Flt H6 (.ref tt):=by
  generalize (c.fdiv 4).fmod 3=w at m3'
  rcases (by omega:w=0\/w=1\/w=2) with rfl | rfl | rfl
  ·exact ⟨_,rfl,k1⟩
  ·exact ⟨_,rfl,k2⟩
  ·exact ⟨_,rfl,k3⟩
 and_intros
 refine ⟨l3,_,_,_,rfl,rfl,SqL.of e6,at',?_⟩
 and_intros
 exact q tt H6 (s12.trans s26) ft
theorem IO (T:Tx K mg ad):AG P w K mg base CX0 1 ad.f_law_longer ad.d_law_longer ["_law_rows","_law_sums","_law_way","_law_cell_here"] LW:=by
 refine T.F_law_longer.ok Fl (fun vs H Q E h=>?_) (fun cdv A outer s H vs Q E hr h=>?_)
 ·obtain ⟨R,S,t,B,w,c,Ws,xs,d,rfl,_⟩:=h
  rfl
 obtain ⟨R,S,t,B,w,c,Ws,xs,d,rfl,zc,et,sB,bR,bS,eR,neW,l60,rows,eS,neS,x20,fS,q⟩:=h
 refine ⟨_,((@Ak _ _ (4) _ _ _ _ Fl.nd rfl (Or.inl rfl) (A0<&>((pv 3)<|>(@A2 _ _ _ _ _ _ _ _ _ A6 (by rfl) T.z_len PySem.boot_len ((pv 0)*>Ae) (by decide) (by decide) (by rfl) (by rfl)))) (by rfl) (by nofun))>>((@Cj _ _ _ _ _ _ _ _ (@Aq _ _ _ _ _ _ _ _ By (pv 2) Af (Aw _)) (@Ah _ _ _ (@BE _ _ _ _ (Jw PySem.F.plainAttrs_list PySem.F.slot_list_pop PySem.F.type_list_pop Os (@At _ _ _ _ _ _ _ A5 (pv 0) (pv 4) (fun _ _=>rfl))) (by rfl))) As)>>((@Cj _ _ _ _ _ _ _ _ (@Aq _ _ _ _ _ _ _ _ By (pv 2) Af (Aw _)) (@Ah _ _ _ (@BE _ _ _ _ (Eg PySem.F.plainAttrs_list PySem.F.slot_list_append PySem.F.type_list_append BO (@At _ _ _ _ _ _ _ A5 (pv 0) (pv 4) (fun _ _=>rfl)) ((@AI _ _ _ _ _ (Af*>(Af*>Ae)))*>Ae)) (by rfl))) As)>>((@Cj _ _ _ _ _ _ _ _ (@Aq _ _ _ _ _ _ _ _ By (pv 2) Af (Aw _)) (@Ah _ _ _ (@BE _ _ _ _ (Jw PySem.F.plainAttrs_list PySem.F.slot_list_pop PySem.F.type_list_pop Os (pv 1)) (by rfl))) As)>>((@Cj _ _ _ _ _ _ _ _ (@Aq _ _ _ _ _ _ _ _ By (pv 2) Af (Aw _)) (@Ah _ _ _ (@BE _ _ _ _ (Eg PySem.F.plainAttrs_list PySem.F.slot_list_append PySem.F.type_list_append BO (pv 1) ((@AI _ _ _ _ _ (Af*>(Af*>Ae)))*>Ae)) (by rfl))) As)>>(@Ah _ _ _ (@AS _ _ _ _ _ _ _ _ (@Aq _ _ _ _ _ _ _ _ By (pv 2) Af (Aw _)) (@Ah _ _ _ (@BE _ _ _ _ (Eg PySem.F.plainAttrs_list PySem.F.slot_list_insert PySem.F.type_list_insert NR (pv 0) ((A0<&>((AR<&>((pv 3)<|>Af))<|>(AQ<&>((@A2 _ _ _ _ _ _ _ _ _ A6 (by rfl) T.z_len PySem.boot_len ((pv 0)*>Ae) (by decide) (by decide) (by rfl) (by rfl))<|>Af))))*>((@Bt _ _ _ _ _ _ _ _ _ AX (by rfl) T.z_list PyProof.Rows.boot_list ((@At _ _ _ _ _ _ _ A5 (pv 0) (pv 4) (fun _ _=>rfl))*>Ae) (by decide) (by decide) (by rfl) (by rfl))*>Ae))) (by rfl))) As))))))),?_⟩
 have wl:(Ws.map V.ref).length=Ws.length:=length_map _
 have w0:0 < Ws.length:=length_pos_iff.mpr neW
 have ml:=AB c (show (0:Int) < (Ws.length:Int) by omega)
 obtain ⟨k,ek,hk⟩:∃k:Nat,c.fmod (Ws.length:Int)=(k:Int)/\k < Ws.length:=⟨(c.fmod (Ws.length:Int)).toNat,by omega,by omega⟩
 obtain ⟨W,hW⟩:∃W,Ws[k]?=some W:=⟨_,List.getElem?_eq_getElem hk⟩
 have Wm:=mem_of_getElem? hW
 obtain ⟨rW,ys,eW,neY,y20⟩:=rows W Wm
 have fW:∀y∈ys,Flt H y:=by
  obtain ⟨zs,ez,fz⟩:=rW.ex
  rw [eW] at ez
  have:ys=zs:=HO.lst.inj (Option.some.inj ez)
  rw [this]
  exact fz
 have atW:atI (Ws.map V.ref) (k:Int)=some (.ref W):=Dj (by rw [List.getElem?_map,hW];rfl)
 and_intros
 rw [wl]
 refine ⟨(by show (_:Int)≠0;omega),?_⟩
 dsimp only
 rw [ek]
 and_intros
 refine ⟨fun σ' J=>σ'=[some (.ref R),some (.ref S),some (.int w),some (.int c),some (.int (k:Int))]/\Cg B H J/\(w=12\/H=J),?_,?_⟩
 ·and_intros
  by_cases c12:w=12
  ·refine ifT (DI c12) ?_
   and_intros
   refine ⟨R,_,_,_,rfl,rfl,SqL.of eR,atW,?_⟩
   refine ⟨.inl ⟨rfl,_,SqL.of eW⟩,?_⟩
   and_intros
   refine ⟨W,ys,_,rfl,rfl,eW,List.getElem?_eq_getElem (by have:=length_pos_iff.mpr neY;omega),?_⟩
   exact ⟨rfl,BS sB rW.new eW neY fW fun y m=>fW y (dropLast_subset _ m),.inl c12⟩
  ·refine ifF (DH c12) ?_
   exact ⟨rfl,Kr sB,.inr rfl⟩
 rintro σ' J ⟨rfl,st,jo⟩
 and_intros
 refine ⟨fun σ' J=>σ'=[some (.ref R),some (.ref S),some (.int w),some (.int c),some (.int (k:Int))]/\Cg B H J/\(w=12\/w=13\/H=J),?_,?_⟩
 ·and_intros
  by_cases c13:w=13
  ·obtain rfl:=jo.resolve_left (by omega)
   refine ifT (DI c13) ?_
   and_intros
   refine ⟨R,_,_,_,rfl,rfl,SqL.of eR,atW,?_⟩
   refine ⟨.inl ⟨rfl,_,SqL.of eW⟩,?_⟩
   and_intros
   refine ⟨(by show 2<=sizeLine;decide),fun t0 ht0=>?_⟩
   have s1:=Ag ht0 (.tup [V.int 0,V.int 1])
   have e1:(upd H t0 (.tup [V.int 0,V.int 1])) t0=some (.tup [V.int 0,V.int 1]):=Ab
   generalize upd H t0 (.tup [V.int 0,V.int 1])=H1 at s1 e1 ⊢
   refine ⟨W,ys,_,rfl,rfl,s1 _ _ eW,AH (by omega),?_⟩
   refine ⟨rfl,Cg.pre s1 (BS (sB.trans s1) rW.new (s1 _ _ eW) neY (fun y m=>(fW y m).same s1) fun y m=>?_),.inr (.inl c13)⟩
   rcases mem_append.mp m with m | m
   ·exact (fW y m).same s1
   ·rw [mem_singleton.mp m];exact Er e1 (.inl ⟨_,rfl⟩) (.inl ⟨_,rfl⟩)
  ·refine ifF (DH c13) ?_
   exact ⟨rfl,st,jo.imp id .inr⟩
 rintro σ' J ⟨rfl,st,jo⟩
 and_intros
 refine ⟨fun σ' J=>σ'=[some (.ref R),some (.ref S),some (.int w),some (.int c),some (.int (k:Int))]/\Cg B H J/\(w=12\/w=13\/w=14\/H=J),?_,?_⟩
 ·and_intros
  by_cases c14:w=14
  ·obtain rfl:=(jo.resolve_left (by omega)).resolve_left (by omega)
   refine ifT (DI c14) ?_
   and_intros
   refine ⟨.inl ⟨rfl,_,SqL.of eS⟩,?_⟩
   and_intros
   refine ⟨S,xs,_,rfl,rfl,eS,List.getElem?_eq_getElem (by have:=length_pos_iff.mpr neS;omega),?_⟩
   exact ⟨rfl,BS sB bS eS neS fS fun y m=>fS y (dropLast_subset _ m),.inr (.inr (.inl c14))⟩
  ·refine ifF (DH c14) ?_
   exact ⟨rfl,st,jo.imp id (.imp id .inr)⟩
 rintro σ' J ⟨rfl,st,jo⟩
 and_intros
 refine ⟨fun σ' J=>σ'=[some (.ref R),some (.ref S),some (.int w),some (.int c),some (.int (k:Int))]/\Cg B H J/\(w=12\/w=13\/w=14\/w=15\/H=J),?_,?_⟩
 ·and_intros
  by_cases c15:w=15
  ·obtain rfl:=((jo.resolve_left (by omega)).resolve_left (by omega)).resolve_left (by omega)
   refine ifT (DI c15) ?_
   and_intros
   refine ⟨.inl ⟨rfl,_,SqL.of eS⟩,?_⟩
   and_intros
   refine ⟨(by show 2<=sizeLine;decide),fun t0 ht0=>?_⟩
   have s1:=Ag ht0 (.tup [V.int 0,V.int 1])
   have e1:(upd H t0 (.tup [V.int 0,V.int 1])) t0=some (.tup [V.int 0,V.int 1]):=Ab
   generalize upd H t0 (.tup [V.int 0,V.int 1])=H1 at s1 e1 ⊢
   refine ⟨S,xs,_,rfl,rfl,s1 _ _ eS,AH (by omega),?_⟩
   refine ⟨rfl,Cg.pre s1 (BS (sB.trans s1) bS (s1 _ _ eS) neS (fun y m=>(fS y m).same s1) fun y m=>?_),.inr (.inr (.inr (.inl c15)))⟩
   rcases mem_append.mp m with m | m
   ·exact (fS y m).same s1
   ·rw [mem_singleton.mp m];exact Er e1 (.inl ⟨_,rfl⟩) (.inl ⟨_,rfl⟩)
  ·refine ifF (DH c15) ?_
   exact ⟨rfl,st,jo.imp id (.imp id (.imp id .inr))⟩
 rintro σ' J ⟨rfl,st,jo⟩
 and_intros
 by_cases c16:w=16
 ·obtain rfl:=(((jo.resolve_left (by omega)).resolve_left (by omega)).resolve_left (by omega)).resolve_left (by omega)
  have m2:=AB (c.fdiv 64) (show (0:Int) < (Ws.length:Int)+1 by omega)
  obtain ⟨j,ej,hj⟩:∃j:Nat,(c.fdiv 64).fmod ((Ws.length:Int)+1)=(j:Int)/\j<=Ws.length:=⟨((c.fdiv 64).fmod ((Ws.length:Int)+1)).toNat,by omega,by omega⟩
  refine ifT (DI c16) ?_
  and_intros
  refine ⟨.inl ⟨rfl,_,SqL.of eR⟩,?_⟩
  and_intros
  rw [wl]
  refine ⟨(by show (_:Int)≠0;omega),?_⟩
  dsimp only
  rw [ej]
  and_intros
  refine ⟨R,_,_,_,rfl,rfl,SqL.of eR,atW,?_⟩
  and_intros
  intro l hl
  have s1:=Ag hl (.lst ys)
  have e1:(upd H l (.lst ys)) l=some (.lst ys):=Ab
  generalize upd H l (.lst ys)=H1 at s1 e1 ⊢
  refine ⟨R,_,j,_,rfl,rfl,s1 _ _ eR,by rw [wl];exact hj,by rw [wl];exact AH (by omega),?_⟩
  rw [show (Ws.map V.ref).take j++V.ref l :: (Ws.map V.ref).drop j=(Ws.take j++l :: Ws.drop j).map V.ref from by rw [map_append,map_cons,map_take,map_drop]]
  and_intros
  refine q _ (Cg.pre s1 (HQ (sB.trans s1) bR (s1 _ _ eR) neW (fun W m=>(rows W m).1.same s1) fun V m=>?_))
  rcases mem_append.mp m with m | m
  ·exact (rows V (mem_of_mem_take m)).1.same s1
  rcases mem_cons.mp m with rfl | m
  ·exact ⟨none_of sB hl,ys,e1,fun y m=>(fW y m).same s1⟩
  ·exact (rows V (mem_of_mem_drop m)).1.same s1
 ·refine ifF (DH c16) ?_
  exact q _ st
theorem ID (T:Tx K mg ad):AG P w K mg base CX0 1 ad.f_law_rounds ad.d_law_rounds ["_law_paper","_law_way","_law_at","_law_round_of"] Mv:=by
 refine T.F_law_rounds.ok IR (fun vs H Q E h=>?_) (fun cdv A outer s H vs Q E hr h=>?_)
 ·obtain ⟨L,t,B,w,ts,k,rfl,_⟩:=h
  rfl
 obtain ⟨L,t,B,w,ts,k,rfl,sB,eL,l60,gt,g1,q⟩:=h
 refine ⟨_,((@AS _ _ _ _ _ _ _ _ (@Aq _ _ _ _ _ _ _ _ By (pv 1) Af (Aw _)) (@Ah _ _ _ (@Ao _ _ _ _ (Gs<&>((DZ Fh (pv 0) Fd (EX (pv 2)))<|>(DZ Fh (pv 0) (EX (AQ<&>((pv 2)<|>Af))) Fd))))) As)>>((@AS _ _ _ _ _ _ _ _ (@Aq _ _ _ _ _ _ _ _ By (pv 1) Af (Aw _)) (@Ah _ _ _ (@Ao _ _ _ _ (Gs<&>((Gs<&>((DZ Fh (pv 0) Fd (EX (pv 2)))<|>(@BU _ _ _ _ ((pv 3)*>Ae))))<|>(DZ Fh (pv 0) (EX (pv 2)) Fd))))) As)>>((@AS _ _ _ _ _ _ _ _ (@Aq _ _ _ _ _ _ _ _ By (pv 1) Af (Aw _)) (@Ah _ _ _ (@Ao _ _ _ _ (Gs<&>((pv 0)<|>(@BU _ _ _ _ ((pv 3)*>Ae)))))) As)>>((@AS _ _ _ _ _ _ _ _ (@Aq _ _ _ _ _ _ _ _ By (pv 1) Af (Aw _)) (@Ah _ _ _ (@Ao _ _ _ _ (@BU _ _ _ _ Ae))) As)>>((@AS _ _ _ _ _ _ _ _ (@Aq _ _ _ _ _ _ _ _ By (pv 1) Af (Aw _)) (@Ah _ _ _ (@Ao _ _ _ _ (DZ Fh (pv 0) Fd (EX (pv 2))))) As)>>(@Ah _ _ _ (@Ao _ _ _ _ (LT rfl (by rfl) T.z_list (by rfl) T.z_reversed (pv 0))))))))),?_⟩
 have fin:∀{G:Hp} {l:Addr} {us:List Addr},Au H G->G l=none->(∀u∈us,u∈ts\/u=t)->Q (.ref l) (upd G l (.lst (us.map V.ref))):=fun {G l us} sG hl hu=>q l _ (sB.trans (sG.trans (Ag hl _))) ⟨none_of (sB.trans sG) hl,us,Ab,fun u m=>((hu u m).elim (fun m=>gt u m) (fun e=>by rw [e];exact g1)).same (sG.trans (Ag hl _))⟩
 and_intros
 have tl:(ts.map V.ref).length=ts.length:=length_map _
 have cutd:∀j:Nat,GH (ts.map V.ref) (some (j:Int)) none=(ts.drop j).map V.ref:=fun j=>(KD (j:=j)).trans (map_drop ..).symm
 by_cases c6:w=6
 ·refine ifT (DI c6) ?_
  and_intros
  refine ⟨L,_,rfl,SqL.of eL,fun l1 h1=>?_⟩
  rw [HM,<- map_take]
  have s1:=Ag h1 (.lst ((ts.take k).map V.ref))
  have e1:(upd H l1 (.lst ((ts.take k).map V.ref))) l1=some (.lst ((ts.take k).map V.ref)):=Ab
  generalize upd H l1 (.lst ((ts.take k).map V.ref))=H1 at s1 e1 ⊢
  have eL1:=s1 _ _ eL
  and_intros
  refine ⟨L,_,rfl,SqL.of eL1,fun l2 h2=>?_⟩
  rw [show GH (ts.map V.ref) (some ((k:Int)+1)) none=(ts.drop (k+1)).map V.ref from cutd (k+1)]
  have s2:=Ag h2 (.lst ((ts.drop (k+1)).map V.ref))
  have e2:(upd H1 l2 (.lst ((ts.drop (k+1)).map V.ref))) l2=some (.lst ((ts.drop (k+1)).map V.ref)):=Ab
  generalize upd H1 l2 (.lst ((ts.drop (k+1)).map V.ref))=H2 at s2 e2 ⊢
  and_intros
  refine ⟨l1,l2,_,_,rfl,rfl,s2 _ _ e1,e2,(by rw [length_map,length_map,length_take,length_drop];exact Nat.le_of_lt (AH (by omega))),fun l3 h3=>?_⟩
  rw [<- map_append]
  and_intros
  exact fin (s1.trans s2) h3 fun u m=>.inl ((mem_append.mp m).elim mem_of_mem_take mem_of_mem_drop)
 refine ifF (DH c6) ?_
 and_intros
 by_cases c7:w=7
 ·refine ifT (DI c7) ?_
  and_intros
  refine ⟨L,_,rfl,SqL.of eL,fun l1 h1=>?_⟩
  rw [HM,<- map_take]
  have s1:=Ag h1 (.lst ((ts.take k).map V.ref))
  have e1:(upd H l1 (.lst ((ts.take k).map V.ref))) l1=some (.lst ((ts.take k).map V.ref)):=Ab
  generalize upd H l1 (.lst ((ts.take k).map V.ref))=H1 at s1 e1 ⊢
  and_intros
  refine ⟨(by show 1<=sizeLine;decide),fun l2 h2=>?_⟩
  have s2:=Ag h2 (.lst [V.ref t])
  have e2:(upd H1 l2 (.lst [V.ref t])) l2=some (.lst ([t].map V.ref)):=Ab
  generalize upd H1 l2 (.lst [V.ref t])=H2 at s2 e2 ⊢
  refine ⟨l1,l2,_,_,rfl,rfl,s2 _ _ e1,e2,(by rw [length_map,length_map,length_take];exact Nat.le_of_lt (AH (by show _+1<=1000;omega))),fun l3 h3=>?_⟩
  rw [<- map_append]
  have s3:=Ag h3 (.lst ((ts.take k++[t]).map V.ref))
  have e3:(upd H2 l3 (.lst ((ts.take k++[t]).map V.ref))) l3=some (.lst ((ts.take k++[t]).map V.ref)):=Ab
  generalize upd H2 l3 (.lst ((ts.take k++[t]).map V.ref))=H3 at s3 e3 ⊢
  have eL3:=((s1.trans s2).trans s3) _ _ eL
  and_intros
  refine ⟨L,_,rfl,SqL.of eL3,fun l4 h4=>?_⟩
  rw [cutd k]
  have s4:=Ag h4 (.lst ((ts.drop k).map V.ref))
  have e4:(upd H3 l4 (.lst ((ts.drop k).map V.ref))) l4=some (.lst ((ts.drop k).map V.ref)):=Ab
  generalize upd H3 l4 (.lst ((ts.drop k).map V.ref))=H4 at s4 e4 ⊢
  and_intros
  refine ⟨l3,l4,_,_,rfl,rfl,s4 _ _ e3,e4,(by rw [length_map,length_map,length_append,length_take,length_drop];exact Nat.le_of_lt (AH (by show _+1+_<=1000;omega))),fun l5 h5=>?_⟩
  rw [<- map_append]
  and_intros
  refine fin (((s1.trans s2).trans s3).trans s4) h5 fun u m=>?_
  rcases mem_append.mp m with m | m
  ·rcases mem_append.mp m with m | m
   ·exact .inl (mem_of_mem_take m)
   ·exact .inr (mem_singleton.mp m)
  ·exact .inl (mem_of_mem_drop m)
 refine ifF (DH c7) ?_
 and_intros
 by_cases c8:w=8
 ·refine ifT (DI c8) ?_
  and_intros
  refine ⟨(by show 1<=sizeLine;decide),fun l2 h2=>?_⟩
  have s2:=Ag h2 (.lst [V.ref t])
  have e2:(upd H l2 (.lst [V.ref t])) l2=some (.lst ([t].map V.ref)):=Ab
  generalize upd H l2 (.lst [V.ref t])=H2 at s2 e2 ⊢
  refine ⟨L,l2,_,_,rfl,rfl,s2 _ _ eL,e2,(by rw [length_map,length_map];exact Nat.le_of_lt (AH (by show _+1<=1000;omega))),fun l3 h3=>?_⟩
  rw [<- map_append]
  and_intros
  exact fin s2 h3 fun u m=>(mem_append.mp m).imp id mem_singleton.mp
 refine ifF (DH c8) ?_
 and_intros
 by_cases c9:w=9
 ·refine ifT (DI c9) ?_
  and_intros
  refine ⟨(by show 0<=sizeLine;decide),fun l1 h1=>?_⟩
  and_intros
  exact fin (us:=[]) (Au.refl _) h1 fun u m=>absurd m List.not_mem_nil
 refine ifF (DH c9) ?_
 and_intros
 by_cases c10:w=10
 ·refine ifT (DI c10) ?_
  and_intros
  refine ⟨L,_,rfl,SqL.of eL,fun l1 h1=>?_⟩
  rw [HM,<- map_take]
  and_intros
  exact fin (Au.refl _) h1 fun u m=>.inl (mem_of_mem_take m)
 refine ifF (DH c10) ?_
 and_intros
 refine ⟨L,_,rfl,SqL.of eL,fun l1 h1=>?_⟩
 rw [<- map_reverse]
 and_intros
 exact fin (Au.refl _) h1 fun u m=>.inl (mem_reverse.mp m)
theorem E6 (T:Tx K mg ad):AG P w K mg base CX0 1 ad.f_Checker_init ad.d_Checker_init ["self","way"] (Kg K):=by
 refine T.F_Checker_init.ok GK (fun vs H Q E h=>?_) (fun cdv A outer s H vs Q E hr h=>?_)
 ·obtain ⟨g,C,dx,a,rfl,_⟩:=h
  rfl
 obtain ⟨g,C,dx,a,rfl,hg,cl,na,q⟩:=h
 refine ⟨_,(@Ah _ _ _ (JQ (pv 0) (pv 1) rfl)),?_⟩
 refine ⟨_,rfl,_,rfl,g,C,dx,[],rfl,hg,cl,na,(by simp only [length_nil];decide),?_⟩
 rw [TB]
 exact q _ (E2 (LD H g)) Ab
theorem El (T:Tx K mg ad):AG P w K mg base CX0 1 ad.f_Checker_right ad.d_Checker_right ["self","sheet","paper"] PU:=by
 refine T.F_Checker_right.ok Gj (fun vs H Q E h=>?_) (fun cdv A outer s H vs Q E hr h=>?_)
 ·obtain ⟨x,y,z,rfl,_⟩:=h
  rfl
 obtain ⟨x,y,z,rfl,q⟩:=h
 refine ⟨_,(@Ah _ _ _ (@Ao _ _ _ _ Cn)),?_⟩
 and_intros
 exact q
theorem Hw (T:Tx K mg ad):AG P w K mg base CX0 1 ad.f_Seats_quota ad.d_Seats_quota ["self","ballots"] (QT ad.c_Seats):=by
 refine T.F_Seats_quota.ok HX (fun vs H Q E h=>?_) (fun cdv A outer s H vs Q E hr h=>?_)
 ·obtain ⟨a,h,s,xs,n,rfl,_⟩:=h
  rfl
 obtain ⟨a,h,s,xs,n,rfl,is,s1,s6,q⟩:=h
 refine ⟨_,(@Ah _ _ _ (@Ao _ _ _ _ (AQ<&>((AR<&>((pv 1)<|>(AQ<&>((Dv (pv 0) rfl)<|>Af))))<|>Af)))),?_⟩
 obtain ⟨dx,l,k1,k2⟩:=is
 and_intros
 refine ⟨a,_,dx,_,_,rfl,k1,T.cl_Seats,T.na_Seats_seats,rfl,?_⟩
 and_intros
 refine ⟨⟨by omega,(show Sz 64 (s+1) from Bz (by omega) (by omega)).mono (by decide)⟩,?_⟩
 and_intros
 exact q
theorem Ek (T:Tx K mg ad):AG P w K mg base CX0 1 ad.f_Seats_told_by ad.d_Seats_told_by ["self","paper"] (S7 ad.c_Seats):=by
 refine T.F_Seats_told_by.ok Dc (fun vs H Q E h=>?_) (fun cdv A outer s H vs Q E hr h=>?_)
 ·obtain ⟨a,p,h,s,xs,ps,rfl,_⟩:=h
  rfl
 obtain ⟨a,p,h,s,xs,ps,rfl,is,h12,hp,gp,pne,pl9,q⟩:=h
 refine ⟨_,((@Ak _ _ (2) _ _ _ _ Dc.nd rfl (Or.inr rfl) (L5 (fsc:=Ad AF) (N:=["self","paper","seated","named"]) (Nc:=["self","paper","seated","named","rows","sums","deed"]) rfl rfl ⟨rfl,by decide +kernel,by decide +kernel,by decide +kernel,by decide +kernel,rfl,by decide +kernel,rfl,by decide +kernel⟩ rfl (B1 (pv 1)) (fun _ _ _ _=>(Hi (@Aq _ _ _ _ _ _ _ _ By (@At _ _ _ _ _ _ _ (DO K) (pv 6) Af (fun _ _=>rfl)) Dr (Aw _)))) (fun _ _ _ _=>(@At _ _ _ _ _ _ _ (DO K) (pv 6) Af (fun _ _=>rfl)))) (by rfl) (by nofun))>>((@Ak _ _ (3) _ _ _ _ Dc.nd rfl (Or.inr rfl) (L5 (fsc:=Ad AF) (N:=["self","paper","seated","named"]) (Nc:=["self","paper","seated","named","rows","sums","deed"]) rfl rfl ⟨rfl,by decide +kernel,by decide +kernel,by decide +kernel,by decide +kernel,rfl,by decide +kernel,rfl,by decide +kernel⟩ rfl (B1 (pv 1)) (fun _ _ _ _=>B2) (fun _ _ _ _=>(@At _ _ _ _ _ _ _ (DO K) (pv 6) Af (fun _ _=>rfl)))) (by rfl) (by nofun))>>((@Cj _ _ _ _ _ _ _ _ (@Aq _ _ _ _ _ _ _ _ (Fp (K:=K) hr.units) (@At _ _ _ _ _ _ _ Ay (@At _ _ _ _ _ _ _ A5 (pv 1) (@M7 _ _ _ _ _ _ LH Af) (fun _ _=>rfl)) Af (fun _ _=>rfl)) (@AI _ _ _ _ _ (Dr*>(FA*>Ae))) (Aw _)) (@Ah _ _ _ (@BE _ _ _ _ (Eg PySem.F.plainAttrs_list PySem.F.slot_list_extend PySem.F.type_list_extend NP (pv 2) ((Cp (fsc:=Ad AF) (N:=["self","paper","seated","named"]) (Nc:=["self","paper","seated","named","hand"]) rfl rfl (by nofun) rfl (Ce rfl T.z_range ((Dv (pv 0) rfl)*>Ae)) (fun _ _ _ _=>(Hi (@Aq _ _ _ _ _ _ _ _ (IC K) (pv 4) (pv 3) (by with_unfolding_all rfl)))) (fun _ _ _ _=>(pv 4)))*>Ae)) (by rfl))) As)>>(@Ah _ _ _ (@Ao _ _ _ _ (Cp (fsc:=Ad AF) (N:=["self","paper","seated","named"]) (Nc:=["self","paper","seated","named","hand"]) rfl rfl (by nofun) rfl (Ce rfl T.z_range ((Dv (pv 0) rfl)*>Ae)) (fun _ _ _ _=>B2) (fun _ _ _ _=>(KI (@Aq _ _ _ _ _ _ _ _ (Mr K) (pv 4) (pv 2) (by with_unfolding_all rfl)) Af Af)))))))),?_⟩
 obtain ⟨dx,lo,k1,k2⟩:=id is
 have rl:(rqs ps).length=ps.length:=length_map ..
 and_intros
 refine ⟨⟨_,SqL.of hp⟩,?_⟩
 refine Hs (zs:=rqs ps) rfl rfl rfl (by rw [rl];exact EN pl9) (fun D i ys J=>ys=Eo (Bu (BV (ps.take i)))/\J=upd H D (.lst ys)) (fun D hD=>⟨rfl,rfl⟩) (fun D i ys J hq_=>by obtain ⟨f1,f2⟩:=hq_;exact ⟨by rw [f2];exact Ab,by rw [f1];unfold Eo Bu BV;rw [length_map];exact Nat.le_trans (length_filterMap_le ..) (by rw [length_map];exact length_take_le _ _)⟩) (fun D i ys J hD hq_=>by obtain ⟨_,f2⟩:=hq_;rw [f2];exact SqL.of (Ag hD _ _ _ hp)) ?_ ?_
 ·rintro D i y ys J K1 K2 hD hy ⟨e,rfl⟩ kk1 kk2
  unfold rqs at hy
  rw [List.getElem?_map] at hy
  obtain ⟨r,hr0,rfl⟩:=Option.map_eq_some_iff.mp hy
  have g:=(gp r (mem_of_getElem? hr0)).same (Ag hD (.lst ys))
  have tk:Bu (BV (ps.take (i+1)))=Bu (BV (ps.take i))++(match r.2.2.2.2.seatOf with | some j=>[j] | none=>[]):=by
   unfold Bu BV
   rw [take_add_one,hr0,map_append,filterMap_append]
   congr 1
   show List.filterMap Dd.seatOf [r.2.2.2.2]=_
   rw [filterMap_cons]
   cases r.2.2.2.2.seatOf <;> rfl
  refine ⟨r.1,_,_,_,rfl,SqT.of g.t,?_⟩
  have gd:=g.d
  cases hdd:r.2.2.2.2 with
  | seat j =>
    rw [hdd] at gd tk
    have gd':(upd H D (.lst ys)) r.2.2.2.1=some (.tup [.str "seat",.int (j:Int)]):=gd
    and_intros
    refine kk1 _ _ Ab ⟨?_,by rw [Dk]⟩
    rw [tk,e]
    unfold Eo
    rw [map_append]
    rfl
  | out j =>
    rw [hdd] at gd tk
    have gd':(upd H D (.lst ys)) r.2.2.2.1=some (.tup [.str "out",.int (j:Int)]):=gd
    and_intros
    exact kk2 _ ⟨by rw [tk];show ys=Eo (_++[]);rw [append_nil];exact e,rfl⟩
  | rest =>
    rw [hdd] at gd tk
    have gd':(upd H D (.lst ys)) r.2.2.2.1=some (.tup [.str "rest",.non]):=gd
    and_intros
    exact kk2 _ ⟨by rw [tk];show ys=Eo (_++[]);rw [append_nil];exact e,rfl⟩
  | fin =>
    rw [hdd] at gd tk
    have gd':(upd H D (.lst ys)) r.2.2.2.1=some (.tup [.str "end",.non]):=gd
    and_intros
    exact kk2 _ ⟨by rw [tk];show ys=Eo (_++[]);rw [append_nil];exact e,rfl⟩
 rintro D ys J hD ⟨rfl,rfl⟩
 rw [rl,take_of_length_le (Nat.le_refl _)]
 have s1:=Ag hD (.lst (Eo (Bu (BV ps))))
 have e1:(upd H D (.lst (Eo (Bu (BV ps))))) D=some (.lst (Eo (Bu (BV ps)))):=Ab
 generalize upd H D (.lst (Eo (Bu (BV ps))))=H1 at s1 e1 ⊢
 have hp1:=s1 _ _ hp
 have gp1:∀r∈ps,RqG H1 r:=fun r m=>(gp r m).same s1
 and_intros
 refine ⟨⟨_,SqL.of hp1⟩,?_⟩
 refine Hs (zs:=rqs ps) rfl rfl rfl (by rw [rl];exact EN pl9) (fun D2 i ys J=>ys=(BV (ps.take i)).map Dd.who/\J=upd H1 D2 (.lst ys)) (fun D2 hD2=>⟨rfl,rfl⟩) (fun D2 i ys J hq_=>by obtain ⟨f1,f2⟩:=hq_;exact ⟨by rw [f2];exact Ab,by rw [f1];unfold BV;rw [length_map,length_map];exact length_take_le _ _⟩) (fun D2 i ys J hD2 hq_=>by obtain ⟨_,f2⟩:=hq_;rw [f2];exact SqL.of (Ag hD2 _ _ _ hp1)) ?_ ?_
 ·rintro D2 i y ys J K1 K2 hD2 hy ⟨e,rfl⟩ kk1 kk2
  unfold rqs at hy
  rw [List.getElem?_map] at hy
  obtain ⟨r,hr0,rfl⟩:=Option.map_eq_some_iff.mp hy
  have g:=(gp1 r (mem_of_getElem? hr0)).same (Ag hD2 (.lst ys))
  have gd:=g.d
  refine ⟨r.1,_,_,_,rfl,SqT.of g.t,?_⟩
  refine yes (ifT rfl ?_)
  refine ⟨_,rfl,r.2.2.2.1,_,_,_,rfl,rfl,SqT.of gd,rfl,?_⟩
  refine kk1 _ _ Ab ⟨?_,by rw [Dk]⟩
  unfold BV
  rw [take_add_one,hr0,map_append,map_append,e]
  rfl
 rintro D2 ys J hD2 ⟨rfl,rfl⟩
 rw [rl,take_of_length_le (Nat.le_refl _)]
 have s2:=Ag hD2 (.lst ((BV ps).map Dd.who))
 have e2:(upd H1 D2 (.lst ((BV ps).map Dd.who))) D2=some (.lst ((BV ps).map Dd.who)):=Ab
 generalize upd H1 D2 (.lst ((BV ps).map Dd.who))=H2 at s2 e2 ⊢
 have s12:=s1.trans s2
 have D2D:D2≠D:=fun z=>by rw [z,e1] at hD2;cases hD2
 obtain ⟨ps',r,rfl⟩:∃ps' r,ps=ps'++[r]:=⟨ps.dropLast,ps.getLast pne,(dropLast_concat_getLast pne).symm⟩
 have gl:(BV (ps'++[r])).getLast?=some r.2.2.2.2:=by unfold BV;rw [map_append];exact List.getLast?_concat
 have hp2:=s12 _ _ hp
 have g2:=(gp r (mem_append_right _ (mem_singleton.mpr rfl))).same s12
 have g2t:=g2.t
 have atl:atI (rqs (ps'++[r])) (-1)=some (.ref r.1):=by unfold rqs;rw [map_append];exact OK _ _
 generalize hds:BV (ps'++[r])=ds at e1 e2 gl q
 and_intros
 refine ⟨fun σ' J=>σ'=[some (.ref a),some (.ref p),some (.ref D),some (.ref D2)]/\Au H J/\J D=some (.lst (Eo (Bl h ds))),?_,?_⟩
 ·and_intros
  refine ⟨p,_,_,_,rfl,rfl,SqL.of hp2,atl,?_⟩
  and_intros
  refine ⟨(by show 2<=sizeLine;decide),fun t ht=>?_⟩
  have s3:=Ag ht (.tup [V.str "rest",V.non])
  have e3:(upd H2 t (.tup [V.str "rest",V.non])) t=some (.tup [V.str "rest",V.non]):=Ab
  generalize upd H2 t (.tup [V.str "rest",V.non])=H3 at s3 e3 ⊢
  have s13:=s12.trans s3
  refine ⟨ddD r.2.2.2.2.word r.2.2.2.2.data,ddD "rest" .none,O8 ((g2.same s3).d),.tup (SqT.of e3) (.cons (.str _) (.cons .non .nil)),Lj _,FU (by decide +kernel) ⟨rfl,rfl⟩,?_⟩
  rw [R7]
  have D3:=(s2.trans s3) _ _ e1
  have D23:=s3 _ _ e2
  have k13:=s13 _ _ k1
  by_cases c:r.2.2.2.2=.rest
  ·rw [decide_eq_true c]
   have sd:Bl h ds=Bu ds++Ev h ds:=by unfold Bl;rw [gl,c,if_pos rfl]
   and_intros
   refine ⟨.inl ⟨rfl,_,SqL.of D3⟩,?_⟩
   and_intros
   refine ⟨a,_,dx,_,_,rfl,k13,T.cl_Seats,T.na_Seats_hands,rfl,?_⟩
   refine ⟨(h:Int),rfl,by omega,by omega,?_⟩
   rw [Int.toNat_natCast]
   refine Db (Bx (by omega)) (fun D4 i ys J=>ys=Eo ((List.range i).filter fun j=>!Et ds j)/\J=upd H3 D4 (.lst ys)) (fun D4 hD4=>⟨rfl,rfl⟩) (fun D4 i ys J hq_=>by obtain ⟨f1,f2⟩:=hq_;exact ⟨by rw [f2];exact Ab,by rw [f1];unfold Eo;rw [length_map];exact Nat.le_trans (length_filter_le ..) (by rw [length_range];exact Nat.le_refl _)⟩) ?_ ?_
   ·rintro D4 i ys J K1 K2 hD4 hi ⟨e,rfl⟩ kk1 kk2
    have z0:(0:Int)+(i:Int)=(i:Int):=Int.zero_add _
    have tk:((List.range (i+1)).filter fun j=>!Et ds j)=((List.range i).filter fun j=>!Et ds j)++(if Et ds i=true then [] else [i]):=by
     rw [range_succ,filter_append,filter_cons]
     cases Et ds i <;> rfl
    refine ⟨_,rfl,_,rfl,D2,_,rfl,.inl (SqL.of (Ag hD4 _ _ _ D23)),rfl,Pi ds,?_⟩
    rw [z0,if_pos rfl,Pm]
    cases b:Et ds i with
    | true =>
      refine ⟨_,rfl,ifF rfl ?_⟩
      rw [b,if_pos rfl,append_nil] at tk
      exact kk2 _ ⟨by rw [tk];exact e,rfl⟩
    | false =>
      refine ⟨_,rfl,ifT rfl ?_⟩
      rw [b,if_neg (by decide)] at tk
      refine ⟨_,rfl,kk1 _ _ Ab ⟨?_,by rw [Dk]⟩⟩
      rw [tk,e]
      unfold Eo
      rw [map_append]
      rfl
   rintro D4 ys J hD4 ⟨rfl,rfl⟩
   have sl1:(Bu ds).length<=900:=by
    unfold Bu
    refine Nat.le_trans (length_filterMap_le ..) ?_
    rw [<- hds]
    unfold BV
    rw [length_map]
    exact pl9
   have sl2:(Ev h ds).length<=12:=by
    unfold Ev
    exact Nat.le_trans (length_filter_le ..) (by rw [length_range];exact h12)
   refine ⟨D,D4,_,_,rfl,rfl,Ag hD4 _ _ _ D3,Ab,(by unfold Eo;rw [length_map,length_map];exact Nat.le_of_lt (AH (by show (Bu ds).length+(Ev h ds).length<=1000;omega))),?_⟩
   refine ⟨rfl,A1 (s13.trans (Ag hD4 _)) hD,?_⟩
   rw [Ab,sd]
   unfold Eo
   rw [map_append]
   rfl
  ·rw [decide_eq_false c]
   have sd:Bl h ds=Bu ds:=by
    unfold Bl
    rw [gl,if_neg (fun z=>c (Option.some.inj z)),append_nil]
   and_intros
   exact ⟨s13,by rw [sd];exact D3⟩
 rintro σ' J ⟨rfl,sJ,eJ⟩
 have k1J:=sJ _ _ k1
 and_intros
 refine ⟨a,_,dx,_,_,rfl,k1J,T.cl_Seats,T.na_Seats_hands,rfl,?_⟩
 refine ⟨(h:Int),rfl,by omega,by omega,?_⟩
 rw [Int.toNat_natCast]
 refine Db (Bx (by omega)) (fun D4 i ys J4=>ys=((List.range i).map fun j=>if j∈Bl h ds then (1:Int) else 0).map V.int/\J4=upd J D4 (.lst ys)) (fun D4 hD4=>⟨rfl,rfl⟩) (fun D4 i ys J4 hq_=>by obtain ⟨f1,f2⟩:=hq_;exact ⟨by rw [f2];exact Ab,by rw [f1,length_map,length_map,length_range];exact Nat.le_refl _⟩) ?_ ?_
 ·rintro D4 i ys J4 K1 K2 hD4 hi ⟨e,rfl⟩ kk1 kk2
  have z0:(0:Int)+(i:Int)=(i:Int):=Int.zero_add _
  refine yes (ifT rfl ?_)
  refine ⟨_,rfl,_,rfl,D,_,rfl,.inl (SqL.of (Ag hD4 _ _ _ eJ)),rfl,OR _,?_⟩
  rw [z0,if_neg (by decide),S5]
  refine ⟨_,rfl,?_⟩
  have fin:∀z:Int,z=(if i∈Bl h ds then (1:Int) else 0)->K1 (V.int z) (upd J D4 (.lst ys)):=fun z hz=>kk1 _ _ Ab ⟨by rw [range_succ,map_append,map_append,e,hz];rfl,by rw [Dk]⟩
  by_cases c:i∈Bl h ds
  ·rw [decide_eq_true c]
   exact ifT rfl (fin 1 (by rw [if_pos c]))
  ·rw [decide_eq_false c]
   exact ifF rfl (fin 0 (by rw [if_neg c]))
 rintro D4 ys J4 hD4 ⟨rfl,rfl⟩
 exact q D4 _ (none_of sJ hD4) (sJ.trans (Ag hD4 _)) Ab
theorem Jv (T:Tx K mg ad):AG P w K mg base CX0 2 ad.f_are_hands ad.d_are_hands ["thing"] Re:=by
 refine T.F_are_hands.ok Ki (fun vs H Q E h=>?_) (fun cdv A outer s H vs Q E hr h=>?_)
 ·obtain ⟨n,rfl,_⟩:=h
  rfl
 obtain ⟨n,rfl,n0,n1,q⟩:=h
 refine ⟨_,(@Ah _ _ _ (@Ao _ _ _ _ (@Gx _ _ _ _ _ _ _ (@Aj _ _ _ _ _ _ _ _ _ _ _ _ _ _ _ _ (Dp T) (hr.mono (by decide)) rfl T.m_is_whole T.F_is_whole.kp T.b_is_whole .nil Ar ((pv 0)*>Ae) (by decide) (by rfl) (by rfl)) (@HN _ _ _ _ _ (K8 Lk Lk Af (pv 0) (JK (v:=.int 12) rfl T.k_MOST_HANDS ⟨_,rfl⟩)))))),?_⟩
 refine ⟨_,rfl,n,rfl,?_⟩
 and_intros
 refine ifT (decide_eq_true n0) ?_
 and_intros
 show Q (.bl (decide (n<=12))) H
 rw [decide_eq_true n1]
 exact q
theorem JA (T:Tx K mg ad):AG P w K mg base CX0 2 ad.f_are_seats ad.d_are_seats ["thing"] QH:=by
 refine T.F_are_seats.ok JS (fun vs H Q E h=>?_) (fun cdv A outer s H vs Q E hr h=>?_)
 ·obtain ⟨n,rfl,_⟩:=h
  rfl
 obtain ⟨n,rfl,n0,n1,q⟩:=h
 refine ⟨_,(@Ah _ _ _ (@Ao _ _ _ _ (@Gx _ _ _ _ _ _ _ (@Aj _ _ _ _ _ _ _ _ _ _ _ _ _ _ _ _ (Dp T) (hr.mono (by decide)) rfl T.m_is_whole T.F_is_whole.kp T.b_is_whole .nil Ar ((pv 0)*>Ae) (by decide) (by rfl) (by rfl)) (@HN _ _ _ _ _ (K8 Lk Lk Af (pv 0) (JK (v:=.int 60) rfl T.k_MOST_SEATS ⟨_,rfl⟩)))))),?_⟩
 refine ⟨_,rfl,n,rfl,?_⟩
 and_intros
 refine ifT (decide_eq_true n0) ?_
 and_intros
 show Q (.bl (decide (n<=60))) H
 rw [decide_eq_true n1]
 exact q
theorem KF (T:Tx K mg ad):AG P w K mg base CX0 2 ad.f_are_lots ad.d_are_lots ["thing","hands"] (SG K):=by
 refine T.F_are_lots.ok KL (fun vs H Q E h=>?_) (fun cdv A outer s H vs Q E hr h=>?_)
 ·obtain ⟨l,ns,n,rfl,_⟩:=h
  rfl
 obtain ⟨l,ns,n,rfl,hl,pm,n12,q⟩:=h
 refine ⟨_,((@AS _ _ _ _ _ _ _ _ (@DX _ _ _ _ (@CD _ _ _ (@A2 _ _ _ _ _ _ _ _ _ HB (by rfl) T.z_isinstance PyProof.Rows.boot_isinstance ((pv 0)*>((Kc (v:=.ty "list") rfl T.z_list PyProof.Rows.boot_list rfl)*>Ae)) (by decide) (by decide) (by rfl) (by rfl)) (by intro _;rfl))) (@Ah _ _ _ (@Ao _ _ _ _ Cn)) As)>>(@Ah _ _ _ (@Ao _ _ _ _ (@Gx _ _ _ _ _ _ _ (@A2 _ _ _ _ _ _ _ _ _ (OG rfl) (by rfl) T.z_all PyProof.Rows.boot_all ((Cp (fsc:=Ad Cv) (N:=["thing","hands"]) (Nc:=["thing","hands","hand"]) rfl rfl (by nofun) rfl (B1 (pv 0)) (fun _ _ _ _=>B2) (fun _ _ _ _=>(@Aj _ _ _ _ _ _ _ _ _ _ _ _ _ _ _ _ (Dp T) (hr.mono (by decide)) rfl T.m_is_whole T.F_is_whole.kp T.b_is_whole .nil Ar ((pv 2)*>Ae) (by decide) (by rfl) (by rfl))))*>Ae) (by decide) (by decide) (by rfl) (by rfl)) (@HN _ _ _ _ _ (@DL _ _ _ _ _ _ _ _ (Fp (K:=K) hr.units) (@A2 _ _ _ _ _ _ _ _ _ Kk (by rfl) T.z_sorted PyProof.Rows.boot_sorted ((pv 0)*>Ae) (by decide) (by decide) (by rfl) (by rfl)) (Dx rfl (by rfl) T.z_list (by rfl) T.z_range (pv 1)) (Aw _))))))),?_⟩
 have nl:ns.length=n:=by rw [pm.length_eq,MB]
 refine ⟨_,rfl,_,_,_,_,rfl,Fi.lst hl,IB,?_⟩
 and_intros
 refine ⟨⟨_,SqL.of hl⟩,?_⟩
 refine Cy (xs:=ns.map V.int) (by rw [length_map];exact Bx (by omega)) (fun D i ys H'=>ys=(List.replicate i true).map V.bl/\H'=upd H D (.lst ys)) (fun D hD=>⟨rfl,rfl⟩) (fun D i ys H' hq_=>by obtain ⟨f1,f2⟩:=hq_;exact ⟨by rw [f2];exact Ab,by rw [f1,length_map,length_replicate];exact Nat.le_refl _⟩) (fun D i ys H' hD hq_=>by obtain ⟨_,f2⟩:=hq_;rw [f2];exact SqL.of (Ag hD _ _ _ hl)) ?_ ?_
 ·rintro D i x ys H' K1 K2 hD hx ⟨f1,rfl⟩ k1 k2
  obtain ⟨z,hz,rfl⟩:=E5 hx
  refine yes (ifT rfl ?_)
  refine ⟨_,rfl,z,rfl,?_⟩
  refine k1 _ _ Ab ⟨?_,by rw [Dk]⟩
  rw [f1,replicate_succ',map_append]
  rfl
 ·rintro D ys H' hD ⟨rfl,rfl⟩
  refine ⟨D,_,rfl,SqL.of Ab,?_⟩
  rw [show (List.replicate (ns.map V.int).length true).all id=true from all_eq_true.mpr fun b m=>(mem_replicate.mp m).2]
  have s1:=Ag hD (.lst ((List.replicate (ns.map V.int).length true).map V.bl))
  generalize upd H D (.lst ((List.replicate (ns.map V.int).length true).map V.bl))=H1 at s1 ⊢
  and_intros
  refine ⟨l,ns,rfl,SqL.of (s1 _ _ hl),by omega,fun a ms pa sa ha=>?_⟩
  have e:=SB pa sa pm
  subst e
  have s2:=Ag ha (.lst ((ups n).map V.int))
  have e2:(upd H1 a (.lst ((ups n).map V.int))) a=some (.lst ((ups n).map V.int)):=Ab
  generalize upd H1 a (.lst ((ups n).map V.int))=H2 at s2 e2 ⊢
  and_intros
  refine ⟨by omega,fun b hb=>?_⟩
  rw [<- RO]
  have s3:=Ag hb (.lst ((ups n).map V.int))
  refine ⟨.list ((ups n).map .int),.list ((ups n).map .int),.lst (SqL.of (s3 _ _ e2)) (.ints _),.lst (SqL.of Ab) (.ints _),(Ex _).2,(Ex _).2,?_⟩
  rw [show PyData.eqv (.list ((ups n).map .int)) (.list ((ups n).map .int))=true from by show PyData.eqvAll _ _=true;rw [EJ];exact decide_eq_true rfl]
  exact q _ ((s1.trans s2).trans s3)
theorem MI (T:Tx K mg ad):AG P w K mg base CX0 2 ad.f_size ad.d_size ["mask"] Po:=by
 refine T.F_size.ok QE (fun vs H Q E h=>?_) (fun cdv A outer s H vs Q E hr h=>?_)
 ·obtain ⟨m,rfl,_⟩:=h
  rfl
 obtain ⟨m,rfl,m0,m1,q⟩:=h
 refine ⟨_,(@Ah _ _ _ (@Ao _ _ _ _ (@A2 _ _ _ _ _ _ _ _ _ A6 (by rfl) T.z_len PySem.boot_len ((@Aj _ _ _ _ _ _ _ _ _ _ _ _ _ _ _ _ (Ik T) (hr.mono (by decide)) rfl T.m_members T.F_members.kp T.b_members .nil Ar ((pv 0)*>Ae) (by decide) (by rfl) (by rfl))*>Ae) (by decide) (by decide) (by rfl) (by rfl)))),?_⟩
 and_intros
 refine ⟨m0,m1,fun p H' hp s e=>?_⟩
 and_intros
 rw [length_map]
 exact q H' s
theorem DP (T:Tx K mg ad):AG P w K mg base CX0 2 ad.f_fraction ad.d_fraction ["top","bottom"] OW:=by
 refine T.F_fraction.ok ET (fun vs H Q E h=>?_) (fun cdv A outer s H vs Q E hr h=>?_)
 ·obtain ⟨t,b,rfl,_⟩:=h
  rfl
 obtain ⟨t,b,rfl,b0,szt,szb,q⟩:=h
 refine ⟨_,((@AS _ _ _ _ _ _ _ _ (PW.pt (@Kx _ _ _ _ _ _ _ (@DX _ _ _ _ (@CD _ _ _ (@Aj _ _ _ _ _ _ _ _ _ _ _ _ _ _ _ _ (Dp T) (hr.mono (by decide)) rfl T.m_is_whole T.F_is_whole.kp T.b_is_whole .nil Ar ((pv 0)*>Ae) (by decide) (by rfl) (by rfl)) (by intro _;rfl))) (@HE _ _ _ _ (@DX _ _ _ _ (@CD _ _ _ (@Aj _ _ _ _ _ _ _ _ _ _ _ _ _ _ _ _ (Dp T) (hr.mono (by decide)) rfl T.m_is_whole T.F_is_whole.kp T.b_is_whole .nil Ar ((pv 1)*>Ae) (by decide) (by rfl) (by rfl)) (by intro _;rfl)))))) (@Ah _ _ _ EG) As)>>((@AS _ _ _ _ _ _ _ _ (@Aq _ _ _ _ _ _ _ _ By (pv 1) Af (Aw _)) (@Ah _ _ _ EG) As)>>((@Ak _ _ (2) _ _ _ _ ET.nd rfl (Or.inl rfl) (@Aj _ _ _ _ _ _ _ _ _ _ _ _ _ _ _ _ (Fn T) (hr.mono (by decide)) rfl T.m_divisor T.F_divisor.kp T.b_divisor .nil Ar ((pv 0)*>((pv 1)*>Ae)) (by decide) (by rfl) (by rfl)) (by rfl) (by nofun))>>((@Cj _ _ _ _ _ _ _ _ (@Aq _ _ _ _ _ _ _ _ MF (pv 1) Af (Aw _)) (@Ah _ _ _ (@Ak _ _ (2) _ _ _ _ ET.nd rfl (Or.inl rfl) (@M7 _ _ _ _ _ _ LH (pv 2)) (by rfl) (by nofun))) As)>>(@Ah _ _ _ (@Ao _ _ _ _ (@AI _ _ _ _ _ ((Kz<&>((pv 0)<|>(pv 2)))*>((Kz<&>((pv 1)<|>(pv 2)))*>Ae))))))))),?_⟩
 refine ⟨_,rfl,_,rfl,_,rfl,?_⟩
 refine Sb ?_
 refine ⟨_,rfl,_,rfl,_,rfl,?_⟩
 refine Sb ?_
 refine ⟨_,rfl,rfl,_,rfl,?_⟩
 refine P7 (fun c=>absurd (V.int.inj (of_decide_eq_true c)) b0) (fun _=>?_)
 refine ⟨_,rfl,_,rfl,t,b,rfl,?_⟩
 refine ⟨fun σ' H'=>σ'=[some (.int t),some (.int b),some (.int (E9 t b))]/\H'=H,?_,?_⟩
 ·refine ⟨_,rfl,_,_,rfl,rfl,_,rfl,?_⟩
  refine P7 (fun c=>?_) (fun c=>?_)
  ·have c':b < 0:=of_decide_eq_true c
   refine ⟨_,rfl,_,rfl,?_⟩
   refine ⟨?_,rfl⟩
   show [some (V.int t),some (V.int b),some (V.int (-(AJ t b)))]=[some (V.int t),some (V.int b),some (V.int (E9 t b))]
   unfold E9
   rw [if_pos c']
  ·have c':¬ b < 0:=fun e=>c (decide_eq_true e)
   refine ⟨?_,rfl⟩
   show [some (V.int t),some (V.int b),some (V.int (AJ t b))]=[some (V.int t),some (V.int b),some (V.int (E9 t b))]
   unfold E9
   rw [if_neg c']
 rintro σ' H' ⟨rfl,rfl⟩
 have ne:=ME (t:=t) b0
 refine ⟨_,rfl,_,rfl,_,_,rfl,rfl,⟨ne,szt⟩,_,rfl,_,rfl,_,_,rfl,rfl,⟨ne,szb⟩,(by show 2<=sizeLine;decide),fun r hr'=>?_⟩
 exact q r _ (Ag hr' _) Ab
theorem FM (T:Tx K mg ad):AG P w K mg base CX0 2 ad.f_even_part ad.d_even_part ["free","many"] (SF 4500):=by
 refine T.F_even_part.ok FL (fun vs H Q E h=>?_) (fun cdv A outer s H vs Q E hr h=>?_)
 ·obtain ⟨f,n,rfl,_⟩:=h
  rfl
 obtain ⟨f,n,rfl,gf,fb,n1,n12,q⟩:=h
 refine ⟨_,((@Ak _ _ (2) _ _ _ _ FL.nd rfl (Or.inl rfl) (@Aj _ _ _ _ _ _ _ _ _ _ _ _ _ _ _ _ (Fn T) (hr.mono (by decide)) rfl T.m_divisor T.F_divisor.kp T.b_divisor .nil Ar ((@At _ _ _ _ _ _ _ Ay (pv 0) Af (fun _ _=>rfl))*>((pv 1)*>Ae)) (by decide) (by rfl) (by rfl)) (by rfl) (by nofun))>>(@Ah _ _ _ (@Ao _ _ _ _ (@AI _ _ _ _ _ ((AR<&>((@At _ _ _ _ _ _ _ Ay (pv 0) Af (fun _ _=>rfl))<|>(pv 2)))*>((AO<&>((@At _ _ _ _ _ _ _ Ay (pv 0) Af (fun _ _=>rfl))<|>(AR<&>((pv 1)<|>(pv 2)))))*>Ae)))))),?_⟩
 have szt:=fb.szt
 have szb:=fb.szb
 have g0:AJ f.2.1 (n:Int)≠0:=by
  unfold AJ
  have:0 < Int.gcd f.2.1 (n:Int):=Int.gcd_pos_of_ne_zero_right _ (by omega)
  omega
 have gz:Sz 60 (AJ f.2.1 (n:Int)):=by
  show ((Int.gcd f.2.1 (n:Int):Nat):Int).natAbs < _
  rw [Int.natAbs_natCast]
  have:Int.gcd f.2.1 (n:Int)<=n:=Nat.gcd_le_right _ (by show 0 < (n:Int).natAbs;omega)
  exact Nat.lt_of_le_of_lt this (Nat.lt_of_le_of_lt n12 (by decide))
 have nz:Sz 60 ((n:Int).fdiv (AJ f.2.1 (n:Int))):=(show Sz 60 (n:Int) from Bz (by omega) (by omega)).fdiv
 have gf':H f.1=some (.tup [.int f.2.1,.int f.2.2]):=gf
 and_intros
 refine ⟨_,_,rfl,?_⟩
 and_intros
 refine ⟨⟨g0,gz.mono (by decide)⟩,?_⟩
 and_intros
 refine ⟨⟨g0,gz.mono (by decide)⟩,?_⟩
 and_intros
 refine ⟨(by show 2<=sizeLine;decide),fun T hT=>?_⟩
 exact q T _ hT (Ag hT _) Ab
theorem Gg (T:Tx K mg ad):AG P w K mg base CX0 2 ad.f_common_bottom ad.d_common_bottom ["bottoms"] N2:=by
 refine T.F_common_bottom.ok Ca (fun vs H Q E h=>?_) (fun cdv A outer s H vs Q E hr h=>?_)
 ·obtain ⟨d,ps,M,rfl,_⟩:=h
  rfl
 obtain ⟨d,ps,M,rfl,hd,tb,M0,Mz,l60,q⟩:=h
 refine ⟨_,((@Ak _ _ (1) _ _ _ _ Ca.nd rfl (Or.inl rfl) Af (by rfl) (by nofun))>>((D9 PassesOwn.never rfl (B1 (OC rfl (by rfl) T.z_sorted (pv 0))) (Bg (i:=2) Ca.nd rfl (Or.inl rfl)) (@Ah _ _ _ (@AS _ _ _ _ _ _ _ _ (@Aq _ _ _ _ _ _ _ _ MH (A0<&>((pv 1)<|>(pv 2))) Af (Aw _)) (@Ah _ _ _ (@Ak _ _ (1) _ _ _ _ Ca.nd rfl (Or.inl rfl) (AO<&>((pv 1)<|>(AR<&>((pv 2)<|>(@Aj _ _ _ _ _ _ _ _ _ _ _ _ _ _ _ _ (Fn T) (hr.mono (by decide)) rfl T.m_divisor T.F_divisor.kp T.b_divisor .nil Ar ((pv 1)*>((pv 2)*>Ae)) (by decide) (by rfl) (by rfl)))))) (by rfl) (by nofun))) As)))>>(@Ah _ _ _ (@Ao _ _ _ _ (pv 1))))),?_⟩
 and_intros
 refine ⟨d,DV ps,ps.map (·.1),rfl,.inl hd,(by unfold DV;rw [map_map,map_map];rfl),(by rw [length_map];omega),fun l ms pm _ hl=>?_⟩
 have s1:=Ag hl (.lst (ms.map V.int))
 have e1:(upd H l (.lst (ms.map V.int))) l=some (.lst (ms.map V.int)):=Ab
 generalize upd H l (.lst (ms.map V.int))=H1 at s1 e1 ⊢
 have inm:∀b∈ms,∃q∈ps,q.1=b:=fun b k=>by
  obtain ⟨q,qm,e⟩:=mem_map.mp (pm.mem_iff.mp k)
  exact ⟨q,qm,e⟩
 have ml:ms.length<=60:=by rw [pm.length_eq,length_map];exact l60
 refine ⟨l,rfl,⟨_,SqL.of e1⟩,EQ (xs:=ms.map V.int) (fun i σ' J=>∃(c:Int) (v2:Option V),σ'=[some (.ref d),some (.int c),v2]/\J=H1/\0 < c/\(∀b∈ms.take i,b ∣ c)/\c ∣ M) ⟨1,none,rfl,rfl,(by decide),(fun _ m=>absurd m List.not_mem_nil),Int.one_dvd M⟩ (fun i σ' J _ hq_=>by obtain ⟨_,_,_,e,_⟩:=hq_;rw [e];exact SqL.of e1) ?_ ?_⟩
 ·rintro i x σ' J hx ⟨c,v2,rfl,rfl,c0,cd,csz⟩
  obtain ⟨b,hb,rfl⟩:=E5 hx
  have il:=(List.getElem?_eq_some_iff.mp hb).1
  obtain ⟨q0,qm,e⟩:=inm b (mem_of_getElem? hb)
  have b0:0 < b:=by rw [<- e];exact (tb q0 qm).1
  have bM:b ∣ M:=by rw [<- e];exact (tb q0 qm).2
  have bsz:Sz 4500 b:=Es bM M0 Mz
  have csz':Sz 6100 c:=(Es csz M0 Mz).mono (by decide)
  have tk:ms.take (i+1)=ms.take i++[b]:=by rw [take_add_one,hb];rfl
  obtain ⟨d1,d2,d3⟩:=NM c0 b0
  have st:∀(v:Option V),[some (V.ref d),some (.int (DA c b)),some (.int b)]=[some (V.ref d),some (.int (DA c b)),some (.int b)]/\J=J/\0 < DA c b/\(∀y∈ms.take (i+1),y ∣ DA c b)/\DA c b ∣ M:=fun _=>⟨rfl,rfl,d3,(fun y k=>by
   rw [tk] at k
   rcases mem_append.mp k with k | k
   ·exact Int.dvd_trans (cd y k) d1
   ·rw [mem_singleton.mp k];exact d2),RB c0 b0 csz bM⟩
  and_intros
  refine ⟨(by show (_:Int)≠0;omega),?_⟩
  and_intros
  by_cases c2:c.fmod b=0
  ·refine ifF (RF c2) ?_
   have e2:DA c b=c:=by unfold DA;rw [if_neg (fun h=>h c2)]
   obtain ⟨_,_,k3,k4,k5⟩:=st none
   rw [e2] at k3 k4 k5
   exact ⟨c,_,rfl,rfl,k3,k4,k5⟩
  ·refine ifT (Sd c2) ?_
   have e2:DA c b=c*b.fdiv (AJ c b):=by unfold DA;rw [if_pos c2]
   have g0:AJ c b≠0:=by
    unfold AJ
    have:0 < Int.gcd c b:=Int.gcd_pos_of_ne_zero_left _ (Int.ne_of_gt c0)
    omega
   have gz:Sz 4500 (AJ c b):=by
    show ((Int.gcd c b:Nat):Int).natAbs < _
    rw [Int.natAbs_natCast]
    exact Nat.lt_of_le_of_lt (Nat.gcd_le_right _ (by omega)) bsz
   have bz:Sz 4500 (b.fdiv (AJ c b)):=bsz.fdiv
   and_intros
   refine ⟨c,b,rfl,?_⟩
   and_intros
   refine ⟨⟨g0,gz.mono (by decide)⟩,?_⟩
   obtain ⟨_,_,k3,k4,k5⟩:=st none
   rw [e2] at k3 k4 k5
   and_intros
   exact ⟨k3,k4,k5⟩
 rintro σ' J ⟨c,v2,rfl,rfl,c0,cd,csz⟩
 rw [length_map] at cd
 rw [take_of_length_le (Nat.le_refl _)] at cd
 refine ⟨_,rfl,q c J s1 c0 (fun q0 k=>cd q0.1 (pm.mem_iff.mpr (mem_map.mpr ⟨q0,k,rfl⟩))) csz⟩
theorem Kn (T:Tx K mg ad):AG P w K mg base CX0 2 ad.f_law_lots ad.d_law_lots ["_law_cell_here","_law_hands"] O3:=by
 refine T.F_law_lots.ok BY (fun vs H Q E h=>?_) (fun cdv A outer s H vs Q E hr h=>?_)
 ·obtain ⟨c,h,rfl,_⟩:=h
  rfl
 obtain ⟨c,h,rfl,szc,h1,h12,q⟩:=h
 refine ⟨_,((@Ak _ _ (2) _ _ _ _ BY.nd rfl (Or.inl rfl) (@Aj _ _ _ _ _ _ _ _ _ _ _ _ _ _ _ _ (Ew T) (hr.mono (by decide)) rfl T.m_law_mixed T.F_law_mixed.kp T.b_law_mixed .nil Ar ((pv 0)*>(Af*>Ae)) (by decide) (by rfl) (by rfl)) (by rfl) (by nofun))>>((@Ak _ _ (3) _ _ _ _ BY.nd rfl (Or.inl rfl) (Dx rfl (by rfl) T.z_list (by rfl) T.z_range (pv 1)) (by rfl) (by nofun))>>((@Ak _ _ (4) _ _ _ _ BY.nd rfl (Or.inl rfl) (@BU _ _ _ _ Ae) (by rfl) (by nofun))>>((D9 PassesOwn.never rfl (Ce rfl T.z_range ((pv 1)*>Ae)) (Bg (i:=5) BY.nd rfl (Or.inl rfl)) ((@Ak _ _ (6) _ _ _ _ BY.nd rfl (Or.inl rfl) (A0<&>((pv 2)<|>(@A2 _ _ _ _ _ _ _ _ _ A6 (by rfl) T.z_len PySem.boot_len ((pv 3)*>Ae) (by decide) (by decide) (by rfl) (by rfl)))) (by rfl) (by nofun))>>((@Ak _ _ (2) _ _ _ _ BY.nd rfl (Or.inl rfl) (AR<&>((pv 2)<|>(@A2 _ _ _ _ _ _ _ _ _ A6 (by rfl) T.z_len PySem.boot_len ((pv 3)*>Ae) (by decide) (by decide) (by rfl) (by rfl)))) (by rfl) (by nofun))>>(@Ah _ _ _ (@BE _ _ _ _ (Eg PySem.F.plainAttrs_list PySem.F.slot_list_append PySem.F.type_list_append BO (pv 4) ((Eg PySem.F.plainAttrs_list PySem.F.slot_list_pop PySem.F.type_list_pop Iq (pv 3) ((pv 6)*>Ae))*>Ae)) (by rfl))))))>>(@Ah _ _ _ (@Ao _ _ _ _ (pv 4))))))),?_⟩
 obtain ⟨n,rfl⟩:∃n:Nat,h=(n:Int):=⟨h.toNat,by omega⟩
 refine ⟨_,rfl,c,5,rfl,szc,by decide,by decide,fun z z0 z1=>?_⟩
 and_intros
 refine ⟨by omega,fun l hl=>?_⟩
 rw [show (List.map (fun i:Nat=>V.int (i:Int)) (List.range n))=(ups n).map V.int from (by unfold ups;rw [map_map];rfl)]
 have s1:=Ag hl (.lst ((ups n).map V.int))
 have e1:(upd H l (.lst ((ups n).map V.int))) l=some (.lst ((ups n).map V.int)):=Ab
 generalize upd H l (.lst ((ups n).map V.int))=H1 at s1 e1 ⊢
 refine ⟨(by show 0<=sizeLine;decide),fun lo hlo0=>?_⟩
 have ll:l≠lo:=fun z=>by rw [<- z,e1] at hlo0;cases hlo0
 have hlo:H lo=none:=none_of s1 hlo0
 have s2:=s1.trans (Ag hlo0 (.lst []))
 have e2:(upd H1 lo (.lst [])) l=some (.lst ((ups n).map V.int)):=by rw [Al ll];exact e1
 have e3:(upd H1 lo (.lst [])) lo=some (.lst (([]:List Int).map V.int)):=Ab
 generalize upd H1 lo (.lst [])=H2 at s2 e2 e3 ⊢
 and_intros
 refine ⟨by omega,by omega,Gp (fun i σ' H'=>∃(v5 v6:Option V) (z:Int) (left got:List Int),σ'=[some (.int c),some (.int (n:Int)),some (.int z),some (.ref l),some (.ref lo),v5,v6]/\0<=z/\z < 10 ^ 31/\Au H H'/\H' l=some (.lst (left.map V.int))/\H' lo=some (.lst (got.map V.int))/\left.length+i=n/\got.length=i/\(got++left).Perm (ups n)) ⟨none,none,z,ups n,[],rfl,z0,z1,s2,e2,e3,(by unfold ups;rw [length_map,length_range];rfl),rfl,List.Perm.refl _⟩ ?_ ?_⟩
 ·rintro i σ' H' hi ⟨v5,v6,z,left,got,rfl,z0,z1,s3,f1,f2,f3,f4,f5⟩
  have m:=AB z (show (0:Int) < (left.length:Int) by omega)
  have szz:Sz 200 z:=Kl z0 (Int.lt_trans z1 (by decide))
  and_intros
  have hll:(left.map V.int).length=left.length:=length_map _
  refine ⟨(by show ((left.map V.int).length:Int)≠0;omega),?_⟩
  dsimp only
  rw [hll]
  generalize z.fmod (left.length:Int)=j' at m ⊢
  obtain ⟨j,rfl⟩:∃j:Nat,j'=(j:Int):=⟨j'.toNat,by omega⟩
  have hj:j < left.length:=by omega
  and_intros
  refine ⟨⟨by show ((left.map V.int).length:Int)≠0;omega,(show Sz 64 ((left.map V.int).length:Int) from Bz (by omega) (by omega)).mono (by decide)⟩,?_⟩
  have lc:=Kh (d:=(left.length:Int)) z0 (by omega) z1
  dsimp only
  rw [hll]
  and_intros
  refine ⟨.inl ⟨rfl,_,SqL.of f2⟩,?_⟩
  and_intros
  refine ⟨.inl ⟨rfl,_,SqL.of f1⟩,?_⟩
  and_intros
  refine ⟨l,_,_,j,V.int left[j],rfl,rfl,f1,by omega,by omega,PM (by rw [length_map];exact hj),(by rw [List.getElem?_map,List.getElem?_eq_getElem hj];rfl),?_⟩
  have g2:(upd H' l (.lst ((left.map V.int).eraseIdx j))) lo=some (.lst (got.map V.int)):=by rw [Al (Ne.symm ll)];exact f2
  have g1:(upd H' l (.lst ((left.map V.int).eraseIdx j))) l=some (.lst ((left.eraseIdx j).map V.int)):=by rw [Ab,Fa]
  have s4:=A1 (o:=.lst ((left.map V.int).eraseIdx j)) s3 hl
  generalize upd H' l (.lst ((left.map V.int).eraseIdx j))=H4 at s4 g1 g2 ⊢
  refine ⟨lo,_,_,rfl,rfl,g2,(by rw [length_map,f4];exact AH (by omega)),?_⟩
  have g1':(upd H4 lo (.lst (got.map V.int++[V.int left[j]]))) l=some (.lst ((left.eraseIdx j).map V.int)):=by rw [Al ll];exact g1
  have g2':(upd H4 lo (.lst (got.map V.int++[V.int left[j]]))) lo=some (.lst ((got++[left[j]]).map V.int)):=by rw [Ab,map_append];rfl
  have s5:=A1 (o:=.lst (got.map V.int++[V.int left[j]])) s4 hlo
  generalize upd H4 lo (.lst (got.map V.int++[V.int left[j]]))=H5 at s5 g1' g2' ⊢
  exact ⟨_,_,_,_,_,rfl,lc.1,lc.2,s5,g1',g2',by rw [length_eraseIdx,if_pos hj];omega,by rw [length_append,f4];rfl,JB (List.getElem?_eq_getElem hj) f5⟩
 ·rintro σ' H' ⟨v5,v6,z,left,got,rfl,z0,z1,s3,f1,f2,f3,f4,f5⟩
  rw [Int.toNat_natCast] at f3
  have:left=[]:=length_eq_zero_iff.mp (by omega)
  rw [this,append_nil] at f5
  exact ⟨_,rfl,q lo got H' s3 f2 (by rw [Int.toNat_natCast];exact f5)⟩
theorem K3 (T:Tx K mg ad):AG P w K mg base CX0 2 ad.f_law_slip ad.d_law_slip ["_law_cell_here","_law_hands"] O0:=by
 refine T.F_law_slip.ok Bf (fun vs H Q E h=>?_) (fun cdv A outer s H vs Q E hr h=>?_)
 ·obtain ⟨c,n,rfl,_⟩:=h
  rfl
 obtain ⟨c,n,rfl,szc,n1,n12,q⟩:=h
 refine ⟨_,((@Ak _ _ (2) _ _ _ _ Bf.nd rfl (Or.inl rfl) (@Aj _ _ _ _ _ _ _ _ _ _ _ _ _ _ _ _ (Ew T) (hr.mono (by decide)) rfl T.m_law_mixed T.F_law_mixed.kp T.b_law_mixed .nil Ar ((pv 0)*>((pv 1)*>Ae)) (by decide) (by rfl) (by rfl)) (by rfl) (by nofun))>>((@Ak _ _ (3) _ _ _ _ Bf.nd rfl (Or.inl rfl) (A0<&>((pv 2)<|>Af)) (by rfl) (by nofun))>>((@Ak _ _ (4) _ _ _ _ Bf.nd rfl (Or.inl rfl) (A0<&>((AR<&>((pv 2)<|>Af))<|>(AQ<&>((pv 1)<|>Af)))) (by rfl) (by nofun))>>((@Ak _ _ (2) _ _ _ _ Bf.nd rfl (Or.inl rfl) (AR<&>((pv 2)<|>Af)) (by rfl) (by nofun))>>((@Ak _ _ (5) _ _ _ _ Bf.nd rfl (Or.inl rfl) (Dx rfl (by rfl) T.z_list (by rfl) T.z_range (pv 1)) (by rfl) (by nofun))>>((@Ak _ _ (6) _ _ _ _ Bf.nd rfl (Or.inr rfl) KU (by rfl) (by nofun))>>((D9 PassesOwn.never rfl (Ce rfl T.z_range ((pv 1)*>Ae)) (Bg (i:=7) Bf.nd rfl (Or.inl rfl)) ((@Ak _ _ (8) _ _ _ _ Bf.nd rfl (Or.inl rfl) (@At _ _ _ _ _ _ _ A5 (@BU _ _ _ _ ((@A2 _ _ _ _ _ _ _ _ _ A6 (by rfl) T.z_len PySem.boot_len ((pv 5)*>Ae) (by decide) (by decide) (by rfl) (by rfl))*>((AQ<&>((pv 1)<|>Af))*>(Af*>((@A2 _ _ _ _ _ _ _ _ _ A6 (by rfl) T.z_len PySem.boot_len ((pv 5)*>Ae) (by decide) (by decide) (by rfl) (by rfl))*>Ae))))) (pv 3) (fun _ _=>rfl)) (by rfl) (by nofun))>>((@Ak _ _ (9) _ _ _ _ Bf.nd rfl (Or.inl rfl) (A0<&>((pv 2)<|>(pv 8))) (by rfl) (by nofun))>>((@Ak _ _ (2) _ _ _ _ Bf.nd rfl (Or.inl rfl) (AR<&>((pv 2)<|>(pv 8))) (by rfl) (by nofun))>>((@Cj _ _ _ _ _ _ _ _ (PW.pt (@Kx _ _ _ _ _ _ _ (@Aq _ _ _ _ _ _ _ _ By (pv 3) Af (Aw _)) (@HE _ _ _ _ (PW.pt (@LI _ _ _ _ _ _ _ (@Aq _ _ _ _ _ _ _ _ By (pv 3) Af (Aw _)) (@JG _ _ _ _ (@Aq _ _ _ _ _ _ _ _ MF (pv 7) (pv 4) (Aw _)))))))) (@Ah _ _ _ (Hh (u1 hr.units) (pv 6) (pv 7) (@BU _ _ _ _ ((Eg PySem.F.plainAttrs_list PySem.F.slot_list_pop PySem.F.type_list_pop Iq (pv 5) ((pv 9)*>Ae))*>Ae)) rfl)) As)>>(@Ah _ _ _ (@Cj _ _ _ _ _ _ _ _ (PW.pt (@LI _ _ _ _ _ _ _ (@Aq _ _ _ _ _ _ _ _ Jp (pv 3) (@AI _ _ _ _ _ (Af*>(Af*>Ae))) (by with_unfolding_all rfl)) (@JG _ _ _ _ (@Aq _ _ _ _ _ _ _ _ MZ (pv 9) Af (Aw _))))) (@Ah _ _ _ (Hh (u1 hr.units) (pv 6) (pv 9) (Gs<&>((HV (u1 hr.units) (pv 6) (pv 9) (@BU _ _ _ _ Ae) ⟨rfl,rfl,rfl,rfl⟩)<|>(@BU _ _ _ _ ((pv 7)*>Ae)))) rfl)) As)))))))>>(@Ah _ _ _ (@Ao _ _ _ _ (@Bt _ _ _ _ _ _ _ _ _ IG (by rfl) T.z_tuple PyProof.Rows.boot_tuple ((Cp (fsc:=Ad Ct) (N:=["_law_cell_here","_law_hands","_law_number_here","_law_way","_law_many","_law_left","_law_tiers","_law_k","_law_base","_law_lot"]) (Nc:=["_law_cell_here","_law_hands","_law_number_here","_law_way","_law_many","_law_left","_law_tiers","_law_k","_law_base","_law_lot","_law_rank"]) rfl rfl (by nofun) rfl (B1 (@A2 _ _ _ _ _ _ _ _ _ (II rfl) (by rfl) T.z_sorted PyProof.Rows.boot_sorted ((pv 6)*>Ae) (by decide) (by decide) (by rfl) (by rfl))) (fun _ _ _ _=>B2) (fun _ _ _ _=>(@Aj _ _ _ _ _ _ _ _ _ _ _ _ _ _ _ _ (Li T) (hr.mono (by decide)) rfl T.m_law_mask T.F_law_mask.kp T.b_law_mask .nil Ar ((MN (u1 hr.units) (pv 6) (pv 10) (fun _ _=>rfl))*>Ae) (by decide) (by rfl) (by rfl))))*>Ae) (by decide) (by decide) (by rfl) (by rfl))))))))))),?_⟩
 and_intros
 refine ⟨c,(n:Int),rfl,szc,by omega,by omega,fun z z0 z1=>?_⟩
 have szz:Sz 200 z:=Kl z0 (Int.lt_trans z1 (by decide))
 and_intros
 refine ⟨(by show (_:Int)≠0;omega),?_⟩
 and_intros
 refine ⟨by omega,fun l hl=>?_⟩
 rw [show (List.map (fun i:Nat=>V.int (i:Int)) (List.range n))=((List.range n).map fun i:Nat=>(i:Int)).map V.int from (by rw [map_map];rfl)]
 have rl:((List.range n).map fun i:Nat=>(i:Int)).length=n:=by rw [length_map,length_range]
 have rin:∀x∈((List.range n).map fun i:Nat=>(i:Int)),0<=x/\x < (n:Int):=fun x m=>by
  obtain ⟨i,im,rfl⟩:=mem_map.mp m
  have:=mem_range.mp im
  omega
 generalize ((List.range n).map fun i:Nat=>(i:Int))=left at rl rin ⊢
 have s1:=Ag hl (.lst (left.map V.int))
 have e1:(upd H l (.lst (left.map V.int))) l=some (.lst (left.map V.int)):=Ab
 generalize upd H l (.lst (left.map V.int))=H1 at s1 e1 ⊢
 intro d hd
 have s2:=Ag hd (.dK [])
 have e2:(upd H1 d (.dK [])) d=some (.dK []):=Ab
 generalize upd H1 d (.dK [])=H2 at s2 e2 ⊢
 have dl:d≠l:=fun z=>by rw [z,e1] at hd;cases hd
 have hdH:=none_of s1 hd
 have mw:=AB z (show (0:Int) < 4 by decide)
 have lc:=Kh (d:=64) z0 (by decide) z1
 dsimp only
 generalize (z.fdiv 4).fmod ((n:Int)+1)=m
 generalize z.fmod 4=w at mw ⊢
 generalize z.fdiv 64=z at lc ⊢
 and_intros
 refine ⟨by omega,by omega,Gp (fun i σ' J=>∃(v7 v8 v9:Option V) (z:Int) (left:List Int) (kvs:List (Key × V)),σ'=[some (.int c),some (.int (n:Int)),some (.int z),some (.int w),some (.int m),some (.ref l),some (.ref d),v7,v8,v9]/\0<=z/\z < 10 ^ 31/\Au H J/\J l=some (.lst (left.map V.int))/\J d=some (.dK kvs)/\n<=left.length+i/\left.length<=n/\(∀x∈left,0<=x/\x < (n:Int))/\kvs.length<=i/\CK J l n i w kvs) ⟨none,none,none,z,left,[],rfl,lc.1,lc.2,s1.trans s2,s2 _ _ e1,e2,by omega,by omega,rin,Nat.le_refl _,nodup_nil,fun _ m=>absurd m List.not_mem_nil⟩ ?_ ?_⟩
 ·rintro i σ' J hi ⟨v7,v8,v9,z,left,kvs,rfl,z0,z1,sJ,eL,eD,ln,ln2,rin,kl,td⟩
  rw [Int.toNat_natCast] at hi
  have szz:Sz 200 z:=Kl z0 (Int.lt_trans z1 (by decide))
  have ll:(left.map V.int).length=left.length:=length_map _
  and_intros
  refine ⟨(by show 4<=sizeLine;decide),fun b4 hb4=>?_⟩
  dsimp only
  rw [ll]
  have sj1:=Ag hb4 (.lst [V.int (left.length:Nat),V.int ((n:Int)+1),V.int 3,V.int (left.length:Nat)])
  have ej1:(upd J b4 (.lst [V.int (left.length:Nat),V.int ((n:Int)+1),V.int 3,V.int (left.length:Nat)])) b4=some (.lst [V.int (left.length:Nat),V.int ((n:Int)+1),V.int 3,V.int (left.length:Nat)]):=Ab
  generalize upd J b4 (.lst [V.int (left.length:Nat),V.int ((n:Int)+1),V.int 3,V.int (left.length:Nat)])=J1 at sj1 ej1 ⊢
  obtain ⟨b,hb,b1,b13,bw⟩:∃b:Int,atI [V.int (left.length:Nat),V.int ((n:Int)+1),V.int 3,V.int (left.length:Nat)] w=some (.int b)/\1<=b/\b<=13/\(w=0\/w=3->b=(left.length:Nat)):=by
   rcases (by omega:w=0\/w=1\/w=2\/w=3) with rfl | rfl | rfl | rfl
   ·exact ⟨_,rfl,by omega,by omega,fun _=>rfl⟩
   ·exact ⟨_,rfl,by omega,by omega,fun k=>by omega⟩
   ·exact ⟨_,rfl,by omega,by omega,fun k=>by omega⟩
   ·exact ⟨_,rfl,by omega,by omega,fun _=>rfl⟩
  and_intros
  refine ⟨b4,_,_,_,rfl,rfl,SqL.of ej1,hb,?_⟩
  and_intros
  refine ⟨(by show (_:Int)≠0;omega),?_⟩
  have lt:=AB z (show 0 < b by omega)
  have lc:=Kh (d:=b) z0 b1 z1
  have szb:Sz 64 b:=Bz (by omega) (by omega)
  and_intros
  refine ⟨⟨by show (_:Int)≠0;omega,szb.mono (by decide)⟩,?_⟩
  dsimp only
  generalize z.fmod b=lo at lt ⊢
  generalize z.fdiv b=z at lc ⊢
  have sJ1:=sJ.trans sj1
  have tJ:=td.same sj1
  have eL1:=sj1 _ _ eL
  have eD1:=sj1 _ _ eD
  and_intros
  refine ⟨fun σ' J=>∃(left:List Int) (kvs:List (Key × V)),σ'=[some (.int c),some (.int (n:Int)),some (.int z),some (.int w),some (.int m),some (.ref l),some (.ref d),some (.int (0+(i:Int))),some (.int b),some (.int lo)]/\Au H J/\J l=some (.lst (left.map V.int))/\J d=some (.dK kvs)/\n<=left.length+(i+1)/\left.length<=n/\(∀x∈left,0<=x/\x < (n:Int))/\kvs.length<=i+1/\(w=1\/w=2->kvs.length<=i)/\CK J l n i w kvs,?_,?_⟩
  ·refine Nx (decide (w=3\/(w=0/\0+(i:Int) < m))) (fun R r=>?_) ?_
   ·and_intros
    by_cases c3:w=3
    ·refine ifT (DI c3) ?_
     rw [decide_eq_true (Or.inl c3)] at r
     exact r
    ·refine ifF (DH c3) ?_
     and_intros
     by_cases c0:w=0
     ·refine ifT (DI c0) ?_
      and_intros
      rw [show decide (w=3\/(w=0/\0+(i:Int) < m))=decide (0+(i:Int) < m) from by congr 1;apply propext;omega] at r
      exact r
     ·refine ifF (DH c0) ?_
      rw [decide_eq_false (by omega)] at r
      exact r
   by_cases c:w=3\/(w=0/\0+(i:Int) < m)
   ·refine ifT (decide_eq_true c) ?_
    have lo':lo < (left.length:Int):=by rw [<- bw (by omega)];exact lt.2
    obtain ⟨j,rfl⟩:∃j:Nat,lo=(j:Int):=⟨lo.toNat,by omega⟩
    have hj:j < left.length:=by omega
    have xin:=rin left[j] (getElem_mem hj)
    and_intros
    refine ⟨.inl ⟨rfl,_,SqL.of eL1⟩,?_⟩
    and_intros
    refine ⟨l,_,_,j,V.int left[j],rfl,rfl,eL1,by omega,by omega,PM (by rw [length_map];exact hj),(by rw [List.getElem?_map,List.getElem?_eq_getElem hj];rfl),?_⟩
    have s4:=A1 (o:=.lst ((left.map V.int).eraseIdx j)) sJ1 hl
    have g1:(upd J1 l (.lst ((left.map V.int).eraseIdx j))) l=some (.lst ((left.eraseIdx j).map V.int)):=by rw [Ab,Fa]
    have g2:(upd J1 l (.lst ((left.map V.int).eraseIdx j))) d=some (.dK kvs):=by rw [Al dl];exact eD1
    have t4:CK (upd J1 l (.lst ((left.map V.int).eraseIdx j))) l n i w kvs:=tJ.off
    generalize upd J1 l (.lst ((left.map V.int).eraseIdx j))=J4 at s4 g1 g2 t4 ⊢
    refine ⟨(by show 1<=sizeLine;decide),fun a ha=>?_⟩
    have sj5:=Ag ha (.lst [V.int left[j]])
    have ej5:(upd J4 a (.lst [V.int left[j]])) a=some (.lst [V.int left[j]]):=Ab
    generalize upd J4 a (.lst [V.int left[j]])=J5 at sj5 ej5 ⊢
    have al:a≠l:=fun z=>by rw [z,g1] at ha;cases ha
    refine ⟨_,rfl,_,rfl,d,_,rfl,IF.k (k:=Sum.inl (0+(i:Int))) (sj5 _ _ g2) (AH (by omega)),?_⟩
    have tt:KC n i w [left[j]]:=⟨(fun z=>by cases z),pairwise_singleton _ _,fun x xm=>by
     rw [mem_singleton.mp xm]
     exact ⟨xin.1,xin.2,fun k=>by omega⟩⟩
    have dK:=(t4.same sj5).put (z:=0+(i:Int)) (sj5 _ _ g2) ej5 al tt
    exact ⟨left.eraseIdx j,_,rfl,A1 (s4.trans sj5) hdH,(by rw [Al (Ne.symm dl)];exact sj5 _ _ g1),Ab,(by rw [length_eraseIdx,if_pos hj];omega),(by rw [length_eraseIdx,if_pos hj];omega),(fun x xm=>rin x (mem_of_mem_eraseIdx xm)),Nat.le_trans (C3 ..) (Nat.succ_le_succ kl),(fun k=>by omega),dK⟩
   ·refine ifF (decide_eq_false c) ?_
    exact ⟨left,kvs,rfl,sJ1,eL1,eD1,by omega,ln2,rin,by omega,(fun _=>kl),tJ⟩
  clear ll hb szb bw eL1 eD1 tJ sJ1 sJ eL eD ln ln2 rin td kl
  rintro σ' J2 ⟨left,kvs,rfl,sJ,eL,eD,ln,ln2,rin,kl,kw,td⟩
  and_intros
  refine ⟨fun σ' J=>∃(left:List Int) (kvs:List (Key × V)),σ'=[some (.int c),some (.int (n:Int)),some (.int z),some (.int w),some (.int m),some (.ref l),some (.ref d),some (.int (0+(i:Int))),some (.int b),some (.int lo)]/\Au H J/\J l=some (.lst (left.map V.int))/\J d=some (.dK kvs)/\n<=left.length+(i+1)/\left.length<=n/\(∀x∈left,0<=x/\x < (n:Int))/\kvs.length<=i+1/\CK J l n (i+1) w kvs,?_,?_⟩
  ·refine SR (decide ((w=1\/w=2)/\0 < lo)) (fun R r=>?_) (fun J3 s3=>?_)
   ·and_intros
    refine ⟨(by show 2<=sizeLine;decide),fun t ht=>?_⟩
    have st:=Ag ht (.tup [V.int 1,V.int 2])
    have et:(upd J2 t (.tup [V.int 1,V.int 2])) t=some (.tup [V.int 1,V.int 2]):=Ab
    generalize upd J2 t (.tup [V.int 1,V.int 2])=J3 at st et ⊢
    refine ⟨t,_,rfl,.inr (SqT.of et),rfl,rfl,?_⟩
    have r':=r J3 st
    have ew:inV (.int w) [V.int 1,V.int 2]=decide (w=1\/w=2):=by
     rcases (by omega:w=0\/w=1\/w=2\/w=3) with rfl | rfl | rfl | rfl <;> rfl
    by_cases c:w=1\/w=2
    ·refine ⟨_,rfl,ifT (by show inV (.int w) [V.int 1,V.int 2]=true;exact ew.trans (decide_eq_true c)) ?_⟩
     and_intros
     rw [show decide ((w=1\/w=2)/\0 < lo)=decide (0 < lo) from by congr 1;apply propext;exact ⟨fun z=>z.2,fun z=>⟨c,z⟩⟩] at r'
     exact r'
    ·refine ⟨_,rfl,ifF (by show inV (.int w) [V.int 1,V.int 2]=false;exact ew.trans (decide_eq_false c)) ?_⟩
     rw [decide_eq_false (fun z=>c z.1)] at r'
     exact r'
   have sJ:=sJ.trans s3
   have eL:=s3 _ _ eL
   have eD:=s3 _ _ eD
   have td:=td.same s3
   by_cases c:(w=1\/w=2)/\0 < lo
   ·refine ifT (decide_eq_true c) ?_
    and_intros
    refine ⟨.inl ⟨_,.inl eD⟩,?_⟩
    and_intros
    refine ⟨(by show 0<=sizeLine;decide),fun e0 he0=>?_⟩
    have s4:=Ag he0 (.lst [])
    have ee0:(upd J3 e0 (.lst [])) e0=some (.lst []):=Ab
    generalize upd J3 e0 (.lst [])=J4 at s4 ee0 ⊢
    have e0l:e0≠l:=fun z=>by rw [z,eL] at he0;cases he0
    refine ⟨_,Gb.k (k:=(Sum.inl lo:Key)) (s4 _ _ eD),?_⟩
    have old:∃(a:Addr) (hs:List Int),(Bd kvs (Sum.inl lo:Key)).getD (.ref e0)=.ref a/\J4 a=some (.lst (hs.map V.int))/\a≠l/\hs.Pairwise (· < ·)/\∀h∈hs,0<=h/\h < (i:Int):=by
     cases e:Bd kvs (Sum.inl lo:Key) with
     | none=>exact ⟨e0,[],rfl,ee0,e0l,List.Pairwise.nil,fun _ m=>absurd m List.not_mem_nil⟩
     | some v =>
       obtain ⟨z',a,hs,eq,h1,h2,h3,h4,h5⟩:=td.2 _ (Lo e)
       injection eq with eq1 eq2
       exact ⟨a,hs,by rw [eq2];rfl,s4 _ _ h1,h2,h4,fun h hm=>⟨(h5 h hm).1,(h5 h hm).2.2 c.1⟩⟩
    obtain ⟨a,hs,ea,ha,al,pw,hin⟩:=old
    rw [ea]
    and_intros
    refine ⟨(by show 1<=sizeLine;decide),fun f0 hf0=>?_⟩
    have s5:=Ag hf0 (.lst [V.int (0+(i:Int))])
    have ef0:(upd J4 f0 (.lst [V.int (0+(i:Int))])) f0=some (.lst [V.int (0+(i:Int))]):=Ab
    generalize upd J4 f0 (.lst [V.int (0+(i:Int))])=J5 at s5 ef0 ⊢
    have hl12:hs.length<=12:=by
     have nd:hs.Nodup:=pw.imp fun h e=>by omega
     have:=En (p:=(List.range n).map fun i:Nat=>(i:Int)) nd (fun h hm=>mem_map.mpr ⟨h.toNat,mem_range.mpr (by have:=hin h hm;omega),by have:=hin h hm;omega⟩)
     rw [length_map,length_range] at this
     omega
    refine ⟨a,f0,_,_,rfl,rfl,s5 _ _ ha,ef0,(by simp only [length_map,length_cons,length_nil];exact EN (by omega)),fun g hg=>?_⟩
    have s6:=Ag hg (.lst (hs.map V.int++[V.int (0+(i:Int))]))
    have eg:(upd J5 g (.lst (hs.map V.int++[V.int (0+(i:Int))]))) g=some (.lst ((hs++[(i:Int)]).map V.int)):=by rw [Ab,map_append,Int.zero_add];rfl
    generalize upd J5 g (.lst (hs.map V.int++[V.int (0+(i:Int))]))=J6 at s6 eg ⊢
    have s36:=(s4.trans s5).trans s6
    have gl:g≠l:=fun z=>by rw [z,(s4.trans s5) _ _ eL] at hg;cases hg
    refine ⟨_,rfl,_,rfl,d,_,rfl,IF.k (k:=Sum.inl lo) (s36 _ _ eD) (AH (by omega)),?_⟩
    have tt:KC n (i+1) w (hs++[(i:Int)]):=⟨(fun z=>by have:=congrArg List.length z;rw [length_append] at this;exact nomatch this),(by
     rw [pairwise_append]
     exact ⟨pw,pairwise_singleton _ _,fun x xm y ym=>by rw [mem_singleton.mp ym];exact (hin x xm).2⟩),fun x xm=>by
     rcases mem_append.mp xm with xm | xm
     ·have:=hin x xm
      exact ⟨this.1,by omega,fun _=>by omega⟩
     ·rw [mem_singleton.mp xm]
      exact ⟨by omega,by omega,fun _=>by omega⟩⟩
    have dK:=(td.up.same s36).put (z:=lo) (s36 _ _ eD) eg gl tt
    have kl':=kw c.1
    exact ⟨left,_,rfl,A1 (sJ.trans s36) hdH,(by rw [Al (Ne.symm dl)];exact s36 _ _ eL),Ab,ln,ln2,rin,Nat.le_trans (C3 ..) (Nat.succ_le_succ kl'),dK⟩
   ·refine ifF (decide_eq_false c) ?_
    exact ⟨left,kvs,rfl,sJ,eL,eD,ln,ln2,rin,kl,td.up⟩
  ·rintro σ' J3 ⟨left,kvs,rfl,sJ,eL,eD,ln,ln2,rin,kl,td⟩
   exact ⟨_,_,_,_,_,_,rfl,lc.1,lc.2,sJ,eL,eD,ln,ln2,rin,kl,td⟩
 ·rintro σ' J ⟨v7,v8,v9,z,left,kvs,rfl,z0,z1,sJ,eL,eD,ln,ln2,rin,kl,td⟩
  rw [Int.toNat_natCast] at kl td
  obtain ⟨ns,k1,k2,k3⟩:=td.keys
  and_intros
  refine ⟨d,kvs,ns,rfl,.inl eD,k1,by omega,fun l2 ms p1 p2 hl2=>?_⟩
  have s1:=Ag hl2 (.lst (ms.map V.int))
  have e1:(upd J l2 (.lst (ms.map V.int))) l2=some (.lst (ms.map V.int)):=Ab
  generalize upd J l2 (.lst (ms.map V.int))=J1 at s1 e1 ⊢
  refine ⟨l2,rfl,⟨_,SqL.of e1⟩,?_⟩
  have ml:ms.length=kvs.length:=by rw [p1.length_eq,k2]
  refine Cy (xs:=ms.map V.int) (by rw [length_map];exact Bx (by omega)) (fun D i ys H'=>∃ts:List Int,ys=ts.map V.int/\ts.length=i/\H' D=some (.lst ys)/\Au J1 H'/\∀x∈ts,0 < x/\x < 2 ^ n) (fun D hD=>⟨[],rfl,rfl,Ab,Ag hD _,fun _ m=>absurd m List.not_mem_nil⟩) (fun D i ys H' hq_=>by obtain ⟨ts,f1,f2,f3,_⟩:=hq_;exact ⟨f3,by rw [f1,length_map,f2];exact Nat.le_refl _⟩) (fun D i ys H' hD hq_=>by obtain ⟨ts,_,_,_,f4,_⟩:=hq_;exact SqL.of (f4 _ _ e1)) ?_ ?_
  ·rintro D i x ys H' K1 K2 hD hx ⟨ts,rfl,f2,f3,f4,f5⟩ kk1 kk2
   obtain ⟨r,hr',rfl⟩:=E5 hx
   obtain ⟨a,hs,a1,a2,a3,a4,a5⟩:=k3 r (p1.mem_iff.mp (mem_of_getElem? hr'))
   have sH:=s1.trans f4
   have dg:=Gb.k (k:=(Sum.inl r:Key)) (sH _ _ eD)
   rw [a1] at dg
   have hl12:hs.length<=12:=by
    have nd:hs.Nodup:=a4.imp fun h e=>by omega
    have:=En (p:=(List.range n).map fun i:Nat=>(i:Int)) nd (fun h hm=>mem_map.mpr ⟨h.toNat,mem_range.mpr (by have:=a5 h hm;omega),by have:=a5 h hm;omega⟩)
    rw [length_map,length_range] at this
    omega
   refine yes (ifT rfl ?_)
   refine ⟨_,rfl,_,rfl,d,_,rfl,dg,?_⟩
   and_intros
   refine ⟨a,hs,rfl,sH _ _ a2,by omega,(fun h hm=>by have:=a5 h hm;omega),fun H5 s5=>?_⟩
   have mi:=QW (n:=n) a4 (fun h hm=>⟨(a5 h hm).1,(a5 h hm).2.1⟩) a3
   refine kk1 _ _ (s5 _ _ f3) ⟨ts++[E1 hs],by rw [map_append];rfl,by rw [length_append,f2];rfl,Ab,A1 (f4.trans s5) hD,fun y ym=>?_⟩
   rcases mem_append.mp ym with ym | ym
   ·exact f5 y ym
   ·rw [mem_singleton.mp ym]
    exact mi
  ·rintro D ys H' hD ⟨ts,rfl,f2,f3,f4,f5⟩
   rw [length_map] at f2
   refine ⟨D,_,rfl,.inl ⟨SqL.of f3,fun t ht=>?_⟩⟩
   have s9:=((sJ.trans s1).trans f4)
   exact q t ts _ (none_of s9 ht) (s9.trans (Ag ht _)) Ab ⟨f5,by omega⟩
theorem IN (T:Tx K mg ad):AG P w K mg base CX0 2 ad.f_law_spoilt ad.d_law_spoilt ["_law_paper","_law_way","_law_cell_here","_law_hands"] (Mw K):=by
 refine T.F_law_spoilt.ok AC (fun vs H Q E h=>?_) (fun cdv A outer s H vs Q E hr h=>?_)
 ·obtain ⟨p,ps,w,c,h,n,rfl,_⟩:=h
  rfl
 obtain ⟨p,ps,w,c,h,n,rfl,ep,gp,ne,l13,n1,n60,h1,h12,w0,w16,c0,zc,q⟩:=h
 refine ⟨_,((@Ak _ _ (4) _ _ _ _ AC.nd rfl (Or.inl rfl) (@Aj _ _ _ _ _ _ _ _ _ _ _ _ _ _ _ _ (EK T) (hr.mono (by decide)) rfl T.m_law_copy T.F_law_copy.kp T.b_law_copy .nil Ar ((pv 0)*>Ae) (by decide) (by rfl) (by rfl)) (by rfl) (by nofun))>>((@Ak _ _ (5) _ _ _ _ AC.nd rfl (Or.inl rfl) (A0<&>((pv 2)<|>(@A2 _ _ _ _ _ _ _ _ _ A6 (by rfl) T.z_len PySem.boot_len ((pv 4)*>Ae) (by decide) (by decide) (by rfl) (by rfl)))) (by rfl) (by nofun))>>((Eu (@At _ _ _ _ _ _ _ A5 (pv 4) (pv 5) (fun _ _=>rfl)) (Fw rfl (Be (Bg (i:=6) AC.nd rfl (Or.inl rfl)) (Be (Bg (i:=7) AC.nd rfl (Or.inl rfl)) (Be (Bg (i:=8) AC.nd rfl (Or.inl rfl)) E4)))))>>((@Ak _ _ (2) _ _ _ _ AC.nd rfl (Or.inl rfl) (AR<&>((pv 2)<|>(@A2 _ _ _ _ _ _ _ _ _ A6 (by rfl) T.z_len PySem.boot_len ((pv 4)*>Ae) (by decide) (by decide) (by rfl) (by rfl)))) (by rfl) (by nofun))>>((@AS _ _ _ _ _ _ _ _ (@Aq _ _ _ _ _ _ _ _ RN (pv 1) Af (Aw _)) ((@BE _ _ _ _ (@Aj _ _ _ _ _ _ _ _ _ _ _ _ _ _ _ _ (IO T) (hr.mono (by decide)) rfl T.m_law_longer T.F_law_longer.kp T.b_law_longer .nil Ar ((pv 6)*>((pv 7)*>((pv 1)*>((pv 2)*>Ae)))) (by decide) (by rfl) (by rfl)) (by rfl))>>(@Ah _ _ _ (@Ao _ _ _ _ (pv 4)))) As)>>((@AS _ _ _ _ _ _ _ _ (@Aq _ _ _ _ _ _ _ _ RN (pv 1) Af (Aw _)) (@Ah _ _ _ (@Ao _ _ _ _ (@Aj _ _ _ _ _ _ _ _ _ _ _ _ _ _ _ _ (ID T) (hr.mono (by decide)) rfl T.m_law_rounds T.F_law_rounds.kp T.b_law_rounds .nil Ar ((pv 4)*>((pv 1)*>((pv 5)*>((@At _ _ _ _ _ _ _ A5 (@Aj _ _ _ _ _ _ _ _ _ _ _ _ _ _ _ _ (EK T) (hr.mono (by decide)) rfl T.m_law_copy T.F_law_copy.kp T.b_law_copy .nil Ar ((@BU _ _ _ _ ((@At _ _ _ _ _ _ _ A5 (pv 0) (pv 5) (fun _ _=>rfl))*>Ae))*>Ae) (by decide) (by rfl) (by rfl)) Af (fun _ _=>rfl))*>Ae)))) (by decide) (by rfl) (by rfl)))) As)>>((@Cj _ _ _ _ _ _ _ _ (PW.pt (@Kx _ _ _ _ _ _ _ (@Aq _ _ _ _ _ _ _ _ By (pv 1) Af (Aw _)) (@HE _ _ _ _ (@Aq _ _ _ _ _ _ _ _ By (pv 1) Af (Aw _))))) ((@Ak _ _ (9) _ _ _ _ AC.nd rfl (Or.inl rfl) (A0<&>((pv 2)<|>(@A2 _ _ _ _ _ _ _ _ _ A6 (by rfl) T.z_len PySem.boot_len ((pv 6)*>Ae) (by decide) (by decide) (by rfl) (by rfl)))) (by rfl) (by nofun))>>((@Ak _ _ (10) _ _ _ _ AC.nd rfl (Or.inl rfl) (A0<&>((AR<&>((pv 2)<|>Af))<|>(AQ<&>((pv 3)<|>Af)))) (by rfl) (by nofun))>>(@Ah _ _ _ (Eu (@Aj _ _ _ _ _ _ _ _ _ _ _ _ _ _ _ _ (FI T) (hr.mono (by decide)) rfl T.m_law_other T.F_law_other.kp T.b_law_other .nil Ar ((@At _ _ _ _ _ _ _ A5 (@At _ _ _ _ _ _ _ A5 (pv 6) (pv 9) (fun _ _=>rfl)) (pv 10) (fun _ _=>rfl))*>((AR<&>((pv 2)<|>Af))*>Ae)) (by decide) (by rfl) (by rfl)) (EE (@At _ _ _ _ _ _ _ A5 (pv 6) (pv 9) (fun _ _=>rfl)) (pv 10) Do))))) As)>>((@Cj _ _ _ _ _ _ _ _ (@Aq _ _ _ _ _ _ _ _ By (pv 1) Af (Aw _)) ((@Ak _ _ (9) _ _ _ _ AC.nd rfl (Or.inl rfl) (A0<&>((pv 2)<|>(@A2 _ _ _ _ _ _ _ _ _ A6 (by rfl) T.z_len PySem.boot_len ((pv 6)*>Ae) (by decide) (by decide) (by rfl) (by rfl)))) (by rfl) (by nofun))>>((@Ak _ _ (10) _ _ _ _ AC.nd rfl (Or.inl rfl) (A0<&>((AR<&>((pv 2)<|>Af))<|>(pv 3))) (by rfl) (by nofun))>>((@Ak _ _ (11) _ _ _ _ AC.nd rfl (Or.inl rfl) (@At _ _ _ _ _ _ _ A5 (@At _ _ _ _ _ _ _ A5 (pv 6) (pv 9) (fun _ _=>rfl)) (pv 10) (fun _ _=>rfl)) (by rfl) (by nofun))>>((Eu (@At _ _ _ _ _ _ _ A5 (@At _ _ _ _ _ _ _ A5 (pv 6) (pv 9) (fun _ _=>rfl)) (AQ<&>((pv 10)<|>Af)) (fun _ _=>rfl)) (EE (@At _ _ _ _ _ _ _ A5 (pv 6) (pv 9) (fun _ _=>rfl)) (pv 10) Do))>>(@Ah _ _ _ (Eu (pv 11) (EE (@At _ _ _ _ _ _ _ A5 (pv 6) (pv 9) (fun _ _=>rfl)) (AQ<&>((pv 10)<|>Af)) Do))))))) As)>>((@Cj _ _ _ _ _ _ _ _ (@Aq _ _ _ _ _ _ _ _ By (pv 1) Af (Aw _)) ((@Ak _ _ (10) _ _ _ _ AC.nd rfl (Or.inl rfl) (A0<&>((pv 2)<|>(AQ<&>((pv 3)<|>Af)))) (by rfl) (by nofun))>>(@Ah _ _ _ (Eu (@Aj _ _ _ _ _ _ _ _ _ _ _ _ _ _ _ _ (FI T) (hr.mono (by decide)) rfl T.m_law_other T.F_law_other.kp T.b_law_other .nil Ar ((@At _ _ _ _ _ _ _ A5 (pv 7) (pv 10) (fun _ _=>rfl))*>((AR<&>((pv 2)<|>Af))*>Ae)) (by decide) (by rfl) (by rfl)) (EE (pv 7) (pv 10) Do)))) As)>>((@Cj _ _ _ _ _ _ _ _ (@Aq _ _ _ _ _ _ _ _ By (pv 1) Af (Aw _)) (@Ah _ _ _ (Eu (@AI _ _ _ _ _ ((pv 6)*>((pv 7)*>((@Aj _ _ _ _ _ _ _ _ _ _ _ _ _ _ _ _ (KK T) (hr.mono (by decide)) rfl T.m_law_deed T.F_law_deed.kp T.b_law_deed .nil Ar ((pv 8)*>((pv 2)*>((pv 3)*>Ae))) (by decide) (by rfl) (by rfl))*>Ae)))) (EE (pv 4) (pv 5) Do))) As)>>((@Cj _ _ _ _ _ _ _ _ (@Aq _ _ _ _ _ _ _ _ By (pv 1) Af (Aw _)) (@Ah _ _ _ (@BE _ _ _ _ (Eg PySem.F.plainAttrs_list PySem.F.slot_list_pop PySem.F.type_list_pop Iq (pv 6) ((A0<&>((pv 2)<|>(@A2 _ _ _ _ _ _ _ _ _ A6 (by rfl) T.z_len PySem.boot_len ((pv 6)*>Ae) (by decide) (by decide) (by rfl) (by rfl))))*>Ae)) (by rfl))) As)>>(@Ah _ _ _ (@Ao _ _ _ _ (pv 4)))))))))))))),?_⟩
 have r60:∀r∈ps,r.2.1.2.length<=60:=fun r m=>by
  have a:=(gp r m).2.1
  unfold rqV at a
  dsimp only at a
  rw [length_map] at a
  omega
 and_intros
 refine ⟨p,ps,rfl,ep,fun r m=>(gp r m).1,l13,r60,fun L cs H1 hL s1 eL gc vc=>?_⟩
 have cl:cs.length=ps.length:=by
  have:=congrArg List.length vc
  rwa [length_map,length_map] at this
 have c1:0 < cs.length:=by rw [cl];exact length_pos_iff.mpr ne
 have ql:(rqs cs).length=cs.length:=length_map _
 have zr:∀r∈cs,ZV h n (rqV r):=fun r m=>by
  have m2:rqV r∈ps.map rqV:=by rw [<- vc];exact mem_map.mpr ⟨r,m,rfl⟩
  obtain ⟨r',rm,e⟩:=mem_map.mp m2
  rw [<- e]
  exact (gp r' rm).2
 have ma:=AB c (show (0:Int) < (cs.length:Int) by omega)
 obtain ⟨k,ek,hk⟩:∃k:Nat,c.fmod (cs.length:Int)=(k:Int)/\k < cs.length:=⟨(c.fmod (cs.length:Int)).toNat,by omega,by omega⟩
 obtain ⟨r,hr0⟩:∃r,cs[k]?=some r:=⟨_,List.getElem?_eq_getElem hk⟩
 have rm:=mem_of_getElem? hr0
 obtain ⟨g,fr⟩:=gc r rm
 obtain ⟨z1,z2,z3,z4⟩:=zr r rm
 have gt:=g.t
 have ts0:rqs cs=(cs.map (·.1)).map V.ref:=by unfold rqs;rw [map_map];rfl
 have gt0:∀t∈cs.map (·.1),Dy H H1 t:=fun t m=>by
  obtain ⟨x,xm,rfl⟩:=mem_map.mp m
  exact P8 (gc x xm).1 (gc x xm).2
 have fin:∀{J:Hp} {l:Addr},Au H J->Il H J l->Q (.ref l) J:=fun {J l} sJ pk=>by
  obtain ⟨D,rD,lD⟩:=pk.rep (K:=K)
  exact q l D J sJ rD (lD.shaped (by decide))
 have szl:Sz 64 (cs.length:Int):=Bz (by omega) (by omega)
 have rl:r.2.1.2.length=n:=by
  unfold rqV at z1
  dsimp only at z1
  rwa [length_map] at z1
 have eR:H1 r.2.1.1=some (.lst ((r.2.1.2.map (·.1)).map V.ref)):=by rw [g.rl];unfold rwv;rw [map_map];rfl
 have rows:∀x∈r.2.1.2,Ed H H1 x.1/\x.2.length=h+1/\∀f∈x.2,FqG H1 f/\Sz 4700 f.2.1/\Sz 4700 f.2.2:=fun x m=>by
  have a:=z2 (x.2.map (·.2)) (mem_map.mpr ⟨x,m,rfl⟩)
  refine ⟨⟨fr.2.2 x m,fqv x.2,(g.rg x m).1,fun v vm=>?_⟩,by rw [<- a.1,length_map],fun f fm=>⟨(g.rg x m).2 f fm,a.2 f.2 (mem_map.mpr ⟨f,fm,rfl⟩)⟩⟩
  obtain ⟨f,fm,rfl⟩:=mem_map.mp vm
  exact Fo ((g.rg x m).2 f fm)
 have sl:r.2.2.1.2.length=h+1:=by rw [<- z3];unfold rqV;exact (length_map _).symm
 have fS:∀v∈fqv r.2.2.1.2,Flt H1 v:=fun v vm=>by
  obtain ⟨f,fm,rfl⟩:=mem_map.mp vm
  exact Fo (g.sg f fm)
 have fl0:∀fs:List Fq,(fqv fs).length=fs.length:=fun fs=>length_map _
 have neS:fqv r.2.2.1.2≠[]:=fun z=>by
  have:=congrArg List.length z
  rw [fl0] at this
  rw [length_nil] at this
  omega
 have neW:r.2.1.2.map (·.1)≠[]:=fun z=>by
  have:=congrArg List.length z
  rw [length_map,length_nil] at this
  omega
 have pk:∀{J:Hp},Cg H H1 J->Il H J L:=fun st=>⟨hL,cs.map (·.1),st.out L _ (by rw [eL,ts0]) (fun z=>by have:=congrArg List.length z;rw [length_map,length_nil] at this;omega) gt0,fun t m=>st.rnd t (gt0 t m)⟩
 and_intros
 rw [ql]
 refine ⟨(by show (_:Int)≠0;omega),?_⟩
 dsimp only
 rw [ek]
 and_intros
 refine ⟨L,_,_,_,rfl,rfl,SqL.of eL,RS hr0,?_⟩
 refine ⟨r.1,_,rfl,SqT.of gt,rfl,_,_,rfl,_,_,rfl,_,_,rfl,rfl,?_⟩
 and_intros
 rw [ql]
 refine ⟨⟨by show (_:Int)≠0;omega,szl.mono (by decide)⟩,?_⟩
 have zc':Sz 200 (c.fdiv (cs.length:Int)):=zc.fdiv
 dsimp only
 generalize c.fdiv (cs.length:Int)=c' at zc' ⊢
 and_intros
 by_cases b12:12<=w
 ·refine ifT (decide_eq_true b12) ?_
  and_intros
  refine ⟨r.2.1.1,r.2.2.1.1,r.1,H,w,c',r.2.1.2.map (·.1),fqv r.2.2.1.2,_,rfl,zc',gt,s1,fr.1,fr.2.1,eR,neW,by rw [length_map];omega,fun W m=>?_,g.sl,neS,by rw [fl0];omega,fS,fun J st=>?_⟩
  ·obtain ⟨x,xm,rfl⟩:=mem_map.mp m
   refine ⟨(rows x xm).1,fqv x.2,(g.rg x xm).1,fun z=>?_,by rw [fl0,(rows x xm).2.1];omega⟩
   have:=congrArg List.length z
   rw [fl0,(rows x xm).2.1] at this
   rw [length_nil] at this
   omega
  ·and_intros
   exact fin st.same (pk st)
 refine ifF (decide_eq_false b12) ?_
 and_intros
 by_cases b6:6<=w
 ·refine ifT (decide_eq_true b6) ?_
  obtain ⟨rp,hrp⟩:∃rp,ps[k]?=some rp:=⟨_,List.getElem?_eq_getElem (by omega)⟩
  have rpm:=mem_of_getElem? hrp
  have ep1:=s1 _ _ ep
  and_intros
  refine ⟨p,_,_,_,rfl,rfl,SqL.of ep1,RS hrp,?_⟩
  and_intros
  refine ⟨(by show 1<=sizeLine;decide),fun lq hlq=>?_⟩
  have s2:=Ag hlq (.lst [V.ref rp.1])
  have e2:(upd H1 lq (.lst [V.ref rp.1])) lq=some (.lst (rqs [rp])):=Ab
  generalize upd H1 lq (.lst [V.ref rp.1])=H2 at s2 e2 ⊢
  and_intros
  refine ⟨lq,[rp],rfl,e2,fun x m=>?_,by show 1<=13;decide,fun x m=>?_,fun L2' cs2 H3 hL2 s3 eL2 gc2 vc2=>?_⟩
  ·rw [mem_singleton.mp m];exact ((gp rp rpm).1.same s1).same s2
  ·rw [mem_singleton.mp m];exact r60 rp rpm
  obtain ⟨r2,hr2⟩:∃r2,cs2=[r2]:=by
   have:=congrArg List.length vc2
   rw [length_map,length_map] at this
   exact length_eq_one_iff.mp this
  rw [hr2] at eL2 gc2
  have g2:=gc2 r2 (mem_singleton.mpr rfl)
  have s13:=s2.trans s3
  and_intros
  have s03:=s1.trans s13
  refine ⟨L,r2.1,H,w,cs.map (·.1),k,rfl,s03,by rw [s13 _ _ eL,ts0],by rw [length_map];omega,fun t m=>(gt0 t m).same s13,P8 g2.1 ⟨none_of (s1.trans s2) g2.2.1,none_of (s1.trans s2) g2.2.2.1,fun x m=>none_of (s1.trans s2) (g2.2.2.2 x m)⟩,fun l J sJ pj=>?_⟩
  and_intros
  exact fin sJ pj
 refine ifF (decide_eq_false b6) ?_
 have wr:w=0\/w=1\/w=2\/w=3\/w=4\/w=5:=by omega
 have wl:(rwv r.2.1.2).length=n:=by unfold rwv;rw [length_map,rl]
 have grl:=g.rl
 have gsl:=g.sl
 have zf:∀d:Int,Sz 200 (c'.fdiv d):=fun d=>zc'.fdiv
 obtain ⟨jl,ejl,hjl⟩:∃j:Nat,c'.fmod (n:Int)=(j:Int)/\j < n:=by
  have:=AB c' (show (0:Int) < (n:Int) by omega)
  exact ⟨(c'.fmod (n:Int)).toNat,by omega,by omega⟩
 obtain ⟨x,hx⟩:∃x,r.2.1.2[jl]?=some x:=⟨_,List.getElem?_eq_getElem (by omega)⟩
 have xm:=mem_of_getElem? hx
 obtain ⟨rx,xl,xf⟩:=rows x xm
 have eX:=(g.rg x xm).1
 have atx:atI (rwv r.2.1.2) (jl:Int)=some (.ref x.1):=Dj (by unfold rwv;rw [List.getElem?_map,hx];rfl)
 have fX:∀v∈fqv x.2,Flt H1 v:=fun v vm=>by
  obtain ⟨f,fm,rfl⟩:=mem_map.mp vm
  exact Fo (xf f fm).1
 have neX:fqv x.2≠[]:=fun z=>by
  have:=congrArg List.length z
  rw [fl0,length_nil] at this
  omega
 have fin0:∀{J:Hp},Cg H H1 J->Au H J/\Il H J L:=fun st=>⟨st.same,pk st⟩
 refine ⟨fun σ' J=>(∃v9 v10 v11:Option V,σ'=[some (.ref p),some (.int w),some (.int c'),some (.int (h:Int)),some (.ref L),some (.int (k:Int)),some (.ref r.2.1.1),some (.ref r.2.2.1.1),some (.ref r.2.2.2.1),v9,v10,v11])/\(Au H J/\Il H J L)/\(w < 2\/H1=J),?_,?_⟩
 ·refine Nx (decide (w=0\/w=1)) (fun Z z=>?_) ?_
  ·and_intros
   by_cases a0:w=0
   ·refine ifT (DI a0) ?_
    rw [decide_eq_true (Or.inl a0)] at z
    exact z
   ·refine ifF (DH a0) ?_
    and_intros
    rw [show decide (V.int w=V.int 1)=decide (w=0\/w=1) from by
     by_cases a1:w=1
     ·rw [DI a1,decide_eq_true (Or.inr a1)]
     ·rw [DH a1,decide_eq_false (by omega)]]
    exact z
  by_cases a01:w=0\/w=1
  ·refine ifT (decide_eq_true a01) ?_
   obtain ⟨jp,ejp,hjp⟩:∃j:Nat,(c'.fdiv 64).fmod ((h:Int)+1)=(j:Int)/\j < h+1:=by
    have:=AB (c'.fdiv 64) (show (0:Int) < (h:Int)+1 by omega)
    exact ⟨((c'.fdiv 64).fmod ((h:Int)+1)).toNat,by omega,by omega⟩
   obtain ⟨f,hf⟩:∃f,x.2[jp]?=some f:=⟨_,List.getElem?_eq_getElem (by omega)⟩
   obtain ⟨ff,f1,f2⟩:=xf f (mem_of_getElem? hf)
   and_intros
   rw [wl]
   refine ⟨(by show (_:Int)≠0;omega),?_⟩
   dsimp only
   rw [ejl]
   and_intros
   refine ⟨(by show (_:Int)≠0;omega),?_⟩
   dsimp only
   rw [ejp]
   and_intros
   refine ⟨r.2.1.1,_,_,_,rfl,rfl,SqL.of grl,atx,?_⟩
   and_intros
   refine ⟨x.1,_,_,_,rfl,rfl,SqL.of eX,Ip hf,?_⟩
   and_intros
   refine ⟨f.1,f.2.1,f.2.2,c'.fdiv 1000,rfl,ff,f1,f2,zf 1000,fun t2 J sJ ft=>?_⟩
   and_intros
   refine ⟨r.2.1.1,_,_,_,rfl,rfl,SqL.of (sJ _ _ grl),atx,?_⟩
   and_intros
   refine ⟨x.1,_,_,jp,rfl,rfl,sJ _ _ eX,DQ (by rw [fl0];omega),?_⟩
   refine ⟨⟨_,_,_,rfl⟩,fin0 (Cg.pre sJ (BS (s1.trans sJ) rx.new (sJ _ _ eX) neX (fun v m=>(fX v m).same sJ) fun v m=>?_)),.inl (by omega)⟩
   rcases mem_or_eq_of_mem_set m with m | m
   ·exact (fX v m).same sJ
   ·rw [m];exact ft
  ·refine ifF (decide_eq_false a01) ?_
   exact ⟨⟨_,_,_,rfl⟩,fin0 (Kr s1),.inr rfl⟩
 rintro σ' J ⟨⟨v9,v10,v11,rfl⟩,fj,jo⟩
 and_intros
 refine ⟨fun σ' J=>(∃v9 v10 v11:Option V,σ'=[some (.ref p),some (.int w),some (.int c'),some (.int (h:Int)),some (.ref L),some (.int (k:Int)),some (.ref r.2.1.1),some (.ref r.2.2.1.1),some (.ref r.2.2.2.1),v9,v10,v11])/\(Au H J/\Il H J L)/\(w < 3\/H1=J),?_,?_⟩
 ·and_intros
  by_cases a2:w=2
  ·obtain rfl:=jo.resolve_left (by omega)
   refine ifT (DI a2) ?_
   obtain ⟨jp,ejp,hjp⟩:∃j:Nat,(c'.fdiv 64).fmod (h:Int)=(j:Int)/\j < h:=by
    have:=AB (c'.fdiv 64) (show (0:Int) < (h:Int) by omega)
    exact ⟨((c'.fdiv 64).fmod (h:Int)).toNat,by omega,by omega⟩
   obtain ⟨f,hf⟩:∃f,x.2[jp]?=some f:=⟨_,List.getElem?_eq_getElem (by omega)⟩
   obtain ⟨f',hf'⟩:∃f,x.2[jp+1]?=some f:=⟨_,List.getElem?_eq_getElem (by omega)⟩
   have kf:Flt H1 (.ref f.1):=Fo (xf f (mem_of_getElem? hf)).1
   have kf':Flt H1 (.ref f'.1):=Fo (xf f' (mem_of_getElem? hf')).1
   have at1:atI (fqv x.2) ((jp:Int)+1)=some (.ref f'.1):=Ip hf'
   and_intros
   rw [wl]
   refine ⟨(by show (_:Int)≠0;omega),?_⟩
   dsimp only
   rw [ejl]
   and_intros
   refine ⟨(by show (_:Int)≠0;omega),?_⟩
   dsimp only
   rw [ejp]
   and_intros
   refine ⟨r.2.1.1,_,_,_,rfl,rfl,SqL.of grl,atx,?_⟩
   and_intros
   refine ⟨x.1,_,_,_,rfl,rfl,SqL.of eX,Ip hf,?_⟩
   and_intros
   refine ⟨r.2.1.1,_,_,_,rfl,rfl,SqL.of grl,atx,?_⟩
   and_intros
   refine ⟨x.1,_,_,_,rfl,rfl,SqL.of eX,at1,?_⟩
   and_intros
   refine ⟨r.2.1.1,_,_,_,rfl,rfl,SqL.of grl,atx,?_⟩
   and_intros
   refine ⟨x.1,_,_,jp,rfl,rfl,eX,DQ (by rw [fl0];omega),?_⟩
   have st1:=BS s1 rx.new eX neX fX (ys:=(fqv x.2).set jp (.ref f'.1)) fun v m=>by
    rcases mem_or_eq_of_mem_set m with m | m
    ·exact fX v m
    ·rw [m];exact kf'
   have fX1:∀v∈(fqv x.2).set jp (.ref f'.1),Flt (upd H1 x.1 (.lst ((fqv x.2).set jp (.ref f'.1)))) v:=fun v m=>by
    rcases mem_or_eq_of_mem_set m with m | m
    ·exact (fX v m).upd eX
    ·rw [m];exact kf'.upd eX
   have kf1:Flt (upd H1 x.1 (.lst ((fqv x.2).set jp (.ref f'.1)))) (.ref f.1):=kf.upd eX
   have eX1:(upd H1 x.1 (.lst ((fqv x.2).set jp (.ref f'.1)))) x.1=some (.lst ((fqv x.2).set jp (.ref f'.1))):=Ab
   have grl1:(upd H1 x.1 (.lst ((fqv x.2).set jp (.ref f'.1)))) r.2.1.1=some (.lst (rwv r.2.1.2)):=by
    rw [Al (fun z=>?_)]
    ·exact grl
    ·rw [z,eX] at eR
     exact M3 (W:=x.1) fX (HO.lst.inj (Option.some.inj eR)) neX (fun W m=>by
      obtain ⟨y,ym,rfl⟩:=mem_map.mp m
      exact (rows y ym).1)
   generalize upd H1 x.1 (.lst ((fqv x.2).set jp (.ref f'.1)))=J1 at st1 fX1 kf1 eX1 grl1 ⊢
   and_intros
   refine ⟨r.2.1.1,_,_,_,rfl,rfl,SqL.of grl1,atx,?_⟩
   and_intros
   refine ⟨x.1,_,_,jp+1,rfl,rfl,eX1,DQ (i:=jp+1) (by rw [length_set,fl0,xl];exact Nat.succ_lt_succ hjp),?_⟩
   refine ⟨⟨_,_,_,rfl⟩,fin0 (st1.trans (BS st1.same rx.new eX1 (fun z=>by have:=congrArg List.length z;rw [length_set,fl0,xl,length_nil] at this;omega) fX1 fun v m=>?_)),.inl (by omega)⟩
   rcases mem_or_eq_of_mem_set m with m | m
   ·exact fX1 v m
   ·rw [m];exact kf1
  ·refine ifF (DH a2) ?_
   exact ⟨⟨_,_,_,rfl⟩,fj,jo.imp (fun z=>by omega) id⟩
 rintro σ' J ⟨⟨v9,v10,v11,rfl⟩,fj,jo⟩
 and_intros
 refine ⟨fun σ' J=>(∃v9 v10 v11:Option V,σ'=[some (.ref p),some (.int w),some (.int c'),some (.int (h:Int)),some (.ref L),some (.int (k:Int)),some (.ref r.2.1.1),some (.ref r.2.2.1.1),some (.ref r.2.2.2.1),v9,v10,v11])/\(Au H J/\Il H J L)/\(w < 4\/H1=J),?_,?_⟩
 ·and_intros
  by_cases a3:w=3
  ·obtain rfl:=jo.resolve_left (by omega)
   refine ifT (DI a3) ?_
   obtain ⟨jp,ejp,hjp⟩:∃j:Nat,c'.fmod ((h:Int)+1)=(j:Int)/\j < h+1:=by
    have:=AB c' (show (0:Int) < (h:Int)+1 by omega)
    exact ⟨(c'.fmod ((h:Int)+1)).toNat,by omega,by omega⟩
   obtain ⟨f,hf⟩:∃f,r.2.2.1.2[jp]?=some f:=⟨_,List.getElem?_eq_getElem (by omega)⟩
   have fm:=mem_of_getElem? hf
   obtain ⟨f1,f2⟩:=z4 f.2 (mem_map.mpr ⟨f,fm,rfl⟩)
   and_intros
   refine ⟨(by show (_:Int)≠0;omega),?_⟩
   dsimp only
   rw [ejp]
   and_intros
   refine ⟨r.2.2.1.1,_,_,_,rfl,rfl,SqL.of gsl,Ip hf,?_⟩
   and_intros
   refine ⟨f.1,f.2.1,f.2.2,c'.fdiv 1000,rfl,g.sg f fm,f1,f2,zf 1000,fun t2 J sJ ft=>?_⟩
   and_intros
   refine ⟨r.2.2.1.1,_,_,jp,rfl,rfl,sJ _ _ gsl,DQ (by rw [fl0];omega),?_⟩
   refine ⟨⟨_,_,_,rfl⟩,fin0 (Cg.pre sJ (BS (s1.trans sJ) fr.2.1 (sJ _ _ gsl) neS (fun v m=>(fS v m).same sJ) fun v m=>?_)),.inl (by omega)⟩
   rcases mem_or_eq_of_mem_set m with m | m
   ·exact (fS v m).same sJ
   ·rw [m];exact ft
  ·refine ifF (DH a3) ?_
   exact ⟨⟨_,_,_,rfl⟩,fj,jo.imp (fun z=>by omega) id⟩
 rintro σ' J ⟨⟨v9,v10,v11,rfl⟩,fj,jo⟩
 and_intros
 refine ⟨fun σ' J=>(∃v9 v10 v11:Option V,σ'=[some (.ref p),some (.int w),some (.int c'),some (.int (h:Int)),some (.ref L),some (.int (k:Int)),some (.ref r.2.1.1),some (.ref r.2.2.1.1),some (.ref r.2.2.2.1),v9,v10,v11])/\(Au H J/\Il H J L)/\(w < 5\/H1=J),?_,?_⟩
 ·and_intros
  by_cases a4:w=4
  ·obtain rfl:=jo.resolve_left (by omega)
   refine ifT (DI a4) ?_
   and_intros
   refine ⟨r.2.2.2.1,r.2.2.2.2,c',h,rfl,g.d,zc',h12,fun t2 J sJ ft=>?_⟩
   and_intros
   refine ⟨(by show 3<=sizeLine;decide),fun t3 ht3=>?_⟩
   have j1:=Ag ht3 (.tup [V.ref r.2.1.1,V.ref r.2.2.1.1,V.ref t2])
   have et3:(upd J t3 (.tup [V.ref r.2.1.1,V.ref r.2.2.1.1,V.ref t2])) t3=some (.tup [V.ref r.2.1.1,V.ref r.2.2.1.1,V.ref t2]):=Ab
   generalize upd J t3 (.tup [V.ref r.2.1.1,V.ref r.2.2.1.1,V.ref t2])=J1 at j1 et3 ⊢
   have sJ1:=sJ.trans j1
   have eL1:=sJ1 _ _ eL
   and_intros
   refine ⟨L,_,_,k,rfl,rfl,eL1,DQ (by rw [ql];exact hk),?_⟩
   rw [ts0,<- map_set]
   rw [ts0] at eL1
   have nets:cs.map (·.1)≠[]:=fun z=>by have:=congrArg List.length z;rw [length_map,length_nil] at this;omega
   have op:∀{t},Dy H J1 t->Dy H (upd J1 L (.lst (((cs.map (·.1)).set k t3).map V.ref))) t:=NF eL1 nets fun t m=>(gt0 t m).same sJ1
   refine ⟨⟨_,_,_,rfl⟩,⟨A1 (s1.trans sJ1) hL,hL,_,Ab,fun t m=>?_⟩,.inl (by omega)⟩
   rcases mem_or_eq_of_mem_set m with m | m
   ·exact op ((gt0 t m).same sJ1)
   ·rw [m]
    exact op ⟨r.2.1.1,r.2.2.1.1,.ref t2,r.2.1.2.map (·.1),fqv r.2.2.1.2,et3,fr.1,fr.2.1,sJ1 _ _ eR,fun W wm=>by
     obtain ⟨y,ym,rfl⟩:=mem_map.mp wm
     exact (rows y ym).1.same sJ1,sJ1 _ _ gsl,fun v vm=>(fS v vm).same sJ1,ft.same j1⟩
  ·refine ifF (DH a4) ?_
   exact ⟨⟨_,_,_,rfl⟩,fj,jo.imp (fun z=>by omega) id⟩
 rintro σ' J ⟨⟨v9,v10,v11,rfl⟩,fj,jo⟩
 and_intros
 refine ⟨fun σ' J=>(∃v9 v10 v11:Option V,σ'=[some (.ref p),some (.int w),some (.int c'),some (.int (h:Int)),some (.ref L),some (.int (k:Int)),some (.ref r.2.1.1),some (.ref r.2.2.1.1),some (.ref r.2.2.2.1),v9,v10,v11])/\(Au H J/\Il H J L),?_,?_⟩
 ·and_intros
  by_cases a5:w=5
  ·obtain rfl:=jo.resolve_left (by omega)
   refine ifT (DI a5) ?_
   and_intros
   refine ⟨.inl ⟨rfl,_,SqL.of grl⟩,?_⟩
   and_intros
   rw [wl]
   refine ⟨(by show (_:Int)≠0;omega),?_⟩
   dsimp only
   rw [ejl]
   and_intros
   refine ⟨r.2.1.1,_,_,jl,.ref x.1,rfl,rfl,eR,by omega,by omega,PM (by rw [length_map,length_map];omega),by rw [List.getElem?_map,List.getElem?_map,hx];rfl,?_⟩
   rw [Fa]
   refine ⟨⟨_,_,_,rfl⟩,fin0 (HQ s1 fr.1 eR neW (fun W m=>?_) fun W m=>?_)⟩
   ·obtain ⟨y,ym,rfl⟩:=mem_map.mp m
    exact (rows y ym).1
   ·obtain ⟨y,ym,rfl⟩:=mem_map.mp (mem_of_mem_eraseIdx m)
    exact (rows y ym).1
  ·refine ifF (DH a5) ?_
   exact ⟨⟨_,_,_,rfl⟩,fj⟩
 rintro σ' J ⟨⟨v9,v10,v11,rfl⟩,fj⟩
 and_intros
 exact fin fj.1 fj.2
theorem Ch (T:Tx K mg ad):AG P w K mg base CX0 2 ad.f_Seats_standing_by_lots ad.d_Seats_standing_by_lots ["self","standing"] (TZ ad.c_Seats):=by
 refine T.F_Seats_standing_by_lots.ok DJ (fun vs H Q E h=>?_) (fun cdv A outer s H vs Q E hr h=>?_)
 ·obtain ⟨a,h,s,xs,m,rfl,_⟩:=h
  rfl
 obtain ⟨a,h,s,xs,m,rfl,is,x0,x12,q⟩:=h
 refine ⟨_,(@Ah _ _ _ (@Ao _ _ _ _ (Cp (fsc:=Ad A7) (N:=["self","standing"]) (Nc:=["self","standing","hand"]) rfl rfl (by nofun) rfl (B1 (Dv (pv 0) rfl)) (fun _ _ _ _=>(Hi (@CD _ _ _ (@Aj _ _ _ _ _ _ _ _ _ _ _ _ _ _ _ _ (KH T) (hr.mono (by decide)) rfl T.m_holds T.F_holds.kp T.b_holds .nil Ar ((pv 1)*>((pv 2)*>Ae)) (by decide) (by rfl) (by rfl)) (by intro _;rfl)))) (fun _ _ _ _=>(pv 2))))),?_⟩
 obtain ⟨dx,l,k1,k2⟩:=is
 refine ⟨_,rfl,a,_,dx,_,_,rfl,k1,T.cl_Seats,T.na_Seats_lots,rfl,?_⟩
 refine ⟨l,rfl,⟨_,SqL.of k2⟩,?_⟩
 have xl:(xs.map V.int).length=xs.length:=length_map ..
 refine Cy (xs:=xs.map V.int) (by rw [xl];exact Bx (by omega)) (fun D i ys J=>ys=(Bc (xs.take i) m).map V.int/\J=upd H D (.lst ys)) (fun D hD=>⟨rfl,rfl⟩) (fun D i ys J hq_=>by obtain ⟨f1,f2⟩:=hq_;exact ⟨by rw [f2];exact Ab,by rw [f1,length_map];exact Nat.le_trans (length_filter_le ..) (length_take_le _ _)⟩) (fun D i ys J hD hq_=>by obtain ⟨_,f2⟩:=hq_;rw [f2];exact SqL.of (Ag hD _ _ _ k2)) ?_ ?_
 ·rintro D i y ys J K1 K2 hD hy ⟨e,rfl⟩ kk1 kk2
  obtain ⟨x,hx,rfl⟩:=E5 hy
  have tk:Bc (xs.take (i+1)) m=Bc (xs.take i) m++(if bit m x.toNat=true then [x] else []):=by
   unfold Bc
   rw [take_add_one,hx,filter_append]
   show _++List.filter _ [x]=_
   rw [filter_cons]
   rfl
  refine ⟨_,rfl,_,rfl,m,x,rfl,x0 x (mem_of_getElem? hx),_,rfl,?_⟩
  cases b:bit m x.toNat with
  | true =>
    refine ifT rfl ?_
    rw [b,if_pos rfl] at tk
    refine ⟨_,rfl,kk1 _ _ Ab ⟨?_,by rw [Dk]⟩⟩
    rw [tk,map_append,e]
    rfl
  | false =>
    refine ifF rfl ?_
    rw [b,if_neg (by decide),append_nil] at tk
    exact kk2 _ ⟨by rw [tk];exact e,rfl⟩
 rintro D ys J hD ⟨rfl,rfl⟩
 rw [xl,take_of_length_le (Nat.le_refl _)]
 exact q D _ (Ag hD _) Ab
theorem PC (T:Tx K mg ad):AG P w K mg base CX0 3 ad.f_minus ad.d_minus ["one","other"] (JZ K (fun t b u c=>t*c - u*b) (fun t b u c=>b*c)):=by
 refine T.F_minus.ok On (fun vs H Q E h=>?_) (fun cdv A outer s H vs Q E hr h=>?_)
 ·obtain ⟨p,r,t,b,u,c,rfl,_⟩:=h
  rfl
 obtain ⟨p,r,t,b,u,c,rfl,h1,h2,ne,st,sb,su,sc,q⟩:=h
 refine ⟨_,(@Ah _ _ _ (@Ao _ _ _ _ (@Aj _ _ _ _ _ _ _ _ _ _ _ _ _ _ _ _ (DP T) (hr.mono (by decide)) rfl T.m_fraction T.F_fraction.kp T.b_fraction .nil Ar ((EI<&>((AO<&>((@At _ _ _ _ _ _ _ Ay (pv 0) Af (fun _ _=>rfl))<|>(@At _ _ _ _ _ _ _ Ay (pv 1) Af (fun _ _=>rfl))))<|>(AO<&>((@At _ _ _ _ _ _ _ Ay (pv 1) Af (fun _ _=>rfl))<|>(@At _ _ _ _ _ _ _ Ay (pv 0) Af (fun _ _=>rfl))))))*>((AO<&>((@At _ _ _ _ _ _ _ Ay (pv 0) Af (fun _ _=>rfl))<|>(@At _ _ _ _ _ _ _ Ay (pv 1) Af (fun _ _=>rfl))))*>Ae)) (by decide) (by rfl) (by rfl)))),?_⟩
 and_intros
 exact ⟨_,_,rfl,ne,((st.mul sc).sub (su.mul sb)).mono (by decide),(sb.mul sc).mono (by decide),fun z H' s' e'=>q z H' s' e'⟩
theorem OQ (T:Tx K mg ad):AG P w K mg base CX0 3 ad.f_times ad.d_times ["one","other"] (JZ K (fun t b u c=>t*u) (fun t b u c=>b*c)):=by
 refine T.F_times.ok Px (fun vs H Q E h=>?_) (fun cdv A outer s H vs Q E hr h=>?_)
 ·obtain ⟨p,r,t,b,u,c,rfl,_⟩:=h
  rfl
 obtain ⟨p,r,t,b,u,c,rfl,h1,h2,ne,st,sb,su,sc,q⟩:=h
 refine ⟨_,(@Ah _ _ _ (@Ao _ _ _ _ (@Aj _ _ _ _ _ _ _ _ _ _ _ _ _ _ _ _ (DP T) (hr.mono (by decide)) rfl T.m_fraction T.F_fraction.kp T.b_fraction .nil Ar ((AO<&>((@At _ _ _ _ _ _ _ Ay (pv 0) Af (fun _ _=>rfl))<|>(@At _ _ _ _ _ _ _ Ay (pv 1) Af (fun _ _=>rfl))))*>((AO<&>((@At _ _ _ _ _ _ _ Ay (pv 0) Af (fun _ _=>rfl))<|>(@At _ _ _ _ _ _ _ Ay (pv 1) Af (fun _ _=>rfl))))*>Ae)) (by decide) (by rfl) (by rfl)))),?_⟩
 and_intros
 exact ⟨_,_,rfl,ne,(st.mul su).mono (by decide),(sb.mul sc).mono (by decide),fun z H' s' e'=>q z H' s' e'⟩
theorem N7 (T:Tx K mg ad):AG P w K mg base CX0 3 ad.f_parted ad.d_parted ["one","other"] (JZ K (fun t b u c=>t*c) (fun t b u c=>b*u)):=by
 refine T.F_parted.ok NV (fun vs H Q E h=>?_) (fun cdv A outer s H vs Q E hr h=>?_)
 ·obtain ⟨p,r,t,b,u,c,rfl,_⟩:=h
  rfl
 obtain ⟨p,r,t,b,u,c,rfl,h1,h2,ne,st,sb,su,sc,q⟩:=h
 refine ⟨_,(@Ah _ _ _ (@Ao _ _ _ _ (@Aj _ _ _ _ _ _ _ _ _ _ _ _ _ _ _ _ (DP T) (hr.mono (by decide)) rfl T.m_fraction T.F_fraction.kp T.b_fraction .nil Ar ((AO<&>((@At _ _ _ _ _ _ _ Ay (pv 0) Af (fun _ _=>rfl))<|>(@At _ _ _ _ _ _ _ Ay (pv 1) Af (fun _ _=>rfl))))*>((AO<&>((@At _ _ _ _ _ _ _ Ay (pv 0) Af (fun _ _=>rfl))<|>(@At _ _ _ _ _ _ _ Ay (pv 1) Af (fun _ _=>rfl))))*>Ae)) (by decide) (by rfl) (by rfl)))),?_⟩
 and_intros
 exact ⟨_,_,rfl,ne,(st.mul sc).mono (by decide),(sb.mul su).mono (by decide),fun z H' s' e'=>q z H' s' e'⟩
theorem JE (T:Tx K mg ad):AG P w K mg base CX0 3 ad.f_table_row ad.d_table_row ["slip","free","kept","standing"] (LZ 4500):=by
 refine T.F_table_row.ok CB (fun vs H Q E h=>?_) (fun cdv A outer s H vs Q E hr h=>?_)
 ·obtain ⟨sp,kl,h,ts,fr,ks,s,rfl,_⟩:=h
  rfl
 obtain ⟨sp,kl,h,ts,fr,ks,s,rfl,hT,gf,fb,hk,gk,ke,h12,l0,l1,win,wl12,q⟩:=h
 refine ⟨_,((@Ak _ _ (4) _ _ _ _ CB.nd rfl (Or.inl rfl) (@Bt _ _ _ _ _ _ _ _ _ AX (by rfl) T.z_list PyProof.Rows.boot_list ((pv 2)*>Ae) (by decide) (by decide) (by rfl) (by rfl)) (by rfl) (by nofun))>>((@Ak _ _ (5) _ _ _ _ CB.nd rfl (Or.inl rfl) (@Aj _ _ _ _ _ _ _ _ _ _ _ _ _ _ _ _ (Ik T) (hr.mono (by decide)) rfl T.m_members T.F_members.kp T.b_members .nil Ar ((@Aj _ _ _ _ _ _ _ _ _ _ _ _ _ _ _ _ (No T) (hr.mono (by decide)) rfl T.m_lies T.F_lies.kp T.b_lies .nil Ar ((pv 0)*>((pv 3)*>Ae)) (by decide) (by rfl) (by rfl))*>Ae) (by decide) (by rfl) (by rfl)) (by rfl) (by nofun))>>((@AS _ _ _ _ _ _ _ _ (@Aq _ _ _ _ _ _ _ _ (Fp (K:=K) hr.units) (pv 5) (@BU _ _ _ _ Ae) (Aw _)) ((@BE _ _ _ _ (Eg PySem.F.plainAttrs_list PySem.F.slot_list_append PySem.F.type_list_append BO (pv 4) ((pv 1)*>Ae)) (by rfl))>>(@Ah _ _ _ (@Ao _ _ _ _ (pv 4)))) As)>>((@BE _ _ _ _ (Eg PySem.F.plainAttrs_list PySem.F.slot_list_append PySem.F.type_list_append BO (pv 4) ((@AI _ _ _ _ _ (Af*>(Af*>Ae)))*>Ae)) (by rfl))>>((@Ak _ _ (6) _ _ _ _ CB.nd rfl (Or.inl rfl) (@Aj _ _ _ _ _ _ _ _ _ _ _ _ _ _ _ _ (FM T) (hr.mono (by decide)) rfl T.m_even_part T.F_even_part.kp T.b_even_part .nil Ar ((pv 1)*>((@A2 _ _ _ _ _ _ _ _ _ A6 (by rfl) T.z_len PySem.boot_len ((pv 5)*>Ae) (by decide) (by decide) (by rfl) (by rfl))*>Ae)) (by decide) (by rfl) (by rfl)) (by rfl) (by nofun))>>((D9 PassesOwn.never rfl (B1 (pv 5)) (Bg (i:=7) CB.nd rfl (Or.inl rfl)) (@Ah _ _ _ (Eu (pv 6) (EE (pv 4) (pv 7) Do))))>>(@Ah _ _ _ (@Ao _ _ _ _ (pv 4))))))))),?_⟩
 have p12:(2:Int) ^ h<=4096:=by
  have:=Nat.pow_le_pow_right (show 0 < 2 by decide) h12
  exact_mod_cast this
 and_intros
 intro r hr0
 have s1:=Ag hr0 (.lst (fqv ks))
 have e1:(upd H r (.lst (fqv ks))) r=some (.lst (fqv ks)):=Ab
 generalize upd H r (.lst (fqv ks))=H1 at s1 e1 ⊢
 and_intros
 refine ⟨sp,ts,s,rfl,SqT.of (s1 _ _ hT),?_⟩
 and_intros
 refine ⟨l0,by omega,fun wl H2 hwl s2 e2=>?_⟩
 have e2':H2 wl=some (.lst ((A3 ts s).map V.int)):=e2
 have r2:=s2 _ _ e1
 have s12:=s1.trans s2
 generalize A3 ts s=wh at e2' win wl12 q
 clear e2
 have fl:(fqv ks).length=ks.length:=length_map ..
 and_intros
 refine ⟨(by show 0<=sizeLine;decide),fun e0 he0=>?_⟩
 have s3:=Ag he0 (.lst [])
 have ee0:(upd H2 e0 (.lst [])) e0=some (.lst []):=Ab
 generalize upd H2 e0 (.lst [])=H3 at s3 ee0 ⊢
 have s13:=s12.trans s3
 have r3:=s3 _ _ r2
 have w3:=s3 _ _ e2'
 refine ⟨.list (wh.map .int),.list (([]:List Int).map .int),.lst (SqL.of w3) (.ints _),.lst (SqL.of ee0) .nil,(Ex _).2,(Ex _).2,?_⟩
 rw [show ∀x y:List Int,PyData.eqv (.list (x.map .int)) (.list (y.map .int))=decide (x=y) from fun x y=>EJ x y]
 by_cases cw:wh=[]
 ·refine ⟨_,rfl,ifT (decide_eq_true cw) ?_⟩
  and_intros
  refine ⟨.inl ⟨rfl,_,SqL.of r3⟩,?_⟩
  and_intros
  refine ⟨r,_,_,rfl,rfl,r3,(by rw [fl];exact Nat.lt_of_le_of_lt (show ks.length<=12 by omega) (by decide)),?_⟩
  rw [show fqv ks++[V.ref fr.1]=fqv (ks++[fr]) from by unfold fqv;rw [map_append];rfl]
  refine ⟨_,rfl,q r (ks++[fr]) _ hr0 (A1 s13 hr0) Ab (fun f m=>FqG.upd ?_ r3) ?_⟩
  ·rcases mem_append.mp m with m | m
   ·exact (gk f m).same s13
   ·rw [mem_singleton.mp m];exact gf.same s13
  ·unfold Ky
   rw [if_pos cw,map_append]
   rfl
 refine ⟨_,rfl,ifF (decide_eq_false cw) ?_⟩
 have wl1:0 < wh.length:=length_pos_iff.mpr cw
 and_intros
 refine ⟨.inl ⟨rfl,_,SqL.of r3⟩,?_⟩
 and_intros
 refine ⟨(by show 2<=sizeLine;decide),fun z0 hz0=>?_⟩
 have s4:=Ag hz0 (.tup [V.int 0,V.int 1])
 have e4:(upd H3 z0 (.tup [V.int 0,V.int 1])) z0=some (.tup [V.int 0,V.int 1]):=Ab
 generalize upd H3 z0 (.tup [V.int 0,V.int 1])=H4 at s4 e4 ⊢
 have r4:=s4 _ _ r3
 have s14:=s13.trans s4
 refine ⟨r,_,_,rfl,rfl,r4,(by rw [fl];exact Nat.lt_of_le_of_lt (show ks.length<=12 by omega) (by decide)),?_⟩
 rw [show fqv ks++[V.ref z0]=fqv (ks++[(z0,0,1)]) from by unfold fqv;rw [map_append];rfl]
 have s15:Au H (upd H4 r (.lst (fqv (ks++[(z0,0,1)])))):=A1 s14 hr0
 have r5:(upd H4 r (.lst (fqv (ks++[(z0,0,1)])))) r=some (.lst (fqv (ks++[(z0,0,1)]))):=Ab
 have w5:(upd H4 r (.lst (fqv (ks++[(z0,0,1)])))) wl=some (.lst (wh.map V.int)):=by
  rw [Al (fun z=>by rw [z,e1] at hwl;cases hwl)]
  exact s4 _ _ w3
 have g5:∀f∈ks++[(z0,0,1)],FqG (upd H4 r (.lst (fqv (ks++[(z0,0,1)])))) f:=fun f m=>FqG.upd (by
  rcases mem_append.mp m with m | m
  ·exact (gk f m).same s14
  ·rw [mem_singleton.mp m];exact e4) r4
 generalize upd H4 r (.lst (fqv (ks++[(z0,0,1)])))=H5 at s15 r5 w5 g5 ⊢
 have wm:(wh.map V.int).length=wh.length:=length_map ..
 and_intros
 refine ⟨fr,wh.length,(by show [_,V.int ((wh.map V.int).length:Int)]=_;rw [wm]),gf.same s15,fb,by omega,wl12,fun T H6 hT6 s6 e6=>?_⟩
 have s16:=s15.trans s6
 have r6:=s6 _ _ r5
 have w6:=s6 _ _ w5
 have wr:wl≠r:=fun z=>by rw [z,e1] at hwl;cases hwl
 and_intros
 refine ⟨⟨_,SqL.of w6⟩,EQ (xs:=wh.map V.int) (fun i σ' J=>∃(fs:List Fq) (v7:Option V),σ'=[some (.ref sp),some (.ref fr.1),some (.ref kl),some (.int s),some (.ref r),some (.ref wl),some (.ref T),v7]/\Au H J/\J r=some (.lst (fqv fs))/\J wl=some (.lst (wh.map V.int))/\(∀f∈fs,FqG J f)/\fs.length=h+1/\fs.map (·.2)=(wh.take i).foldl (fun r x=>r.set x.toNat (Bi fr.2 wh.length)) (ks.map (·.2)++[(0,1)])/\FqG J (T,Bi fr.2 wh.length)) ⟨ks++[(z0,0,1)],none,rfl,s16,r6,w6,(fun f m=>(g5 f m).same s6),(by rw [length_append,ke];rfl),(by rw [map_append];rfl),e6⟩ (fun i σ' J _ hq_=>by obtain ⟨_,_,_,_,_,e,_⟩:=hq_;exact SqL.of e) ?_ ?_⟩
 ·rintro i x σ' J hx ⟨fs,v7,rfl,sJ,rJ,wJ,gJ,lJ,vJ,pJ⟩
  obtain ⟨y,hy,rfl⟩:=E5 hx
  obtain ⟨y0,y1⟩:=win y (mem_of_getElem? hy)
  obtain ⟨j,rfl⟩:∃j:Nat,y=(j:Int):=⟨y.toNat,by omega⟩
  and_intros
  refine ⟨r,_,_,j,rfl,rfl,rJ,DQ (by unfold fqv;rw [length_map];omega),?_⟩
  rw [show (fqv fs).set j (V.ref T)=fqv (fs.set j (T,Bi fr.2 wh.length)) from MT fs j (T,Bi fr.2 wh.length)]
  refine ⟨fs.set j (T,Bi fr.2 wh.length),_,rfl,A1 sJ hr0,Ab,by rw [Al wr];exact wJ,(fun f m=>FqG.upd ?_ rJ),by rw [length_set];exact lJ,?_,FqG.upd pJ rJ⟩
  ·rcases mem_or_eq_of_mem_set m with m | rfl
   ·exact gJ f m
   ·exact pJ
  ·rw [take_add_one,hy,map_set,vJ]
   show _=List.foldl _ _ (_++[(j:Int)])
   rw [foldl_append,foldl_cons,foldl_nil,Int.toNat_natCast]
 rintro σ' J ⟨fs,v7,rfl,sJ,rJ,wJ,gJ,lJ,vJ,pJ⟩
 rw [length_map,take_of_length_le (Nat.le_refl _)] at vJ
 refine ⟨_,rfl,q r fs J hr0 sJ rJ gJ ?_⟩
 unfold Ky
 rw [if_neg cw]
 exact vJ
theorem HA (T:Tx K mg ad):AG P w K mg base CX0 3 ad.f_weighed ad.d_weighed ["sheet","shares"] Pr:=by
 refine T.F_weighed.ok DB (fun vs H Q E h=>?_) (fun cdv A outer s H vs Q E hr h=>?_)
 ·obtain ⟨l,sl,ls,fs,M,rfl,_⟩:=h
  rfl
 obtain ⟨l,sl,ls,fs,M,rfl,hl,gl,hs,gf',M0,Mz,le,l60,nz',q⟩:=h
 refine ⟨_,((@Ak _ _ (2) _ _ _ _ DB.nd rfl (Or.inl rfl) KU (by rfl) (by nofun))>>((D9 PassesOwn.never rfl (JP rfl T.z_zip ((pv 0)*>((pv 1)*>Ae))) (Fw rfl (Be (Bg (i:=3) DB.nd rfl (Or.inl rfl)) (Be (Bg (i:=4) DB.nd rfl (Or.inl rfl)) E4))) (@Ah _ _ _ (@AS _ _ _ _ _ _ _ _ (@Aq _ _ _ _ _ _ _ _ MH (@At _ _ _ _ _ _ _ Ay (pv 4) Af (fun _ _=>rfl)) Af (Aw _)) (@Ah _ _ _ (Hh (u1 hr.units) (pv 2) (@At _ _ _ _ _ _ _ Ay (pv 4) Af (fun _ _=>rfl)) (AQ<&>((HV (u1 hr.units) (pv 2) (@At _ _ _ _ _ _ _ Ay (pv 4) Af (fun _ _=>rfl)) Af ⟨rfl,rfl,rfl,rfl⟩)<|>(AO<&>((@At _ _ _ _ _ _ _ Ay (pv 3) Af (fun _ _=>rfl))<|>(@At _ _ _ _ _ _ _ Ay (pv 4) Af (fun _ _=>rfl)))))) rfl)) As)))>>((@Ak _ _ (5) _ _ _ _ DB.nd rfl (Or.inr rfl) (@Aj _ _ _ _ _ _ _ _ _ _ _ _ _ _ _ _ (Gg T) (hr.mono (by decide)) rfl T.m_common_bottom T.F_common_bottom.kp T.b_common_bottom .nil Ar ((pv 2)*>Ae) (by decide) (by rfl) (by rfl)) (by rfl) (by nofun))>>(@Ah _ _ _ (@Ao _ _ _ _ (@Aj _ _ _ _ _ _ _ _ _ _ _ _ _ _ _ _ (DP T) (hr.mono (by decide)) rfl T.m_fraction T.F_fraction.kp T.b_fraction .nil Ar ((@A2 _ _ _ _ _ _ _ _ _ (HC rfl) (by rfl) T.z_sum PyProof.Rows.boot_sum ((PK (Io (fsc:=Ad CU) (N:=["sheet","shares","tops","line","share","common"]) (Nc:=["sheet","shares","tops","line","share","common","bottom","top"]) rfl rfl ⟨rfl,by decide +kernel,by decide +kernel,by decide +kernel,by decide +kernel,rfl,by decide +kernel,rfl,by decide +kernel⟩ rfl (Pb (Jw PySem.F.plainAttrs_dict PySem.F.slot_dict_items PySem.F.type_dict_items Qh (pv 2))) (fun _ _ _ _=>B2) (fun _ _ _ _=>(AO<&>((pv 7)<|>(AR<&>((pv 5)<|>(pv 6))))))))*>Ae) (by decide) (by decide) (by rfl) (by rfl))*>((pv 5)*>Ae)) (by decide) (by rfl) (by rfl))))))),?_⟩
 have gf:∀f∈fs,FqG H f/\FqB 4500 f:=fun f m=>⟨(gf' f m).1,(gf' f m).2.fq M0 Mz⟩
 have nz:∀q∈ls,Sz 64 q.2.2.2:=fun q m=>(nz' q m).2
 have zl:(Da ls fs).length=ls.length:=by unfold Da;rw [length_map,length_zip,le,Nat.min_self]
 have fl:(fqv fs).length=fs.length:=length_map ..
 and_intros
 intro d hd
 have s0:=Ag hd (.dK [])
 have e0:(upd H d (.dK [])) d=some (.dK []):=Ab
 generalize upd H d (.dK [])=H0 at s0 e0 ⊢
 have inv0:∀φ,GN φ []=Ec φ ((Da ls fs).take 0):=fun φ=>rfl
 and_intros
 refine ⟨l,sl,rfl,⟨_,SqL.of (s0 _ _ hl)⟩,⟨_,SqL.of (s0 _ _ hs)⟩,?_⟩
 refine MC (xs:=vls ls) (ys:=fqv fs) (by rw [DT,fl,le]) (fun i σ' J=>∃(v3 v4:Option V) (ps:List (Int × Int)),σ'=[some (.ref l),some (.ref sl),some (.ref d),v3,v4,none]/\Au H J/\J d=some (.dK (DV ps))/\(ps.map (·.1)).Nodup/\ps.length<=i/\Tq 4500 ps/\(∀q∈ps,q.1 ∣ M)/\(∀q∈ps,Sz (64+4500+i) q.2)/\(∀q∈ps,∃z∈(Da ls fs).take i,z.2.1≠0/\z.2.2=q.1)/\(∀z∈(Da ls fs).take i,z.2.1≠0->z.2.2∈ps.map (·.1))/\∀φ,GN φ ps=Ec φ ((Da ls fs).take i)) ⟨none,none,[],rfl,s0,e0,nodup_nil,Nat.le_refl _,⟨(fun _ m=>absurd m List.not_mem_nil),fun _ m=>absurd m List.not_mem_nil⟩,(fun _ m=>absurd m List.not_mem_nil),(fun _ m=>absurd m List.not_mem_nil),(fun _ m=>absurd m List.not_mem_nil),(fun _ m=>absurd m List.not_mem_nil),inv0⟩ (fun i σ' J _ hq_=>by obtain ⟨_,_,_,_,e,_⟩:=hq_;exact ⟨SqL.of (e _ _ hl),SqL.of (e _ _ hs)⟩) ?_ ?_
 ·rintro i x y T σ' J hx hy ⟨v3,v4,ps,rfl,sJ,ed,nd,pl,tb,tm,pz,pin,inp,sm⟩ hT
  obtain ⟨f,hf,rfl,fm,et⟩:=GS hx
  unfold fqv at hy
  rw [List.getElem?_map] at hy
  obtain ⟨g,hg,rfl⟩:=Option.map_eq_some_iff.mp hy
  obtain ⟨gg,gb⟩:=gf g (mem_of_getElem? hg)
  have il:=(List.getElem?_eq_some_iff.mp hf).1
  have wz:(Da ls fs).take (i+1)=(Da ls fs).take i++[(f.2.2.2,g.2.1,g.2.2)]:=by
   have:(Da ls fs)[i]?=some (f.2.2.2,g.2.1,g.2.2):=by
    unfold Da
    rw [List.getElem?_map,show (ls.zip fs)[i]?=some (f,g) from List.getElem?_zip_eq_some.mpr ⟨hf,hg⟩]
    rfl
   rw [take_add_one,this]
   rfl
  have s1:=Ag hT (.tup [V.ref f.1,V.ref g.1])
  have e1:(upd J T (.tup [V.ref f.1,V.ref g.1])) T=some (.tup [V.ref f.1,V.ref g.1]):=Ab
  generalize upd J T (.tup [V.ref f.1,V.ref g.1])=J1 at s1 e1 ⊢
  have sJ1:=sJ.trans s1
  have g1:J1 g.1=some (.tup [.int g.2.1,.int g.2.2]):=sJ1 _ _ gg
  have f1:=sJ1 _ _ (gl f fm).1
  have ed1:=s1 _ _ ed
  have nf:=nz f fm
  have szt:=gb.szt
  refine ⟨T,_,rfl,SqT.of e1,rfl,_,_,rfl,_,_,rfl,rfl,?_⟩
  and_intros
  by_cases c:g.2.1=0
  ·refine ifF (RF c) ?_
   refine ⟨_,_,ps,rfl,sJ1,ed1,nd,Nat.le_succ_of_le pl,tb,tm,(fun q m=>(pz q m).mono (by omega)),(fun q m=>?_),(fun z m ne=>?_),fun φ=>?_⟩
   ·obtain ⟨z,zm,zz⟩:=pin q m
    exact ⟨z,by rw [wz];exact mem_append_left _ zm,zz⟩
   ·rw [wz] at m
    rcases mem_append.mp m with m | m
    ·exact inp z m ne
    ·rw [mem_singleton.mp m] at ne;exact absurd c ne
   ·rw [wz,Jd,sm φ,if_pos c,Int.add_zero]
  refine ifT (Sd c) ?_
  and_intros
  refine ⟨.inl ⟨_,.inl ed1⟩,?_⟩
  and_intros
  refine ⟨_,Gb.k (k:=(Sum.inl g.2.2:Key)) ed1,?_⟩
  rw [MV,R4]
  and_intros
  refine ⟨d,_,rfl,IF.k (k:=Sum.inl g.2.2) ed1 (by unfold DV;rw [length_map];exact Nat.lt_of_le_of_lt pl (Nat.lt_of_lt_of_le il (Nat.le_trans l60 (by decide)))),?_⟩
  dsimp only
  rw [Rt]
  have old:Sz (64+4500+i) ((Fr ps g.2.2).getD 0):=by
   cases e:Fr ps g.2.2 with
   | none=>show (0:Int).natAbs < _;exact Nat.pow_pos (by decide)
   | some v=>exact pz _ (PB e)
  refine ⟨_,_,FT ps g.2.2 ((Fr ps g.2.2).getD 0+f.2.2.2*g.2.1),rfl,A1 sJ1 hd,Ab,QX nd,Nat.le_trans (OP ..) (Nat.succ_le_succ pl),⟨fun q m=>?_,fun q m=>?_⟩,(fun q m=>?_),(fun q m=>?_),(fun q m=>?_),(fun z m ne=>?_),fun φ=>?_⟩
  ·rcases EL m with m | rfl
   ·exact tb.b0 q m
   ·exact gb.b0
  ·rcases EL m with m | rfl
   ·exact tb.szb q m
   ·exact gb.szb
  ·rcases EL m with m | rfl
   ·exact tm q m
   ·exact (gf' g (mem_of_getElem? hg)).2.dv
  ·rcases EL m with m | rfl
   ·exact (pz q m).mono (by omega)
   ·exact (old.add (nf.mul szt)).mono (by omega)
  ·rcases EL m with m | rfl
   ·obtain ⟨z,zm,zz⟩:=pin q m
    exact ⟨z,by rw [wz];exact mem_append_left _ zm,zz⟩
   ·exact ⟨(f.2.2.2,g.2.1,g.2.2),by rw [wz];exact mem_append_right _ (mem_singleton.mpr rfl),c,rfl⟩
  ·rw [wz] at m
   rcases mem_append.mp m with m | m
   ·exact O6 (inp z m ne)
   ·rw [mem_singleton.mp m];exact OE
  ·rw [wz,Jd,Pu φ _ _ nd,sm φ,if_neg c]
 rintro σ' J ⟨v3,v4,ps,rfl,sJ,ed,nd,pl,tb,tm,pz,pin,inp,sm⟩
 rw [DT] at pl pz pin inp sm
 rw [<- zl,take_of_length_le (Nat.le_refl _)] at pin inp sm
 and_intros
 refine ⟨d,ps,M,rfl,ed,(fun q m=>⟨tb.b0 q m,tm q m⟩),M0,Mz,by omega,fun D J1 j1 D0 Dd Dm=>?_⟩
 have Dz:=Es Dm M0 Mz
 have sJ1:=sJ.trans j1
 have ed1:=j1 _ _ ed
 and_intros
 refine ⟨.inr (.inr (.inl ⟨rfl,.inl ⟨_,ed1⟩⟩)),?_⟩
 refine ⟨d,_,rfl,rfl,ed1,fun v hv=>?_⟩
 have j2:=Ag hv (hoI v d)
 have e2:(upd J1 v (hoI v d)) v=some (hoI v d):=Ab
 generalize upd J1 v (hoI v d)=J2 at j2 e2 ⊢
 have sJ2:=sJ1.trans j2
 have ed2:=j2 _ _ ed1
 refine ⟨v,d,_,rfl,e2,ed2,fun ob fo=>?_⟩
 have sF:Au H (upd J2 d (hoF d ob)):=A1 sJ2 hd
 have eF:(upd J2 d (hoF d ob)) d=some (hoF d ob):=Ab
 generalize upd J2 d (hoF d ob)=J3 at sF eF ⊢
 have szD:Sz 6100 D:=Dz.mono (by decide)
 refine LL (d:=d) (ob:=ob) (kvs:=DV ps) rfl rfl (by rw [MS];exact Bx (by omega)) (fun C i ys J=>ys=((ps.take i).map fun q=>q.2*D.fdiv q.1).map V.int/\J C=some (.lst ys)/\Au J3 J) (fun C hC=>⟨rfl,Ab,Ag hC _⟩) (fun C i ys J hq_=>by obtain ⟨f1,f2,_⟩:=hq_;exact ⟨f2,by rw [f1,length_map,length_map];exact length_take_le _ _⟩) (fun C i ys J hC hq_=>by obtain ⟨_,_,f3⟩:=hq_;exact f3 _ _ eF) ?_ ?_
 ·rintro C i k y T ys J K1 K2 hC hkv ⟨rfl,n1,n2⟩ hT kk1 kk2
  obtain ⟨q0,hq0,rfl,rfl⟩:=SI hkv
  have qm:=mem_of_getElem? hq0
  have b0:=tb.b0 q0 qm
  have bz:Sz 9000 q0.1:=(tb.szb q0 qm).mono (by decide)
  have tz:Sz 4700 q0.2:=(pz q0 qm).mono (by omega)
  have dz:Sz 6100 (D.fdiv q0.1):=szD.fdiv
  have s1:=Ag hT (.tup [kV (Sum.inl q0.1),V.int q0.2])
  generalize upd J T (.tup [kV (Sum.inl q0.1),V.int q0.2])=J4 at s1 ⊢
  have n1':=s1 _ _ n1
  refine yes (ifT rfl ?_)
  refine ⟨_,rfl,_,rfl,_,rfl,_,_,rfl,rfl,⟨by omega,bz⟩,?_⟩
  refine ⟨_,_,rfl,rfl,TL tz dz,?_⟩
  refine kk1 _ _ n1' ⟨?_,Ab,A1 (n2.trans s1) hC⟩
  rw [take_add_one,hq0,map_append,map_append]
  rfl
 rintro C ys J4 hC ⟨rfl,n1,n2⟩
 rw [MS,take_of_length_le (Nat.le_refl _)] at n1
 have Cd:C≠d:=fun z=>by rw [z,eF] at hC;cases hC
 refine ⟨d,ob,DV ps,n2 _ _ eF,fo,?_⟩
 have sG:Au H (upd J4 d (.dK (DV ps))):=A1 (sF.trans n2) hd
 have eG:(upd J4 d (.dK (DV ps))) C=some (.lst ((ps.map fun q=>q.2*D.fdiv q.1).map V.int)):=by rw [Al Cd];exact n1
 generalize upd J4 d (.dK (DV ps))=J5 at sG eG ⊢
 refine ⟨C,_,rfl,SqL.of eG,?_⟩
 have szS:Sz 13500 (ps.map fun q=>q.2*D.fdiv q.1).sum:=(Mt (n:=4700+6100) fun x m=>by
  obtain ⟨q0,qm,rfl⟩:=mem_map.mp m
  exact ((pz q0 qm).mono (show _<=4700 by omega)).mul szD.fdiv).mono (by rw [length_map];omega)
 have eS:(ps.map fun q=>q.2*D.fdiv q.1).sum=Ec (fun b=>D.fdiv b) (Da ls fs):=sm fun b=>D.fdiv b
 and_intros
 refine ⟨_,D,rfl,by omega,szS,szD.mono (by decide),fun T H' s' e'=>?_⟩
 rw [eS] at e'
 have dvd:Cm (Ec (fun b=>D.fdiv b) (Da ls fs)) D ∣ M:=by
  obtain ⟨g,g0,h1,h2⟩:=FB (v:=Ec (fun b=>D.fdiv b) (Da ls fs)) D0
  exact Int.dvd_trans ⟨g,h2⟩ Dm
 exact q T (Cr (Ec (fun b=>D.fdiv b) (Da ls fs)) D,Cm (Ec (fun b=>D.fdiv b) (Da ls fs)) D) H' (sG.trans s') ⟨⟨D,D0,(fun z zm zn=>by
  obtain ⟨q0,qm,e⟩:=mem_map.mp (inp z zm zn)
  rw [<- e]
  exact Dd q0 qm),rfl⟩,dvd⟩ e'
theorem Lh (T:Tx K mg ad):AG P w K mg base CX0 3 ad.f_share_at ad.d_share_at ["slip","free","standing","hand"] (NY 4500):=by
 refine T.F_share_at.ok GD (fun vs H Q E h=>?_) (fun cdv A outer s H vs Q E hr h=>?_)
 ·obtain ⟨sp,h,hd,ts,fr,s,rfl,_⟩:=h
  rfl
 obtain ⟨sp,h,hd,ts,fr,s,rfl,hT,gf,fb,h12,hh,li,q⟩:=h
 refine ⟨_,((@Ak _ _ (4) _ _ _ _ GD.nd rfl (Or.inl rfl) (@Aj _ _ _ _ _ _ _ _ _ _ _ _ _ _ _ _ (No T) (hr.mono (by decide)) rfl T.m_lies T.F_lies.kp T.b_lies .nil Ar ((pv 0)*>((pv 2)*>Ae)) (by decide) (by rfl) (by rfl)) (by rfl) (by nofun))>>((@AS _ _ _ _ _ _ _ _ (@DX _ _ _ _ (@CD _ _ _ (@Aj _ _ _ _ _ _ _ _ _ _ _ _ _ _ _ _ (KH T) (hr.mono (by decide)) rfl T.m_holds T.F_holds.kp T.b_holds .nil Ar ((pv 4)*>((pv 3)*>Ae)) (by decide) (by rfl) (by rfl)) (by intro _;rfl))) (@Ah _ _ _ (@Ao _ _ _ _ (@AI _ _ _ _ _ (Af*>(Af*>Ae))))) As)>>(@Ah _ _ _ (@Ao _ _ _ _ (@Aj _ _ _ _ _ _ _ _ _ _ _ _ _ _ _ _ (FM T) (hr.mono (by decide)) rfl T.m_even_part T.F_even_part.kp T.b_even_part .nil Ar ((pv 1)*>((@Aj _ _ _ _ _ _ _ _ _ _ _ _ _ _ _ _ (MI T) (hr.mono (by decide)) rfl T.m_size T.F_size.kp T.b_size .nil Ar ((pv 4)*>Ae) (by decide) (by rfl) (by rfl))*>Ae)) (by decide) (by rfl) (by rfl)))))),?_⟩
 obtain ⟨l0,l1,_,_⟩:=id li
 have p12:(2:Int) ^ h<=4096:=by
  have:=Nat.pow_le_pow_right (show 0 < 2 by decide) h12
  exact_mod_cast this
 and_intros
 refine ⟨sp,ts,s,rfl,SqT.of hT,?_⟩
 and_intros
 refine ⟨Co ts s,(hd:Int),rfl,by omega,?_⟩
 rw [Int.toNat_natCast]
 by_cases c:bit (Co ts s) hd=true
 ·have e:Cl ts s hd fr.2=Bi fr.2 (A3 ts s).length:=by unfold Cl;rw [if_pos c]
  rw [c]
  and_intros
  refine ⟨l0,by omega,fun H1 s1=>?_⟩
  have wm:((hd:Nat):Int)∈A3 ts s:=BM.mpr ⟨hd,by omega,c,rfl⟩
  have n1:1<=(A3 ts s).length:=length_pos_of_mem wm
  have n12:(A3 ts s).length<=12:=D6 ..
  and_intros
  exact ⟨fr,(A3 ts s).length,rfl,gf.same s1,fb,n1,n12,fun a H' _ s2 e2=>q a H' (s1.trans s2) (by rw [e];exact e2)⟩
 ·have e:Cl ts s hd fr.2=(0,1):=by unfold Cl;rw [if_neg c]
  rw [Bool.not_eq_true] at c
  rw [c]
  and_intros
  refine ⟨(by show 2<=sizeLine;decide),fun a ha=>?_⟩
  exact q a _ (Ag ha _) (by rw [e];exact Ab)
theorem JN (T:Tx K mg ad):AG P w K mg base CX0 3 ad.f_law_sheet ad.d_law_sheet ["_law_script","_law_at","_law_hands","_law_lines","_law_most"] (NE K):=by
 refine T.F_law_sheet.ok CF (fun vs H Q E h=>?_) (fun cdv A outer s H vs Q E hr h=>?_)
 ·obtain ⟨p,ns,k,n,m,most,rfl,_⟩:=h
  rfl
 obtain ⟨p,ns,k,n,m,most,rfl,hS,h63,k0,k9,n1,n12,m1,m12,mo1,mo9,q⟩:=h
 refine ⟨_,((Rm (j:=5) (fsc:=Ad B8) (N:=["_law_script","_law_at","_law_hands","_law_lines","_law_most","_law_slips","_law_many","_law_k","_law_slip_here"]) (Nc:=["_law_script","_law_at","_law_hands","_law_lines","_law_most","_law_slips","_law_many",".s7","_law_slip_here","_law_k"]) rfl rfl (by nofun) rfl CF.nd rfl rfl (Ce rfl T.z_range ((pv 3)*>Ae)) (fun _ _ _ _=>B2) (fun _ _ _ _=>(@Aj _ _ _ _ _ _ _ _ _ _ _ _ _ _ _ _ (K3 T) (hr.mono (by decide)) rfl T.m_law_slip T.F_law_slip.kp T.b_law_slip .nil Ar ((@Aj _ _ _ _ _ _ _ _ _ _ _ _ _ _ _ _ (B9 T) (hr.mono (by decide)) rfl T.m_law_cell T.F_law_cell.kp T.b_law_cell .nil Ar ((pv 0)*>((AQ<&>((pv 1)<|>(pv 9)))*>Ae)) (by decide) (by rfl) (by rfl))*>((pv 2)*>Ae)) (by decide) (by rfl) (by rfl))) rfl)>>((@Ak _ _ (6) _ _ _ _ CF.nd rfl (Or.inr rfl) Pq (by rfl) (by nofun))>>((D9 PassesOwn.never rfl (Ce rfl T.z_range ((@A2 _ _ _ _ _ _ _ _ _ (NJ rfl) (by rfl) T.z_max PyProof.Rows.boot_max ((pv 3)*>((@A2 _ _ _ _ _ _ _ _ _ (NQ rfl) (by rfl) T.z_min PyProof.Rows.boot_min (Af*>((EI<&>((@A2 _ _ _ _ _ _ _ _ _ A6 (by rfl) T.z_len PySem.boot_len ((pv 0)*>Ae) (by decide) (by decide) (by rfl) (by rfl))<|>(pv 1)))*>Ae)) (by decide) (by decide) (by rfl) (by rfl))*>Ae)) (by decide) (by decide) (by rfl) (by rfl))*>Ae)) (Bg (i:=7) CF.nd rfl (Or.inl rfl)) ((@Ak _ _ (8) _ _ _ _ CF.nd rfl (Or.inl rfl) (@At _ _ _ _ _ _ _ A5 (pv 5) (A0<&>((pv 7)<|>(pv 3))) (fun _ _=>rfl)) (by rfl) (by nofun))>>(@Ah _ _ _ (Hh (u1 hr.units) (pv 6) (pv 8) (AQ<&>((HV (u1 hr.units) (pv 6) (pv 8) Af ⟨rfl,rfl,rfl,rfl⟩)<|>(@Aj _ _ _ _ _ _ _ _ _ _ _ _ _ _ _ _ (IH T) (hr.mono (by decide)) rfl T.m_law_number T.F_law_number.kp T.b_law_number .nil Ar ((@Aj _ _ _ _ _ _ _ _ _ _ _ _ _ _ _ _ (B9 T) (hr.mono (by decide)) rfl T.m_law_cell T.F_law_cell.kp T.b_law_cell .nil Ar ((pv 0)*>((AQ<&>((pv 1)<|>(pv 7)))*>Ae)) (by decide) (by rfl) (by rfl))*>((pv 4)*>Ae)) (by decide) (by rfl) (by rfl)))) rfl))))>>(@Ah _ _ _ (@Ao _ _ _ _ (Cp (fsc:=Ad B8) (N:=["_law_script","_law_at","_law_hands","_law_lines","_law_most","_law_slips","_law_many","_law_k","_law_slip_here"]) (Nc:=["_law_script","_law_at","_law_hands","_law_lines","_law_most","_law_slips","_law_many","_law_k",".s8","_law_slip_here"]) rfl rfl (by nofun) rfl (B1 (@A2 _ _ _ _ _ _ _ _ _ (Iz rfl hr.units) (by rfl) T.z_sorted PyProof.Rows.boot_sorted ((pv 6)*>Ae) (by decide) (by decide) (by rfl) (by rfl))) (fun _ _ _ _=>B2) (fun _ _ _ _=>(@AI _ _ _ _ _ ((pv 9)*>((MN (u1 hr.units) (pv 6) (pv 9) (fun _ _=>rfl))*>Ae)))))))))),?_⟩
 have hl':(ns.map V.int).length=ns.length:=length_map _
 and_intros
 refine ⟨by omega,by omega,?_⟩
 rw [Int.toNat_natCast]
 refine Db (Bx (by omega)) (fun D i ys H'=>∃zs:List (Addr × List Int),ys=(zs.map fun z=>V.ref z.1)/\zs.length=i/\H' D=some (.lst ys)/\Au H H'/\∀z∈zs,H' z.1=some (.tup (z.2.map V.int))/\OkT n z.2) (fun D hD=>⟨[],rfl,rfl,Ab,Ag hD _,fun _ m=>absurd m List.not_mem_nil⟩) (fun D i ys H' hq_=>by obtain ⟨zs,f1,f2,f3,_⟩:=hq_;exact ⟨f3,by rw [f1,length_map,f2];exact Nat.le_refl _⟩) ?_ ?_
 ·rintro D i ys H' K1 K2 hD hi ⟨zs,rfl,f2,f3,f4,f5⟩ k1 k2
  refine yes (ifT rfl ?_)
  and_intros
  refine ⟨p,ns,k+(0+(i:Int)),rfl,f4.seq hS,h63,by omega,by omega,fun z z0 z1=>?_⟩
  and_intros
  refine ⟨z,n,rfl,Kl z0 z1,n1,n12,fun t ts H5 ht s5 et ok=>?_⟩
  have tD:t≠D:=fun z=>by rw [z,f3] at ht;cases ht
  refine k1 _ _ (s5 _ _ f3) ⟨zs++[(t,ts)],by rw [map_append];rfl,by rw [length_append,f2];rfl,Ab,A1 (f4.trans s5) hD,fun z m=>?_⟩
  rcases mem_append.mp m with m | m
  ·have:=f5 z m
   exact ⟨by rw [Al (Cw (s5 _ _ this.1) (s5 _ _ f3) (fun z=>by cases z))];exact s5 _ _ this.1,this.2⟩
  ·rw [mem_singleton.mp m]
   exact ⟨by rw [Al tD];exact et,ok⟩
 rintro sl ys H1 hsl ⟨zs,rfl,zl,esl,s1,zok⟩
 and_intros
 intro d hd
 have s2:=Ag hd (.dT [])
 have e2:(upd H1 d (.dT [])) d=some (.dT []):=Ab
 generalize upd H1 d (.dT [])=H2 at s2 e2 ⊢
 have hdH:=none_of s1 hd
 have s12:=s1.trans s2
 and_intros
 refine ⟨p,_,rfl,.inl (s12.seq hS),?_⟩
 and_intros
 refine ⟨_,_,rfl,?_⟩
 refine ⟨_,_,rfl,?_⟩
 have hM:(m:Int)<=(if (if ((ns.map V.int).length:Int) - k < 60 then ((ns.map V.int).length:Int) - k else 60) > (m:Int) then (if ((ns.map V.int).length:Int) - k < 60 then ((ns.map V.int).length:Int) - k else 60) else (m:Int))/\(if (if ((ns.map V.int).length:Int) - k < 60 then ((ns.map V.int).length:Int) - k else 60) > (m:Int) then (if ((ns.map V.int).length:Int) - k < 60 then ((ns.map V.int).length:Int) - k else 60) else (m:Int))<=60:=by
  split <;> split at*<;> omega
 generalize (if (if ((ns.map V.int).length:Int) - k < 60 then ((ns.map V.int).length:Int) - k else 60) > (m:Int) then (if ((ns.map V.int).length:Int) - k < 60 then ((ns.map V.int).length:Int) - k else 60) else (m:Int))=M at hM ⊢
 refine ⟨M,rfl,by omega,by omega,Gp (fun i σ' J=>∃(v7 v8:Option V) (ds:Ds) (kvs:List (List Key × V)),σ'=[some (.ref p),some (.int k),some (.int (n:Int)),some (.int (m:Int)),some (.int most),some (.ref sl),some (.ref d),v7,v8]/\Au H J/\Au H1 J/\J d=some (.dT kvs)/\DictOf ds kvs/\(∀q∈ds,q.1∈zs.map (·.2))/\ds.length=i/\∀q∈ds,1<=q.2/\q.2<=most) ⟨none,none,[],[],rfl,s12,s2,e2,DictOf.nil,(fun _ m=>absurd m List.not_mem_nil),rfl,(fun _ m=>absurd m List.not_mem_nil)⟩ ?_ ?_⟩
 ·rintro i σ' J hi ⟨v7,v8,ds,kvs,rfl,sJ,sJ1,eD,dk,sub,dl,po⟩
  have my:=AB (0+(i:Int)) (show (0:Int) < (m:Int) by omega)
  obtain ⟨j,hj⟩:∃j:Nat,(0+(i:Int)).fmod (m:Int)=(j:Int):=⟨((0+(i:Int)).fmod (m:Int)).toNat,by omega⟩
  obtain ⟨z,ez⟩:∃z,zs[j]?=some z:=⟨_,List.getElem?_eq_getElem (by omega)⟩
  have zm:=mem_of_getElem? ez
  and_intros
  refine ⟨(by show (_:Int)≠0;omega),?_⟩
  refine ⟨sl,_,_,_,rfl,rfl,SqL.of (sJ1 _ _ esl),(by rw [hj];exact Dj (by rw [List.getElem?_map,ez];rfl)),?_⟩
  have kt:J z.1=some (.tup ((z.2.map Sum.inl:List Key).map kV)):=by rw [JU];exact sJ1 _ _ (zok z zm).1
  have lim:=dk.len sub
  rw [length_map] at lim
  and_intros
  refine ⟨.inr ⟨_,.inl eD⟩,?_⟩
  refine ⟨_,rfl,_,Gb.t eD kt,?_⟩
  rw [QC dk]
  and_intros
  refine ⟨p,ns,k+(0+(i:Int)),rfl,sJ.seq hS,h63,by omega,by omega,fun c c0 c1=>?_⟩
  and_intros
  refine ⟨c,most,rfl,Kl c0 c1,mo1,by omega,fun y y1 y2=>?_⟩
  refine ⟨_,_,rfl,rfl,?_⟩
  refine ⟨_,rfl,_,rfl,d,_,rfl,IF.t eD kt (AH (by omega)),?_⟩
  refine ⟨_,_,ds++[(z.2,y)],_,rfl,A1 sJ hdH,A1 sJ1 hd,Ab,dk.put z.2 y,fun q m=>?_,by rw [length_append,dl];rfl,fun q m=>?_⟩
  ·rcases mem_append.mp m with m | m
   ·exact sub q m
   ·rw [mem_singleton.mp m]
    exact mem_map.mpr ⟨z,zm,rfl⟩
  ·rcases mem_append.mp m with m | m
   ·exact po q m
   ·rw [mem_singleton.mp m]
    exact ⟨y1,y2⟩
 rintro σ' J ⟨v7,v8,ds,kvs,rfl,sJ,sJ1,eD,dk,sub,dl,po⟩
 have pos:Pos ds:=fun q m=>(po q m).1
 have bnd:∀ts,tot ds ts<=64*most:=fun ts=>by
  have a:=K9 (ts:=ts) po (by omega)
  have b:(ds.length:Int)*most<=64*most:=Int.mul_le_mul_of_nonneg_right (by omega) (by omega)
  omega
 have ne:ds≠[]:=fun z=>by rw [z] at dl;have:M.toNat=0:=dl.symm;omega
 have okp:∀t∈zs.map (·.2),OkT n t:=fun t tm=>by
  obtain ⟨z,zm,rfl⟩:=mem_map.mp tm
  exact (zok z zm).2
 have pl:(zs.map (·.2)).length<=12:=by rw [length_map];omega
 replace pl:=Nat.le_succ_of_le pl
 have fin:∀(D:Addr) (ms:Ls) (H2:Hp),J D=none->Au J H2->H2 D=some (.lst (vls ms))->BH H2 ms->MQ ds (Av ms)->ms.length < 64->Q (.ref D) H2:=fun D ms H2 hD s e g sh _=>q D ms H2 (none_of sJ hD) (sJ.trans s) e g (sh.drawn pos sub okp pl ne bnd)
 have k64:=dk.len sub
 obtain ⟨ks,k1,k2,knd,kmem⟩:=dk.vd.keys
 and_intros
 refine ⟨d,kvs,ks,rfl,.inl eD,k1,by omega,fun l2 rs r1 r2 r3 hl2=>?_⟩
 have sl:=Ag hl2 (.lst (rs.map fun q=>V.ref q.1))
 have el:(upd J l2 (.lst (rs.map fun q=>V.ref q.1))) l2=some (.lst (rs.map fun q=>V.ref q.1)):=Ab
 generalize upd J l2 (.lst (rs.map fun q=>V.ref q.1))=G1 at sl el ⊢
 have rl:rs.length=ks.length:=by
  have:=r2.length_eq
  rw [length_map] at this
  exact this
 have ov:∀r∈rs,Bd kvs (r.2.map Sum.inl:List Key)=some (.int (Qr kvs r.2)):=fun r m=>by
  obtain ⟨n,e⟩:=(kmem r.2).mp (r2.mem_iff.mp (mem_map.mpr ⟨r,m,rfl⟩))
  unfold Qr
  rw [e]
 refine ⟨l2,rfl,⟨_,SqL.of el⟩,?_⟩
 refine Cy (xs:=rs.map fun q=>V.ref q.1) (by rw [length_map];exact Bx (by omega)) (fun D i ys H2=>∃ms:Ls,ys=vls ms/\ms.length=i/\H2 D=some (.lst ys)/\Au G1 H2/\BH H2 ms/\Av ms=(rs.take i).map fun r=>(r.2,Qr kvs r.2)) (fun D hD=>⟨[],rfl,rfl,Ab,Ag hD _,(fun _ m=>absurd m List.not_mem_nil),rfl⟩) (fun D i ys H2 hq_=>by obtain ⟨ms,f1,f2,f3,_⟩:=hq_;exact ⟨f3,by rw [f1,DT,f2];exact Nat.le_refl _⟩) (fun D i ys H2 hD hq_=>by obtain ⟨ms,_,_,_,f4,_⟩:=hq_;exact SqL.of (f4 _ _ el)) ?_ ?_
 ·rintro D i x ys H2 K1 K2 hD hx ⟨ms,rfl,f2,f3,f4,f5,f6⟩ kk1 kk2
  rw [List.getElem?_map] at hx
  obtain ⟨r,er,rfl⟩:=Option.map_eq_some_iff.mp hx
  have rm:=mem_of_getElem? er
  have et:rs.take (i+1)=rs.take i++[r]:=by rw [take_succ,er];rfl
  have sH:=sl.trans f4
  have ek:=sH _ _ (r1 r rm)
  have dg:=Gb.t (k:=(r.2.map Sum.inl:List Key)) (sH _ _ eD) (by rw [JU];exact ek)
  rw [ov r rm] at dg
  refine yes (ifT rfl ?_)
  refine ⟨_,rfl,_,rfl,_,rfl,d,_,rfl,dg,(by show 2<=sizeLine;decide),fun t ht=>?_⟩
  have s6:=Ag ht (.tup [V.ref r.1,V.int (Qr kvs r.2)])
  refine kk1 _ _ (s6 _ _ f3) ⟨ms++[(t,r.1,r.2,Qr kvs r.2)],by rw [LX];rfl,by rw [length_append,f2];rfl,Ab,A1 (f4.trans s6) hD,?_,?_⟩
  ·refine BH.upd (s6 _ _ f3) ((f5.same s6).append fun q m=>?_)
   rw [mem_singleton.mp m]
   exact ⟨Ab,s6 _ _ ek⟩
  ·rw [GB,f6,et,map_append]
   rfl
 ·rintro D ys H2 hD ⟨ms,rfl,f2,f3,f4,f5,f6⟩
  rw [length_map] at f2 f6
  rw [take_length] at f6
  have rnd:(rs.map (·.2)).Nodup:=r2.nodup_iff.mpr knd
  have pv:∀(ts:List Int) (n:Int),Bd kvs (ts.map Sum.inl)=some (.int n)->0 < n:=fun ts n e=>by
   rw [dk.val] at e
   by_cases c:ts∈ds.map (·.1)
   ·rw [if_pos c] at e
    injection e with e
    injection e with e
    rw [<- e]
    exact L8 pos c
   ·rw [if_neg c] at e
    cases e
  refine fin D ms H2 (none_of sl hD) (sl.trans f4) f3 f5 (dk.sheet pos ?_ (fun ts n=>?_)) (by omega)
  ·rw [f6,pairwise_map]
   have nd2:rs.Pairwise (fun x y=>x.2≠y.2):=pairwise_map.mp rnd
   exact (r3.and nd2).imp fun ⟨h1,h2⟩=>Np h1 h2
  ·rw [f6]
   constructor
   ·intro m
    obtain ⟨r,rm,e⟩:=mem_map.mp m
    injection e with e1 e2
    subst e1
    subst e2
    exact ⟨ov r rm,pv _ _ (ov r rm)⟩
   ·rintro ⟨e,n0⟩
    have tk:ts∈ks:=(kmem ts).mpr ⟨n,e⟩
    obtain ⟨r,rm,rfl⟩:=mem_map.mp (r2.mem_iff.mpr tk)
    have o:=ov r rm
    rw [e] at o
    injection o with o
    injection o with o
    exact mem_map.mpr ⟨r,rm,by rw [<- o]⟩
theorem Lp (T:Tx K mg ad):AG P w K mg base CX0 3 ad.f_Way_init ad.d_Way_init ["self","hands","seats","lots"] (LP K):=by
 refine T.F_Way_init.ok Ld (fun vs H Q E h=>?_) (fun cdv A outer s H vs Q E hr h=>?_)
 ·obtain ⟨a,C,dx,h,s,lv,ns,rfl,_⟩:=h
  rfl
 obtain ⟨a,C,dx,h,s,lv,ns,rfl,ha,cl,n1,n2,n3,h1,h12,s1,s60,lo,q⟩:=h
 refine ⟨_,((@AS _ _ _ _ _ _ _ _ (PW.pt (@Kx _ _ _ _ _ _ _ (@DX _ _ _ _ (@CD _ _ _ (@Aj _ _ _ _ _ _ _ _ _ _ _ _ _ _ _ _ (Jv T) (hr.mono (by decide)) rfl T.m_are_hands T.F_are_hands.kp T.b_are_hands .nil Ar ((pv 1)*>Ae) (by decide) (by rfl) (by rfl)) (by intro _;rfl))) (@HE _ _ _ _ (@DX _ _ _ _ (@CD _ _ _ (@Aj _ _ _ _ _ _ _ _ _ _ _ _ _ _ _ _ (JA T) (hr.mono (by decide)) rfl T.m_are_seats T.F_are_seats.kp T.b_are_seats .nil Ar ((pv 2)*>Ae) (by decide) (by rfl) (by rfl)) (by intro _;rfl)))))) (@Ah _ _ _ EG) As)>>((@AS _ _ _ _ _ _ _ _ (PW.pt (@LI _ _ _ _ _ _ _ (@Aq _ _ _ _ _ _ _ _ R1 (pv 3) FA (Aw _)) (@JG _ _ _ _ (@DX _ _ _ _ (@CD _ _ _ (@Aj _ _ _ _ _ _ _ _ _ _ _ _ _ _ _ _ (KF T) (hr.mono (by decide)) rfl T.m_are_lots T.F_are_lots.kp T.b_are_lots .nil Ar ((pv 3)*>((pv 1)*>Ae)) (by decide) (by rfl) (by rfl)) (by intro _;rfl)))))) (@Ah _ _ _ EG) As)>>((JQ (pv 0) (pv 1) rfl)>>((JQ (pv 0) (pv 2) rfl)>>(@Ah _ _ _ (JQ (pv 0) (KI (@Aq _ _ _ _ _ _ _ _ PV (pv 3) FA (Aw _)) (Dx rfl (by rfl) T.z_list (by rfl) T.z_range (pv 1)) (@Bt _ _ _ _ _ _ _ _ _ AX (by rfl) T.z_list PyProof.Rows.boot_list ((pv 3)*>Ae) (by decide) (by decide) (by rfl) (by rfl))) rfl)))))),?_⟩
 refine ⟨_,rfl,(h:Int),rfl,by omega,by omega,?_⟩
 and_intros
 refine ⟨by omega,by omega,?_⟩
 and_intros
 rcases lo with ⟨rfl,rfl⟩ | ⟨l,rfl,hl,pm⟩
 ·and_intros
  obtain ⟨H1,eH⟩:∃H1,H1=H:=⟨_,rfl⟩
  rw [<- eH]
  have e1:Au H H1:=by rw [eH];exact fun _ _ e=>e
  have g1:=(LD H a).trans e1
  refine ⟨a,C,dx,[],rfl,e1 _ _ ha,cl,n1,(by simp only [length_cons,length_nil];decide),?_⟩
  rw [Tj]
  have g2:=E2 (o:=.ins C dx [("hands",.int (h:Int))]) g1
  have a2:(upd H1 a (.ins C dx [("hands",.int (h:Int))])) a=_:=Ab
  generalize upd H1 a (.ins C dx [("hands",.int (h:Int))])=H2 at g2 a2 ⊢
  and_intros
  refine ⟨a,C,dx,_,rfl,a2,cl,n2,(by simp only [length_cons,length_nil];decide),?_⟩
  rw [SZ]
  have g3:=E2 (o:=.ins C dx [("hands",.int (h:Int)),("seats",.int (s:Int))]) g2
  have a3:(upd H2 a (.ins C dx [("hands",.int (h:Int)),("seats",.int (s:Int))])) a=_:=Ab
  generalize upd H2 a (.ins C dx [("hands",.int (h:Int)),("seats",.int (s:Int))])=H3 at g3 a3 ⊢
  and_intros
  refine ⟨by omega,fun b hb=>?_⟩
  rw [<- RO]
  have ba:b≠a:=fun z=>by rw [z,a3] at hb;cases hb
  have hbH:H b=none:=by
   cases e:H b with
   | none=>rfl
   | some o =>
     have:=g3 _ _ (JC e ba)
     rw [hb] at this
     cases this
  have g4:=g3.trans (Ag hb (.lst ((ups h).map V.int)))
  have a4:=Ag hb (.lst ((ups h).map V.int)) _ _ a3
  have b4:(upd H3 b (.lst ((ups h).map V.int))) b=some (.lst ((ups h).map V.int)):=Ab
  generalize upd H3 b (.lst ((ups h).map V.int))=H4 at g4 a4 b4 ⊢
  and_intros
  refine ⟨a,C,dx,_,rfl,a4,cl,n3,(by simp only [length_cons,length_nil];decide),?_⟩
  rw [Tm]
  exact q b _ ba hbH (E2 g4) Ab (by rw [Al ba];exact b4)
 ·and_intros
  refine ⟨l,ns,h,rfl,hl,pm,by omega,fun H1 e1=>?_⟩
  and_intros
  have g1:=(LD H a).trans e1
  refine ⟨a,C,dx,[],rfl,e1 _ _ ha,cl,n1,(by simp only [length_cons,length_nil];decide),?_⟩
  rw [Tj]
  have g2:=E2 (o:=.ins C dx [("hands",.int (h:Int))]) g1
  have a2:(upd H1 a (.ins C dx [("hands",.int (h:Int))])) a=_:=Ab
  generalize upd H1 a (.ins C dx [("hands",.int (h:Int))])=H2 at g2 a2 ⊢
  and_intros
  refine ⟨a,C,dx,_,rfl,a2,cl,n2,(by simp only [length_cons,length_nil];decide),?_⟩
  rw [SZ]
  have g3:=E2 (o:=.ins C dx [("hands",.int (h:Int)),("seats",.int (s:Int))]) g2
  have a3:(upd H2 a (.ins C dx [("hands",.int (h:Int)),("seats",.int (s:Int))])) a=_:=Ab
  generalize upd H2 a (.ins C dx [("hands",.int (h:Int)),("seats",.int (s:Int))])=H3 at g3 a3 ⊢
  have la:l≠a:=fun z=>by rw [z,ha] at hl;cases hl
  have l3:=g3 _ _ (JC hl la)
  and_intros
  intro b hb
  have ba:b≠a:=fun z=>by rw [z,a3] at hb;cases hb
  have hbH:H b=none:=by
   cases e:H b with
   | none=>rfl
   | some o =>
     have:=g3 _ _ (JC e ba)
     rw [hb] at this
     cases this
  have g4:=g3.trans (Ag hb (.lst (ns.map V.int)))
  have a4:=Ag hb (.lst (ns.map V.int)) _ _ a3
  have b4:(upd H3 b (.lst (ns.map V.int))) b=some (.lst (ns.map V.int)):=Ab
  generalize upd H3 b (.lst (ns.map V.int))=H4 at g4 a4 b4 ⊢
  and_intros
  refine ⟨a,C,dx,_,rfl,a4,cl,n3,(by simp only [length_cons,length_nil];decide),?_⟩
  rw [Tm]
  exact q b _ ba hbH (E2 g4) Ab (by rw [Al ba];exact b4)
theorem FF (T:Tx K mg ad):AG P w K mg base CX0 3 ad.f_Seats_greatest ad.d_Seats_greatest ["self","sums","standing"] (Pw ad.c_Seats EH):=by
 refine T.F_Seats_greatest.ok Bw (fun vs H Q E h=>?_) (fun cdv A outer s H vs Q E hr h=>?_)
 ·obtain ⟨a,l,h,s,xs,m,fs,su,rfl,_⟩:=h
  rfl
 obtain ⟨a,l,h,s,xs,m,fs,su,rfl,is,sg,hx,x12,ne,q⟩:=h
 refine ⟨_,((@Ak _ _ (3) _ _ _ _ Bw.nd rfl (Or.inl rfl) (AV (pv 0) T.cl_Seats T.me_Seats_standing_by_lots (Ch T) (hr.mono (by decide)) T.b_Seats_standing_by_lots .nil Ar ((pv 2)*>Ae)) (by rfl) (by nofun))>>((@Ak _ _ (4) _ _ _ _ Bw.nd rfl (Or.inl rfl) (@At _ _ _ _ _ _ _ A5 (pv 3) Af (fun _ _=>rfl)) (by rfl) (by nofun))>>((D9 PassesOwn.never rfl (B1 (pv 3)) (Bg (i:=5) Bw.nd rfl (Or.inl rfl)) (@Ah _ _ _ (@AS _ _ _ _ _ _ _ _ (@CD _ _ _ (@Aj _ _ _ _ _ _ _ _ _ _ _ _ _ _ _ _ (FD T) (hr.mono (by decide)) rfl T.m_under T.F_under.kp T.b_under .nil Ar ((@At _ _ _ _ _ _ _ A5 (pv 1) (pv 4) (fun _ _=>rfl))*>((@At _ _ _ _ _ _ _ A5 (pv 1) (pv 5) (fun _ _=>rfl))*>Ae)) (by decide) (by rfl) (by rfl)) (by intro _;rfl)) (@Ah _ _ _ (@Ak _ _ (4) _ _ _ _ Bw.nd rfl (Or.inl rfl) (pv 5) (by rfl) (by nofun))) As)))>>(@Ah _ _ _ (@Ao _ _ _ _ (pv 4)))))),?_⟩
 have is':=id is
 obtain ⟨dx,lo,k1,k2⟩:=is'
 refine ⟨_,rfl,a,dx,_,rfl,k1,rfl,?_⟩
 and_intros
 refine ⟨a,h,s,xs,m,rfl,is,(fun x k=>(hx x k).1),x12,fun bl H1 s1 e1=>?_⟩
 have zin:∀x∈Bc xs m,0<=x/\x.toNat < su.length:=fun x k=>hx x (mem_filter.mp k).1
 have zl:(Bc xs m).length<=12:=Nat.le_trans (length_filter_le ..) x12
 generalize Bc xs m=zs at ne e1 zin zl q
 obtain ⟨z0,zt,rfl⟩:∃a b,zs=a :: b:=by cases zs with | nil=>exact absurd rfl ne | cons a b=>exact ⟨a,b,rfl⟩
 and_intros
 refine ⟨bl,_,_,_,rfl,rfl,SqL.of e1,(atN (i:=0) rfl:atI ((z0 :: zt).map V.int) ((0:Nat):Int)=some (.int z0)),?_⟩
 and_intros
 refine ⟨⟨_,SqL.of e1⟩,EQ (xs:=(z0 :: zt).map V.int) (fun i σ' J=>∃(b:Int) (v5:Option V),σ'=[some (.ref a),some (.ref l),some (.int m),some (.ref bl),some (.int b),v5]/\H1=J/\b∈z0 :: zt/\b=((z0 :: zt).take i).foldl (fun b x=>if at0 su b < at0 su x then x else b) z0) ⟨z0,none,rfl,rfl,mem_cons_self ..,rfl⟩ (fun i σ' J _ hq_=>by obtain ⟨_,_,_,e,_⟩:=hq_;rw [<- e];exact SqL.of e1) ?_ ?_⟩
 ·rintro i y σ' J hy ⟨b,v5,rfl,rfl,bm,be⟩
  obtain ⟨x,hx',rfl⟩:=E5 hy
  have xm:=mem_of_getElem? hx'
  obtain ⟨ab,a1,a2,a3,a4⟩:=(sg.same s1).at (zin b bm).1 (zin b bm).2
  obtain ⟨ax,b1,b2,b3,b4⟩:=(sg.same s1).at (zin x xm).1 (zin x xm).2
  have l1:=s1 _ _ sg.l
  have tk:((z0 :: zt).take (i+1)).foldl (fun b x=>if at0 su b < at0 su x then x else b) z0=((fun b x=>if at0 su b < at0 su x then x else b)) b x:=by
   rw [take_add_one,hx',foldl_append,<- be]
   rfl
  and_intros
  refine ⟨l,_,_,_,rfl,rfl,SqL.of l1,a1,?_⟩
  and_intros
  refine ⟨l,_,_,_,rfl,rfl,SqL.of l1,b1,?_⟩
  and_intros
  refine ⟨ab,ax,_,_,_,_,rfl,a2,b2,a3,a4,b3,b4,?_⟩
  rw [show decide ((pr (at0 su b)).1*(pr (at0 su x)).2 < (pr (at0 su x)).1*(pr (at0 su b)).2)=decide (at0 su b < at0 su x) from decide_eq_decide.mpr (MY _ _)]
  by_cases c:at0 su b < at0 su x
  ·rw [decide_eq_true c]
   and_intros
   exact ⟨xm,by rw [tk];exact (if_pos c).symm⟩
  ·rw [decide_eq_false c]
   and_intros
   exact ⟨bm,by rw [tk];exact (if_neg c).symm⟩
 rintro σ' J ⟨b,v5,rfl,rfl,bm,be⟩
 rw [length_map,take_of_length_le (Nat.le_refl _)] at be
 and_intros
 have:=q H1 s1
 rw [show EH su (z0 :: zt)=b from be.symm] at this
 exact this
theorem GP (T:Tx K mg ad):AG P w K mg base CX0 3 ad.f_Seats_lowest ad.d_Seats_lowest ["self","sums","standing"] (Pw ad.c_Seats Gm):=by
 refine T.F_Seats_lowest.ok BK (fun vs H Q E h=>?_) (fun cdv A outer s H vs Q E hr h=>?_)
 ·obtain ⟨a,l,h,s,xs,m,fs,su,rfl,_⟩:=h
  rfl
 obtain ⟨a,l,h,s,xs,m,fs,su,rfl,is,sg,hx,x12,ne,q⟩:=h
 refine ⟨_,((@Ak _ _ (3) _ _ _ _ BK.nd rfl (Or.inl rfl) (AV (pv 0) T.cl_Seats T.me_Seats_standing_by_lots (Ch T) (hr.mono (by decide)) T.b_Seats_standing_by_lots .nil Ar ((pv 2)*>Ae)) (by rfl) (by nofun))>>((@Ak _ _ (4) _ _ _ _ BK.nd rfl (Or.inl rfl) (@At _ _ _ _ _ _ _ A5 (pv 3) Af (fun _ _=>rfl)) (by rfl) (by nofun))>>((D9 PassesOwn.never rfl (B1 (pv 3)) (Bg (i:=5) BK.nd rfl (Or.inl rfl)) (@Ah _ _ _ (@AS _ _ _ _ _ _ _ _ (@DX _ _ _ _ (@CD _ _ _ (@Aj _ _ _ _ _ _ _ _ _ _ _ _ _ _ _ _ (FD T) (hr.mono (by decide)) rfl T.m_under T.F_under.kp T.b_under .nil Ar ((@At _ _ _ _ _ _ _ A5 (pv 1) (pv 4) (fun _ _=>rfl))*>((@At _ _ _ _ _ _ _ A5 (pv 1) (pv 5) (fun _ _=>rfl))*>Ae)) (by decide) (by rfl) (by rfl)) (by intro _;rfl))) (@Ah _ _ _ (@Ak _ _ (4) _ _ _ _ BK.nd rfl (Or.inl rfl) (pv 5) (by rfl) (by nofun))) As)))>>(@Ah _ _ _ (@Ao _ _ _ _ (pv 4)))))),?_⟩
 have is':=id is
 obtain ⟨dx,lo,k1,k2⟩:=is'
 refine ⟨_,rfl,a,dx,_,rfl,k1,rfl,?_⟩
 and_intros
 refine ⟨a,h,s,xs,m,rfl,is,(fun x k=>(hx x k).1),x12,fun bl H1 s1 e1=>?_⟩
 have zin:∀x∈Bc xs m,0<=x/\x.toNat < su.length:=fun x k=>hx x (mem_filter.mp k).1
 have zl:(Bc xs m).length<=12:=Nat.le_trans (length_filter_le ..) x12
 generalize Bc xs m=zs at ne e1 zin zl q
 obtain ⟨z0,zt,rfl⟩:∃a b,zs=a :: b:=by cases zs with | nil=>exact absurd rfl ne | cons a b=>exact ⟨a,b,rfl⟩
 and_intros
 refine ⟨bl,_,_,_,rfl,rfl,SqL.of e1,(atN (i:=0) rfl:atI ((z0 :: zt).map V.int) ((0:Nat):Int)=some (.int z0)),?_⟩
 and_intros
 refine ⟨⟨_,SqL.of e1⟩,EQ (xs:=(z0 :: zt).map V.int) (fun i σ' J=>∃(b:Int) (v5:Option V),σ'=[some (.ref a),some (.ref l),some (.int m),some (.ref bl),some (.int b),v5]/\H1=J/\b∈z0 :: zt/\b=((z0 :: zt).take i).foldl (fun b x=>if at0 su b < at0 su x then b else x) z0) ⟨z0,none,rfl,rfl,mem_cons_self ..,rfl⟩ (fun i σ' J _ hq_=>by obtain ⟨_,_,_,e,_⟩:=hq_;rw [<- e];exact SqL.of e1) ?_ ?_⟩
 ·rintro i y σ' J hy ⟨b,v5,rfl,rfl,bm,be⟩
  obtain ⟨x,hx',rfl⟩:=E5 hy
  have xm:=mem_of_getElem? hx'
  obtain ⟨ab,a1,a2,a3,a4⟩:=(sg.same s1).at (zin b bm).1 (zin b bm).2
  obtain ⟨ax,b1,b2,b3,b4⟩:=(sg.same s1).at (zin x xm).1 (zin x xm).2
  have l1:=s1 _ _ sg.l
  have tk:((z0 :: zt).take (i+1)).foldl (fun b x=>if at0 su b < at0 su x then b else x) z0=((fun b x=>if at0 su b < at0 su x then b else x)) b x:=by
   rw [take_add_one,hx',foldl_append,<- be]
   rfl
  and_intros
  refine ⟨l,_,_,_,rfl,rfl,SqL.of l1,a1,?_⟩
  and_intros
  refine ⟨l,_,_,_,rfl,rfl,SqL.of l1,b1,?_⟩
  and_intros
  refine ⟨ab,ax,_,_,_,_,rfl,a2,b2,a3,a4,b3,b4,?_⟩
  rw [show decide ((pr (at0 su b)).1*(pr (at0 su x)).2 < (pr (at0 su x)).1*(pr (at0 su b)).2)=decide (at0 su b < at0 su x) from decide_eq_decide.mpr (MY _ _)]
  by_cases c:at0 su b < at0 su x
  ·rw [decide_eq_true c]
   and_intros
   exact ⟨bm,by rw [tk];exact (if_pos c).symm⟩
  ·rw [decide_eq_false c]
   and_intros
   exact ⟨xm,by rw [tk];exact (if_neg c).symm⟩
 rintro σ' J ⟨b,v5,rfl,rfl,bm,be⟩
 rw [length_map,take_of_length_le (Nat.le_refl _)] at be
 and_intros
 have:=q H1 s1
 rw [show Gm su (z0 :: zt)=b from be.symm] at this
 exact this
theorem PY (T:Tx K mg ad):AG P w K mg base CX0 4 ad.f_table ad.d_table ["sheet","state","standing"] (QJ 4500):=by
 refine T.F_table.ok P3 (fun vs H Q E h=>?_) (fun cdv A outer s H vs Q E hr h=>?_)
 ·obtain ⟨l,st,h,ls,xs,s,rfl,_⟩:=h
  rfl
 obtain ⟨l,st,h,ls,xs,s,rfl,hl,gl,hs,gx,le,l60,h12,li,q⟩:=h
 refine ⟨_,(@Ah _ _ _ (@Ao _ _ _ _ (Io (fsc:=Ad E3) (N:=["sheet","state","standing"]) (Nc:=["sheet","state","standing","line","one"]) rfl rfl ⟨rfl,by decide +kernel,by decide +kernel,by decide +kernel,by decide +kernel,rfl,by decide +kernel,rfl,by decide +kernel⟩ rfl (JP rfl T.z_zip ((pv 0)*>((pv 1)*>Ae))) (fun _ _ _ _=>B2) (fun _ _ _ _=>(@Aj _ _ _ _ _ _ _ _ _ _ _ _ _ _ _ _ (JE T) (hr.mono (by decide)) rfl T.m_table_row T.F_table_row.kp T.b_table_row .nil Ar ((@At _ _ _ _ _ _ _ (DO K) (pv 3) Af (fun _ _=>rfl))*>((@At _ _ _ _ _ _ _ (DO K) (pv 4) Af (fun _ _=>rfl))*>((@At _ _ _ _ _ _ _ (DO K) (pv 4) Af (fun _ _=>rfl))*>((pv 2)*>Ae)))) (by decide) (by rfl) (by rfl)))))),?_⟩
 have vl:=DT ls
 have xl:(shv xs).length=xs.length:=length_map ..
 have zl:(JX s ls xs).length=ls.length:=by unfold JX;rw [length_map,length_zip,le,Nat.min_self]
 and_intros
 refine ⟨l,st,rfl,⟨_,SqL.of hl⟩,⟨_,SqL.of hs⟩,?_⟩
 refine KJ (xs:=vls ls) (zs:=shv xs) rfl rfl (by omega) (by rw [vl];exact Bx (by omega)) (fun D i ys J=>∃rs:List Rw,ys=rwv rs/\J D=some (.lst ys)/\rs.length=i/\Au H J/\(∀x∈rs,RwG J x/\H x.1=none/\x.1≠D)/\(rs.map fun x=>x.2.map (·.2))=(JX s ls xs).take i) (fun D hD=>⟨[],rfl,Ab,rfl,Ag hD _,(fun _ m=>absurd m List.not_mem_nil),rfl⟩) (fun D i ys J hq_=>by obtain ⟨rs,f1,f2,f3,_⟩:=hq_;exact ⟨f2,by rw [f1];unfold rwv;rw [length_map,f3];exact Nat.le_refl _⟩) (fun D i ys J hD hq_=>by obtain ⟨_,_,_,_,f4,_⟩:=hq_;exact ⟨SqL.of (f4 _ _ hl),SqL.of (f4 _ _ hs)⟩) ?_ ?_
 ·rintro D i x y T ys J K1 K2 hD hx hy ⟨rs,rfl,n1,n2,n3,n4,n5⟩ hT kk1 kk2
  obtain ⟨f,hf,rfl,fm,et⟩:=GS hx
  unfold shv at hy
  rw [List.getElem?_map] at hy
  obtain ⟨g,hg,rfl⟩:=Option.map_eq_some_iff.mp hy
  obtain ⟨gg,gb,gl'⟩:=gx g (mem_of_getElem? hg)
  obtain ⟨l1,l2,l3,l4⟩:=li f fm
  have s1:=Ag hT (.tup [V.ref f.1,V.ref g.1])
  generalize upd J T (.tup [V.ref f.1,V.ref g.1])=J1 at s1 ⊢
  have sJ:=n3.trans s1
  refine yes (ifT rfl ?_)
  refine ⟨_,rfl,f.1,_,_,_,rfl,rfl,SqT.of (sJ _ _ (gl f fm).1),rfl,?_⟩
  refine ⟨_,rfl,g.1,_,_,_,rfl,rfl,SqT.of (sJ _ _ gg.t),rfl,?_⟩
  refine ⟨_,rfl,g.1,_,_,_,rfl,rfl,SqT.of (sJ _ _ gg.t),rfl,?_⟩
  refine ⟨_,rfl,?_⟩
  refine ⟨f.2.1,g.2.2.1,h,f.2.2.1,g.2.1,g.2.2.2,s,rfl,sJ _ _ (gl f fm).2,gg.f.same sJ,gb,sJ _ _ gg.l,(fun x m=>(gg.k x m).same sJ),gl',h12,l1,l2,l3,l4,fun r fs J2 hr2 s2 e2 g2 v2=>?_⟩
  have n1':=(s1.trans s2) _ _ n1
  have rD:r≠D:=fun z=>by rw [z,s1 _ _ n1] at hr2;cases hr2
  have n4':∀x∈rs++[(r,fs)],RwG (upd J2 D (.lst (rwv rs++[V.ref r]))) x/\H x.1=none/\x.1≠D:=fun x m=>by
   have key:RwG J2 x/\H x.1=none/\x.1≠D:=by
    rcases mem_append.mp m with m | m
    ·exact ⟨(n4 x m).1.same (s1.trans s2),(n4 x m).2⟩
    ·rw [mem_singleton.mp m]
     exact ⟨⟨e2,g2⟩,none_of sJ hr2,rD⟩
   exact ⟨⟨by rw [Al key.2.2];exact key.1.1,fun f m=>(key.1.2 f m).upd n1'⟩,key.2⟩
  refine kk1 _ _ n1' ⟨rs++[(r,fs)],by unfold rwv;rw [map_append];rfl,Ab,by rw [length_append,n2];rfl,A1 (n3.trans (s1.trans s2)) (none_of (fun _ _ e=>e) hD),n4',?_⟩
  have tz:(JX s ls xs)[i]?=some (Ky (A3 f.2.2.1 s) g.2.1.2 (g.2.2.2.map (·.2))):=by
   unfold JX
   rw [List.getElem?_map,show (ls.zip xs)[i]?=some (f,g) from List.getElem?_zip_eq_some.mpr ⟨hf,hg⟩]
   rfl
  rw [take_add_one,tz,map_append,n5]
  show _++[fs.map (·.2)]=_
  rw [v2]
  rfl
 rintro D ys J hD ⟨rs,rfl,n1,n2,n3,n4,n5⟩
 rw [vl,<- zl,take_of_length_le (Nat.le_refl _)] at n5
 exact q D rs J hD n3 n1 (fun x m=>⟨(n4 x m).1,(n4 x m).2.1⟩) n5
theorem My (T:Tx K mg ad):AG P w K mg base CX0 4 ad.f_tallies ad.d_tallies ["sheet","rows","hands"] LC:=by
 refine T.F_tallies.ok LV (fun vs H Q E h=>?_) (fun cdv A outer s H vs Q E hr h=>?_)
 ·obtain ⟨l,rl,h,ls,rs,M,rfl,_⟩:=h
  rfl
 obtain ⟨l,rl,h,ls,rs,M,rfl,hl,gl,hr',gr,M0,Mz,le,l60,h12,nz,q⟩:=h
 refine ⟨_,(@Ah _ _ _ (@Ao _ _ _ _ (Ot (fsc:=Ad C1) (N:=["sheet","rows","hands"]) (Nc:=["sheet","rows","hands","place"]) rfl rfl (by nofun) rfl (Ce rfl T.z_range ((AQ<&>((pv 2)<|>Af))*>Ae)) (fun _ _ _ _=>B2) (fun _ _ _ _=>(@Aj _ _ _ _ _ _ _ _ _ _ _ _ _ _ _ _ (HA T) (hr.mono (by decide)) rfl T.m_weighed T.F_weighed.kp T.b_weighed .nil Ar ((pv 0)*>((by exact (NO (fsc:=Ad C1) (Nc:=["sheet","rows","hands","place"]) (Nd:=["sheet","rows","hands","place","row"]) rfl (by nofun) rfl (OT K (pv 1)) (fun _ _ _ _=>B2) (fun _ _ _ _=>(@At _ _ _ _ _ _ _ (Op K) (pv 4) (pv 3) (fun _ _=>rfl)))))*>Ae)) (by decide) (by rfl) (by rfl)))))),?_⟩
 have rl':(rwv rs).length=rs.length:=length_map ..
 and_intros
 refine ⟨by omega,by omega,?_⟩
 have hn:((h:Int)+1).toNat=h+1:=by omega
 rw [hn]
 refine Db (Bx (by omega)) (fun D i ys J=>∃fs:List Fq,ys=fqv fs/\fs.length=i/\J D=some (.lst ys)/\Au H J/\(∀f∈fs,FqG J f)/\∀j f,fs[j]?=some f->WM M ls (Dw rs j) f.2) (fun D hD=>⟨[],rfl,rfl,Ab,Ag hD _,(fun _ m=>absurd m List.not_mem_nil),fun j f e=>by rw [List.getElem?_nil] at e;cases e⟩) (fun D i ys J hq_=>by obtain ⟨fs,f1,f2,f3,_⟩:=hq_;exact ⟨f3,by rw [f1];unfold fqv;rw [length_map,f2];exact Nat.le_refl _⟩) ?_ ?_
 ·rintro D i ys J K1 K2 hD hi ⟨fs,rfl,n1,n2,n3,n4,n5⟩ kk1 kk2
  refine yes (ifT rfl ?_)
  refine ⟨_,rfl,?_⟩
  refine ⟨_,rfl,rl,rfl,⟨_,SqL.of (n3 _ _ hr')⟩,?_⟩
  refine Cy (xs:=rwv rs) (by rw [rl'];exact Bx (by omega)) (fun D2 k ys J2=>ys=fqv ((Dw rs i).take k)/\J2=upd J D2 (.lst ys)) (fun D2 hD2=>⟨rfl,rfl⟩) (fun D2 k ys J2 hq_=>by obtain ⟨f1,f2⟩:=hq_;exact ⟨by rw [f2];exact Ab,by rw [f1];unfold fqv;rw [length_map];exact length_take_le _ _⟩) (fun D2 k ys J2 hD2 hq_=>by obtain ⟨_,f2⟩:=hq_;rw [f2];exact SqL.of (Ag hD2 _ _ _ (n3 _ _ hr'))) ?_ ?_
  ·rintro D2 k y ys J2 L1 L2 hD2 hy ⟨e,rfl⟩ ll1 ll2
   unfold rwv at hy
   rw [List.getElem?_map] at hy
   obtain ⟨x,hx,rfl⟩:=Option.map_eq_some_iff.mp hy
   obtain ⟨gx,xl,xb⟩:=gr x (mem_of_getElem? hx)
   have sD:=n3.trans (Ag hD2 (.lst ys))
   refine yes (ifT rfl ?_)
   refine ⟨_,rfl,_,rfl,x.1,_,_,_,rfl,rfl,SqL.of (sD _ _ gx.1),(by rw [Int.zero_add];exact Dj (by unfold fqv;rw [List.getElem?_map,P2 (by omega)];rfl)),?_⟩
   refine ll1 _ _ Ab ⟨?_,by rw [Dk]⟩
   rw [e,take_add_one,show (Dw rs i)[k]?=some (x.2.getD i (0,0,1)) from by unfold Dw;rw [List.getElem?_map,hx];rfl]
   unfold fqv
   rw [map_append]
   rfl
  rintro D2 ys J2 hD2 ⟨rfl,rfl⟩
  have cl:(Dw rs i).length=rs.length:=length_map ..
  rw [rl',<- cl,take_of_length_le (Nat.le_refl _)]
  have s2:=Ag hD2 (.lst (fqv (Dw rs i)))
  have e2:(upd J D2 (.lst (fqv (Dw rs i)))) D2=some (.lst (fqv (Dw rs i))):=Ab
  generalize upd J D2 (.lst (fqv (Dw rs i)))=J3 at s2 e2 ⊢
  have sJ:=n3.trans s2
  have gc:∀f∈Dw rs i,FqG J3 f/\FqM M f.2:=fun f m=>by
   obtain ⟨x,xm,rfl⟩:=mem_map.mp m
   obtain ⟨gx,xl,xb⟩:=gr x xm
   have hm:x.2.getD i (0,0,1)∈x.2:=mem_of_getElem? (P2 (by omega))
   exact ⟨(gx.2 _ hm).same sJ,xb _ hm⟩
  refine ⟨l,D2,ls,Dw rs i,M,rfl,sJ _ _ hl,(fun q m=>⟨sJ _ _ (gl q m).1,sJ _ _ (gl q m).2⟩),e2,gc,M0,Mz,by rw [cl];exact le,l60,nz,fun T v3 J4 s4 wm4 e4=>?_⟩
  have n2':=(s2.trans s4) _ _ n2
  refine kk1 _ _ n2' ⟨fs++[(T,v3)],by unfold fqv;rw [map_append];rfl,by rw [length_append,n1];rfl,Ab,A1 (sJ.trans s4) hD,fun f m=>FqG.upd ?_ n2',fun j f e=>?_⟩
  ·rcases mem_append.mp m with m | m
   ·exact (n4 f m).same (s2.trans s4)
   ·rw [mem_singleton.mp m];exact e4
  ·rcases (by omega:j < i\/j=i\/i < j) with lt | eq | gt
   ·rw [List.getElem?_append_left (by omega)] at e
    exact n5 j f e
   ·subst eq
    rw [<- n1,List.getElem?_append_right (Nat.le_refl _),Nat.sub_self] at e
    have e':=Option.some.inj e
    rw [<- e']
    exact wm4
   ·rw [List.getElem?_eq_none (by rw [length_append,n1];exact gt)] at e
    cases e
 rintro D ys J hD ⟨fs,rfl,n1,n2,n3,n4,n5⟩
 exact q D fs J hD n3 n2 n4 n1 n5
theorem Kf (T:Tx K mg ad):AG P w K mg base CX0 4 ad.f_part_kept ad.d_part_kept ["tally","quota"] PZ:=by
 refine T.F_part_kept.ok JD (fun vs H Q E h=>?_) (fun cdv A outer s H vs Q E hr h=>?_)
 ·obtain ⟨f,qu,rfl,_⟩:=h
  rfl
 obtain ⟨f,qu,rfl,gf,b0,q1,szq,szt,szb,q⟩:=h
 refine ⟨_,((@AS _ _ _ _ _ _ _ _ (@CD _ _ _ (@Aj _ _ _ _ _ _ _ _ _ _ _ _ _ _ _ _ (FD T) (hr.mono (by decide)) rfl T.m_under T.F_under.kp T.b_under .nil Ar ((@AI _ _ _ _ _ ((pv 1)*>(Af*>Ae)))*>((pv 0)*>Ae)) (by decide) (by rfl) (by rfl)) (by intro _;rfl)) (@Ah _ _ _ (@Ao _ _ _ _ (@Aj _ _ _ _ _ _ _ _ _ _ _ _ _ _ _ _ (N7 T) (hr.mono (by decide)) rfl T.m_parted T.F_parted.kp T.b_parted .nil Ar ((@AI _ _ _ _ _ ((pv 1)*>(Af*>Ae)))*>((pv 0)*>Ae)) (by decide) (by rfl) (by rfl)))) As)>>(@Ah _ _ _ (@Ao _ _ _ _ (@AI _ _ _ _ _ (Af*>(Af*>Ae)))))),?_⟩
 and_intros
 refine ⟨(by show 2<=sizeLine;decide),fun a ha=>?_⟩
 have s1:=Ag ha (.tup [V.int qu,V.int 1])
 have e1:(upd H a (.tup [V.int qu,V.int 1])) a=some (.tup [V.int qu,V.int 1]):=Ab
 generalize upd H a (.tup [V.int qu,V.int 1])=H1 at s1 e1 ⊢
 have one:Sz 9000 (1:Int):=Bz (by decide +kernel) (by decide +kernel)
 and_intros
 refine ⟨a,f.1,qu,1,f.2.1,f.2.2,rfl,e1,s1 _ _ gf,szq.mono (by decide),one,szt.mono (by decide),szb.mono (by decide),?_⟩
 by_cases c:qu*f.2.2 < f.2.1*1
 ·have e:Em f.2 qu=(Cr (qu*f.2.2) (1*f.2.1),Cm (qu*f.2.2) (1*f.2.1)):=by unfold Em;rw [if_pos c]
  rw [decide_eq_true c]
  and_intros
  refine ⟨(by show 2<=sizeLine;decide),fun b hb=>?_⟩
  have s2:=Ag hb (.tup [V.int qu,V.int 1])
  have e2:(upd H1 b (.tup [V.int qu,V.int 1])) b=some (.tup [V.int qu,V.int 1]):=Ab
  generalize upd H1 b (.tup [V.int qu,V.int 1])=H2 at s2 e2 ⊢
  and_intros
  have t0:0 < f.2.1:=by
   have:=Int.mul_pos (show 0 < qu by omega) b0
   omega
  refine ⟨b,f.1,qu,1,f.2.1,f.2.2,rfl,e2,(s1.trans s2) _ _ gf,(by show (1:Int)*f.2.1≠0;omega),szq.mono (by decide),(Bz (by decide) (by decide):Sz 64 (1:Int)).mono (by decide),szt.mono (by decide),szb.mono (by decide),fun z H' s' e'=>q z H' (s1.trans (s2.trans s')) (by rw [e];exact e')⟩
 ·have e:Em f.2 qu=(1,1):=by unfold Em;rw [if_neg c]
  rw [decide_eq_false c]
  and_intros
  refine ⟨(by show 2<=sizeLine;decide),fun b hb=>?_⟩
  exact q b _ (s1.trans (Ag hb _)) (by rw [e];exact Ab)
theorem Iw (T:Tx K mg ad):AG P w K mg base CX0 4 ad.f_Seats_init ad.d_Seats_init ["self","hands","seats","lots"] (NU K):=by
 refine T.F_Seats_init.ok IP (fun vs H Q E h=>?_) (fun cdv A outer s H vs Q E hr h=>?_)
 ·obtain ⟨a,C,dx,h,s,lv,ns,rfl,_⟩:=h
  rfl
 obtain ⟨a,C,dx,h,s,lv,ns,rfl,ha,cl,n1,n2,n3,h1,h12,s1,s6,lo,q⟩:=h
 refine ⟨_,((@BE _ _ _ _ (SW (Lp T) (hr.mono (by decide)) rfl T.m_Way T.cf_Way_init__ T.F_Way_init.kp T.b_Way_init .nil Ar ((pv 0)*>((pv 1)*>((pv 2)*>((pv 3)*>Ae))))) (by rfl))>>(@Ah _ _ _ (@AS _ _ _ _ _ _ _ _ (@Aq _ _ _ _ _ _ _ _ MZ (pv 2) (JK (v:=.int 6) rfl T.k_MOST_PLACES ⟨_,rfl⟩) (Aw _)) (@Ah _ _ _ EG) As))),?_⟩
 and_intros
 refine ⟨a,C,dx,h,s,lv,ns,rfl,ha,cl,n1,n2,n3,h1,h12,s1,by omega,lo,fun l' H1 la hl' g1 a1 l1=>?_⟩
 and_intros
 refine ifF (decide_eq_false (by omega)) ?_
 exact q l' H1 g1 a1 l1
theorem FG (T:Tx K mg ad):AG P w K mg base CX0 4 ad.f_Seats_deed_due ad.d_Seats_deed_due ["self","sums","standing","places","quota"] (Ra ad.c_Seats):=by
 refine T.F_Seats_deed_due.ok DS (fun vs H Q E h=>?_) (fun cdv A outer s H vs Q E hr h=>?_)
 ·obtain ⟨a,l,h,s,xs,m,qu,pl,fs,su,rfl,_⟩:=h
  rfl
 obtain ⟨a,l,h,s,xs,m,qu,pl,fs,su,rfl,is,sg,hx,x12,m0,m1,hb,szq,q⟩:=h
 refine ⟨_,((@AS _ _ _ _ _ _ _ _ (@Aq _ _ _ _ _ _ _ _ Lk (@Aj _ _ _ _ _ _ _ _ _ _ _ _ _ _ _ _ (MI T) (hr.mono (by decide)) rfl T.m_size T.F_size.kp T.b_size .nil Ar ((pv 2)*>Ae) (by decide) (by rfl) (by rfl)) (pv 3) (Aw _)) (@Ah _ _ _ (@Ao _ _ _ _ (@AI _ _ _ _ _ (Dr*>(FA*>Ae))))) As)>>((@AS _ _ _ _ _ _ _ _ (@Aq _ _ _ _ _ _ _ _ By (pv 3) Af (Aw _)) (@Ah _ _ _ (@Ao _ _ _ _ (@AI _ _ _ _ _ (Dr*>(FA*>Ae))))) As)>>((@Ak _ _ (5) _ _ _ _ DS.nd rfl (Or.inl rfl) (AV (pv 0) T.cl_Seats T.me_Seats_greatest (FF T) (hr.mono (by decide)) T.b_Seats_greatest .nil Ar ((pv 1)*>((pv 2)*>Ae))) (by rfl) (by nofun))>>((@AS _ _ _ _ _ _ _ _ (@DX _ _ _ _ (@CD _ _ _ (@Aj _ _ _ _ _ _ _ _ _ _ _ _ _ _ _ _ (FD T) (hr.mono (by decide)) rfl T.m_under T.F_under.kp T.b_under .nil Ar ((@At _ _ _ _ _ _ _ A5 (pv 1) (pv 5) (fun _ _=>rfl))*>((@AI _ _ _ _ _ ((pv 4)*>(Af*>Ae)))*>Ae)) (by decide) (by rfl) (by rfl)) (by intro _;rfl))) (@Ah _ _ _ (@Ao _ _ _ _ (@AI _ _ _ _ _ (Dr*>((pv 5)*>Ae))))) As)>>(@Ah _ _ _ (@Ao _ _ _ _ (@AI _ _ _ _ _ (Dr*>((AV (pv 0) T.cl_Seats T.me_Seats_lowest (GP T) (hr.mono (by decide)) T.b_Seats_lowest .nil Ar ((pv 1)*>((pv 2)*>Ae)))*>Ae))))))))),?_⟩
 have is':=id is
 obtain ⟨dx,lo,k1,k2⟩:=is'
 unfold Dq at q
 and_intros
 refine ⟨m0,m1,fun H1 s1=>?_⟩
 have k11:=s1 _ _ k1
 by_cases c1:(hands 12 (bit m)).length<=pl
 ·rw [if_pos c1] at q
  and_intros
  refine ifT (decide_eq_true (by omega)) ?_
  and_intros
  refine ⟨(by show 2<=sizeLine;decide),fun t ht=>?_⟩
  exact q t _ (none_of s1 ht) (s1.trans (Ag ht _)) Ab
 rw [if_neg c1] at q
 and_intros
 refine ifF (decide_eq_false (by omega)) ?_
 and_intros
 by_cases c2:pl=0
 ·rw [if_pos c2] at q
  refine ifT (DI (by omega)) ?_
  and_intros
  refine ⟨(by show 2<=sizeLine;decide),fun t ht=>?_⟩
  exact q t _ (none_of s1 ht) (s1.trans (Ag ht _)) Ab
 rw [if_neg c2] at q
 refine ifF (DH (by omega)) ?_
 have ne:Bc xs m≠[]:=fun e=>by
  have:hands 12 (bit m)≠[]:=fun z=>by rw [z] at c1;exact c1 (Nat.zero_le _)
  obtain ⟨z,zm⟩:=exists_mem_of_ne_nil _ this
  obtain ⟨j,j12,bj,rfl⟩:=BM.mp zm
  have:(j:Int)∈Bc xs m:=mem_filter.mpr ⟨hb j bj,by rw [Int.toNat_natCast];exact bj⟩
  rw [e] at this
  exact nomatch this
 have bm:=L4 (su:=su) ne
 have wm:=Jq (su:=su) ne
 have bx:=hx _ (mem_filter.mp bm).1
 have wx:=hx _ (mem_filter.mp wm).1
 and_intros
 refine ⟨a,dx,_,rfl,k11,rfl,?_⟩
 and_intros
 refine ⟨a,l,h,s,xs,m,fs,su,rfl,is.same s1,sg.same s1,hx,x12,ne,fun H2 s2=>?_⟩
 have s12:=s1.trans s2
 have sg2:=sg.same s12
 have l2:=sg2.l
 obtain ⟨ab,a1,a2,a3,a4⟩:=sg2.at bx.1 bx.2
 and_intros
 refine ⟨l,_,_,_,rfl,rfl,SqL.of l2,a1,?_⟩
 and_intros
 refine ⟨(by show 2<=sizeLine;decide),fun t0 ht0=>?_⟩
 have s3:=Ag ht0 (.tup [V.int qu,V.int 1])
 have e3:(upd H2 t0 (.tup [V.int qu,V.int 1])) t0=some (.tup [V.int qu,V.int 1]):=Ab
 generalize upd H2 t0 (.tup [V.int qu,V.int 1])=H3 at s3 e3 ⊢
 have s13:=s12.trans s3
 and_intros
 refine ⟨ab,t0,_,_,qu,1,rfl,s3 _ _ a2,e3,a3,a4,szq.mono (by decide),(Bz (by decide) (by decide):Sz 64 (1:Int)).mono (by decide),?_⟩
 rw [show decide ((pr (at0 su (EH su (Bc xs m)))).1*1 < qu*(pr (at0 su (EH su (Bc xs m)))).2)=decide (at0 su (EH su (Bc xs m)) < (qu:Rat)) from decide_eq_decide.mpr (MY _ (qu:Rat))]
 by_cases c3:at0 su (EH su (Bc xs m)) < (qu:Rat)
 ·rw [if_pos c3] at q
  rw [decide_eq_true c3]
  have k13:=s13 _ _ k1
  and_intros
  refine ⟨a,dx,_,rfl,k13,rfl,?_⟩
  and_intros
  refine ⟨a,l,h,s,xs,m,fs,su,rfl,is.same s13,sg.same s13,hx,x12,ne,fun H4 s4=>?_⟩
  refine ⟨(by show 2<=sizeLine;decide),fun t ht=>?_⟩
  refine q t _ (none_of (s13.trans s4) ht) ((s13.trans s4).trans (Ag ht _)) ?_
  rw [Ab]
  show _=some (HO.tup [V.str "out",V.int ((Gm su (Bc xs m)).toNat:Int)])
  rw [Int.toNat_of_nonneg wx.1]
 ·rw [if_neg c3] at q
  rw [decide_eq_false c3]
  and_intros
  refine ⟨(by show 2<=sizeLine;decide),fun t ht=>?_⟩
  refine q t _ (none_of s13 ht) (s13.trans (Ag ht _)) ?_
  rw [Ab]
  show _=some (HO.tup [V.str "seat",V.int ((EH su (Bc xs m)).toNat:Int)])
  rw [Int.toNat_of_nonneg bx.1]
theorem Mx (T:Tx K mg ad):AG P w K mg base CX0 5 ad.f_kept_by ad.d_kept_by ["sheet","state","standing","hand","quota"] Rx:=by
 refine T.F_kept_by.ok BF (fun vs H Q E h=>?_) (fun cdv A outer s H vs Q E hr h=>?_)
 ·obtain ⟨l,st,h,hd,ls,xs,s,qu,M,rfl,_⟩:=h
  rfl
 obtain ⟨l,st,h,hd,ls,xs,s,qu,M,rfl,hl,gl,hs,gx,M0,Mz,le,l60,h12,hh,q1,szq,li,q⟩:=h
 refine ⟨_,((Ph (j:=5) (fsc:=Ad CQ) (N:=["sheet","state","standing","hand","quota","shares","part","reckoned","behind","one","share","asked","given"]) (Nc:=["sheet","state","standing","hand","quota","shares","part","reckoned","behind",".s9","share","asked","given","line","one"]) rfl rfl ⟨rfl,by decide +kernel,by decide +kernel,by decide +kernel,by decide +kernel,rfl,by decide +kernel,rfl,by decide +kernel⟩ rfl BF.nd rfl rfl (JP rfl T.z_zip ((pv 0)*>((pv 1)*>Ae))) (fun _ _ _ _=>B2) (fun _ _ _ _=>(@Aj _ _ _ _ _ _ _ _ _ _ _ _ _ _ _ _ (Lh T) (hr.mono (by decide)) rfl T.m_share_at T.F_share_at.kp T.b_share_at .nil Ar ((@At _ _ _ _ _ _ _ (DO K) (pv 13) Af (fun _ _=>rfl))*>((@At _ _ _ _ _ _ _ (DO K) (pv 14) Af (fun _ _=>rfl))*>((pv 2)*>((pv 3)*>Ae)))) (by decide) (by rfl) (by rfl))) rfl)>>((@Ak _ _ (6) _ _ _ _ BF.nd rfl (Or.inl rfl) (@Aj _ _ _ _ _ _ _ _ _ _ _ _ _ _ _ _ (Kf T) (hr.mono (by decide)) rfl T.m_part_kept T.F_part_kept.kp T.b_part_kept .nil Ar ((@Aj _ _ _ _ _ _ _ _ _ _ _ _ _ _ _ _ (HA T) (hr.mono (by decide)) rfl T.m_weighed T.F_weighed.kp T.b_weighed .nil Ar ((pv 0)*>((pv 5)*>Ae)) (by decide) (by rfl) (by rfl))*>((pv 4)*>Ae)) (by decide) (by rfl) (by rfl)) (by rfl) (by nofun))>>((@Ak _ _ (7) _ _ _ _ BF.nd rfl (Or.inl rfl) Qg (by rfl) (by nofun))>>((@Ak _ _ (8) _ _ _ _ BF.nd rfl (Or.inl rfl) (@BU _ _ _ _ Ae) (by rfl) (by nofun))>>((D9 PassesOwn.never rfl (JP rfl T.z_zip ((pv 1)*>((pv 5)*>Ae))) (Fw rfl (Be (Bg (i:=9) BF.nd rfl (Or.inl rfl)) (Be (Bg (i:=10) BF.nd rfl (Or.inl rfl)) E4))) ((@Ak _ _ (11) _ _ _ _ BF.nd rfl (Or.inl rfl) (@AI _ _ _ _ _ ((@At _ _ _ _ _ _ _ Ay (pv 9) Af (fun _ _=>rfl))*>((pv 10)*>Ae))) (by rfl) (by nofun))>>((@Cj _ _ _ _ _ _ _ _ (@Aq _ _ _ _ _ _ _ _ (NB (u2 hr.units)) (pv 11) (pv 7) (by with_unfolding_all rfl)) ((@Ak _ _ (12) _ _ _ _ BF.nd rfl (Or.inl rfl) (@Aj _ _ _ _ _ _ _ _ _ _ _ _ _ _ _ _ (OQ T) (hr.mono (by decide)) rfl T.m_times T.F_times.kp T.b_times .nil Ar ((pv 10)*>((pv 6)*>Ae)) (by decide) (by rfl) (by rfl)) (by rfl) (by nofun))>>(@Ah _ _ _ (OD (u2 hr.units) (pv 7) (pv 11) (@AI _ _ _ _ _ ((pv 12)*>((@Aj _ _ _ _ _ _ _ _ _ _ _ _ _ _ _ _ (PC T) (hr.mono (by decide)) rfl T.m_minus T.F_minus.kp T.b_minus .nil Ar ((@At _ _ _ _ _ _ _ Ay (pv 9) Af (fun _ _=>rfl))*>((pv 12)*>Ae)) (by decide) (by rfl) (by rfl))*>Ae))) rfl))) As)>>(@Ah _ _ _ (@BE _ _ _ _ (Eg PySem.F.plainAttrs_list PySem.F.slot_list_append PySem.F.type_list_append BO (pv 8) ((@AI _ _ _ _ _ ((@At _ _ _ _ _ _ _ Ay (La (u2 hr.units) (pv 7) (pv 11) (fun _ _=>rfl)) Af (fun _ _=>rfl))*>((@Aj _ _ _ _ _ _ _ _ _ _ _ _ _ _ _ _ (JI T) (hr.mono (by decide)) rfl T.m_with_kept T.F_with_kept.kp T.b_with_kept .nil Ar ((@At _ _ _ _ _ _ _ Ay (pv 9) Af (fun _ _=>rfl))*>((pv 3)*>((@At _ _ _ _ _ _ _ Ay (La (u2 hr.units) (pv 7) (pv 11) (fun _ _=>rfl)) Af (fun _ _=>rfl))*>Ae))) (by decide) (by rfl) (by rfl))*>Ae)))*>Ae)) (by rfl))))))>>(@Ah _ _ _ (@Ao _ _ _ _ (pv 8)))))))),?_⟩
 have vl:=DT ls
 have xl:(shv xs).length=xs.length:=length_map ..
 have zl:(BA ls xs s hd).length=ls.length:=by unfold BA;rw [length_map,length_zip,le,Nat.min_self]
 and_intros
 refine ⟨l,st,rfl,⟨_,SqL.of hl⟩,⟨_,SqL.of hs⟩,?_⟩
 refine KJ (xs:=vls ls) (zs:=shv xs) rfl rfl (by omega) (by rw [vl];exact Bx (by omega)) (fun D i ys J=>∃fs:List Fq,ys=fqv fs/\J D=some (.lst ys)/\fs.length=i/\Au H J/\(∀f∈fs,FqG J f)/\fs.map (·.2)=(BA ls xs s hd).take i) (fun D hD=>⟨[],rfl,Ab,rfl,Ag hD _,(fun _ m=>absurd m List.not_mem_nil),rfl⟩) (fun D i ys J hq_=>by obtain ⟨fs,f1,f2,f3,_⟩:=hq_;exact ⟨f2,by rw [f1];unfold fqv;rw [length_map,f3];exact Nat.le_refl _⟩) (fun D i ys J hD hq_=>by obtain ⟨_,_,_,_,f4,_⟩:=hq_;exact ⟨SqL.of (f4 _ _ hl),SqL.of (f4 _ _ hs)⟩) ?_ ?_
 ·rintro D i x y T ys J K1 K2 hD hx hy ⟨fs,rfl,n1,n2,n3,n4,n5⟩ hT kk1 kk2
  obtain ⟨f,hf,rfl,fm,et⟩:=GS hx
  unfold shv at hy
  rw [List.getElem?_map] at hy
  obtain ⟨g,hg,rfl⟩:=Option.map_eq_some_iff.mp hy
  obtain ⟨gg,gb,ggc,gl'⟩:=gx g (mem_of_getElem? hg)
  have s1:=Ag hT (.tup [V.ref f.1,V.ref g.1])
  generalize upd J T (.tup [V.ref f.1,V.ref g.1])=J1 at s1 ⊢
  have sJ:=n3.trans s1
  refine yes (ifT rfl ?_)
  refine ⟨_,rfl,f.1,_,_,_,rfl,rfl,SqT.of (sJ _ _ (gl f fm).1),rfl,?_⟩
  refine ⟨_,rfl,g.1,_,_,_,rfl,rfl,SqT.of (sJ _ _ gg.t),rfl,?_⟩
  refine ⟨_,rfl,_,rfl,?_⟩
  refine ⟨f.2.1,h,hd,f.2.2.1,g.2.1,s,rfl,sJ _ _ (gl f fm).2,gg.f.same sJ,gb.fq M0 (Mz.mono (by decide)),h12,hh,(li f fm).1,fun a J2 s2 g2=>?_⟩
  have n1':=(s1.trans s2) _ _ n1
  refine kk1 _ _ n1' ⟨fs++[(a,Cl f.2.2.1 s hd g.2.1.2)],by unfold fqv;rw [map_append];rfl,Ab,by rw [length_append,n2];rfl,A1 (n3.trans (s1.trans s2)) hD,(fun f m=>FqG.upd ?_ n1'),?_⟩
  ·rcases mem_append.mp m with m | m
   ·exact (n4 f m).same (s1.trans s2)
   ·rw [mem_singleton.mp m];exact g2
  ·have tz:(BA ls xs s hd)[i]?=some (Cl f.2.2.1 s hd g.2.1.2):=by
    unfold BA
    rw [List.getElem?_map,show (ls.zip xs)[i]?=some (f,g) from List.getElem?_zip_eq_some.mpr ⟨hf,hg⟩]
    rfl
   rw [take_add_one,tz,map_append,n5]
   rfl
 rintro D ys H1 hD ⟨fs,rfl,e1,fl,s1,g1,v1⟩
 rw [vl,<- zl,take_of_length_le (Nat.le_refl _)] at v1
 rw [vl] at fl
 have M1:0 < M*27720:=by omega
 have Mz1:Sz 2225 (M*27720):=(Mz.mul (Bz (by decide) (by decide):Sz 15 (27720:Int))).mono (by decide)
 have flow:∀f∈fs,FqM (M*27720) f.2/\AJ f.2.1 f.2.2=1:=fun f m=>by
  have:f.2∈fs.map (·.2):=mem_map.mpr ⟨f,m,rfl⟩
  rw [v1] at this
  obtain ⟨p,pm,e⟩:=mem_map.mp this
  rw [<- e]
  obtain ⟨_,pm1,pm2,_⟩:=gx p.2 (of_mem_zip pm).2
  obtain ⟨a1,a2,_⟩:=MU (ts:=p.1.2.2.1) (s:=s) (hd:=hd) (by omega) M0 pm1 pm2
  exact ⟨a1,a2⟩
 and_intros
 refine ⟨l,D,ls,fs,M*27720,rfl,s1 _ _ hl,(fun q m=>⟨s1 _ _ (gl q m).1,s1 _ _ (gl q m).2⟩),e1,(fun f m=>⟨g1 f m,(flow f m).1⟩),M1,Mz1.mono (by decide),by omega,l60,(fun q m=>(li q m).2),fun T v H2 s2 wi g2=>?_⟩
 obtain ⟨t0v,v0,vg,vzb,_,vzt⟩:=RQ wi M1 Mz1 (fun q m=>(li q m).2) (fun f m=>(flow f m).1) l60
 and_intros
 refine ⟨(T,v),qu,rfl,g2,v0,q1,szq.mono (by decide),vzt.mono (by decide),vzb.mono (by decide),fun pa H3 s3 g3=>?_⟩
 have pr:=Sj (n:=0) v0 q1 vzt
 generalize hpt:Em v qu=part at g3 pr
 have s13:=s2.trans s3
 have s03:=s1.trans s13
 have g3':H3 pa=some (.tup [.int part.1,.int part.2]):=g3
 and_intros
 intro d ob hd0 nt0
 have s4:=Ag hd0 (hoF d ob)
 generalize upd H3 d (hoF d ob)=H4 at s4 nt0 ⊢
 and_intros
 refine ⟨(by show 0<=sizeLine;decide),fun bh hbh=>?_⟩
 have s5:=Ag hbh (.lst [])
 have e5:(upd H4 bh (.lst [])) bh=some (.lst []):=Ab
 generalize upd H4 bh (.lst [])=H5 at s5 e5 ⊢
 have dH:H d=none:=none_of s03 hd0
 have bH:H bh=none:=none_of (s03.trans s4) hbh
 and_intros
 refine ⟨st,D,rfl,⟨_,SqL.of ((s03.trans (s4.trans s5)) _ _ hs)⟩,⟨_,SqL.of ((s13.trans (s4.trans s5)) _ _ e1)⟩,?_⟩
 refine MC (xs:=shv xs) (ys:=fqv fs) (by unfold fqv;rw [xl,length_map];omega) (fun i σ' J=>∃(v9 v10 v11 v12:Option V) (kvs:List (List (List Key) × V)) (ys:List Sh),σ'=[some (.ref l),some (.ref st),some (.int s),some (.int (hd:Int)),some (.int qu),some (.ref D),some (.ref pa),some (.ref d),some (.ref bh),v9,v10,v11,v12]/\Au H3 J/\NT P w J d kvs/\kvs.length<=i/\RIn part J kvs/\J bh=some (.lst (shv ys))/\ys.length=i/\(∀y∈ys,ShG J y/\H y.2.2.1=none/\y.2.2.1≠bh)/\(ys.map fun y=>y.2.2.1).Nodup/\ys.map shV=((xs.zip (BA ls xs s hd)).take i).map fun p=>IZ hd p.2 part (shV p.1)) ⟨none,none,none,none,[],[],rfl,s4.trans s5,nt0.same s5,Nat.le_refl _,(fun k v z=>nomatch z),e5,rfl,(fun _ m=>absurd m List.not_mem_nil),nodup_nil,rfl⟩ (fun i σ' J _ hq_=>by obtain ⟨_,_,_,_,_,_,_,e,_⟩:=hq_;exact ⟨SqL.of (e _ _ (s03 _ _ hs)),SqL.of (e _ _ (s13 _ _ e1))⟩) ?_ ?_
 ·rintro i x0 y0 T0 σ' J hx hy ⟨v9,v10,v11,v12,kvs,ys,rfl,sJ,nt,kl,ri,eb,yl,gy,nd,vy⟩ hT0
  unfold shv at hx
  rw [List.getElem?_map] at hx
  obtain ⟨x,hx',rfl⟩:=Option.map_eq_some_iff.mp hx
  unfold fqv at hy
  rw [List.getElem?_map] at hy
  obtain ⟨f,hf,rfl⟩:=Option.map_eq_some_iff.mp hy
  obtain ⟨gx0,lx,lxg,lenx⟩:=gx x (mem_of_getElem? hx')
  have fm:=mem_of_getElem? hf
  obtain ⟨lf,lfg⟩:=flow f fm
  have lzt:=lf.szt M1 Mz1
  have lzb:=lf.szb M1 Mz1
  obtain ⟨glo,gle⟩:=Rg lf.t0 lf.b0 lzt lzb pr
  have s6:=Ag hT0 (.tup [V.ref x.1,V.ref f.1])
  have e6:(upd J T0 (.tup [V.ref x.1,V.ref f.1])) T0=some (.tup [V.ref x.1,V.ref f.1]):=Ab
  generalize upd J T0 (.tup [V.ref x.1,V.ref f.1])=J1 at s6 e6 ⊢
  have xt1:=(s03.trans (sJ.trans s6)) _ _ gx0.t
  refine ⟨T0,_,rfl,SqT.of e6,rfl,_,_,rfl,_,_,rfl,rfl,?_⟩
  and_intros
  refine ⟨(by show 2<=sizeLine;decide),fun A hA=>?_⟩
  have s7:=Ag hA (.tup [V.ref x.2.1.1,V.ref f.1])
  have e7:(upd J1 A (.tup [V.ref x.2.1.1,V.ref f.1])) A=some (.tup [V.ref x.2.1.1,V.ref f.1]):=Ab
  generalize upd J1 A (.tup [V.ref x.2.1.1,V.ref f.1])=J2 at s7 e7 ⊢
  have s67:=s6.trans s7
  have sJ2:=sJ.trans s67
  have gxJ:=gx0.same (s03.trans sJ2)
  have gfJ:=(g1 f fm).same (s13.trans sJ2)
  have key:=QS (f:=x.2.1) (s:=f) e7 gxJ.f gfJ
  have nt2:=nt.same s67
  have ri2:=ri.same s67
  have xt2:=gxJ.t
  have ge:L2' (Bk f.2 part) x.2.1.2:=by
   refine L2'.trans lf.b0 (Int.le_of_lt glo.b0) (Int.le_of_lt lx.b0) gle ?_
   have:f.2∈fs.map (·.2):=mem_map.mpr ⟨f,fm,rfl⟩
   have hz:(BA ls xs s hd)[i]?=some f.2:=by rw [<- v1,List.getElem?_map,hf];rfl
   unfold BA at hz
   rw [List.getElem?_map] at hz
   obtain ⟨pp,hp,e⟩:=Option.map_eq_some_iff.mp hz
   obtain ⟨p1,p2⟩:=List.getElem?_zip_eq_some.mp hp
   have:pp.2=x:=Option.some.inj (p2.symm.trans hx')
   rw [<- e,this]
   exact (MU (by omega) M0 lx lxg).2.2
  obtain ⟨ob2,hob2⟩:∃ob,J2 d=some (hoF d ob):=by obtain ⟨ob,z,_⟩:=id nt2;exact ⟨ob,z⟩
  and_intros
  refine ⟨fun σ' J3=>∃(v12:Option V) (kvs':List (List (List Key) × V)),σ'=[some (.ref l),some (.ref st),some (.int s),some (.int (hd:Int)),some (.int qu),some (.ref D),some (.ref pa),some (.ref d),some (.ref bh),some (.ref x.1),some (.ref f.1),some (.ref A),v12]/\LM d J2 J3/\NT P w J3 d kvs'/\kvs'.length<=i+1/\RIn part J3 kvs'/\∃u,Bd kvs' (nk x.2.1.2 f.2)=some u,?_,?_⟩
  ·and_intros
   refine ⟨d,A,kvs,nk x.2.1.2 f.2,rfl,rfl,nt2,key,?_⟩
   cases hv:Bd kvs (nk x.2.1.2 f.2) with
   | some u =>
     and_intros
     exact ⟨_,kvs,rfl,(fun b u e _=>e),nt2,by omega,ri2,u,hv⟩
   | none =>
     and_intros
     refine ⟨f.1,pa,f.2.1,f.2.2,part.1,part.2,rfl,gfJ,sJ2 _ _ g3,(by show f.2.2*part.2≠0;exact Int.ne_of_gt (Int.mul_pos lf.b0 pr.b0)),lzt.mono (by decide),lzb.mono (by decide),pr.szt.mono (by decide),pr.szb.mono (by decide),fun g J4 s8 g8=>?_⟩
     have g8':FqG J4 (g,Bk f.2 part):=g8
     have xt4:=s8 _ _ xt2
     and_intros
     refine ⟨x.2.1.1,g,x.2.1.2.1,x.2.1.2.2,(Bk f.2 part).1,(Bk f.2 part).2,rfl,s8 _ _ gxJ.f,g8',(by show x.2.1.2.2*(Bk f.2 part).2≠0;exact Int.ne_of_gt (Int.mul_pos lx.b0 glo.b0)),(lx.szt M0 Mz).mono (by decide),(lx.szb M0 Mz).mono (by decide),glo.szt.mono (by decide),glo.szb.mono (by decide),fun r J5 s9 g9=>?_⟩
     have g9':FqG J5 (r,Fk x.2.1.2 (Bk f.2 part)):=g9
     and_intros
     refine ⟨(by show 2<=sizeLine;decide),fun tt htt=>?_⟩
     have s10:=Ag htt (.tup [V.ref g,V.ref r])
     have e10:(upd J5 tt (.tup [V.ref g,V.ref r])) tt=some (.tup [V.ref g,V.ref r]):=Ab
     generalize upd J5 tt (.tup [V.ref g,V.ref r])=J6 at s10 e10 ⊢
     have s26:=s8.trans (s9.trans s10)
     and_intros
     refine ⟨d,A,kvs,nk x.2.1.2 f.2,rfl,rfl,nt2.same s26,key.same s26,Nat.lt_of_le_of_lt kl (Nat.lt_of_lt_of_le (List.getElem?_eq_some_iff.mp hf).1 (by rw [fl];exact Bx (by omega))),fun ob3 nt3=>?_⟩
     have hob6:J6 d=some (hoF d ob2):=s26 _ _ hob2
     have tk:∀b zs,J6 b=some (.tup zs)->(upd J6 d (hoF d ob3)) b=some (.tup zs):=fun b zs e=>by rw [Al (Cw e hob6 (fun z=>by cases z))];exact e
     refine ⟨_,_,rfl,(fun b u e n=>by rw [Al n];exact s26 _ _ e),nt3,Nat.le_trans (C3 ..) (by omega),((ri2.same s26).put e10 (g8'.same (s9.trans s10)) (g9'.same s10)).tups tk,.ref tt,?_⟩
     rw [HL,if_pos rfl]
  rintro σ' J3 ⟨v12',kvs',rfl,oD,nt3,kl3,ri3,u,hu⟩
  obtain ⟨fr,sh,tt,g,r,k1,rfl,k3,k4,k5⟩:=ri3 _ _ hu
  obtain ⟨rfl,rfl⟩:=SD k1
  have eb3:=oD.lst hob2 _ _ (s67 _ _ eb)
  have gx3:=oD.sh hob2 gxJ
  have xt3:=gx3.t
  have key3:=key.tups (oD.tup hob2)
  and_intros
  refine ⟨.inl ⟨rfl,_,SqL.of eb3⟩,?_⟩
  and_intros
  refine ⟨d,A,kvs',nk x.2.1.2 f.2,.ref tt,rfl,rfl,nt3,key3,hu,?_⟩
  and_intros
  refine ⟨d,A,kvs',nk x.2.1.2 f.2,.ref tt,rfl,rfl,nt3,key3,hu,?_⟩
  and_intros
  refine ⟨x.2.2.1,hd,x.2.2.2,(g,Bk f.2 part),rfl,gx3.l,gx3.k,k4,by omega,by omega,fun kl2 J4 hkl s8 e8=>?_⟩
  refine ⟨(by show 2<=sizeLine;decide),fun t2 ht2=>?_⟩
  have s9:=Ag ht2 (.tup [V.ref r,V.ref kl2])
  have e9:(upd J4 t2 (.tup [V.ref r,V.ref kl2])) t2=some (.tup [V.ref r,V.ref kl2]):=Ab
  generalize upd J4 t2 (.tup [V.ref r,V.ref kl2])=J5 at s9 e9 ⊢
  have s89:=s8.trans s9
  have eb5:=s89 _ _ eb3
  have klb:kl2≠bh:=fun z=>by rw [z,eb3] at hkl;cases hkl
  have sJ3:∀b u,H3 b=some u->J3 b=some u:=fun b u e=>oD b u (sJ2 _ _ e) (AY e hd0)
  have klH:H kl2=none:=none_of (show Au H J3 from fun b u e=>sJ3 b u (s03 _ _ e)) hkl
  have tz:(xs.zip (BA ls xs s hd))[i]?=some (x,f.2):=List.getElem?_zip_eq_some.mpr ⟨hx',by rw [<- v1,List.getElem?_map,hf];rfl⟩
  refine ⟨bh,_,_,rfl,rfl,eb5,(by unfold shv;rw [length_map,yl];exact AH (by have:=(List.getElem?_eq_some_iff.mp hf).1;omega)),?_⟩
  refine ⟨_,_,_,_,kvs',ys++[(t2,(r,Fk x.2.1.2 (Bk f.2 part)),kl2,x.2.2.2.set hd (g,Bk f.2 part))],rfl,A1 (fun b u e=>s89 _ _ (sJ3 b u e)) (none_of s4 hbh),?_,kl3,?_,(by rw [Ab];unfold shv;rw [map_append];rfl),by rw [length_append,yl];rfl,(fun y k=>?_),?_,?_⟩
  ·obtain ⟨ob5,z1,z2,z3,xs5,z4,z5⟩:=nt3.same s89
   exact ⟨ob5,by rw [Al (fun z=>by rw [z,eb5] at z1;cases z1)];exact z1,z2,z3,xs5,z4.tups fun c cs e=>by rw [Al (Cw e eb5 (fun z=>by cases z))];exact e,z5⟩
  ·exact (ri3.same s89).tups fun c cs e=>by rw [Al (Cw e eb5 (fun z=>by cases z))];exact e
  ·rcases mem_append.mp k with k | k
   ·obtain ⟨a1,a2,a3⟩:=gy y k
    exact ⟨(((oD.sh hob2 (a1.same s67)).same s89)).upd eb5 a3,a2,a3⟩
   ·rw [mem_singleton.mp k]
    refine ⟨ShG.upd ⟨e9,k5.same s89,s9 _ _ e8,fun z zm=>?_⟩ eb5 klb,klH,klb⟩
    rcases mem_or_eq_of_mem_set zm with zm | rfl
    ·exact (gx3.k z zm).same s89
    ·exact k4.same s89
  ·rw [map_append,nodup_append]
   refine ⟨nd,nodup_cons.mpr ⟨(fun m=>nomatch m),nodup_nil⟩,fun y m z k e=>?_⟩
   obtain ⟨y',ym,rfl⟩:=mem_map.mp m
   rw [mem_singleton.mp k] at e
   have:=(oD.sh hob2 ((gy y' ym).1.same s67)).l
   rw [e] at this
   rw [hkl] at this
   cases this
  ·rw [take_add_one,tz,map_append,map_append,vy]
   show _++[_]=_++[_]
   congr 2
   show ((Fk x.2.1.2 (Bk f.2 part)),(x.2.2.2.set hd (g,Bk f.2 part)).map (·.2))=(Fk x.2.1.2 (Bk f.2 part),(x.2.2.2.map (·.2)).set hd (Bk f.2 part))
   rw [map_set]
 rintro σ' J ⟨v9,v10,v11,v12,kvs,ys,rfl,sJ,nt,kl,ri,eb,yl,gy,nd,vy⟩
 rw [xl,take_of_length_le (by rw [length_zip,zl,le,Nat.min_self];exact Nat.le_refl _)] at vy
 and_intros
 rw [<- hpt] at vy
 exact q bh ys fs v J bH (s03.trans sJ) eb gy nd v1 wi vy
theorem GM (T:Tx K mg ad):AG P w K mg base CX0 6 ad.f_state_behind ad.d_state_behind ["sheet","state","standing","deed","quota"] Ms:=by
 refine T.F_state_behind.ok GL (fun vs H Q E h=>?_) (fun cdv A outer s H vs Q E hr h=>?_)
 ·obtain ⟨l,st,dt,h,ls,xs,rs,s,qu,M,d,rfl,_⟩:=h
  rfl
 obtain ⟨l,st,dt,h,ls,xs,rs,s,qu,M,d,rfl,hd,hm,hl,gl,hs,gx,xv,si,M0,le,l60,h12,q1,szq,li,q⟩:=h
 refine ⟨_,((@AS _ _ _ _ _ _ _ _ (@Aq _ _ _ _ _ _ _ _ By (@At _ _ _ _ _ _ _ Ay (pv 3) Af (fun _ _=>rfl)) Dr (Aw _)) (@Ah _ _ _ (@Ao _ _ _ _ (@Aj _ _ _ _ _ _ _ _ _ _ _ _ _ _ _ _ (Mx T) (hr.mono (by decide)) rfl T.m_kept_by T.F_kept_by.kp T.b_kept_by .nil Ar ((pv 0)*>((pv 1)*>((pv 2)*>((@At _ _ _ _ _ _ _ Ay (pv 3) Af (fun _ _=>rfl))*>((pv 4)*>Ae))))) (by decide) (by rfl) (by rfl)))) As)>>(@Ah _ _ _ (@Ao _ _ _ _ (pv 1)))),?_⟩
 have hn:∀p∈Av ls,0<=p.2:=fun p m=>by obtain ⟨x,xm,rfl⟩:=mem_map.mp m;exact (li x xm).2.1
 have h0:∀x∈rs,0<=x.1:=fun x m=>(si.free x m).1
 have xin:∀x∈xs,FqM M x.2.1.2/\AJ x.2.1.2.1 x.2.1.2.2=1/\x.2.2.2.length=h:=fun x m=>by
  have:shV x∈rs.map Ee:=by rw [<- xv];exact mem_map.mpr ⟨x,m,rfl⟩
  obtain ⟨r,rm,e⟩:=mem_map.mp this
  obtain ⟨f0,f1,f2⟩:=si.free r rm
  have e1:pr r.1=x.2.1.2:=congrArg Prod.fst e
  have e2:r.2.map pr=x.2.2.2.map (·.2):=congrArg Prod.snd e
  refine ⟨by rw [<- e1];exact Ml f0 f1 f2,by rw [<- e1];exact JH _,?_⟩
  have:=congrArg List.length e2
  rw [length_map,length_map,si.len r rm] at this
  exact this.symm
 cases d with
 | seat hd' =>
   obtain ⟨hh,Mz⟩:=hm hd' rfl
   have hd1:H dt=some (.tup [.str "seat",.int (hd':Int)]):=hd
   and_intros
   refine ⟨l,st,h,hd',ls,xs,s,qu,M,rfl,hl,gl,hs,(fun x m=>⟨gx x m,xin x m⟩),M0,Mz,le,l60,h12,hh,q1,szq,li,fun a ys fs v H' ha s' e' g' nd fv wm vy=>?_⟩
   refine q a ys H' s' e' (fun y m=>⟨(g' y m).1,.inl (g' y m).2.1⟩) (.inl ha) ?_
   rw [Ja (by omega) xv h0] at fv
   have sn:∀r∈AU (Av ls) rs s hd',0<=r:=fun r m=>by
    obtain ⟨p,pm,rfl⟩:=mem_map.mp m
    exact (DC (h0 _ (of_mem_zip pm).2) (by omega)).1
   rw [vy,RG wm fv hn sn]
   exact R5 (by omega) q1 xv h0 hn
 | out hd' =>
   have hd1:H dt=some (.tup [.str "out",.int (hd':Int)]):=hd
   and_intros
   exact q st xs H (fun _ _ e=>e) hs (fun x m=>⟨gx x m,.inr ⟨x,m,rfl⟩⟩) (.inr rfl) xv
 | rest =>
   have hd1:H dt=some (.tup [.str "rest",.non]):=hd
   and_intros
   exact q st xs H (fun _ _ e=>e) hs (fun x m=>⟨gx x m,.inr ⟨x,m,rfl⟩⟩) (.inr rfl) xv
 | fin =>
   have hd1:H dt=some (.tup [.str "end",.non]):=hd
   and_intros
   exact q st xs H (fun _ _ e=>e) hs (fun x m=>⟨gx x m,.inr ⟨x,m,rfl⟩⟩) (.inr rfl) xv
theorem CW (T:Tx K mg ad):AG P w K mg base CX0 7 ad.f_Seats_counted ad.d_Seats_counted ["self","sheet"] (Oc ad.c_Seats):=by
 refine T.F_Seats_counted.ok A4 (fun vs H Q E h=>?_) (fun cdv A outer s H vs Q E hr h=>?_)
 ·obtain ⟨a,l,h,s,xs,ls,rfl,_⟩:=h
  rfl
 obtain ⟨a,l,h,s,xs,ls,rfl,is,h1,h12,s1,s6,pm,hl,gl,okl,l60,nN,q⟩:=h
 refine ⟨_,((@Ak _ _ (2) _ _ _ _ A4.nd rfl (Or.inl rfl) (AV (pv 0) T.cl_Seats T.me_Seats_quota (Hw T) (hr.mono (by decide)) T.b_Seats_quota .nil Ar ((@Aj _ _ _ _ _ _ _ _ _ _ _ _ _ _ _ _ (IQ T) (hr.mono (by decide)) rfl T.m_ballots_in T.F_ballots_in.kp T.b_ballots_in .nil Ar ((pv 1)*>Ae) (by decide) (by rfl) (by rfl))*>Ae)) (by rfl) (by nofun))>>((@Ak _ _ (3) _ _ _ _ A4.nd rfl (Or.inl rfl) (@Aj _ _ _ _ _ _ _ _ _ _ _ _ _ _ _ _ (Pd T) (hr.mono (by decide)) rfl T.m_begin T.F_begin.kp T.b_begin .nil Ar ((pv 1)*>((Dv (pv 0) rfl)*>Ae)) (by decide) (by rfl) (by rfl)) (by rfl) (by nofun))>>((@Ak _ _ (4) _ _ _ _ A4.nd rfl (Or.inl rfl) (@Aj _ _ _ _ _ _ _ _ _ _ _ _ _ _ _ _ (N9 T) (hr.mono (by decide)) rfl T.m_all_of T.F_all_of.kp T.b_all_of .nil Ar ((Dv (pv 0) rfl)*>Ae) (by decide) (by rfl) (by rfl)) (by rfl) (by nofun))>>((@Ak _ _ (5) _ _ _ _ A4.nd rfl (Or.inl rfl) (Dv (pv 0) rfl) (by rfl) (by nofun))>>((@Ak _ _ (6) _ _ _ _ A4.nd rfl (Or.inl rfl) (@BU _ _ _ _ Ae) (by rfl) (by nofun))>>(@Ah _ _ _ (Ks PassesOwn.never (@CD _ _ _ Cn (by intro _;rfl)) ((@Ak _ _ (7) _ _ _ _ A4.nd rfl (Or.inl rfl) (@Aj _ _ _ _ _ _ _ _ _ _ _ _ _ _ _ _ (PY T) (hr.mono (by decide)) rfl T.m_table T.F_table.kp T.b_table .nil Ar ((pv 1)*>((pv 3)*>((pv 4)*>Ae))) (by decide) (by rfl) (by rfl)) (by rfl) (by nofun))>>((@Ak _ _ (8) _ _ _ _ A4.nd rfl (Or.inl rfl) (@Aj _ _ _ _ _ _ _ _ _ _ _ _ _ _ _ _ (My T) (hr.mono (by decide)) rfl T.m_tallies T.F_tallies.kp T.b_tallies .nil Ar ((pv 1)*>((pv 7)*>((Dv (pv 0) rfl)*>Ae))) (by decide) (by rfl) (by rfl)) (by rfl) (by nofun))>>((@Ak _ _ (9) _ _ _ _ A4.nd rfl (Or.inl rfl) (AV (pv 0) T.cl_Seats T.me_Seats_deed_due (FG T) (hr.mono (by decide)) T.b_Seats_deed_due .nil Ar ((pv 8)*>((pv 4)*>((pv 5)*>((pv 2)*>Ae))))) (by rfl) (by nofun))>>((@BE _ _ _ _ (Eg PySem.F.plainAttrs_list PySem.F.slot_list_append PySem.F.type_list_append BO (pv 6) ((@AI _ _ _ _ _ ((pv 7)*>((pv 8)*>((pv 9)*>Ae))))*>Ae)) (by rfl))>>((@AS _ _ _ _ _ _ _ _ (@Aq _ _ _ _ _ _ _ _ PV (@At _ _ _ _ _ _ _ Ay (pv 9) Af (fun _ _=>rfl)) FA (Aw _)) (@Ah _ _ _ (@Ao _ _ _ _ (pv 6))) As)>>((@Ak _ _ (3) _ _ _ _ A4.nd rfl (Or.inl rfl) (@Aj _ _ _ _ _ _ _ _ _ _ _ _ _ _ _ _ (GM T) (hr.mono (by decide)) rfl T.m_state_behind T.F_state_behind.kp T.b_state_behind .nil Ar ((pv 1)*>((pv 3)*>((pv 4)*>((pv 9)*>((pv 2)*>Ae))))) (by decide) (by rfl) (by rfl)) (by rfl) (by nofun))>>((@Ak _ _ (4) _ _ _ _ A4.nd rfl (Or.inl rfl) (@Aj _ _ _ _ _ _ _ _ _ _ _ _ _ _ _ _ (Mp T) (hr.mono (by decide)) rfl T.m_without T.F_without.kp T.b_without .nil Ar ((pv 4)*>((@At _ _ _ _ _ _ _ Ay (pv 9) Af (fun _ _=>rfl))*>Ae)) (by decide) (by rfl) (by rfl)) (by rfl) (by nofun))>>(@Ah _ _ _ (@AS _ _ _ _ _ _ _ _ (@Aq _ _ _ _ _ _ _ _ By (@At _ _ _ _ _ _ _ Ay (pv 9) Af (fun _ _=>rfl)) Dr (Aw _)) (@Ah _ _ _ (@Ak _ _ (5) _ _ _ _ A4.nd rfl (Or.inl rfl) (EI<&>((pv 5)<|>Af)) (by rfl) (by nofun))) As)))))))))))))))),?_⟩
 have is':=id is
 obtain ⟨dx,lo,k1,k2⟩:=is'
 have hn:∀p∈Av ls,0<=p.2:=fun p m=>by obtain ⟨x,xm,rfl⟩:=mem_map.mp m;exact (okl x xm).2.1
 have N0:0<=AA (Av ls):=by
  have:=EO (ds:=Av ls) (rs:=[]) hn (fun _ m=>absurd m List.not_mem_nil)
  have e:B3 (Av ls) []=0:=by unfold B3;rw [zip_nil_right];rfl
  rw [e] at this
  exact Rat.intCast_nonneg.mp this
 have hx:∀x∈xs,0<=x/\x < h:=fun x m=>GT.mp (pm.mem_iff.mp m)
 have xl:xs.length=h:=by rw [pm.length_eq,MB]
 have dl:(Av ls).length=ls.length:=by unfold Av;rw [length_map]
 and_intros
 refine ⟨a,dx,_,rfl,k1,rfl,?_⟩
 and_intros
 refine ⟨l,ls,rfl,hl,gl,by omega,fun H1 t1=>?_⟩
 and_intros
 refine ⟨a,(h:Int),(s:Int),xs,_,rfl,is.same t1,by omega,by omega,?_⟩
 generalize hqu:(((Av ls).map (fun x:List Int × Int=>x.2)).sum).fdiv ((s:Int)+1)+1=qu
 have qb:1<=qu/\Sz 64 qu:=by
  have e:((Av ls).map (fun x:List Int × Int=>x.2)).sum=AA (Av ls):=rfl
  rw [e] at hqu
  have d:=Int.fdiv_eq_ediv_of_nonneg (AA (Av ls)) (show (0:Int)<=(s:Int)+1 by omega)
  rw [d] at hqu
  have a1:0<=AA (Av ls) / ((s:Int)+1):=Int.ediv_nonneg N0 (by omega)
  have a2:AA (Av ls) / ((s:Int)+1)<=AA (Av ls):=Int.ediv_le_self _ N0
  have n40:AA (Av ls) < 1099511627776:=nN
  exact ⟨by omega,Bz (by omega) (by omega)⟩
 have k11:=t1 _ _ k1
 and_intros
 refine ⟨a,_,dx,_,_,rfl,k11,T.cl_Seats,T.na_Seats_hands,rfl,?_⟩
 and_intros
 refine ⟨l,h,ls,rfl,t1 _ _ hl,l60,h12,fun sa xh H2 hsa t2 e2 g2 nd2 xl2=>?_⟩
 have k12:=t2 _ _ k11
 have t12:=t1.trans t2
 and_intros
 refine ⟨a,_,dx,_,_,rfl,k12,T.cl_Seats,T.na_Seats_hands,rfl,?_⟩
 and_intros
 refine ⟨by omega,by omega,?_⟩
 and_intros
 refine ⟨a,_,dx,_,_,rfl,k12,T.cl_Seats,T.na_Seats_seats,rfl,?_⟩
 and_intros
 refine ⟨(by show 0<=sizeLine;decide),fun p hp=>?_⟩
 have t3:=Ag hp (.lst [])
 have e3:(upd H2 p (.lst [])) p=some (.lst []):=Ab
 generalize upd H2 p (.lst [])=H3 at t3 e3 ⊢
 have t13:=t12.trans t3
 have pH:H p=none:=none_of t12 hp
 have xv2:xh.map shV=(Dt ls.length h).map Ee:=by
  unfold Dt
  rw [map_replicate]
  refine ext_getElem? fun i=>?_
  rw [List.getElem?_map,List.getElem?_replicate]
  by_cases c:i < ls.length
  ·obtain ⟨x,hx'⟩:∃x,xh[i]?=some x:=⟨_,List.getElem?_eq_getElem (by omega)⟩
   obtain ⟨_,a1,a2,_⟩:=g2 x (mem_of_getElem? hx')
   rw [hx',if_pos c]
   show some (shV x)=some (Ee (1,List.replicate h 0))
   unfold shV Ee
   rw [a1,a2,map_replicate]
   rfl
  ·rw [List.getElem?_eq_none (by omega),if_neg c]
   rfl
 have F0:AD (Av ls) h xs s=A8 (Av ls) h xs qu (h+1) (Dt ls.length h) (2 ^ h - 1) s:=by
  unfold AD
  rw [dl,<- hqu]
  rfl
 have sap:sa≠p:=fun z=>by rw [z,hp] at e2;cases e2
 have start1:(1:Int)*2 ^ (h:Int).toNat - 1=2 ^ h - 1:=by rw [Int.one_mul,Int.toNat_natCast]
 have p2h:(2:Int) ^ h<=4096:=by
  have:=Nat.pow_le_pow_right (show 0 < 2 by decide) h12
  exact_mod_cast this
 have p20:(0:Int) < 2 ^ h:=Int.pow_pos (by decide)
 refine Lc (fun σ' J=>∃(sa:Addr) (m:Int) (pl n:Nat) (v7 v8 v9:Option V) (ps:List Rq) (xh:List Sh) (st:List Sr) (M:Int),σ'=[some (.ref a),some (.ref l),some (.int qu),some (.ref sa),some (.int m),some (.int (pl:Int)),some (.ref p),v7,v8,v9]/\Au H J/\J p=some (.lst (rqs ps))/\ps.length+n=h+1/\(∀r∈ps,RqG J r/\N3 p r)/\J sa=some (.lst (shv xh))/\sa≠p/\(∀x∈xh,ShG J x/\x.2.2.1≠p)/\xh.map shV=st.map Ee/\StI M h st/\0 < M/\Sz (mB (s - pl)) M/\pl<=s/\st.length=ls.length/\0<=m/\m < 2 ^ h/\(hands 12 (bit m)).length < n/\ps.map rqV++(A8 (Av ls) h xs qu n st m pl).map BG=(AD (Av ls) h xs s).map BG) (fun σ' _=>match σ' with | [_,_,_,_,some (.int m),_,_,_,_,_]=>(hands 12 (bit m)).length | _=>0) ⟨sa,2 ^ h - 1,s,h+1,none,none,none,[],xh,Dt ls.length h,1,(by rw [start1];rfl),t13,e3,by show 0+(h+1)=h+1;omega,(fun _ m=>absurd m List.not_mem_nil),t3 _ _ e2,sap,(fun x k=>⟨(g2 x k).1.same t3,fun z=>by have:=(g2 x k).1.l;rw [z,hp] at this;cases this⟩),xv2,Lb _ _,by decide,by rw [Nat.sub_self];exact (Bz (by decide) (by decide):Sz 1 (1:Int)),Nat.le_refl _,length_replicate ..,by omega,by omega,?_,by rw [F0];rfl⟩ ?_ KY
 ·exact Nat.lt_of_le_of_lt (by rw [Ig h12];exact Nat.le_refl _) (Nat.lt_succ_self h)
 rintro σ1 J ⟨sa,m,pl,n,v7,v8,v9,ps,xh,st,M,rfl,sJ,eJ,pn,gps,esa,sap,gxh,xv,si,M0,Mz,pls,stl,m0,m1,hlen,eqF⟩
 have hlJ:=sJ _ _ hl
 have glJ:BH J ls:=gl.same sJ
 have k1J:=sJ _ _ k1
 have Mz4:Sz 4480 M:=Mz.mono (OO (by omega))
 have xin:∀x∈xh,FqM M x.2.1.2/\AJ x.2.1.2.1 x.2.1.2.2=1/\x.2.2.2.length=h:=fun x k=>by
  have:shV x∈st.map Ee:=by rw [<- xv];exact mem_map.mpr ⟨x,k,rfl⟩
  obtain ⟨r,rm,e⟩:=mem_map.mp this
  obtain ⟨f0,f1,f2⟩:=si.free r rm
  have e1:pr r.1=x.2.1.2:=congrArg Prod.fst e
  have e2:r.2.map pr=x.2.2.2.map (·.2):=congrArg Prod.snd e
  refine ⟨by rw [<- e1];exact Ml f0 f1 f2,by rw [<- e1];exact JH _,?_⟩
  have:=congrArg List.length e2
  rw [length_map,length_map,si.len r rm] at this
  exact this.symm
 have hbm:∀j,bit m j=true->(j:Int)∈xs:=fun j b=>by
  rcases (by omega:j < h\/h<=j) with c | c
  ·exact pm.mem_iff.mpr (GT.mpr ⟨by omega,by omega⟩)
  ·have:(2:Int) ^ h<=2 ^ j:=by
    have:=Nat.pow_le_pow_right (show 0 < 2 by decide) c
    exact_mod_cast this
   rw [Eb m0 (by omega)] at b
   cases b
 have h0st:∀x∈st,0<=x.1:=fun x k=>(si.free x k).1
 have lesz:ls.length=xh.length:=by
  have:=congrArg List.length xv
  rw [length_map,length_map] at this
  have l2:st.length=ls.length:=stl
  omega
 refine ⟨_,rfl,ifT rfl ?_⟩
 and_intros
 refine ⟨l,sa,h,ls,xh,m,rfl,hlJ,glJ,esa,(fun x k=>⟨(gxh x k).1,(xin x k).1.fq M0 (Mz4.mono (by decide)),(xin x k).2.2⟩),lesz,l60,h12,(fun q k=>Jy (okl q k).1),fun r rs J1 hr1 u1 f1 gr vr=>?_⟩
 rw [Se xv h0st] at vr
 have M1:0 < M*27720:=by omega
 have Mz5:Sz 4500 (M*27720):=(Mz4.mul (Bz (by decide) (by decide):Sz 15 (27720:Int))).mono (by decide)
 have rin:∀x∈rs,x.2.length=h+1/\∀f∈x.2,FqM (M*27720) f.2:=fun x k=>by
  have:x.2.map (·.2)∈(AW (Av ls) st m).map (fun r=>r.map pr):=by rw [<- vr];exact mem_map.mpr ⟨x,k,rfl⟩
  obtain ⟨y,ym,e⟩:=mem_map.mp this
  obtain ⟨yl,yz⟩:=GR (ds:=Av ls) (s:=m) si y ym
  refine ⟨?_,fun f fm=>?_⟩
  ·have:=congrArg List.length e
   rw [length_map,length_map,yl] at this
   exact this.symm
  ·have:f.2∈y.map pr:=by rw [e];exact mem_map.mpr ⟨f,fm,rfl⟩
   obtain ⟨z,zm,ez⟩:=mem_map.mp this
   rw [<- ez]
   exact Ml (yz z zm).1 (yz z zm).2.1 (yz z zm).2.2
 have rsl:ls.length=rs.length:=by
  have:=congrArg List.length vr
  rw [length_map,length_map] at this
  rw [this]
  unfold AW
  rw [length_map,length_zip,dl]
  have l2:st.length=ls.length:=stl
  omega
 have k1J1:=u1 _ _ k1J
 and_intros
 refine ⟨a,_,dx,_,_,rfl,k1J1,T.cl_Seats,T.na_Seats_hands,rfl,?_⟩
 and_intros
 have hn2:∀q∈ls,0<=q.2.2.2/\Sz 64 q.2.2.2:=fun q k=>(okl q k).2
 refine ⟨l,r,h,ls,rs,M*27720,rfl,u1 _ _ hlJ,glJ.same u1,f1,(fun x k=>⟨(gr x k).1,rin x k⟩),M1,Mz5,rsl,l60,h12,hn2,fun su fs J2 hsu' u2 f2 gf fl wm=>?_⟩
 have u12:=u1.trans u2
 have colv:∀j,(Dw rs j).map (·.2)=((AW (Av ls) st m).map fun r=>r.getD j 0).map pr:=fun j=>by
  have e1:(Dw rs j).map (·.2)=(rs.map fun x=>x.2.map (·.2)).map fun vs=>vs.getD j (0,1):=by
   unfold Dw
   rw [map_map,map_map]
   refine map_congr_left fun r _=>?_
   show (r.2.getD j (0,0,1)).2=(r.2.map (·.2)).getD j (0,1)
   rw [getD_eq_getElem?_getD,getD_eq_getElem?_getD,List.getElem?_map]
   cases r.2[j]? <;> rfl
  rw [e1,vr,map_map,map_map]
  refine map_congr_left fun r _=>?_
  show (r.map pr).getD j (0,1)=pr (r.getD j 0)
  rw [getD_eq_getElem?_getD,getD_eq_getElem?_getD,List.getElem?_map]
  cases r[j]? <;> rfl
 have coln:∀j,∀r∈(AW (Av ls) st m).map fun r=>r.getD j 0,0<=r:=fun j r k=>by
  obtain ⟨y,ym,rfl⟩:=mem_map.mp k
  obtain ⟨yl,yz⟩:=GR (ds:=Av ls) (s:=m) si y ym
  rw [getD_eq_getElem?_getD]
  cases e:y[j]? with
  | none=>exact Rat.le_refl
  | some z=>exact (yz z (mem_of_getElem? e)).1
 have fv:fs.map (·.2)=(B0 (Av ls) (AW (Av ls) st m) h).map pr:=by
  refine ext_getElem? fun j=>?_
  unfold B0
  rw [List.getElem?_map,List.getElem?_map,List.getElem?_map]
  by_cases c:j < h+1
  ·obtain ⟨f,hf⟩:∃f,fs[j]?=some f:=⟨_,List.getElem?_eq_getElem (by omega)⟩
   rw [hf,List.getElem?_range c]
   show some f.2=some (pr _)
   rw [RG (wm j f hf) (colv j) hn (coln j)]
  ·rw [List.getElem?_eq_none (by omega),List.getElem?_eq_none (by rw [length_range];omega)]
   rfl
 have colm:∀j,j < h+1->∀f∈Dw rs j,FqM (M*27720) f.2:=fun j hj f k=>by
  obtain ⟨x,xm,rfl⟩:=mem_map.mp k
  exact (rin x xm).2 _ (mem_of_getElem? (P2 (by have:=(rin x xm).1;omega)))
 have sg:SuG J2 su fs (B0 (Av ls) (AW (Av ls) st m) h):=⟨f2,gf,fv,fun r k=>by
  have:pr r∈fs.map (·.2):=by rw [fv];exact mem_map.mpr ⟨r,k,rfl⟩
  obtain ⟨f,fm,e⟩:=mem_map.mp this
  obtain ⟨j,hj⟩:=mem_iff_getElem?.mp fm
  have jl:=(List.getElem?_eq_some_iff.mp hj).1
  obtain ⟨_,_,_,z1,_,z2⟩:=RQ (wm j f hj) M1 Mz5 hn2 (colm j (by omega)) l60
  rw [<- e]
  exact ⟨z2.mono (by decide),z1.mono (by decide)⟩⟩
 have sl:(B0 (Av ls) (AW (Av ls) st m) h).length=h+1:=by unfold B0;rw [length_map,length_range]
 have k1J2:=u2 _ _ k1J1
 and_intros
 refine ⟨a,dx,_,rfl,k1J2,rfl,?_⟩
 and_intros
 refine ⟨a,su,(h:Int),(s:Int),xs,m,qu,pl,fs,_,rfl,is.same (sJ.trans u12),sg,(fun x k=>⟨(hx x k).1,by rw [sl];have:=(hx x k).2;have:=(hx x k).1;omega⟩),by omega,m0,by omega,hbm,qb.2,fun dt J3 hdt u3 e3'=>?_⟩
 generalize hsu:B0 (Av ls) (AW (Av ls) st m) h=sums at e3' sg fv sl
 generalize hD:Dq xs sums m pl qu=D at e3'
 have u13:=u12.trans u3
 have eJ3:=u13 _ _ eJ
 and_intros
 refine ⟨.inl ⟨rfl,_,SqL.of eJ3⟩,?_⟩
 and_intros
 refine ⟨(by show 3<=sizeLine;decide),fun tt htt=>?_⟩
 have u4:=Ag htt (.tup [V.ref r,V.ref su,V.ref dt])
 have e4:(upd J3 tt (.tup [V.ref r,V.ref su,V.ref dt])) tt=some (.tup [V.ref r,V.ref su,V.ref dt]):=Ab
 generalize upd J3 tt (.tup [V.ref r,V.ref su,V.ref dt])=J4 at u4 e4 ⊢
 have u14:=u13.trans u4
 have eJ4:=u4 _ _ eJ3
 have rqsl:(rqs ps).length=ps.length:=length_map ..
 refine ⟨p,_,_,rfl,rfl,eJ4,(by rw [rqsl];exact AH (by omega)),?_⟩
 have rp:r≠p:=fun z=>by rw [z,eJ] at hr1;cases hr1
 have sup:su≠p:=fun z=>by rw [z,u1 _ _ eJ] at hsu';cases hsu'
 have gnew:RqG J4 (tt,(r,rs),(su,fs),(dt,D)):=⟨e4,(u2.trans (u3.trans u4)) _ _ f1,(fun x k=>(gr x k).1.same (u2.trans (u3.trans u4))),(u3.trans u4) _ _ f2,(fun f k=>(gf f k).same (u3.trans u4)),u4 _ _ e3'⟩
 have anew:N3 p (tt,(r,rs),(su,fs),(dt,D)):=⟨rp,sup,fun x k z=>by have:=(gr x k).2;rw [z,eJ] at this;cases this⟩
 have gps':∀x∈ps++[(tt,(r,rs),(su,fs),(dt,D))],RqG (upd J4 p (.lst (rqs ps++[V.ref tt]))) x/\N3 p x:=fun x k=>by
  rcases mem_append.mp k with k | k
  ·exact ⟨((gps x k).1.same u14).upd eJ4 (gps x k).2,(gps x k).2⟩
  ·rw [mem_singleton.mp k]
   exact ⟨gnew.upd eJ4 anew,anew⟩
 have eP:(upd J4 p (.lst (rqs ps++[V.ref tt]))) p=some (.lst (rqs (ps++[(tt,(r,rs),(su,fs),(dt,D))]))):=by rw [Ab];unfold rqs;rw [map_append];rfl
 have sP:Au H (upd J4 p (.lst (rqs ps++[V.ref tt]))):=A1 (sJ.trans u14) pH
 have tupP:∀c cs,J4 c=some (.tup cs)->(upd J4 p (.lst (rqs ps++[V.ref tt]))) c=some (.tup cs):=fun c cs ec=>by rw [Al (Cw ec eJ4 (fun z=>by cases z))];exact ec
 have dtP:=tupP _ _ (u4 _ _ e3')
 have saP:(upd J4 p (.lst (rqs ps++[V.ref tt]))) sa=some (.lst (shv xh)):=by rw [Al sap];exact u14 _ _ esa
 have gxP:∀x∈xh,ShG (upd J4 p (.lst (rqs ps++[V.ref tt]))) x:=fun x k=>((gxh x k).1.same u14).upd eJ4 (gxh x k).2
 generalize upd J4 p (.lst (rqs ps++[V.ref tt]))=J5 at gps' eP sP tupP dtP saP gxP ⊢
 obtain ⟨n',rfl⟩:∃n',n=n'+1:=⟨n - 1,by omega⟩
 have hnew:rqV (tt,(r,rs),(su,fs),(dt,D))=BG (CN (Av ls) h xs qu st m pl):=by
  unfold rqV BG CN
  rw [hsu,hD]
  show (rs.map fun x=>x.2.map (·.2),fs.map (·.2),D)=_
  rw [vr,fv]
 have hD':(CN (Av ls) h xs qu st m pl).2.2=D:=by unfold CN;rw [hsu,hD]
 have fin:(D=.rest\/D=.fin)->(ps++[(tt,(r,rs),(su,fs),(dt,D))]).map rqV=(AD (Av ls) h xs s).map BG:=fun c=>by
  rw [<- eqF,map_append,map_cons,map_nil,hnew]
  congr 1
  show _=(CN (Av ls) h xs qu st m pl :: _).map BG
  rw [hD']
  rcases c with rfl | rfl <;> rfl
 cases D with
 | rest =>
   have dtP':J5 dt=some (.tup [.str "rest",.non]):=dtP
   and_intros
   exact q p _ J5 pH sP eP (fun x k=>(gps' x k).1) (fin (.inl rfl))
 | fin =>
   have dtP':J5 dt=some (.tup [.str "end",.non]):=dtP
   and_intros
   exact q p _ J5 pH sP eP (fun x k=>(gps' x k).1) (fin (.inr rfl))
 | out hd =>
   have dtP':J5 dt=some (.tup [.str "out",.int (hd:Int)]):=dtP
   and_intros
   have bi:=HY (fun x k=>(hx x k).1) hbm (.inr hD)
   have hdh:=(hx _ (hbm hd bi.1)).2
   have hd12:hd < 12:=by omega
   obtain ⟨lm0,lb,ll⟩:=DF m0 bi.1 hd12
   have k1P:=sP _ _ k1
   refine ⟨l,sa,dt,h,ls,xh,st,m,qu,M,Dd.out hd,rfl,dtP',(fun _ e=>nomatch e),sP _ _ hl,gl.same sP,saP,gxP,xv,si,M0,lesz,l60,h12,qb.1,qb.2,(fun q k=>⟨Jy (okl q k).1,(okl q k).2⟩),fun a2 ys J6 u6 e6 g6 n6 v6=>?_⟩
   have dt6:=u6 _ _ dtP'
   and_intros
   refine ⟨m,(hd:Int),rfl,by omega,by omega,?_⟩
   rw [Int.toNat_natCast,M9,if_pos bi.1,Int.mul_one]
   and_intros
   have a2p:a2≠p:=by
    rcases n6 with z | z
    ·exact fun e=>by rw [e,eP] at z;cases z
    ·rw [z];exact sap
   have gy:∀y∈ys,ShG J6 y/\y.2.2.1≠p:=fun y k=>by
    obtain ⟨y1,y2⟩:=g6 y k
    refine ⟨y1,?_⟩
    rcases y2 with z | ⟨x,xm,z⟩
    ·exact fun e=>by rw [e,eP] at z;cases z
    ·rw [<- z];exact (gxh x xm).2
   have eqF':(ps++[(tt,(r,rs),(su,fs),(dt,Dd.out hd))]).map rqV++(A8 (Av ls) h xs qu n' st (m - 2 ^ hd) pl).map BG=(AD (Av ls) h xs s).map BG:=by
    rw [<- eqF,map_append,map_cons,map_nil,hnew,append_assoc]
    congr 1
    show _=(CN (Av ls) h xs qu st m pl :: _).map BG
    rw [hD']
    rfl
   refine ⟨⟨a2,m - 2 ^ hd,pl,n',_,_,_,ps++[(tt,(r,rs),(su,fs),(dt,Dd.out hd))],ys,st,M,rfl,sP.trans u6,u6 _ _ eP,by rw [length_append];show ps.length+1+n'=h+1;omega,(fun x k=>⟨(gps' x k).1.same u6,(gps' x k).2⟩),e6,a2p,gy,v6,si,M0,Mz,by omega,stl,lm0,by have:(0:Int) < 2 ^ hd:=Int.pow_pos (by decide);omega,by omega,eqF'⟩,?_⟩
   show (hands 12 (bit (m - 2 ^ hd))).length < (hands 12 (bit m)).length
   exact ll
 | seat hd =>
   have dtP':J5 dt=some (.tup [.str "seat",.int (hd:Int)]):=dtP
   and_intros
   have bi:=HY (fun x k=>(hx x k).1) hbm (.inl hD)
   have hdh:=(hx _ (hbm hd bi.1)).2
   have hd12:hd < 12:=by omega
   obtain ⟨lm0,lb,ll⟩:=DF m0 bi.1 hd12
   have k1P:=sP _ _ k1
   refine ⟨l,sa,dt,h,ls,xh,st,m,qu,M,Dd.seat hd,rfl,dtP',(fun hd2 e=>by injection e with e;subst e;exact ⟨by omega,Mz.mono (RI (by omega))⟩),sP _ _ hl,gl.same sP,saP,gxP,xv,si,M0,lesz,l60,h12,qb.1,qb.2,(fun q k=>⟨Jy (okl q k).1,(okl q k).2⟩),fun a2 ys J6 u6 e6 g6 n6 v6=>?_⟩
   have dt6:=u6 _ _ dtP'
   and_intros
   refine ⟨m,(hd:Int),rfl,by omega,by omega,?_⟩
   rw [Int.toNat_natCast,M9,if_pos bi.1,Int.mul_one]
   and_intros
   have a2p:a2≠p:=by
    rcases n6 with z | z
    ·exact fun e=>by rw [e,eP] at z;cases z
    ·rw [z];exact sap
   have gy:∀y∈ys,ShG J6 y/\y.2.2.1≠p:=fun y k=>by
    obtain ⟨y1,y2⟩:=g6 y k
    refine ⟨y1,?_⟩
    rcases y2 with z | ⟨x,xm,z⟩
    ·exact fun e=>by rw [e,eP] at z;cases z
    ·rw [<- z];exact (gxh x xm).2
   have eqF':(ps++[(tt,(r,rs),(su,fs),(dt,Dd.seat hd))]).map rqV++(A8 (Av ls) h xs qu n' (BR (Av ls) st m hd qu) (m - 2 ^ hd) (pl - 1)).map BG=(AD (Av ls) h xs s).map BG:=by
    rw [<- eqF,map_append,map_cons,map_nil,hnew,append_assoc]
    congr 1
    show _=(CN (Av ls) h xs qu st m pl :: _).map BG
    rw [hD']
    rfl
   obtain ⟨M2,M20,Mz2,si2⟩:=si.step (k:=s - pl) (ds:=Av ls) (s:=m) (q:=qu) M0 Mz hd12 qb.1 hn nN
   refine ⟨⟨a2,m - 2 ^ hd,(pl - 1),n',_,_,_,ps++[(tt,(r,rs),(su,fs),(dt,Dd.seat hd))],ys,(BR (Av ls) st m hd qu),M2,(by rw [show ((pl - 1:Nat):Int)=(pl:Int) - 1 from by omega];rfl),sP.trans u6,u6 _ _ eP,by rw [length_append];show ps.length+1+n'=h+1;omega,(fun x k=>⟨(gps' x k).1.same u6,(gps' x k).2⟩),e6,a2p,gy,v6,si2,M20,(by rw [show s - (pl - 1)=s - pl+1 from by omega];exact Mz2),by omega,(by unfold BR AU;rw [length_map,length_zip,length_map,length_zip,dl,stl];omega),lm0,by have:(0:Int) < 2 ^ hd:=Int.pow_pos (by decide);omega,by omega,eqF'⟩,?_⟩
   show (hands 12 (bit (m - 2 ^ hd))).length < (hands 12 (bit m)).length
   exact ll
theorem HU (T:Tx K mg ad):AG P w K mg base CX0 8 ad.f_Way_outcome ad.d_Way_outcome ["self","sheet"] (Lm ad.c_Seats):=by
 refine T.F_Way_outcome.ok HD (fun vs H Q E h=>?_) (fun cdv A outer s H vs Q E hr h=>?_)
 ·obtain ⟨a,l,h,s,xs,ls,rfl,_⟩:=h
  rfl
 obtain ⟨a,l,h,s,xs,ls,rfl,is,h1,h12,s1,s6,pm,hl,gl,okl,l60,nN,q⟩:=h
 refine ⟨_,(@Ah _ _ _ (@Ao _ _ _ _ (AV (pv 0) T.cl_Seats T.me_Seats_told_by (Ek T) (hr.mono (by decide)) T.b_Seats_told_by .nil Ar ((AV (pv 0) T.cl_Seats T.me_Seats_counted (CW T) (hr.mono (by decide)) T.b_Seats_counted .nil Ar ((pv 1)*>Ae))*>Ae)))),?_⟩
 obtain ⟨dx,lo,k1,k2⟩:=id is
 and_intros
 refine ⟨a,dx,_,rfl,k1,rfl,?_⟩
 and_intros
 refine ⟨a,dx,_,rfl,k1,rfl,?_⟩
 and_intros
 refine ⟨a,l,h,s,xs,ls,rfl,is,h1,h12,s1,s6,pm,hl,gl,okl,l60,nN,fun p ps H1 hp t1 e1 g1 v1=>?_⟩
 have rl:=Cs (Av ls) h xs ((AA (Av ls)).fdiv ((s:Int)+1)+1) (h+1) (Dt (Av ls).length h) (2 ^ h - 1) s
 have vl:ps.length=(AD (Av ls) h xs s).length:=by
  have:=congrArg List.length v1
  rw [length_map,length_map] at this
  exact this
 have vd:BV ps=(AD (Av ls) h xs s).map fun r=>r.2.2:=by
  have:=congrArg (fun l:List Rv=>l.map fun z=>z.2.2) v1
  rw [map_map,map_map] at this
  exact this
 refine ⟨a,p,h,(s:Int),xs,ps,rfl,is.same t1,h12,e1,g1,(fun z=>by
  rw [z] at vl
  exact rl.2 (by omega) (length_eq_zero_iff.mp vl.symm)),(by rw [vl];exact Nat.le_trans rl.1 (by omega)),fun o H2 ho t2 e2=>?_⟩
 rw [vd] at e2
 exact q o H2 (none_of t1 ho) (t1.trans t2) e2
theorem Bp (T:Tx K mg ad):AG P w K mg base CX0 8 ad.f_SeatsChecker_right ad.d_SeatsChecker_right ["self","sheet","paper"] (NG K ad.c_SeatsChecker ad.c_Seats):=by
 refine T.F_SeatsChecker_right.ok EA (fun vs H Q E h=>?_) (fun cdv A outer s H vs Q E hr h=>?_)
 ·obtain ⟨g,a,l,p,h,s,xs,ls,D,rfl,_⟩:=h
  rfl
 obtain ⟨g,a,l,p,h,s,xs,ls,D,rfl,im,wy,sh,rp,shp,q⟩:=h
 refine ⟨_,(@Ah _ _ _ (@Ao _ _ _ _ (@DL _ _ _ _ _ _ _ _ (Fp (K:=K) hr.units) (pv 2) (AV (Dv (pv 0) rfl) T.cl_Seats T.me_Seats_counted (CW T) (hr.mono (by decide)) T.b_Seats_counted .nil Ar ((pv 1)*>Ae)) (Aw _)))),?_⟩
 obtain ⟨dg,hg⟩:=id im
 obtain ⟨is,h1,h12,s1,s6,pm⟩:=id wy
 obtain ⟨dx,la,k1,k2⟩:=id is
 and_intros
 refine ⟨g,_,dg,_,_,rfl,hg,T.cl_SeatsChecker,T.na_SeatsChecker_way,rfl,?_⟩
 refine ⟨a,dx,_,rfl,k1,rfl,?_⟩
 and_intros
 refine ⟨a,l,h,s,xs,ls,rfl,is,h1,h12,s1,s6,pm,sh.1,sh.2.1,sh.2.2.1,sh.2.2.2.1,sh.2.2.2.2,fun c ps H1 hc sm ec gc vc=>?_⟩
 have rc:=GZ (K:=K) ec gc
 rw [vc] at rc
 refine ⟨D,_,rp.same sm,rc,shp,(FH _).shaped (by decide),?_⟩
 exact q H1 sm
theorem Bv (T:Tx K mg ad):AG P w K mg base CX0 9 ad.f_Checker_passes ad.d_Checker_passes ["self","sheet","paper","outcome"] (Ij K ad.c_SeatsChecker ad.c_Checker ad.c_Seats):=by
 refine T.F_Checker_passes.ok FV (fun vs H Q E h=>?_) (fun cdv A outer s H vs Q E hr h=>?_)
 ·obtain ⟨g,a,l,p,o,rfl,_⟩:=h
  rfl
 obtain ⟨g,a,l,p,o,rfl,alt⟩:=h
 refine ⟨_,((@AS _ _ _ _ _ _ _ _ (@DX _ _ _ _ (@CD _ _ _ (SH (AV (pv 0) T.cl_SeatsChecker T.me_SeatsChecker_right (Bp T) (hr.mono (by decide)) T.b_SeatsChecker_right .nil Ar ((pv 1)*>((pv 2)*>Ae))) (AV (pv 0) T.cl_Checker T.me_Checker_right (El T) (hr.mono (by decide)) T.b_Checker_right .nil Ar ((pv 1)*>((pv 2)*>Ae)))) (by intro _;rfl))) (@Ah _ _ _ (@Ao _ _ _ _ Cn)) As)>>(@Ah _ _ _ (@Ao _ _ _ _ (@DL _ _ _ _ _ _ _ _ (Fp (K:=K) hr.units) (AV (Dv (pv 0) rfl) T.cl_Seats T.me_Seats_told_by (Ek T) (hr.mono (by decide)) T.b_Seats_told_by .nil Ar ((pv 2)*>Ae)) (pv 3) (Aw _))))),?_⟩
 rcases alt with ⟨im,q⟩ | ⟨h,s,xs,ls,im,wy,sh,alt⟩
 ·obtain ⟨dg,hg⟩:=id im
  and_intros
  refine .inr ?_
  and_intros
  refine ⟨g,dg,_,rfl,hg,rfl,?_⟩
  and_intros
  refine ⟨_,_,_,rfl,?_⟩
  and_intros
  exact q
 ·obtain ⟨dg,hg⟩:=id im
  and_intros
  refine .inl ?_
  and_intros
  refine ⟨g,dg,_,rfl,hg,rfl,?_⟩
  and_intros
  rcases alt with ⟨D,rp,shp,ef,q⟩ | ⟨ps,os,ep,gp,vp,eo,q⟩
  ·refine ⟨g,a,l,p,h,s,xs,ls,D,rfl,im,wy,sh,rp,shp,fun H1 s1=>?_⟩
   rw [ef]
   and_intros
   exact q H1 s1
  ·have rc:=GZ (K:=K) ep gp
   rw [vp] at rc
   refine ⟨g,a,l,p,h,s,xs,ls,_,rfl,im,wy,sh,rc,(FH _).shaped (by decide),fun H1 s1=>?_⟩
   rw [show PyData.eqv (PyData.list (((AD (Av ls) h xs s).map BG).map roD)) (GG (Av ls) h xs s)=true from (FH _).eqv]
   and_intros
   have im1:=im.same s1
   obtain ⟨dg1,hg1⟩:=id im1
   obtain ⟨is1,_,h12,_⟩:=id (wy.same s1)
   obtain ⟨dx,la,k1,k2⟩:=id is1
   refine ⟨g,_,dg1,_,_,rfl,hg1,T.cl_SeatsChecker,T.na_SeatsChecker_way,rfl,?_⟩
   refine ⟨a,dx,_,rfl,k1,rfl,?_⟩
   and_intros
   have ln:=Cs (Av ls) h xs ((AA (Av ls)).fdiv ((s:Int)+1)+1) (h+1) (Dt (Av ls).length h) (2 ^ h - 1) s
   have pl:ps.length=(AD (Av ls) h xs s).length:=by
    have:=congrArg List.length vp
    rwa [length_map,length_map] at this
   have cl:(AD (Av ls) h xs s).length<=h+1/\AD (Av ls) h xs s≠[]:=⟨ln.1,ln.2 (by omega)⟩
   have dd:BV ps=(AD (Av ls) h xs s).map fun r=>r.2.2:=by
    have e:=congrArg (List.map fun v:Rv=>v.2.2) vp
    rw [map_map,map_map] at e
    exact e
   refine ⟨a,p,h,s,xs,ps,rfl,is1,h12,s1 _ _ ep,fun r m=>(gp r m).same s1,fun z=>cl.2 (length_eq_zero_iff.mp (by rw [<- pl,z];rfl)),by omega,fun t H2 ht s2 et=>?_⟩
   rw [dd] at et
   and_intros
   refine ⟨.list ((ES h ((AD (Av ls) h xs s).map fun r=>r.2.2)).map .int),.list (os.map .int),.lst (SqL.of et) (.ints _),.lst (SqL.of ((s1.trans s2) _ _ eo)) (.ints _),(BX (lay_ints 0 _)).shaped (by decide),(BX (lay_ints 0 _)).shaped (by decide),?_⟩
   rw [show PyData.eqv (.list ((ES h ((AD (Av ls) h xs s).map fun r=>r.2.2)).map .int)) (.list (os.map .int))=decide (ES h ((AD (Av ls) h xs s).map fun r=>r.2.2)=os) from by show PyData.eqvAll _ _=_;rw [EJ]]
   exact q H2 (s1.trans s2)
theorem SC (T:Tx K mg ad):AG P w K mg base CX0 10 ad.f_law ad.d_law ["_law_script"] (ML K):=by
 refine T.F_law.ok Ck (fun vs H Q E h=>?_) (fun cdv A outer s H vs Q E hr h=>?_)
 ·obtain ⟨p,ns,rfl,_⟩:=h
  rfl
 obtain ⟨p,ns,rfl,hS,h63,q⟩:=h
 refine ⟨_,((@Ak _ _ (1) _ _ _ _ Ck.nd rfl (Or.inl rfl) (AQ<&>(Af<|>(A0<&>((@Aj _ _ _ _ _ _ _ _ _ _ _ _ _ _ _ _ (B9 T) (hr.mono (by decide)) rfl T.m_law_cell T.F_law_cell.kp T.b_law_cell .nil Ar ((pv 0)*>(Af*>Ae)) (by decide) (by rfl) (by rfl))<|>Af)))) (by rfl) (by nofun))>>((@Ak _ _ (2) _ _ _ _ Ck.nd rfl (Or.inl rfl) (AQ<&>(Af<|>(A0<&>((@Aj _ _ _ _ _ _ _ _ _ _ _ _ _ _ _ _ (B9 T) (hr.mono (by decide)) rfl T.m_law_cell T.F_law_cell.kp T.b_law_cell .nil Ar ((pv 0)*>(Af*>Ae)) (by decide) (by rfl) (by rfl))<|>Af)))) (by rfl) (by nofun))>>((@Ak _ _ (3) _ _ _ _ Ck.nd rfl (Or.inl rfl) (@Aj _ _ _ _ _ _ _ _ _ _ _ _ _ _ _ _ (JN T) (hr.mono (by decide)) rfl T.m_law_sheet T.F_law_sheet.kp T.b_law_sheet .nil Ar ((pv 0)*>(Af*>((pv 1)*>((AQ<&>(Af<|>(A0<&>((AR<&>((@Aj _ _ _ _ _ _ _ _ _ _ _ _ _ _ _ _ (B9 T) (hr.mono (by decide)) rfl T.m_law_cell T.F_law_cell.kp T.b_law_cell .nil Ar ((pv 0)*>(Af*>Ae)) (by decide) (by rfl) (by rfl))<|>Af))<|>Af))))*>(Af*>Ae))))) (by decide) (by rfl) (by rfl)) (by rfl) (by nofun))>>((@Ak _ _ (4) _ _ _ _ Ck.nd rfl (Or.inl rfl) (Jt T.mk_Seats (Iw T) (hr.mono (by decide)) rfl T.m_Seats T.b_Seats_init .nil Ar ((pv 1)*>((pv 2)*>((@Aj _ _ _ _ _ _ _ _ _ _ _ _ _ _ _ _ (Kn T) (hr.mono (by decide)) rfl T.m_law_lots T.F_law_lots.kp T.b_law_lots .nil Ar ((@Aj _ _ _ _ _ _ _ _ _ _ _ _ _ _ _ _ (B9 T) (hr.mono (by decide)) rfl T.m_law_cell T.F_law_cell.kp T.b_law_cell .nil Ar ((pv 0)*>(Af*>Ae)) (by decide) (by rfl) (by rfl))*>((pv 1)*>Ae)) (by decide) (by rfl) (by rfl))*>Ae)))) (by rfl) (by nofun))>>((@Ak _ _ (5) _ _ _ _ Ck.nd rfl (Or.inl rfl) (Jt T.mk_SeatsChecker (E6 T) (hr.mono (by decide)) rfl T.m_SeatsChecker T.b_Checker_init .nil Ar ((pv 4)*>Ae)) (by rfl) (by nofun))>>((@Ak _ _ (6) _ _ _ _ Ck.nd rfl (Or.inl rfl) (AV (pv 4) T.cl_Seats T.me_Seats_counted (CW T) (hr.mono (by decide)) T.b_Seats_counted .nil Ar ((@Bt _ _ _ _ _ _ _ _ _ AX (by rfl) T.z_list PyProof.Rows.boot_list ((pv 3)*>Ae) (by decide) (by decide) (by rfl) (by rfl))*>Ae)) (by rfl) (by nofun))>>((@Ak _ _ (7) _ _ _ _ Ck.nd rfl (Or.inl rfl) (AV (pv 4) T.cl_Seats T.me_Seats_outcome (HU T) (hr.mono (by decide)) T.b_Way_outcome .nil Ar ((@Bt _ _ _ _ _ _ _ _ _ AX (by rfl) T.z_list PyProof.Rows.boot_list ((pv 3)*>Ae) (by decide) (by decide) (by rfl) (by rfl))*>Ae)) (by rfl) (by nofun))>>((@Ak _ _ (8) _ _ _ _ Ck.nd rfl (Or.inl rfl) (@Aj _ _ _ _ _ _ _ _ _ _ _ _ _ _ _ _ (EK T) (hr.mono (by decide)) rfl T.m_law_copy T.F_law_copy.kp T.b_law_copy .nil Ar ((pv 6)*>Ae) (by decide) (by rfl) (by rfl)) (by rfl) (by nofun))>>((@Ak _ _ (9) _ _ _ _ Ck.nd rfl (Or.inl rfl) (@Bt _ _ _ _ _ _ _ _ _ AX (by rfl) T.z_list PyProof.Rows.boot_list ((pv 3)*>Ae) (by decide) (by decide) (by rfl) (by rfl)) (by rfl) (by nofun))>>((@AS _ _ _ _ _ _ _ _ (PW.pt (@Kx _ _ _ _ _ _ _ (@Aq _ _ _ _ _ _ _ _ DK (AV (pv 5) T.cl_SeatsChecker T.me_SeatsChecker_right (Bp T) (hr.mono (by decide)) T.b_SeatsChecker_right .nil Ar ((pv 9)*>((pv 6)*>Ae))) Cn (Aw _)) (@HE _ _ _ _ (@Aq _ _ _ _ _ _ _ _ MH (Dv (Dv (pv 5) rfl) rfl) (pv 2) (Aw _))))) (@Ah _ _ _ (@Ao _ _ _ _ Cn)) As)>>((@AS _ _ _ _ _ _ _ _ (@Aq _ _ _ _ _ _ _ _ DK (AV (pv 5) T.cl_SeatsChecker T.me_SeatsChecker_passes (Bv T) (hr.mono (by decide)) T.b_Checker_passes .nil Ar ((pv 9)*>((pv 6)*>((@Bt _ _ _ _ _ _ _ _ _ AX (by rfl) T.z_list PyProof.Rows.boot_list ((pv 7)*>Ae) (by decide) (by decide) (by rfl) (by rfl))*>Ae)))) Cn (Aw _)) (@Ah _ _ _ (@Ao _ _ _ _ Cn)) As)>>((@Ak _ _ (10) _ _ _ _ Ck.nd rfl (Or.inl rfl) (@Aj _ _ _ _ _ _ _ _ _ _ _ _ _ _ _ _ (Ew T) (hr.mono (by decide)) rfl T.m_law_mixed T.F_law_mixed.kp T.b_law_mixed .nil Ar ((@Aj _ _ _ _ _ _ _ _ _ _ _ _ _ _ _ _ (B9 T) (hr.mono (by decide)) rfl T.m_law_cell T.F_law_cell.kp T.b_law_cell .nil Ar ((pv 0)*>(Af*>Ae)) (by decide) (by rfl) (by rfl))*>(Af*>Ae)) (by decide) (by rfl) (by rfl)) (by rfl) (by nofun))>>((@Ak _ _ (11) _ _ _ _ Ck.nd rfl (Or.inl rfl) (@Aj _ _ _ _ _ _ _ _ _ _ _ _ _ _ _ _ (IN T) (hr.mono (by decide)) rfl T.m_law_spoilt T.F_law_spoilt.kp T.b_law_spoilt .nil Ar ((pv 6)*>((A0<&>((@Aj _ _ _ _ _ _ _ _ _ _ _ _ _ _ _ _ (B9 T) (hr.mono (by decide)) rfl T.m_law_cell T.F_law_cell.kp T.b_law_cell .nil Ar ((pv 0)*>(Af*>Ae)) (by decide) (by rfl) (by rfl))<|>Af))*>((pv 10)*>((pv 1)*>Ae)))) (by decide) (by rfl) (by rfl)) (by rfl) (by nofun))>>((@Cj _ _ _ _ _ _ _ _ (@Aq _ _ _ _ _ _ _ _ (Sm (K:=K) hr.units) (pv 11) (pv 8) (Aw _)) ((@AS _ _ _ _ _ _ _ _ (@Aq _ _ _ _ _ _ _ _ DK (AV (pv 5) T.cl_SeatsChecker T.me_SeatsChecker_right (Bp T) (hr.mono (by decide)) T.b_SeatsChecker_right .nil Ar ((pv 9)*>((pv 11)*>Ae))) Cn (Aw _)) (@Ah _ _ _ (@Ao _ _ _ _ Cn)) As)>>(@Ah _ _ _ (@AS _ _ _ _ _ _ _ _ (@Aq _ _ _ _ _ _ _ _ DK (AV (pv 5) T.cl_SeatsChecker T.me_SeatsChecker_passes (Bv T) (hr.mono (by decide)) T.b_Checker_passes .nil Ar ((pv 9)*>((pv 11)*>((pv 7)*>Ae)))) Cn (Aw _)) (@Ah _ _ _ (@Ao _ _ _ _ Cn)) As))) As)>>((@Ak _ _ (12) _ _ _ _ Ck.nd rfl (Or.inl rfl) (@Bt _ _ _ _ _ _ _ _ _ AX (by rfl) T.z_list PyProof.Rows.boot_list ((pv 7)*>Ae) (by decide) (by decide) (by rfl) (by rfl)) (by rfl) (by nofun))>>((@Ak _ _ (13) _ _ _ _ Ck.nd rfl (Or.inl rfl) (A0<&>((pv 10)<|>(pv 1))) (by rfl) (by nofun))>>((Eu (EI<&>((AQ<&>((@At _ _ _ _ _ _ _ A5 (pv 12) (pv 13) (fun _ _=>rfl))<|>Af))<|>(AO<&>(Af<|>(A0<&>((AR<&>((pv 10)<|>(pv 1)))<|>Af)))))) (EE (pv 12) (pv 13) Do))>>((@Ak _ _ (14) _ _ _ _ Ck.nd rfl (Or.inl rfl) (Gs<&>((@BU _ _ _ _ ((@AI _ _ _ _ _ ((@At _ _ _ _ _ _ _ Ay (@At _ _ _ _ _ _ _ A5 (pv 3) Af (fun _ _=>rfl)) Af (fun _ _=>rfl))*>((AQ<&>((@At _ _ _ _ _ _ _ Ay (@At _ _ _ _ _ _ _ A5 (pv 3) Af (fun _ _=>rfl)) Af (fun _ _=>rfl))<|>Af))*>Ae)))*>Ae))<|>(DZ Fh (pv 3) (EX Af) Fd))) (by rfl) (by nofun))>>((@AS _ _ _ _ _ _ _ _ (@Aq _ _ _ _ _ _ _ _ DK (AV (pv 5) T.cl_SeatsChecker T.me_SeatsChecker_passes (Bv T) (hr.mono (by decide)) T.b_Checker_passes .nil Ar ((pv 9)*>((pv 6)*>((pv 12)*>Ae)))) Cn (Aw _)) (@Ah _ _ _ (@Ao _ _ _ _ Cn)) As)>>((@AS _ _ _ _ _ _ _ _ (@Aq _ _ _ _ _ _ _ _ DK (AV (pv 5) T.cl_SeatsChecker T.me_SeatsChecker_right (Bp T) (hr.mono (by decide)) T.b_SeatsChecker_right .nil Ar ((pv 14)*>((pv 6)*>Ae))) Cn (Aw _)) (@Ah _ _ _ (@Ao _ _ _ _ Cn)) As)>>((@Ak _ _ (15) _ _ _ _ Ck.nd rfl (Or.inl rfl) (Jt T.mk_Checker (E6 T) (hr.mono (by decide)) rfl T.m_Checker T.b_Checker_init .nil Ar ((pv 4)*>Ae)) (by rfl) (by nofun))>>((@AS _ _ _ _ _ _ _ _ (@Aq _ _ _ _ _ _ _ _ DK (AV (pv 15) T.cl_Checker T.me_Checker_right (El T) (hr.mono (by decide)) T.b_Checker_right .nil Ar ((pv 9)*>((pv 6)*>Ae))) Cn (Aw _)) (@Ah _ _ _ (@Ao _ _ _ _ Cn)) As)>>((@AS _ _ _ _ _ _ _ _ (@Aq _ _ _ _ _ _ _ _ DK (AV (pv 15) T.cl_Checker T.me_Checker_passes (Bv T) (hr.mono (by decide)) T.b_Checker_passes .nil Ar ((pv 9)*>((pv 6)*>((pv 7)*>Ae)))) Cn (Aw _)) (@Ah _ _ _ (@Ao _ _ _ _ Cn)) As)>>(@Ah _ _ _ (@Ao _ _ _ _ (@Gx _ _ _ _ _ _ _ (@DL _ _ _ _ _ _ _ _ (Fp (K:=K) hr.units) (pv 6) (pv 8) (Aw _)) (@Gx _ _ _ _ _ _ _ (@DL _ _ _ _ _ _ _ _ (Fp (K:=K) hr.units) (pv 9) (pv 3) (Aw _)) (@HN _ _ _ _ _ (@DL _ _ _ _ _ _ _ _ SN (AV (pv 5) T.cl_SeatsChecker T.me_SeatsChecker_passes (Bv T) (hr.mono (by decide)) T.b_Checker_passes .nil Ar ((pv 9)*>((pv 6)*>((pv 7)*>Ae)))) Cn (Aw _)))))))))))))))))))))))))))))),?_⟩
 and_intros
 refine ⟨p,ns,0,rfl,hS,h63,by decide,by decide,fun c0 c00 c01=>?_⟩
 and_intros
 dsimp only
 have m0:=AB c0 (show (0:Int) < 4 by decide)
 have hh:2<=2+c0.fmod 4/\2+c0.fmod 4<=5:=by omega
 generalize 2+c0.fmod 4=h' at hh ⊢
 obtain ⟨h,rfl⟩:∃h:Nat,h'=(h:Int):=⟨h'.toNat,by omega⟩
 and_intros
 refine ⟨p,ns,1,rfl,hS,h63,by decide,by decide,fun c1 c10 c11=>?_⟩
 and_intros
 dsimp only
 have m1:=AB c1 (show (0:Int) < 3 by decide)
 have ss:1<=1+c1.fmod 3/\1+c1.fmod 3<=3:=by omega
 generalize 1+c1.fmod 3=s' at ss ⊢
 obtain ⟨s,rfl⟩:∃h:Nat,s'=(h:Int):=⟨s'.toNat,by omega⟩
 and_intros
 refine ⟨p,ns,0,rfl,hS,h63,by decide,by decide,fun c2 c20 c21=>?_⟩
 have sz2:Sz 200 c2:=Kl c20 c21
 and_intros
 have m2:=AB (c2.fdiv 4) (show (0:Int) < 4 by decide)
 have mm:1<=1+(c2.fdiv 4).fmod 4/\1+(c2.fdiv 4).fmod 4<=4:=by omega
 dsimp only
 generalize 1+(c2.fdiv 4).fmod 4=m' at mm ⊢
 obtain ⟨m,rfl⟩:∃h:Nat,m'=(h:Int):=⟨m'.toNat,by omega⟩
 refine ⟨p,ns,5,h,m,30,rfl,hS,h63,by decide,by decide,by omega,by omega,by omega,by omega,by decide,by decide,fun sh ls H1 hsh s1 e1 g1 dr=>?_⟩
 have l13:ls.length<=13:=by have:=dr.len;unfold Av at this;rwa [length_map] at this
 have l1:1<=ls.length:=by have:=dr.pos;unfold Av at this;rwa [length_map] at this
 have okq:∀q∈Av ls,0<=q.2/\q.2<=1920:=fun q k=>by have:=(dr.ok q k).2;omega
 obtain ⟨nn0,nn1⟩:=Na (by decide) okq
 have dl:(Av ls).length=ls.length:=by unfold Av;rw [length_map]
 have nN:AA (Av ls) < 2 ^ 40:=by
  have:=Int.mul_le_mul_of_nonneg_right (show (((Av ls).length:Nat):Int)<=13 by omega) (show (0:Int)<=1920 by decide)
  omega
 have okk:∀p∈Av ls,Okk h p.1:=fun q k=>(dr.ok q k).1.1
 have sh1:G7 H1 h sh ls:=⟨e1,g1,fun q k=>by
  have o:=dr.ok (q.2.2.1,q.2.2.2) (mem_map.mpr ⟨q,k,rfl⟩)
  exact ⟨o.1,by have:=o.2.1;dsimp only at this;omega,Bz (by have:=o.2.1;dsimp only at this;omega) (by have:=o.2.2;dsimp only at this;omega)⟩,by omega,nN⟩
 and_intros
 refine ⟨p,ns,2,rfl,s1.seq hS,h63,by decide,by decide,fun c3 c30 c31=>?_⟩
 and_intros
 refine ⟨c3,(h:Int),rfl,Kl c30 c31,by omega,by omega,fun lo xs H2 s2 e2 px=>?_⟩
 rw [Int.toNat_natCast] at px
 and_intros
 intro a dx ha hdx ne
 have k1:Au H2 (upd (upd H2 dx (.own a)) a (.ins ad.c_Seats dx [])):=(Ag hdx _).trans (Ag (by rw [Al (Ne.symm ne)];exact ha) _)
 refine ⟨a,ad.c_Seats,dx,h,s,_,xs,rfl,Ab,T.cl_Seats,T.na_Seats_hands,T.na_Seats_seats,T.na_Seats_lots,by omega,by omega,by omega,by omega,.inr ⟨lo,rfl,k1 _ _ e2,px⟩,fun l H3 s9 am lm=>?_⟩
 rw [JL] at s9
 have s3:=(LQ (Ag hdx (.own a)) ha).trans s9
 refine ⟨rfl,?_⟩
 have is3:IsS ad.c_Seats H3 a (h:Int) (s:Int) xs:=⟨dx,l,am,lm⟩
 clear k1 s9 ha hdx ne
 have wy3:IW ad.c_Seats H3 a h s xs:=⟨is3,by omega,by omega,by omega,by omega,px⟩
 and_intros
 intro g dg hg hdg neg
 refine ⟨g,ad.c_SeatsChecker,dg,a,rfl,Ab,T.cl_SeatsChecker,T.na_SeatsChecker_way,fun H4 s4 eg=>?_⟩
 rw [JL] at s4
 have s4:=(LQ (Ag hdg (.own g)) hg).trans s4
 refine ⟨rfl,?_⟩
 have s14:=(s2.trans s3).trans s4
 have im4:IsM ad.c_SeatsChecker H4 g a:=⟨dg,eg⟩
 have wy4:=wy3.same s4
 have sh4:=sh1.same s14
 have e4:=sh4.1
 have hS4:=(s1.trans s14).seq hS
 obtain ⟨is4,_⟩:=id wy4
 obtain ⟨dx4,la4,k14,k24⟩:=id is4
 clear is3 wy3 e2 sh1 e1 eg hsh am lm
 and_intros
 refine ⟨a,dx4,_,rfl,k14,rfl,?_⟩
 and_intros
 intro lc hlc
 have s5:=Ag hlc (.lst (vls ls))
 have e5:(upd H4 lc (.lst (vls ls))) lc=some (.lst (vls ls)):=Ab
 generalize upd H4 lc (.lst (vls ls))=H5 at s5 e5 ⊢
 have wy5:=wy4.same s5
 have sh5:=sh4.same s5
 refine ⟨a,lc,h,s,xs,ls,rfl,wy5.1,by omega,by omega,by omega,by omega,px,e5,sh5.2.1,sh5.2.2.1,by omega,nN,fun pp ps H6 hpp s6 ep gp vp=>?_⟩
 have s46:=s5.trans s6
 have wy6:=wy4.same s46
 have e6:=s46 _ _ e4
 obtain ⟨is6,_⟩:=id wy6
 obtain ⟨dx6,la6,k16,k26⟩:=id is6
 and_intros
 refine ⟨a,dx6,_,rfl,k16,rfl,?_⟩
 and_intros
 intro ld hld
 have s7:=Ag hld (.lst (vls ls))
 have e7:(upd H6 ld (.lst (vls ls))) ld=some (.lst (vls ls)):=Ab
 generalize upd H6 ld (.lst (vls ls))=H7 at s7 e7 ⊢
 have wy7:=wy6.same s7
 have sh7:=sh4.same (s46.trans s7)
 refine ⟨a,ld,h,s,xs,ls,rfl,wy7.1,by omega,by omega,by omega,by omega,px,e7,sh7.2.1,sh7.2.2.1,by omega,nN,fun o H8 ho s8 eo=>?_⟩
 have cnt:=OS (s:=s) (fun p k=>(okq p k).1) okk nn0 nN (show h<=12 by omega) (by omega) px
 have ln:=Cs (Av ls) h xs ((AA (Av ls)).fdiv ((s:Int)+1)+1) (h+1) (Dt (Av ls).length h) (2 ^ h - 1) s
 have pl:ps.length=(AD (Av ls) h xs s).length:=by
  have:=congrArg List.length vp
  rwa [length_map,length_map] at this
 have cl:(AD (Av ls) h xs s).length<=h+1/\AD (Av ls) h xs s≠[]:=⟨ln.1,ln.2 (by omega)⟩
 have pne:ps≠[]:=fun z=>cl.2 (length_eq_zero_iff.mp (by rw [<- pl,z];rfl))
 have zps:∀r∈ps,ZV h ls.length (rqV r):=fun r m=>by
  rw [<- dl]
  exact cnt.zv _ (by rw [<- vp];exact mem_map.mpr ⟨r,m,rfl⟩)
 have s68:=s7.trans s8
 have ep8:=s68 _ _ ep
 have gp8:∀r∈ps,RqG H8 r:=fun r m=>(gp r m).same s68
 and_intros
 refine ⟨pp,ps,rfl,ep8,gp8,by omega,fun r m=>?_,fun L cs H9 hL s9 eL gc vc=>?_⟩
 ·have:=(zps r m).1
  unfold rqV at this
  dsimp only at this
  rw [length_map] at this
  omega
 have s49:=(s46.trans s68).trans s9
 have e9:=s49 _ _ e4
 and_intros
 intro lt hlt
 have sa:=Ag hlt (.lst (vls ls))
 have ea:(upd H9 lt (.lst (vls ls))) lt=some (.lst (vls ls)):=Ab
 generalize upd H9 lt (.lst (vls ls))=Ha at sa ea ⊢
 have s4a:=s49.trans sa
 have s6a:=(s68.trans s9).trans sa
 have im:=im4.same s4a
 have wy:=wy4.same s4a
 have shS:=sh4.same s4a
 have shL:G7 Ha h lt ls:=⟨ea,shS.2⟩
 have epa:=s6a _ _ ep
 have gpa:∀r∈ps,RqG Ha r:=fun r m=>(gp r m).same s6a
 have eoa:=(s9.trans sa) _ _ eo
 have eLa:=sa _ _ eL
 have gca:∀r∈cs,RqG Ha r:=fun r m=>(gc r m).1.same sa
 have hSa:=s4a.seq hS4
 have rpp:=GZ (K:=K) epa gpa
 rw [vp] at rpp
 have rtl:=GZ (K:=K) eLa gca
 rw [vc,vp] at rtl
 have shp:SeqAt.shaped (GG (Av ls) h xs s)=true:=(FH _).shaped (by decide)
 have eqq:PyData.eqv (GG (Av ls) h xs s) (GG (Av ls) h xs s)=true:=(FH _).eqv
 obtain ⟨tl,etl⟩:∃tl,tl=ES h ((AD (Av ls) h xs s).map fun r=>r.2.2):=⟨_,rfl⟩
 have tll:tl.length=h:=by rw [etl];unfold ES;rw [length_map,length_range]
 rw [<- etl] at eoa
 have pass:∀{J:Hp} {o':Addr} {os:List Int},Au Ha J->J o'=some (.lst (os.map V.int))->∀{Z:VK} {E:XK},(∀H':Hp,Au J H'->Z (.bl (decide (tl=os))) H')->Ij K ad.c_SeatsChecker ad.c_Checker ad.c_Seats [.ref g,.ref lt,.ref pp,.ref o'] J Z E:=fun {J o' os} sJ eo' {Z E} z=>⟨g,a,lt,pp,o',rfl,.inr ⟨h,s,xs,ls,im.same sJ,wy.same sJ,shL.same sJ,.inr ⟨ps,os,sJ _ _ epa,fun r m=>(gpa r m).same sJ,vp,eo',by rw [etl] at z;exact z⟩⟩⟩
 clear gp8 ep8 eL gc vc e7 sh7 wy7 e6 wy6 is6 k16 k26 sh5 wy5 e5 k14 k24 is4 ep gp eo e9 ea
 obtain ⟨dga,hga⟩:=id im
 obtain ⟨dxa,laa,ka1,ka2⟩:=id wy.1
 and_intros
 refine ⟨g,dga,_,rfl,hga,rfl,?_⟩
 and_intros
 refine ⟨g,a,lt,pp,h,s,xs,ls,_,rfl,im,wy,shL,rpp,shp,fun Hb sb=>?_⟩
 rw [show PyData.eqv (PyData.list (((AD (Av ls) h xs s).map BG).map roD)) (GG (Av ls) h xs s)=true from eqq]
 have hgb:=sb _ _ hga
 have kb1:=sb _ _ ka1
 and_intros
 refine ⟨g,_,dga,_,_,rfl,hgb,T.cl_SeatsChecker,T.na_SeatsChecker_way,rfl,?_⟩
 refine ⟨a,_,dxa,_,_,rfl,kb1,T.cl_Seats,T.na_Seats_seats,rfl,?_⟩
 and_intros
 refine ifF (RF rfl) ?_
 have eob:=sb _ _ eoa
 and_intros
 refine ⟨g,dga,_,rfl,hgb,rfl,?_⟩
 and_intros
 intro oc hoc
 have sc:=Ag hoc (.lst (tl.map V.int))
 have ec:(upd Hb oc (.lst (tl.map V.int))) oc=some (.lst (tl.map V.int)):=Ab
 generalize upd Hb oc (.lst (tl.map V.int))=Hc at sc ec ⊢
 have sac:=sb.trans sc
 refine ⟨g,a,lt,pp,oc,rfl,.inr ⟨h,s,xs,ls,im.same sac,wy.same sac,shL.same sac,.inr ⟨ps,tl,sac _ _ epa,fun r m=>(gpa r m).same sac,vp,ec,fun Hd sd=>?_⟩⟩⟩
 rw [<- etl,decide_eq_true rfl]
 have sad:=sac.trans sd
 have hSd:=sad.seq hSa
 and_intros
 refine ⟨p,ns,3,rfl,hSd,h63,by decide,by decide,fun c4 c40 c41=>?_⟩
 and_intros
 refine ⟨c4,9,rfl,Kl c40 c41,by decide,by decide,fun z z0 z1=>?_⟩
 have szz:Sz 200 z:=Bz (by omega) (by omega)
 and_intros
 refine ⟨p,ns,4,rfl,hSd,h63,by decide,by decide,fun c5 c50 c51=>?_⟩
 have m5:=AB c5 (show (0:Int) < 17 by decide)
 and_intros
 refine ⟨pp,ps,c5.fmod 17,z,h,ls.length,rfl,sad _ _ epa,fun r m=>⟨(gpa r m).same sad,zps r m⟩,pne,by omega,l1,by omega,by omega,by omega,by omega,by omega,z0,szz,fun sp D He se rD shD=>?_⟩
 have sae:=sad.trans se
 have rtl':=rtl.same sae
 and_intros
 refine ⟨fun σ' J=>σ'=[some (.ref p),some (.int (h:Int)),some (.int (s:Int)),some (.ref sh),some (.ref a),some (.ref g),some (.ref pp),some (.ref o),some (.ref L),some (.ref lt),some (.int z),some (.ref sp),none,none,none,none]/\Au He J,?_,?_⟩
 ·refine ⟨_,rfl,_,rfl,D,_,rD,rtl',shD,shp,_,rfl,?_⟩
  cases ev:PyData.eqv D (.list (((AD (Av ls) h xs s).map BG).map roD)) with
  | true =>
    refine ifF rfl ?_
    exact ⟨rfl,Au.refl _⟩
  | false =>
    refine ifT rfl ?_
    have hge:=sae _ _ hga
    and_intros
    refine ⟨g,dga,_,rfl,hge,rfl,?_⟩
    and_intros
    refine ⟨g,a,lt,sp,h,s,xs,ls,D,rfl,im.same sae,wy.same sae,shL.same sae,rD,shD,fun Hf sf=>?_⟩
    rw [show PyData.eqv D (GG (Av ls) h xs s)=false from ev]
    have hgf:=sf _ _ hge
    and_intros
    refine ⟨g,dga,_,rfl,hgf,rfl,?_⟩
    and_intros
    have saf:=sae.trans sf
    refine ⟨g,a,lt,sp,o,rfl,.inr ⟨h,s,xs,ls,im.same saf,wy.same saf,shL.same saf,.inl ⟨D,rD.same sf,shD,ev,fun Hg sg=>?_⟩⟩⟩
    and_intros
    exact sf.trans sg
 rintro σ' J ⟨rfl,sJ⟩
 have saJ:=sae.trans sJ
 have eoJ:=saJ _ _ eoa
 and_intros
 intro wr hwr
 have j1:=Ag hwr (.lst (tl.map V.int))
 have ew:(upd J wr (.lst (tl.map V.int))) wr=some (.lst (tl.map V.int)):=Ab
 generalize upd J wr (.lst (tl.map V.int))=J1 at j1 ew ⊢
 have mh:=AB z (show (0:Int) < (h:Int) by omega)
 and_intros
 refine ⟨(by show (_:Int)≠0;omega),?_⟩
 dsimp only
 obtain ⟨k,ek,hk⟩:∃k:Nat,z.fmod (h:Int)=(k:Int)/\k < h:=⟨(z.fmod (h:Int)).toNat,by omega,by omega⟩
 rw [ek]
 obtain ⟨v,hv⟩:∃v,tl[k]?=some v:=⟨_,List.getElem?_eq_getElem (by omega)⟩
 and_intros
 refine ⟨wr,_,_,_,rfl,rfl,SqL.of ew,Dj (by rw [List.getElem?_map,hv];rfl),?_⟩
 and_intros
 refine ⟨⟨(by show (_:Int)≠0;omega),Bz (by omega) (by omega)⟩,?_⟩
 dsimp only
 have m6:=AB (z.fdiv (h:Int)) (show (0:Int) < 2 by decide)
 and_intros
 refine ⟨wr,_,_,k,rfl,rfl,ew,DQ (by rw [length_map,tll];exact hk),?_⟩
 have nv:v+1 - 2*(z.fdiv (h:Int)).fmod 2≠v:=by omega
 rw [show (tl.map V.int).set k (.int (v+1 - 2*(z.fdiv (h:Int)).fmod 2))=(tl.set k (v+1 - 2*(z.fdiv (h:Int)).fmod 2)).map V.int from (map_set).symm]
 generalize v+1 - 2*(z.fdiv (h:Int)).fmod 2=v' at nv ⊢
 have tno:decide (tl=tl.set k v')=false:=decide_eq_false fun z=>by
  have h1:tl[k]?=(tl.set k v')[k]?:=congrArg (fun l=>l[k]?) z
  rw [hv,List.getElem?_set_self (by omega)] at h1
  exact nv (Option.some.inj h1).symm
 have j2:Au J (upd J1 wr (.lst ((tl.set k v').map V.int))):=A1 j1 hwr
 have ew2:(upd J1 wr (.lst ((tl.set k v').map V.int))) wr=some (.lst ((tl.set k v').map V.int)):=Ab
 clear ew
 generalize upd J1 wr (.lst ((tl.set k v').map V.int))=J2 at j2 ew2 ⊢
 have sa2:=saJ.trans j2
 have shS2:=shS.same sa2
 obtain ⟨q0,lr,els⟩:∃q0 lr,ls=q0 :: lr:=exists_cons_of_ne_nil (fun z=>by rw [z] at l1;exact absurd l1 (by decide))
 have q0m:q0∈ls:=by rw [els];exact mem_cons_self ..
 obtain ⟨g01,g02⟩:=shS2.2.1 q0 q0m
 have at0:atI (vls ls) 0=some (.ref q0.1):=by rw [els];exact Dj (j:=0) rfl
 and_intros
 refine ⟨sh,_,_,_,rfl,rfl,SqL.of shS2.1,at0,?_⟩
 refine ⟨q0.1,_,_,_,rfl,rfl,SqT.of g01,rfl,?_⟩
 and_intros
 refine ⟨sh,_,_,_,rfl,rfl,SqL.of shS2.1,at0,?_⟩
 refine ⟨q0.1,_,_,_,rfl,rfl,SqT.of g01,rfl,?_⟩
 and_intros
 refine ⟨(by show 2<=sizeLine;decide),fun t1 ht1=>?_⟩
 have j3:=Ag ht1 (.tup [V.ref q0.2.1,V.int (q0.2.2.2+1)])
 have et1:(upd J2 t1 (.tup [V.ref q0.2.1,V.int (q0.2.2.2+1)])) t1=some (.tup [V.ref q0.2.1,V.int (q0.2.2.2+1)]):=Ab
 generalize upd J2 t1 (.tup [V.ref q0.2.1,V.int (q0.2.2.2+1)])=J3 at j3 et1 ⊢
 and_intros
 refine ⟨(by show 1<=sizeLine;decide),fun l2 h2=>?_⟩
 have j4:=Ag h2 (.lst [V.ref t1])
 have el2:(upd J3 l2 (.lst [V.ref t1])) l2=some (.lst [V.ref t1]):=Ab
 generalize upd J3 l2 (.lst [V.ref t1])=J4 at j4 el2 ⊢
 have sa4:=(sa2.trans j3).trans j4
 have shS4:=shS.same sa4
 and_intros
 refine ⟨sh,_,rfl,SqL.of shS4.1,fun l3 h3=>?_⟩
 rw [show GH (vls ls) (some 1) none=vls lr from by rw [show GH (vls ls) (some 1) none=(vls ls).drop 1 from KD (j:=1),els];rfl]
 have j5:=Ag h3 (.lst (vls lr))
 have el3:(upd J4 l3 (.lst (vls lr))) l3=some (.lst (vls lr)):=Ab
 generalize upd J4 l3 (.lst (vls lr))=J5 at j5 el3 ⊢
 obtain ⟨ls',els'⟩:∃ls':Ls,ls'=(t1,q0.2.1,q0.2.2.1,q0.2.2.2+1) :: lr:=⟨_,rfl⟩
 have lrl:lr.length+1=ls.length:=by rw [els];rfl
 and_intros
 refine ⟨l2,l3,_,_,rfl,rfl,j5 _ _ el2,el3,(by unfold vls;rw [length_map];exact Nat.le_of_lt (AH (by show 1+_<=1000;omega))),fun l4 h4=>?_⟩
 rw [show [V.ref t1]++vls lr=vls ls' from by rw [els'];rfl]
 have j6:=Ag h4 (.lst (vls ls'))
 have em:(upd J5 l4 (.lst (vls ls'))) l4=some (.lst (vls ls')):=Ab
 generalize upd J5 l4 (.lst (vls ls'))=J6 at j6 em ⊢
 have s36:=(j4.trans j5).trans j6
 have sa6:=((sa4.trans j5).trans j6)
 have b0:=okq (q0.2.2.1,q0.2.2.2) (mem_map.mpr ⟨q0,q0m,rfl⟩)
 dsimp only at b0
 have ns':AA (Av ls')=AA (Av ls)+1:=by
  rw [els',els]
  unfold AA Av
  rw [map_cons,map_cons,map_cons,map_cons,sum_cons,sum_cons]
  dsimp only
  omega
 have shM:G7 J6 h l4 ls':=by
  have sh6:=shS.same sa6
  refine ⟨em,fun q m=>?_,fun q m=>?_,by rw [els',length_cons,lrl];omega,by rw [ns'];omega⟩
  ·rw [els'] at m
   rcases mem_cons.mp m with rfl | m
   ·exact ⟨s36 _ _ et1,(j3.trans s36) _ _ g02⟩
   ·exact sh6.2.1 q (by rw [els];exact mem_cons_of_mem _ m)
  ·rw [els'] at m
   rcases mem_cons.mp m with rfl | m
   ·exact ⟨(sh6.2.2.1 q0 q0m).1,by dsimp only;omega,Bz (by dsimp only;omega) (by dsimp only;omega)⟩
   ·exact sh6.2.2.1 q (by rw [els];exact mem_cons_of_mem _ m)
 have cnt':Nb (Av ls') h s xs:=OS (fun p k=>by
  obtain ⟨q,qm,rfl⟩:=mem_map.mp k
  exact (shM.2.2.1 q qm).2.1) (fun p k=>by
  obtain ⟨q,qm,rfl⟩:=mem_map.mp k
  rw [els'] at qm
  rcases mem_cons.mp qm with rfl | m
  ·exact okk (q0.2.2.1,q0.2.2.2) (mem_map.mpr ⟨q0,q0m,rfl⟩)
  ·exact okk _ (mem_map.mpr ⟨q,by rw [els];exact mem_cons_of_mem _ m,rfl⟩)) (by rw [ns'];omega) shM.2.2.2.2 (by omega) (by omega) px
 have mno:=QD cnt cnt' (by rw [ns'];omega)
 have hg6:=sa6 _ _ hga
 have ew6:=((j3.trans s36)) _ _ ew2
 and_intros
 refine ⟨g,dga,_,rfl,hg6,rfl,?_⟩
 and_intros
 refine ⟨g,a,lt,pp,wr,rfl,.inr ⟨h,s,xs,ls,im.same sa6,wy.same sa6,shL.same sa6,.inr ⟨ps,_,sa6 _ _ epa,fun r m=>(gpa r m).same sa6,vp,ew6,fun J7 j7=>?_⟩⟩⟩
 rw [<- etl,tno]
 have sa7:=sa6.trans j7
 have hg7:=j7 _ _ hg6
 and_intros
 refine ⟨g,dga,_,rfl,hg7,rfl,?_⟩
 and_intros
 refine ⟨g,a,l4,pp,h,s,xs,ls',_,rfl,im.same sa7,wy.same sa7,shM.same j7,rpp.same sa7,shp,fun J8 j8=>?_⟩
 rw [show PyData.eqv (PyData.list (((AD (Av ls) h xs s).map BG).map roD)) (GG (Av ls') h xs s)=false from mno]
 have sa8:=sa7.trans j8
 and_intros
 intro g2 dg2 hg2 hdg2 neg2
 refine ⟨g2,ad.c_Checker,dg2,a,rfl,Ab,T.cl_Checker,T.na_Checker_way,fun J9 j9 eg2=>?_⟩
 rw [JL] at j9
 have j9:=(LQ (Ag hdg2 (.own g2)) hg2).trans j9
 refine ⟨rfl,?_⟩
 have sa9:=sa8.trans j9
 have im2:IsM ad.c_Checker J9 g2 a:=⟨dg2,eg2⟩
 and_intros
 refine ⟨g2,dg2,_,rfl,eg2,rfl,?_⟩
 and_intros
 refine ⟨_,_,_,rfl,?_⟩
 and_intros
 refine ⟨g2,dg2,_,rfl,eg2,rfl,?_⟩
 and_intros
 refine ⟨g2,a,lt,pp,o,rfl,.inl ⟨im2,?_⟩⟩
 and_intros
 refine ⟨_,_,rpp.same sa9,rtl.same sa9,shp,shp,?_⟩
 rw [show PyData.eqv (PyData.list (((AD (Av ls) h xs s).map BG).map roD)) (PyData.list (((AD (Av ls) h xs s).map BG).map roD))=true from eqq]
 and_intros
 refine ⟨.list (ls.map lnD),.list (ls.map lnD),.lst (SqL.of (shL.same sa9).1) (Nm (shL.same sa9).2.1),.lst (SqL.of (shS.same sa9).1) (Nm (shS.same sa9).2.1),(JY ls).shaped (by decide),(JY ls).shaped (by decide),?_⟩
 rw [(JY ls).eqv]
 and_intros
 refine ⟨g,dga,_,rfl,sa9 _ _ hga,rfl,?_⟩
 and_intros
 refine ⟨g,a,lt,pp,o,rfl,.inr ⟨h,s,xs,ls,im.same sa9,wy.same sa9,shL.same sa9,.inr ⟨ps,tl,sa9 _ _ epa,fun r m=>(gpa r m).same sa9,vp,sa9 _ _ eoa,fun J10 j10=>?_⟩⟩⟩
 rw [<- etl,decide_eq_true rfl]
 and_intros
 exact q _
end
theorem CH {α:Type} {P:List α->Prop} (h:∀x0,P [x0]):∀us:List α,us.length=1->P us
 | [_],_=>h _
theorem AK {α:Type} {P:List α->Prop} (h:∀x0 x1,P [x0,x1]):∀us:List α,us.length=2->P us
 | [_,_],_=>h _ _
theorem DN {α:Type} {P:List α->Prop} (h:∀x0 x1 x2,P [x0,x1,x2]):∀us:List α,us.length=3->P us
 | [_,_,_],_=>h _ _ _
theorem EZ {α:Type} {P:List α->Prop} (h:∀x0 x1 x2 x3,P [x0,x1,x2,x3]):∀us:List α,us.length=4->P us
 | [_,_,_,_],_=>h _ _ _ _
theorem GQ {α:Type} {P:List α->Prop} (h:∀x0 x1 x2 x3 x4,P [x0,x1,x2,x3,x4]):∀us:List α,us.length=5->P us
 | [_,_,_,_,_],_=>h _ _ _ _ _
open PySem.W in
theorem all_mk {l:OpenLaw} {w:World} {K:Frag} {h:Heap} {mg:Str->Option Value} {fa f1 f2 f3 f4 f5 f6 f7 f8 f9 f10 f11 f12 f13 f14 f15 f16 f17 f18 f19 f20 f21 f22 f23 f24 f25 f26 f27 f28 f29 f30 f31 f32 f33 f34 f35 f36 f37 f38 f39 f40 f41 f42 f43 f44 f45 f46 f47 f48 f49 f50 f51 f52 f53 f54 f55 f56 f57 c_Way c_Seats c_SeatsChecker c_Checker:Addr} (X:K.In h) (G:h.Ns mainGlobals mg) (hfa:mg "law"=some (.ref fa))
 {dT43:Addr} {dcl43:Value} {ddi43:Option Addr} {dn43:Nat} {dsl43:Array (Option Value)} {dT49:Addr} {dcl49:Value} {ddi49:Option Addr} {dn49:Nat} {dsl49:Array (Option Value)} {t_MOST_HANDS t_MOST_SEATS t_MOST_PLACES:Tok}
 (a1:nsIn K mainGlobals "is_whole"=some (some (.ref f1)))
 (l1:K.lookup f1=some ⟨oc1,od1,.func (fnOf "is_whole" "is_whole" (An CL) (Am CL) (Ad CL) .none kV1 dc1 pm1 an1 cd1 ct1),sl1⟩) (c1:codeIn K cd1 "is_whole"=true) (k1:keepIn K (.ref f1)=true)
 (a2:nsIn K mainGlobals "divisor"=some (some (.ref f2)))
 (l2:K.lookup f2=some ⟨oc2,od2,.func (fnOf "divisor" "divisor" (An D5) (Am D5) (Ad D5) .none kV2 dc2 pm2 an2 cd2 ct2),sl2⟩) (c2:codeIn K cd2 "divisor"=true) (k2:keepIn K (.ref f2)=true)
 (a3:nsIn K mainGlobals "all_of"=some (some (.ref f3)))
 (l3:K.lookup f3=some ⟨oc3,od3,.func (fnOf "all_of" "all_of" (An Ei) (Am Ei) (Ad Ei) .none kV3 dc3 pm3 an3 cd3 ct3),sl3⟩) (c3:codeIn K cd3 "all_of"=true) (k3:keepIn K (.ref f3)=true)
 (a4:nsIn K mainGlobals "holds"=some (some (.ref f4)))
 (l4:K.lookup f4=some ⟨oc4,od4,.func (fnOf "holds" "holds" (An Fg) (Am Fg) (Ad Fg) .none kV4 dc4 pm4 an4 cd4 ct4),sl4⟩) (c4:codeIn K cd4 "holds"=true) (k4:keepIn K (.ref f4)=true)
 (a5:nsIn K mainGlobals "without"=some (some (.ref f5)))
 (l5:K.lookup f5=some ⟨oc5,od5,.func (fnOf "without" "without" (An D1) (Am D1) (Ad D1) .none kV5 dc5 pm5 an5 cd5 ct5),sl5⟩) (c5:codeIn K cd5 "without"=true) (k5:keepIn K (.ref f5)=true)
 (a6:nsIn K mainGlobals "members"=some (some (.ref f6)))
 (l6:K.lookup f6=some ⟨oc6,od6,.func (fnOf "members" "members" (An Dh) (Am Dh) (Ad Dh) .none kV6 dc6 pm6 an6 cd6 ct6),sl6⟩) (c6:codeIn K cd6 "members"=true) (k6:keepIn K (.ref f6)=true)
 (a7:nsIn K mainGlobals "lies"=some (some (.ref f7)))
 (l7:K.lookup f7=some ⟨oc7,od7,.func (fnOf "lies" "lies" (An Gy) (Am Gy) (Ad Gy) .none kV7 dc7 pm7 an7 cd7 ct7),sl7⟩) (c7:codeIn K cd7 "lies"=true) (k7:keepIn K (.ref f7)=true)
 (a8:nsIn K mainGlobals "under"=some (some (.ref f8)))
 (l8:K.lookup f8=some ⟨oc8,od8,.func (fnOf "under" "under" (An Ff) (Am Ff) (Ad Ff) .none kV8 dc8 pm8 an8 cd8 ct8),sl8⟩) (c8:codeIn K cd8 "under"=true) (k8:keepIn K (.ref f8)=true)
 (a9:nsIn K mainGlobals "begin"=some (some (.ref f9)))
 (l9:K.lookup f9=some ⟨oc9,od9,.func (fnOf "begin" "begin" (An DM) (Am DM) (Ad DM) .none kV9 dc9 pm9 an9 cd9 ct9),sl9⟩) (c9:codeIn K cd9 "begin"=true) (k9:keepIn K (.ref f9)=true)
 (a10:nsIn K mainGlobals "with_kept"=some (some (.ref f10)))
 (l10:K.lookup f10=some ⟨oc10,od10,.func (fnOf "with_kept" "with_kept" (An C0) (Am C0) (Ad C0) .none kV10 dc10 pm10 an10 cd10 ct10),sl10⟩) (c10:codeIn K cd10 "with_kept"=true) (k10:keepIn K (.ref f10)=true)
 (a11:nsIn K mainGlobals "ballots_in"=some (some (.ref f11)))
 (l11:K.lookup f11=some ⟨oc11,od11,.func (fnOf "ballots_in" "ballots_in" (An BC) (Am BC) (Ad BC) .none kV11 dc11 pm11 an11 cd11 ct11),sl11⟩) (c11:codeIn K cd11 "ballots_in"=true) (k11:keepIn K (.ref f11)=true)
 (a12:nsIn K mainGlobals "_law_cell"=some (some (.ref f12)))
 (l12:K.lookup f12=some ⟨oc12,od12,.func (fnOf "_law_cell" "_law_cell" (An De) (Am De) (Ad De) .none kV12 dc12 pm12 an12 cd12 ct12),sl12⟩) (c12:codeIn K cd12 "_law_cell"=true) (k12:keepIn K (.ref f12)=true)
 (a13:nsIn K mainGlobals "_law_mixed"=some (some (.ref f13)))
 (l13:K.lookup f13=some ⟨oc13,od13,.func (fnOf "_law_mixed" "_law_mixed" (An C6) (Am C6) (Ad C6) .none kV13 dc13 pm13 an13 cd13 ct13),sl13⟩) (c13:codeIn K cd13 "_law_mixed"=true) (k13:keepIn K (.ref f13)=true)
 (a14:nsIn K mainGlobals "_law_mask"=some (some (.ref f14)))
 (l14:K.lookup f14=some ⟨oc14,od14,.func (fnOf "_law_mask" "_law_mask" (An Cu) (Am Cu) (Ad Cu) .none kV14 dc14 pm14 an14 cd14 ct14),sl14⟩) (c14:codeIn K cd14 "_law_mask"=true) (k14:keepIn K (.ref f14)=true)
 (a15:nsIn K mainGlobals "_law_number"=some (some (.ref f15)))
 (l15:K.lookup f15=some ⟨oc15,od15,.func (fnOf "_law_number" "_law_number" (An Cf) (Am Cf) (Ad Cf) .none kV15 dc15 pm15 an15 cd15 ct15),sl15⟩) (c15:codeIn K cd15 "_law_number"=true) (k15:keepIn K (.ref f15)=true)
 (a16:nsIn K mainGlobals "_law_copy"=some (some (.ref f16)))
 (l16:K.lookup f16=some ⟨oc16,od16,.func (fnOf "_law_copy" "_law_copy" (An Cq) (Am Cq) (Ad Cq) .none kV16 dc16 pm16 an16 cd16 ct16),sl16⟩) (c16:codeIn K cd16 "_law_copy"=true) (k16:keepIn K (.ref f16)=true)
 (a17:nsIn K mainGlobals "_law_other"=some (some (.ref f17)))
 (l17:K.lookup f17=some ⟨oc17,od17,.func (fnOf "_law_other" "_law_other" (An C8) (Am C8) (Ad C8) .none kV17 dc17 pm17 an17 cd17 ct17),sl17⟩) (c17:codeIn K cd17 "_law_other"=true) (k17:keepIn K (.ref f17)=true)
 (a18:nsIn K mainGlobals "_law_deed"=some (some (.ref f18)))
 (l18:K.lookup f18=some ⟨oc18,od18,.func (fnOf "_law_deed" "_law_deed" (An CM) (Am CM) (Ad CM) .none kV18 dc18 pm18 an18 cd18 ct18),sl18⟩) (c18:codeIn K cd18 "_law_deed"=true) (k18:keepIn K (.ref f18)=true)
 (a19:nsIn K mainGlobals "_law_longer"=some (some (.ref f19)))
 (l19:K.lookup f19=some ⟨oc19,od19,.func (fnOf "_law_longer" "_law_longer" (An Cb) (Am Cb) (Ad Cb) .none kV19 dc19 pm19 an19 cd19 ct19),sl19⟩) (c19:codeIn K cd19 "_law_longer"=true) (k19:keepIn K (.ref f19)=true)
 (a20:nsIn K mainGlobals "_law_rounds"=some (some (.ref f20)))
 (l20:K.lookup f20=some ⟨oc20,od20,.func (fnOf "_law_rounds" "_law_rounds" (An BZ) (Am BZ) (Ad BZ) .none kV20 dc20 pm20 an20 cd20 ct20),sl20⟩) (c20:codeIn K cd20 "_law_rounds"=true) (k20:keepIn K (.ref f20)=true)
 (l21:K.lookup f21=some ⟨oc21,od21,.func (fnOf "__init__" "Checker.__init__" (An B6) (Am B6) (Ad B6) .none kV21 dc21 pm21 an21 cd21 ct21),sl21⟩) (c21:codeIn K cd21 "Checker.__init__"=true) (k21:keepIn K (.ref f21)=true)
 (l22:K.lookup f22=some ⟨oc22,od22,.func (fnOf "right" "Checker.right" (An Bs) (Am Bs) (Ad Bs) .none kV22 dc22 pm22 an22 cd22 ct22),sl22⟩) (c22:codeIn K cd22 "Checker.right"=true) (k22:keepIn K (.ref f22)=true)
 (l23:K.lookup f23=some ⟨oc23,od23,.func (fnOf "quota" "Seats.quota" (An BL) (Am BL) (Ad BL) .none kV23 dc23 pm23 an23 cd23 ct23),sl23⟩) (c23:codeIn K cd23 "Seats.quota"=true) (k23:keepIn K (.ref f23)=true)
 (l24:K.lookup f24=some ⟨oc24,od24,.func (fnOf "told_by" "Seats.told_by" (An AF) (Am AF) (Ad AF) .none kV24 dc24 pm24 an24 cd24 ct24),sl24⟩) (c24:codeIn K cd24 "Seats.told_by"=true) (k24:keepIn K (.ref f24)=true)
 (a25:nsIn K mainGlobals "are_hands"=some (some (.ref f25)))
 (l25:K.lookup f25=some ⟨oc25,od25,.func (fnOf "are_hands" "are_hands" (An C9) (Am C9) (Ad C9) .none kV25 dc25 pm25 an25 cd25 ct25),sl25⟩) (c25:codeIn K cd25 "are_hands"=true) (k25:keepIn K (.ref f25)=true)
 (a26:nsIn K mainGlobals "are_seats"=some (some (.ref f26)))
 (l26:K.lookup f26=some ⟨oc26,od26,.func (fnOf "are_seats" "are_seats" (An Cz) (Am Cz) (Ad Cz) .none kV26 dc26 pm26 an26 cd26 ct26),sl26⟩) (c26:codeIn K cd26 "are_seats"=true) (k26:keepIn K (.ref f26)=true)
 (a27:nsIn K mainGlobals "are_lots"=some (some (.ref f27)))
 (l27:K.lookup f27=some ⟨oc27,od27,.func (fnOf "are_lots" "are_lots" (An Cv) (Am Cv) (Ad Cv) .none kV27 dc27 pm27 an27 cd27 ct27),sl27⟩) (c27:codeIn K cd27 "are_lots"=true) (k27:keepIn K (.ref f27)=true)
 (a28:nsIn K mainGlobals "size"=some (some (.ref f28)))
 (l28:K.lookup f28=some ⟨oc28,od28,.func (fnOf "size" "size" (An Gi) (Am Gi) (Ad Gi) .none kV28 dc28 pm28 an28 cd28 ct28),sl28⟩) (c28:codeIn K cd28 "size"=true) (k28:keepIn K (.ref f28)=true)
 (a29:nsIn K mainGlobals "fraction"=some (some (.ref f29)))
 (l29:K.lookup f29=some ⟨oc29,od29,.func (fnOf "fraction" "fraction" (An CV) (Am CV) (Ad CV) .none kV29 dc29 pm29 an29 cd29 ct29),sl29⟩) (c29:codeIn K cd29 "fraction"=true) (k29:keepIn K (.ref f29)=true)
 (a30:nsIn K mainGlobals "even_part"=some (some (.ref f30)))
 (l30:K.lookup f30=some ⟨oc30,od30,.func (fnOf "even_part" "even_part" (An C2) (Am C2) (Ad C2) .none kV30 dc30 pm30 an30 cd30 ct30),sl30⟩) (c30:codeIn K cd30 "even_part"=true) (k30:keepIn K (.ref f30)=true)
 (a31:nsIn K mainGlobals "common_bottom"=some (some (.ref f31)))
 (l31:K.lookup f31=some ⟨oc31,od31,.func (fnOf "common_bottom" "common_bottom" (An Br) (Am Br) (Ad Br) .none kV31 dc31 pm31 an31 cd31 ct31),sl31⟩) (c31:codeIn K cd31 "common_bottom"=true) (k31:keepIn K (.ref f31)=true)
 (a32:nsIn K mainGlobals "_law_lots"=some (some (.ref f32)))
 (l32:K.lookup f32=some ⟨oc32,od32,.func (fnOf "_law_lots" "_law_lots" (An CP) (Am CP) (Ad CP) .none kV32 dc32 pm32 an32 cd32 ct32),sl32⟩) (c32:codeIn K cd32 "_law_lots"=true) (k32:keepIn K (.ref f32)=true)
 (a33:nsIn K mainGlobals "_law_slip"=some (some (.ref f33)))
 (l33:K.lookup f33=some ⟨oc33,od33,.func (fnOf "_law_slip" "_law_slip" (An Ct) (Am Ct) (Ad Ct) .none kV33 dc33 pm33 an33 cd33 ct33),sl33⟩) (c33:codeIn K cd33 "_law_slip"=true) (k33:keepIn K (.ref f33)=true)
 (a34:nsIn K mainGlobals "_law_spoilt"=some (some (.ref f34)))
 (l34:K.lookup f34=some ⟨oc34,od34,.func (fnOf "_law_spoilt" "_law_spoilt" (An Cc) (Am Cc) (Ad Cc) .none kV34 dc34 pm34 an34 cd34 ct34),sl34⟩) (c34:codeIn K cd34 "_law_spoilt"=true) (k34:keepIn K (.ref f34)=true)
 (l35:K.lookup f35=some ⟨oc35,od35,.func (fnOf "standing_by_lots" "Seats.standing_by_lots" (An A7) (Am A7) (Ad A7) .none kV35 dc35 pm35 an35 cd35 ct35),sl35⟩) (c35:codeIn K cd35 "Seats.standing_by_lots"=true) (k35:keepIn K (.ref f35)=true)
 (a36:nsIn K mainGlobals "minus"=some (some (.ref f36)))
 (l36:K.lookup f36=some ⟨oc36,od36,.func (fnOf "minus" "minus" (An Fc) (Am Fc) (Ad Fc) .none kV36 dc36 pm36 an36 cd36 ct36),sl36⟩) (c36:codeIn K cd36 "minus"=true) (k36:keepIn K (.ref f36)=true)
 (a37:nsIn K mainGlobals "times"=some (some (.ref f37)))
 (l37:K.lookup f37=some ⟨oc37,od37,.func (fnOf "times" "times" (An EY) (Am EY) (Ad EY) .none kV37 dc37 pm37 an37 cd37 ct37),sl37⟩) (c37:codeIn K cd37 "times"=true) (k37:keepIn K (.ref f37)=true)
 (a38:nsIn K mainGlobals "parted"=some (some (.ref f38)))
 (l38:K.lookup f38=some ⟨oc38,od38,.func (fnOf "parted" "parted" (An Ef) (Am Ef) (Ad Ef) .none kV38 dc38 pm38 an38 cd38 ct38),sl38⟩) (c38:codeIn K cd38 "parted"=true) (k38:keepIn K (.ref f38)=true)
 (a39:nsIn K mainGlobals "table_row"=some (some (.ref f39)))
 (l39:K.lookup f39=some ⟨oc39,od39,.func (fnOf "table_row" "table_row" (An C7) (Am C7) (Ad C7) .none kV39 dc39 pm39 an39 cd39 ct39),sl39⟩) (c39:codeIn K cd39 "table_row"=true) (k39:keepIn K (.ref f39)=true)
 (a40:nsIn K mainGlobals "weighed"=some (some (.ref f40)))
 (l40:K.lookup f40=some ⟨oc40,od40,.func (fnOf "weighed" "weighed" (An CU) (Am CU) (Ad CU) .none kV40 dc40 pm40 an40 cd40 ct40),sl40⟩) (c40:codeIn K cd40 "weighed"=true) (k40:keepIn K (.ref f40)=true)
 (a41:nsIn K mainGlobals "share_at"=some (some (.ref f41)))
 (l41:K.lookup f41=some ⟨oc41,od41,.func (fnOf "share_at" "share_at" (An Di) (Am Di) (Ad Di) .none kV41 dc41 pm41 an41 cd41 ct41),sl41⟩) (c41:codeIn K cd41 "share_at"=true) (k41:keepIn K (.ref f41)=true)
 (a42:nsIn K mainGlobals "_law_sheet"=some (some (.ref f42)))
 (l42:K.lookup f42=some ⟨oc42,od42,.func (fnOf "_law_sheet" "_law_sheet" (An B8) (Am B8) (Ad B8) .none kV42 dc42 pm42 an42 cd42 ct42),sl42⟩) (c42:codeIn K cd42 "_law_sheet"=true) (k42:keepIn K (.ref f42)=true)
 (l43:K.lookup f43=some ⟨oc43,od43,.func (fnOf "__init__" "Way.__init__" (An BD) (Am BD) (Ad BD) (.ref dT43) kV43 dc43 pm43 an43 cd43 ct43),sl43⟩) (c43:codeIn K cd43 "Way.__init__"=true) (k43:keepIn K (.ref f43)=true)
 (dl43:K.lookup dT43=some ⟨dcl43,ddi43,.seq #[.none] dn43,dsl43⟩)
 (l44:K.lookup f44=some ⟨oc44,od44,.func (fnOf "greatest" "Seats.greatest" (An Bn) (Am Bn) (Ad Bn) .none kV44 dc44 pm44 an44 cd44 ct44),sl44⟩) (c44:codeIn K cd44 "Seats.greatest"=true) (k44:keepIn K (.ref f44)=true)
 (l45:K.lookup f45=some ⟨oc45,od45,.func (fnOf "lowest" "Seats.lowest" (An B7) (Am B7) (Ad B7) .none kV45 dc45 pm45 an45 cd45 ct45),sl45⟩) (c45:codeIn K cd45 "Seats.lowest"=true) (k45:keepIn K (.ref f45)=true)
 (a46:nsIn K mainGlobals "table"=some (some (.ref f46)))
 (l46:K.lookup f46=some ⟨oc46,od46,.func (fnOf "table" "table" (An E3) (Am E3) (Ad E3) .none kV46 dc46 pm46 an46 cd46 ct46),sl46⟩) (c46:codeIn K cd46 "table"=true) (k46:keepIn K (.ref f46)=true)
 (a47:nsIn K mainGlobals "tallies"=some (some (.ref f47)))
 (l47:K.lookup f47=some ⟨oc47,od47,.func (fnOf "tallies" "tallies" (An C1) (Am C1) (Ad C1) .none kV47 dc47 pm47 an47 cd47 ct47),sl47⟩) (c47:codeIn K cd47 "tallies"=true) (k47:keepIn K (.ref f47)=true)
 (a48:nsIn K mainGlobals "part_kept"=some (some (.ref f48)))
 (l48:K.lookup f48=some ⟨oc48,od48,.func (fnOf "part_kept" "part_kept" (An C4) (Am C4) (Ad C4) .none kV48 dc48 pm48 an48 cd48 ct48),sl48⟩) (c48:codeIn K cd48 "part_kept"=true) (k48:keepIn K (.ref f48)=true)
 (l49:K.lookup f49=some ⟨oc49,od49,.func (fnOf "__init__" "Seats.__init__" (An Bj) (Am Bj) (Ad Bj) (.ref dT49) kV49 dc49 pm49 an49 cd49 ct49),sl49⟩) (c49:codeIn K cd49 "Seats.__init__"=true) (k49:keepIn K (.ref f49)=true)
 (dl49:K.lookup dT49=some ⟨dcl49,ddi49,.seq #[.none] dn49,dsl49⟩)
 (l50:K.lookup f50=some ⟨oc50,od50,.func (fnOf "deed_due" "Seats.deed_due" (An Bm) (Am Bm) (Ad Bm) .none kV50 dc50 pm50 an50 cd50 ct50),sl50⟩) (c50:codeIn K cd50 "Seats.deed_due"=true) (k50:keepIn K (.ref f50)=true)
 (a51:nsIn K mainGlobals "kept_by"=some (some (.ref f51)))
 (l51:K.lookup f51=some ⟨oc51,od51,.func (fnOf "kept_by" "kept_by" (An CQ) (Am CQ) (Ad CQ) .none kV51 dc51 pm51 an51 cd51 ct51),sl51⟩) (c51:codeIn K cd51 "kept_by"=true) (k51:keepIn K (.ref f51)=true)
 (a52:nsIn K mainGlobals "state_behind"=some (some (.ref f52)))
 (l52:K.lookup f52=some ⟨oc52,od52,.func (fnOf "state_behind" "state_behind" (An B5) (Am B5) (Ad B5) .none kV52 dc52 pm52 an52 cd52 ct52),sl52⟩) (c52:codeIn K cd52 "state_behind"=true) (k52:keepIn K (.ref f52)=true)
 (l53:K.lookup f53=some ⟨oc53,od53,.func (fnOf "counted" "Seats.counted" (An Bq) (Am Bq) (Ad Bq) .none kV53 dc53 pm53 an53 cd53 ct53),sl53⟩) (c53:codeIn K cd53 "Seats.counted"=true) (k53:keepIn K (.ref f53)=true)
 (l54:K.lookup f54=some ⟨oc54,od54,.func (fnOf "outcome" "Way.outcome" (An BN) (Am BN) (Ad BN) .none kV54 dc54 pm54 an54 cd54 ct54),sl54⟩) (c54:codeIn K cd54 "Way.outcome"=true) (k54:keepIn K (.ref f54)=true)
 (l55:K.lookup f55=some ⟨oc55,od55,.func (fnOf "right" "SeatsChecker.right" (An AT) (Am AT) (Ad AT) .none kV55 dc55 pm55 an55 cd55 ct55),sl55⟩) (c55:codeIn K cd55 "SeatsChecker.right"=true) (k55:keepIn K (.ref f55)=true)
 (l56:K.lookup f56=some ⟨oc56,od56,.func (fnOf "passes" "Checker.passes" (An Bo) (Am Bo) (Ad Bo) .none kV56 dc56 pm56 an56 cd56 ct56),sl56⟩) (c56:codeIn K cd56 "Checker.passes"=true) (k56:keepIn K (.ref f56)=true)
 (a57:nsIn K mainGlobals "law"=some (some (.ref f57)))
 (l57:K.lookup f57=some ⟨oc57,od57,.func (fnOf "law" "law" (An FN) (Am FN) (Ad FN) .none kV57 dc57 pm57 an57 cd57 ct57),sl57⟩) (c57:codeIn K cd57 "law"=true) (k57:keepIn K (.ref f57)=true)
 (z0:nsIn K mainGlobals "abs"=some none)
 (z1:nsIn K mainGlobals "all"=some none)
 (z2:nsIn K mainGlobals "bool"=some none)
 (z3:nsIn K mainGlobals "int"=some none)
 (z4:nsIn K mainGlobals "isinstance"=some none)
 (z5:nsIn K mainGlobals "len"=some none)
 (z6:nsIn K mainGlobals "list"=some none)
 (z7:nsIn K mainGlobals "max"=some none)
 (z8:nsIn K mainGlobals "min"=some none)
 (z9:nsIn K mainGlobals "range"=some none)
 (z10:nsIn K mainGlobals "reversed"=some none)
 (z11:nsIn K mainGlobals "sorted"=some none)
 (z12:nsIn K mainGlobals "sum"=some none)
 (z13:nsIn K mainGlobals "tuple"=some none)
 (z14:nsIn K mainGlobals "zip"=some none)
 (kc_MOST_HANDS:nsIn K mainGlobals "MOST_HANDS"=some (some (.int 12 t_MOST_HANDS)))
 (kc_MOST_SEATS:nsIn K mainGlobals "MOST_SEATS"=some (some (.int 60 t_MOST_SEATS)))
 (kc_MOST_PLACES:nsIn K mainGlobals "MOST_PLACES"=some (some (.int 6 t_MOST_PLACES)))
 (mc_Way:nsIn K mainGlobals "Way"=some (some (.ref c_Way))) (pg_Way:plainGet K c_Way Str.empty=true) (hd_Way:hasDictIn K c_Way=true) (po_Way:plainOver K c_Way=true) (sa_Way:findIn K (.ref c_Way) "__setattr__"=some (some (.builtin "object.__setattr__")))
 (cs_Way:specialIn K (.ref c_Way) "__getattribute__"=some (some (.builtin "type.__getattribute__"))) (cr_Way:readsIn K c_Way (.type "type")=true)
 (ca_Way_init__:findCls K (.ref c_Way) (.type "type") "__init__"=some (.val (.ref f43)))
 (mc_Seats:nsIn K mainGlobals "Seats"=some (some (.ref c_Seats))) (pg_Seats:plainGet K c_Seats Str.empty=true) (hd_Seats:hasDictIn K c_Seats=true) (po_Seats:plainOver K c_Seats=true) (sa_Seats:findIn K (.ref c_Seats) "__setattr__"=some (some (.builtin "object.__setattr__")))
 (mm_Seats:makesIn K c_Seats=true) (mi_Seats:findIn K (.ref c_Seats) "__init__"=some (some (.ref f49))) (mf_Seats:isFn K (.ref f49)=true) (mk_Seats:keepIn K (.ref c_Seats)=true)
 (ma_Seats_quota:findIn K (.ref c_Seats) "quota"=some (some (.ref f23))) (mn_Seats_quota:isFn K (.ref f23)=true)
 (ma_Seats_standing_by_lots:findIn K (.ref c_Seats) "standing_by_lots"=some (some (.ref f35))) (mn_Seats_standing_by_lots:isFn K (.ref f35)=true)
 (ma_Seats_greatest:findIn K (.ref c_Seats) "greatest"=some (some (.ref f44))) (mn_Seats_greatest:isFn K (.ref f44)=true)
 (ma_Seats_lowest:findIn K (.ref c_Seats) "lowest"=some (some (.ref f45))) (mn_Seats_lowest:isFn K (.ref f45)=true)
 (ma_Seats_deed_due:findIn K (.ref c_Seats) "deed_due"=some (some (.ref f50))) (mn_Seats_deed_due:isFn K (.ref f50)=true)
 (ma_Seats_counted:findIn K (.ref c_Seats) "counted"=some (some (.ref f53))) (mn_Seats_counted:isFn K (.ref f53)=true)
 (ma_Seats_told_by:findIn K (.ref c_Seats) "told_by"=some (some (.ref f24))) (mn_Seats_told_by:isFn K (.ref f24)=true)
 (ma_Seats_outcome:findIn K (.ref c_Seats) "outcome"=some (some (.ref f54))) (mn_Seats_outcome:isFn K (.ref f54)=true)
 (na_Seats_hands:findIn K (.ref c_Seats) "hands"=some none)
 (na_Seats_seats:findIn K (.ref c_Seats) "seats"=some none)
 (na_Seats_lots:findIn K (.ref c_Seats) "lots"=some none)
 (mc_SeatsChecker:nsIn K mainGlobals "SeatsChecker"=some (some (.ref c_SeatsChecker))) (pg_SeatsChecker:plainGet K c_SeatsChecker Str.empty=true) (hd_SeatsChecker:hasDictIn K c_SeatsChecker=true) (po_SeatsChecker:plainOver K c_SeatsChecker=true) (sa_SeatsChecker:findIn K (.ref c_SeatsChecker) "__setattr__"=some (some (.builtin "object.__setattr__")))
 (mm_SeatsChecker:makesIn K c_SeatsChecker=true) (mi_SeatsChecker:findIn K (.ref c_SeatsChecker) "__init__"=some (some (.ref f21))) (mf_SeatsChecker:isFn K (.ref f21)=true) (mk_SeatsChecker:keepIn K (.ref c_SeatsChecker)=true)
 (ma_SeatsChecker_right:findIn K (.ref c_SeatsChecker) "right"=some (some (.ref f55))) (mn_SeatsChecker_right:isFn K (.ref f55)=true)
 (ma_SeatsChecker_passes:findIn K (.ref c_SeatsChecker) "passes"=some (some (.ref f56))) (mn_SeatsChecker_passes:isFn K (.ref f56)=true)
 (na_SeatsChecker_way:findIn K (.ref c_SeatsChecker) "way"=some none)
 (mc_Checker:nsIn K mainGlobals "Checker"=some (some (.ref c_Checker))) (pg_Checker:plainGet K c_Checker Str.empty=true) (hd_Checker:hasDictIn K c_Checker=true) (po_Checker:plainOver K c_Checker=true) (sa_Checker:findIn K (.ref c_Checker) "__setattr__"=some (some (.builtin "object.__setattr__")))
 (mm_Checker:makesIn K c_Checker=true) (mi_Checker:findIn K (.ref c_Checker) "__init__"=some (some (.ref f21))) (mf_Checker:isFn K (.ref f21)=true) (mk_Checker:keepIn K (.ref c_Checker)=true)
 (ma_Checker_right:findIn K (.ref c_Checker) "right"=some (some (.ref f22))) (mn_Checker_right:isFn K (.ref f22)=true)
 (ma_Checker_passes:findIn K (.ref c_Checker) "passes"=some (some (.ref f56))) (mn_Checker_passes:isFn K (.ref f56)=true)
 (na_Checker_way:findIn K (.ref c_Checker) "way"=some none) :
 ∃fd:FuncData,(∀(s:Shared) (v:Value),BindsTo s fd ⟨[v],[]⟩ [("_law_script",v)])/\∀base:Heap,K.In base->base.Ns mainGlobals mg->AG l.prog w K mg base CX0 10 fa fd ["_law_script"] (ML K):=by
 have e:=hfa.symm.trans (mg_of X G a57)
 cases e
 have F1:=Ax (st:=CL) l1 c1 k1
 have b1:=F1.binds (ps:=["thing"]) fun _ _ _ _ _ _=>CH fun _=>rfl
 have F2:=Ax (st:=D5) l2 c2 k2
 have b2:=F2.binds (ps:=["one","other"]) fun _ _ _ _ _ _=>AK fun _ _=>rfl
 have F3:=Ax (st:=Ei) l3 c3 k3
 have b3:=F3.binds (ps:=["hands"]) fun _ _ _ _ _ _=>CH fun _=>rfl
 have F4:=Ax (st:=Fg) l4 c4 k4
 have b4:=F4.binds (ps:=["mask","hand"]) fun _ _ _ _ _ _=>AK fun _ _=>rfl
 have F5:=Ax (st:=D1) l5 c5 k5
 have b5:=F5.binds (ps:=["mask","hand"]) fun _ _ _ _ _ _=>AK fun _ _=>rfl
 have F6:=Ax (st:=Dh) l6 c6 k6
 have b6:=F6.binds (ps:=["mask"]) fun _ _ _ _ _ _=>CH fun _=>rfl
 have F7:=Ax (st:=Gy) l7 c7 k7
 have b7:=F7.binds (ps:=["slip","standing"]) fun _ _ _ _ _ _=>AK fun _ _=>rfl
 have F8:=Ax (st:=Ff) l8 c8 k8
 have b8:=F8.binds (ps:=["one","other"]) fun _ _ _ _ _ _=>AK fun _ _=>rfl
 have F9:=Ax (st:=DM) l9 c9 k9
 have b9:=F9.binds (ps:=["sheet","hands"]) fun _ _ _ _ _ _=>AK fun _ _=>rfl
 have F10:=Ax (st:=C0) l10 c10 k10
 have b10:=F10.binds (ps:=["kept","hand","given"]) fun _ _ _ _ _ _=>DN fun _ _ _=>rfl
 have F11:=Ax (st:=BC) l11 c11 k11
 have b11:=F11.binds (ps:=["sheet"]) fun _ _ _ _ _ _=>CH fun _=>rfl
 have F12:=Ax (st:=De) l12 c12 k12
 have b12:=F12.binds (ps:=["_law_script","_law_k"]) fun _ _ _ _ _ _=>AK fun _ _=>rfl
 have F13:=Ax (st:=C6) l13 c13 k13
 have b13:=F13.binds (ps:=["_law_cell_here","_law_by"]) fun _ _ _ _ _ _=>AK fun _ _=>rfl
 have F14:=Ax (st:=Cu) l14 c14 k14
 have b14:=F14.binds (ps:=["_law_some"]) fun _ _ _ _ _ _=>CH fun _=>rfl
 have F15:=Ax (st:=Cf) l15 c15 k15
 have b15:=F15.binds (ps:=["_law_cell_here","_law_most"]) fun _ _ _ _ _ _=>AK fun _ _=>rfl
 have F16:=Ax (st:=Cq) l16 c16 k16
 have b16:=F16.binds (ps:=["_law_paper"]) fun _ _ _ _ _ _=>CH fun _=>rfl
 have F17:=Ax (st:=C8) l17 c17 k17
 have b17:=F17.binds (ps:=["_law_one","_law_cell_here"]) fun _ _ _ _ _ _=>AK fun _ _=>rfl
 have F18:=Ax (st:=CM) l18 c18 k18
 have b18:=F18.binds (ps:=["_law_deed_here","_law_cell_here","_law_hands"]) fun _ _ _ _ _ _=>DN fun _ _ _=>rfl
 have F19:=Ax (st:=Cb) l19 c19 k19
 have b19:=F19.binds (ps:=["_law_rows","_law_sums","_law_way","_law_cell_here"]) fun _ _ _ _ _ _=>EZ fun _ _ _ _=>rfl
 have F20:=Ax (st:=BZ) l20 c20 k20
 have b20:=F20.binds (ps:=["_law_paper","_law_way","_law_at","_law_round_of"]) fun _ _ _ _ _ _=>EZ fun _ _ _ _=>rfl
 have F21:=Ax (st:=B6) l21 c21 k21
 have b21:=F21.binds (ps:=["self","way"]) fun _ _ _ _ _ _=>AK fun _ _=>rfl
 have F22:=Ax (st:=Bs) l22 c22 k22
 have b22:=F22.binds (ps:=["self","sheet","paper"]) fun _ _ _ _ _ _=>DN fun _ _ _=>rfl
 have F23:=Ax (st:=BL) l23 c23 k23
 have b23:=F23.binds (ps:=["self","ballots"]) fun _ _ _ _ _ _=>AK fun _ _=>rfl
 have F24:=Ax (st:=AF) l24 c24 k24
 have b24:=F24.binds (ps:=["self","paper"]) fun _ _ _ _ _ _=>AK fun _ _=>rfl
 have F25:=Ax (st:=C9) l25 c25 k25
 have b25:=F25.binds (ps:=["thing"]) fun _ _ _ _ _ _=>CH fun _=>rfl
 have F26:=Ax (st:=Cz) l26 c26 k26
 have b26:=F26.binds (ps:=["thing"]) fun _ _ _ _ _ _=>CH fun _=>rfl
 have F27:=Ax (st:=Cv) l27 c27 k27
 have b27:=F27.binds (ps:=["thing","hands"]) fun _ _ _ _ _ _=>AK fun _ _=>rfl
 have F28:=Ax (st:=Gi) l28 c28 k28
 have b28:=F28.binds (ps:=["mask"]) fun _ _ _ _ _ _=>CH fun _=>rfl
 have F29:=Ax (st:=CV) l29 c29 k29
 have b29:=F29.binds (ps:=["top","bottom"]) fun _ _ _ _ _ _=>AK fun _ _=>rfl
 have F30:=Ax (st:=C2) l30 c30 k30
 have b30:=F30.binds (ps:=["free","many"]) fun _ _ _ _ _ _=>AK fun _ _=>rfl
 have F31:=Ax (st:=Br) l31 c31 k31
 have b31:=F31.binds (ps:=["bottoms"]) fun _ _ _ _ _ _=>CH fun _=>rfl
 have F32:=Ax (st:=CP) l32 c32 k32
 have b32:=F32.binds (ps:=["_law_cell_here","_law_hands"]) fun _ _ _ _ _ _=>AK fun _ _=>rfl
 have F33:=Ax (st:=Ct) l33 c33 k33
 have b33:=F33.binds (ps:=["_law_cell_here","_law_hands"]) fun _ _ _ _ _ _=>AK fun _ _=>rfl
 have F34:=Ax (st:=Cc) l34 c34 k34
 have b34:=F34.binds (ps:=["_law_paper","_law_way","_law_cell_here","_law_hands"]) fun _ _ _ _ _ _=>EZ fun _ _ _ _=>rfl
 have F35:=Ax (st:=A7) l35 c35 k35
 have b35:=F35.binds (ps:=["self","standing"]) fun _ _ _ _ _ _=>AK fun _ _=>rfl
 have F36:=Ax (st:=Fc) l36 c36 k36
 have b36:=F36.binds (ps:=["one","other"]) fun _ _ _ _ _ _=>AK fun _ _=>rfl
 have F37:=Ax (st:=EY) l37 c37 k37
 have b37:=F37.binds (ps:=["one","other"]) fun _ _ _ _ _ _=>AK fun _ _=>rfl
 have F38:=Ax (st:=Ef) l38 c38 k38
 have b38:=F38.binds (ps:=["one","other"]) fun _ _ _ _ _ _=>AK fun _ _=>rfl
 have F39:=Ax (st:=C7) l39 c39 k39
 have b39:=F39.binds (ps:=["slip","free","kept","standing"]) fun _ _ _ _ _ _=>EZ fun _ _ _ _=>rfl
 have F40:=Ax (st:=CU) l40 c40 k40
 have b40:=F40.binds (ps:=["sheet","shares"]) fun _ _ _ _ _ _=>AK fun _ _=>rfl
 have F41:=Ax (st:=Di) l41 c41 k41
 have b41:=F41.binds (ps:=["slip","free","standing","hand"]) fun _ _ _ _ _ _=>EZ fun _ _ _ _=>rfl
 have F42:=Ax (st:=B8) l42 c42 k42
 have b42:=F42.binds (ps:=["_law_script","_law_at","_law_hands","_law_lines","_law_most"]) fun _ _ _ _ _ _=>GQ fun _ _ _ _ _=>rfl
 have F43:=MD (st:=BD) l43 c43 k43
 have b43_0:Az K _ ["self","hands","seats","lots"] []:=fun s us X hl=>match us,(show us.length=4 from Nat.add_right_cancel (m:=0) ((length_append ..).symm.trans hl)) with | [_,_,_,_],_=>binds_K (fd:=fnOf "__init__" "Way.__init__" (An BD) (Am BD) (Ad BD) (.ref dT43) kV43 dc43 pm43 an43 cd43 ct43) X rfl dl43 rfl rfl rfl
 have F44:=Ax (st:=Bn) l44 c44 k44
 have b44:=F44.binds (ps:=["self","sums","standing"]) fun _ _ _ _ _ _=>DN fun _ _ _=>rfl
 have F45:=Ax (st:=B7) l45 c45 k45
 have b45:=F45.binds (ps:=["self","sums","standing"]) fun _ _ _ _ _ _=>DN fun _ _ _=>rfl
 have F46:=Ax (st:=E3) l46 c46 k46
 have b46:=F46.binds (ps:=["sheet","state","standing"]) fun _ _ _ _ _ _=>DN fun _ _ _=>rfl
 have F47:=Ax (st:=C1) l47 c47 k47
 have b47:=F47.binds (ps:=["sheet","rows","hands"]) fun _ _ _ _ _ _=>DN fun _ _ _=>rfl
 have F48:=Ax (st:=C4) l48 c48 k48
 have b48:=F48.binds (ps:=["tally","quota"]) fun _ _ _ _ _ _=>AK fun _ _=>rfl
 have F49:=MD (st:=Bj) l49 c49 k49
 have b49_0:Az K _ ["self","hands","seats","lots"] []:=fun s us X hl=>match us,(show us.length=4 from Nat.add_right_cancel (m:=0) ((length_append ..).symm.trans hl)) with | [_,_,_,_],_=>binds_K (fd:=fnOf "__init__" "Seats.__init__" (An Bj) (Am Bj) (Ad Bj) (.ref dT49) kV49 dc49 pm49 an49 cd49 ct49) X rfl dl49 rfl rfl rfl
 have F50:=Ax (st:=Bm) l50 c50 k50
 have b50:=F50.binds (ps:=["self","sums","standing","places","quota"]) fun _ _ _ _ _ _=>GQ fun _ _ _ _ _=>rfl
 have F51:=Ax (st:=CQ) l51 c51 k51
 have b51:=F51.binds (ps:=["sheet","state","standing","hand","quota"]) fun _ _ _ _ _ _=>GQ fun _ _ _ _ _=>rfl
 have F52:=Ax (st:=B5) l52 c52 k52
 have b52:=F52.binds (ps:=["sheet","state","standing","deed","quota"]) fun _ _ _ _ _ _=>GQ fun _ _ _ _ _=>rfl
 have F53:=Ax (st:=Bq) l53 c53 k53
 have b53:=F53.binds (ps:=["self","sheet"]) fun _ _ _ _ _ _=>AK fun _ _=>rfl
 have F54:=Ax (st:=BN) l54 c54 k54
 have b54:=F54.binds (ps:=["self","sheet"]) fun _ _ _ _ _ _=>AK fun _ _=>rfl
 have F55:=Ax (st:=AT) l55 c55 k55
 have b55:=F55.binds (ps:=["self","sheet","paper"]) fun _ _ _ _ _ _=>DN fun _ _ _=>rfl
 have F56:=Ax (st:=Bo) l56 c56 k56
 have b56:=F56.binds (ps:=["self","sheet","paper","outcome"]) fun _ _ _ _ _ _=>EZ fun _ _ _ _=>rfl
 have F57:=Ax (st:=FN) l57 c57 k57
 have b57:=F57.binds (ps:=["_law_script"]) fun _ _ _ _ _ _=>CH fun _=>rfl
 have T:Tx K mg (⟨f1,_,f2,_,f3,_,f4,_,f5,_,f6,_,f7,_,f8,_,f9,_,f10,_,f11,_,f12,_,f13,_,f14,_,f15,_,f16,_,f17,_,f18,_,f19,_,f20,_,f21,_,f22,_,f23,_,f24,_,f25,_,f26,_,f27,_,f28,_,f29,_,f30,_,f31,_,f32,_,f33,_,f34,_,f35,_,f36,_,f37,_,f38,_,f39,_,f40,_,f41,_,f42,_,f43,_,f44,_,f45,_,f46,_,f47,_,f48,_,f49,_,f50,_,f51,_,f52,_,f53,_,f54,_,f55,_,f56,_,fa,_,c_Way,c_Seats,c_SeatsChecker,c_Checker,t_MOST_HANDS,t_MOST_SEATS,t_MOST_PLACES⟩:Ads):=⟨F1,b1,mg_of X G a1,F2,b2,mg_of X G a2,F3,b3,mg_of X G a3,F4,b4,mg_of X G a4,F5,b5,mg_of X G a5,F6,b6,mg_of X G a6,F7,b7,mg_of X G a7,F8,b8,mg_of X G a8,F9,b9,mg_of X G a9,F10,b10,mg_of X G a10,F11,b11,mg_of X G a11,F12,b12,mg_of X G a12,F13,b13,mg_of X G a13,F14,b14,mg_of X G a14,F15,b15,mg_of X G a15,F16,b16,mg_of X G a16,F17,b17,mg_of X G a17,F18,b18,mg_of X G a18,F19,b19,mg_of X G a19,F20,b20,mg_of X G a20,F21,b21,F22,b22,F23,b23,F24,b24,F25,b25,mg_of X G a25,F26,b26,mg_of X G a26,F27,b27,mg_of X G a27,F28,b28,mg_of X G a28,F29,b29,mg_of X G a29,F30,b30,mg_of X G a30,F31,b31,mg_of X G a31,F32,b32,mg_of X G a32,F33,b33,mg_of X G a33,F34,b34,mg_of X G a34,F35,b35,F36,b36,mg_of X G a36,F37,b37,mg_of X G a37,F38,b38,mg_of X G a38,F39,b39,mg_of X G a39,F40,b40,mg_of X G a40,F41,b41,mg_of X G a41,F42,b42,mg_of X G a42,F43,b43_0,F44,b44,F45,b45,F46,b46,mg_of X G a46,F47,b47,mg_of X G a47,F48,b48,mg_of X G a48,F49,b49_0,F50,b50,F51,b51,mg_of X G a51,F52,b52,mg_of X G a52,F53,b53,F54,b54,F55,b55,F56,b56,F57,b57,mg_of X G a57,mg_none_of X G z0,mg_none_of X G z1,mg_none_of X G z2,mg_none_of X G z3,mg_none_of X G z4,mg_none_of X G z5,mg_none_of X G z6,mg_none_of X G z7,mg_none_of X G z8,mg_none_of X G z9,mg_none_of X G z10,mg_none_of X G z11,mg_none_of X G z12,mg_none_of X G z13,mg_none_of X G z14,mg_of X G kc_MOST_HANDS,mg_of X G kc_MOST_SEATS,mg_of X G kc_MOST_PLACES,mg_of X G mc_Way,⟨pg_Way,hd_Way,po_Way,sa_Way⟩,⟨cs_Way,cr_Way,ca_Way_init__⟩,mg_of X G mc_Seats,⟨pg_Seats,hd_Seats,po_Seats,sa_Seats⟩,⟨mm_Seats,mi_Seats,mf_Seats,mk_Seats⟩,⟨ma_Seats_quota,mn_Seats_quota,k23⟩,⟨ma_Seats_standing_by_lots,mn_Seats_standing_by_lots,k35⟩,⟨ma_Seats_greatest,mn_Seats_greatest,k44⟩,⟨ma_Seats_lowest,mn_Seats_lowest,k45⟩,⟨ma_Seats_deed_due,mn_Seats_deed_due,k50⟩,⟨ma_Seats_counted,mn_Seats_counted,k53⟩,⟨ma_Seats_told_by,mn_Seats_told_by,k24⟩,⟨ma_Seats_outcome,mn_Seats_outcome,k54⟩,na_Seats_hands,na_Seats_seats,na_Seats_lots,mg_of X G mc_SeatsChecker,⟨pg_SeatsChecker,hd_SeatsChecker,po_SeatsChecker,sa_SeatsChecker⟩,⟨mm_SeatsChecker,mi_SeatsChecker,mf_SeatsChecker,mk_SeatsChecker⟩,⟨ma_SeatsChecker_right,mn_SeatsChecker_right,k55⟩,⟨ma_SeatsChecker_passes,mn_SeatsChecker_passes,k56⟩,na_SeatsChecker_way,mg_of X G mc_Checker,⟨pg_Checker,hd_Checker,po_Checker,sa_Checker⟩,⟨mm_Checker,mi_Checker,mf_Checker,mk_Checker⟩,⟨ma_Checker_right,mn_Checker_right,k22⟩,⟨ma_Checker_passes,mn_Checker_passes,k56⟩,na_Checker_way⟩
 exact ⟨fnOf "law" "law" (An FN) (Am FN) (Ad FN) .none kV57 dc57 pm57 an57 cd57 ct57,fun s v=>.of_eq rfl,fun base _ _=>SC T⟩
theorem walk {l:PySem.W.OpenLaw} {q:Program} {loose:List Str} {XP:(Str->Option Value)->Heap->Prop} {YP:World->Heap->Prop} {d:DefRec} {K:Params->PySem.W.Frag} (hn:l.most=some 63) (hdf:d.params.defaults=[])
 (hY:∀(w:World) (h:Heap),YP w h->(K w.params).In h)
 (F:∀(w:World) (mg:Str->Option Value) (fa:Addr) (h:Heap),(K w.params).In h->h.Ns mainGlobals mg->mg d.name=some (.ref fa) ->
  ∃fd:FuncData,(∀(s:Shared) (u:Value),BindsTo s fd ⟨[u],[]⟩ [("_law_script",u)])/\∀base:Heap,(K w.params).In base->base.Ns mainGlobals mg->AG l.prog w (K w.params) mg base CX0 10 fa fd ["_law_script"] (ML (K w.params))) :
 PySem.W.WalkO q loose XP YP l.row.toRowW d [] (fun f vs=>PySem.call f vs) :=
 L2.walk_of (n:=63) (k:=10) (x:="_law_script") (CX:=fun _=>CX0) (sp:=fun w=>ML (K w.params)) hn (by decide) hdf ⟨rfl,by decide,by decide⟩ hY F (fun _ _ a ns hl _ hS=>⟨a,ns,rfl,hS,hl,fun _=>rfl⟩) fun _ _ _ _ _ z=>z
end Law
open PySem PySem.W PyProof.Rows
set_option maxRecDepth 100000 in
set_option maxHeartbeats 0 in
theorem PySem.Challenge.cw_pollproof_k49_papers_of_seats_let_by_holds : PySem.Challenge.rw_pollproof_k49_papers_of_seats_let_by.Holds := by
 refine Head.top ?_
 k_fill
 refine Law.walk (l:=PySem.Challenge.rw_pollproof_k49_papers_of_seats_let_by) rfl rfl (fun w h Y=>PySem.W.kIn_of Y) ?F
 case F =>
  intro w mg fa h KX G hmg
  refine' Law.all_mk KX G hmg ?a1 ?l1 ?c1 ?k1 ?a2 ?l2 ?c2 ?k2 ?a3 ?l3 ?c3 ?k3 ?a4 ?l4 ?c4 ?k4 ?a5 ?l5 ?c5 ?k5 ?a6 ?l6 ?c6 ?k6 ?a7 ?l7 ?c7 ?k7 ?a8 ?l8 ?c8 ?k8 ?a9 ?l9 ?c9 ?k9 ?a10 ?l10 ?c10 ?k10 ?a11 ?l11 ?c11 ?k11 ?a12 ?l12 ?c12 ?k12 ?a13 ?l13 ?c13 ?k13 ?a14 ?l14 ?c14 ?k14 ?a15 ?l15 ?c15 ?k15 ?a16 ?l16 ?c16 ?k16 ?a17 ?l17 ?c17 ?k17 ?a18 ?l18 ?c18 ?k18 ?a19 ?l19 ?c19 ?k19 ?a20 ?l20 ?c20 ?k20 ?l21 ?c21 ?k21 ?l22 ?c22 ?k22 ?l23 ?c23 ?k23 ?l24 ?c24 ?k24 ?a25 ?l25 ?c25 ?k25 ?a26 ?l26 ?c26 ?k26 ?a27 ?l27 ?c27 ?k27 ?a28 ?l28 ?c28 ?k28 ?a29 ?l29 ?c29 ?k29 ?a30 ?l30 ?c30 ?k30 ?a31 ?l31 ?c31 ?k31 ?a32 ?l32 ?c32 ?k32 ?a33 ?l33 ?c33 ?k33 ?a34 ?l34 ?c34 ?k34 ?l35 ?c35 ?k35 ?a36 ?l36 ?c36 ?k36 ?a37 ?l37 ?c37 ?k37 ?a38 ?l38 ?c38 ?k38 ?a39 ?l39 ?c39 ?k39 ?a40 ?l40 ?c40 ?k40 ?a41 ?l41 ?c41 ?k41 ?a42 ?l42 ?c42 ?k42 ?l43 ?c43 ?k43 ?dl43 ?l44 ?c44 ?k44 ?l45 ?c45 ?k45 ?a46 ?l46 ?c46 ?k46 ?a47 ?l47 ?c47 ?k47 ?a48 ?l48 ?c48 ?k48 ?l49 ?c49 ?k49 ?dl49 ?l50 ?c50 ?k50 ?a51 ?l51 ?c51 ?k51 ?a52 ?l52 ?c52 ?k52 ?l53 ?c53 ?k53 ?l54 ?c54 ?k54 ?l55 ?c55 ?k55 ?l56 ?c56 ?k56 ?a57 ?l57 ?c57 ?k57 ?z0 ?z1 ?z2 ?z3 ?z4 ?z5 ?z6 ?z7 ?z8 ?z9 ?z10 ?z11 ?z12 ?z13 ?z14 ?kc_MOST_HANDS ?kc_MOST_SEATS ?kc_MOST_PLACES ?mc_Way ?pg_Way ?hd_Way ?po_Way ?sa_Way ?cs_Way ?cr_Way ?ca_Way_init__ ?mc_Seats ?pg_Seats ?hd_Seats ?po_Seats ?sa_Seats ?mm_Seats ?mi_Seats ?mf_Seats ?mk_Seats ?ma_Seats_quota ?mn_Seats_quota ?ma_Seats_standing_by_lots ?mn_Seats_standing_by_lots ?ma_Seats_greatest ?mn_Seats_greatest ?ma_Seats_lowest ?mn_Seats_lowest ?ma_Seats_deed_due ?mn_Seats_deed_due ?ma_Seats_counted ?mn_Seats_counted ?ma_Seats_told_by ?mn_Seats_told_by ?ma_Seats_outcome ?mn_Seats_outcome ?na_Seats_hands ?na_Seats_seats ?na_Seats_lots ?mc_SeatsChecker ?pg_SeatsChecker ?hd_SeatsChecker ?po_SeatsChecker ?sa_SeatsChecker ?mm_SeatsChecker ?mi_SeatsChecker ?mf_SeatsChecker ?mk_SeatsChecker ?ma_SeatsChecker_right ?mn_SeatsChecker_right ?ma_SeatsChecker_passes ?mn_SeatsChecker_passes ?na_SeatsChecker_way ?mc_Checker ?pg_Checker ?hd_Checker ?po_Checker ?sa_Checker ?mm_Checker ?mi_Checker ?mf_Checker ?mk_Checker ?ma_Checker_right ?mn_Checker_right ?ma_Checker_passes ?mn_Checker_passes ?na_Checker_way
  (case a1=>k_is)
  (case l1=>k_is)
  (case c1=>k_is)
  (case k1=>k_is)
  (case a2=>k_is)
  (case l2=>k_is)
  (case c2=>k_is)
  (case k2=>k_is)
  (case a3=>k_is)
  (case l3=>k_is)
  (case c3=>k_is)
  (case k3=>k_is)
  (case a4=>k_is)
  (case l4=>k_is)
  (case c4=>k_is)
  (case k4=>k_is)
  (case a5=>k_is)
  (case l5=>k_is)
  (case c5=>k_is)
  (case k5=>k_is)
  (case a6=>k_is)
  (case l6=>k_is)
  (case c6=>k_is)
  (case k6=>k_is)
  (case a7=>k_is)
  (case l7=>k_is)
  (case c7=>k_is)
  (case k7=>k_is)
  (case a8=>k_is)
  (case l8=>k_is)
  (case c8=>k_is)
  (case k8=>k_is)
  (case a9=>k_is)
  (case l9=>k_is)
  (case c9=>k_is)
  (case k9=>k_is)
  (case a10=>k_is)
  (case l10=>k_is)
  (case c10=>k_is)
  (case k10=>k_is)
  (case a11=>k_is)
  (case l11=>k_is)
  (case c11=>k_is)
  (case k11=>k_is)
  (case a12=>k_is)
  (case l12=>k_is)
  (case c12=>k_is)
  (case k12=>k_is)
  (case a13=>k_is)
  (case l13=>k_is)
  (case c13=>k_is)
  (case k13=>k_is)
  (case a14=>k_is)
  (case l14=>k_is)
  (case c14=>k_is)
  (case k14=>k_is)
  (case a15=>k_is)
  (case l15=>k_is)
  (case c15=>k_is)
  (case k15=>k_is)
  (case a16=>k_is)
  (case l16=>k_is)
  (case c16=>k_is)
  (case k16=>k_is)
  (case a17=>k_is)
  (case l17=>k_is)
  (case c17=>k_is)
  (case k17=>k_is)
  (case a18=>k_is)
  (case l18=>k_is)
  (case c18=>k_is)
  (case k18=>k_is)
  (case a19=>k_is)
  (case l19=>k_is)
  (case c19=>k_is)
  (case k19=>k_is)
  (case a20=>k_is)
  (case l20=>k_is)
  (case c20=>k_is)
  (case k20=>k_is)
  (case a25=>k_is)
  (case l25=>k_is)
  (case c25=>k_is)
  (case k25=>k_is)
  (case a26=>k_is)
  (case l26=>k_is)
  (case c26=>k_is)
  (case k26=>k_is)
  (case a27=>k_is)
  (case l27=>k_is)
  (case c27=>k_is)
  (case k27=>k_is)
  (case a28=>k_is)
  (case l28=>k_is)
  (case c28=>k_is)
  (case k28=>k_is)
  (case a29=>k_is)
  (case l29=>k_is)
  (case c29=>k_is)
  (case k29=>k_is)
  (case a30=>k_is)
  (case l30=>k_is)
  (case c30=>k_is)
  (case k30=>k_is)
  (case a31=>k_is)
  (case l31=>k_is)
  (case c31=>k_is)
  (case k31=>k_is)
  (case a32=>k_is)
  (case l32=>k_is)
  (case c32=>k_is)
  (case k32=>k_is)
  (case a33=>k_is)
  (case l33=>k_is)
  (case c33=>k_is)
  (case k33=>k_is)
  (case a34=>k_is)
  (case l34=>k_is)
  (case c34=>k_is)
  (case k34=>k_is)
  (case a36=>k_is)
  (case l36=>k_is)
  (case c36=>k_is)
  (case k36=>k_is)
  (case a37=>k_is)
  (case l37=>k_is)
  (case c37=>k_is)
  (case k37=>k_is)
  (case a38=>k_is)
  (case l38=>k_is)
  (case c38=>k_is)
  (case k38=>k_is)
  (case a39=>k_is)
  (case l39=>k_is)
  (case c39=>k_is)
  (case k39=>k_is)
  (case a40=>k_is)
  (case l40=>k_is)
  (case c40=>k_is)
  (case k40=>k_is)
  (case a41=>k_is)
  (case l41=>k_is)
  (case c41=>k_is)
  (case k41=>k_is)
  (case a42=>k_is)
  (case l42=>k_is)
  (case c42=>k_is)
  (case k42=>k_is)
  (case a46=>k_is)
  (case l46=>k_is)
  (case c46=>k_is)
  (case k46=>k_is)
  (case a47=>k_is)
  (case l47=>k_is)
  (case c47=>k_is)
  (case k47=>k_is)
  (case a48=>k_is)
  (case l48=>k_is)
  (case c48=>k_is)
  (case k48=>k_is)
  (case a51=>k_is)
  (case l51=>k_is)
  (case c51=>k_is)
  (case k51=>k_is)
  (case a52=>k_is)
  (case l52=>k_is)
  (case c52=>k_is)
  (case k52=>k_is)
  (case a57=>k_is)
  (case l57=>k_is)
  (case c57=>k_is)
  (case k57=>k_is)
  (case z0=>k_is)
  (case z1=>k_is)
  (case z2=>k_is)
  (case z3=>k_is)
  (case z4=>k_is)
  (case z5=>k_is)
  (case z6=>k_is)
  (case z7=>k_is)
  (case z8=>k_is)
  (case z9=>k_is)
  (case z10=>k_is)
  (case z11=>k_is)
  (case z12=>k_is)
  (case z13=>k_is)
  (case z14=>k_is)
  (case kc_MOST_HANDS=>k_is)
  (case kc_MOST_SEATS=>k_is)
  (case kc_MOST_PLACES=>k_is)
  (case mc_Way=>k_is)
  (case pg_Way=>k_is)
  (case hd_Way=>k_is)
  (case po_Way=>k_is)
  (case sa_Way=>k_is)
  (case cs_Way=>k_is)
  (case cr_Way=>k_is)
  (case ca_Way_init__=>k_is)
  (case mc_Seats=>k_is)
  (case pg_Seats=>k_is)
  (case hd_Seats=>k_is)
  (case po_Seats=>k_is)
  (case sa_Seats=>k_is)
  (case mm_Seats=>k_is)
  (case mi_Seats=>k_is)
  (case mf_Seats=>k_is)
  (case mk_Seats=>k_is)
  (case ma_Seats_quota=>k_is)
  (case mn_Seats_quota=>k_is)
  (case ma_Seats_standing_by_lots=>k_is)
  (case mn_Seats_standing_by_lots=>k_is)
  (case ma_Seats_greatest=>k_is)
  (case mn_Seats_greatest=>k_is)
  (case ma_Seats_lowest=>k_is)
  (case mn_Seats_lowest=>k_is)
  (case ma_Seats_deed_due=>k_is)
  (case mn_Seats_deed_due=>k_is)
  (case ma_Seats_counted=>k_is)
  (case mn_Seats_counted=>k_is)
  (case ma_Seats_told_by=>k_is)
  (case mn_Seats_told_by=>k_is)
  (case ma_Seats_outcome=>k_is)
  (case mn_Seats_outcome=>k_is)
  (case na_Seats_hands=>k_is)
  (case na_Seats_seats=>k_is)
  (case na_Seats_lots=>k_is)
  (case mc_SeatsChecker=>k_is)
  (case pg_SeatsChecker=>k_is)
  (case hd_SeatsChecker=>k_is)
  (case po_SeatsChecker=>k_is)
  (case sa_SeatsChecker=>k_is)
  (case mm_SeatsChecker=>k_is)
  (case mi_SeatsChecker=>k_is)
  (case mf_SeatsChecker=>k_is)
  (case mk_SeatsChecker=>k_is)
  (case ma_SeatsChecker_right=>k_is)
  (case mn_SeatsChecker_right=>k_is)
  (case ma_SeatsChecker_passes=>k_is)
  (case mn_SeatsChecker_passes=>k_is)
  (case na_SeatsChecker_way=>k_is)
  (case mc_Checker=>k_is)
  (case pg_Checker=>k_is)
  (case hd_Checker=>k_is)
  (case po_Checker=>k_is)
  (case sa_Checker=>k_is)
  (case mm_Checker=>k_is)
  (case mi_Checker=>k_is)
  (case mf_Checker=>k_is)
  (case mk_Checker=>k_is)
  (case ma_Checker_right=>k_is)
  (case mn_Checker_right=>k_is)
  (case ma_Checker_passes=>k_is)
  (case mn_Checker_passes=>k_is)
  (case na_Checker_way=>k_is)
  (case l21=>k_is)
  (case c21=>k_is)
  (case k21=>k_is)
  (case l22=>k_is)
  (case c22=>k_is)
  (case k22=>k_is)
  (case l23=>k_is)
  (case c23=>k_is)
  (case k23=>k_is)
  (case l24=>k_is)
  (case c24=>k_is)
  (case k24=>k_is)
  (case l35=>k_is)
  (case c35=>k_is)
  (case k35=>k_is)
  (case l43=>k_is)
  (case c43=>k_is)
  (case k43=>k_is)
  (case dl43=>k_is)
  (case l44=>k_is)
  (case c44=>k_is)
  (case k44=>k_is)
  (case l45=>k_is)
  (case c45=>k_is)
  (case k45=>k_is)
  (case l49=>k_is)
  (case c49=>k_is)
  (case k49=>k_is)
  (case dl49=>k_is)
  (case l50=>k_is)
  (case c50=>k_is)
  (case k50=>k_is)
  (case l53=>k_is)
  (case c53=>k_is)
  (case k53=>k_is)
  (case l54=>k_is)
  (case c54=>k_is)
  (case k54=>k_is)
  (case l55=>k_is)
  (case c55=>k_is)
  (case k55=>k_is)
  (case l56=>k_is)
  (case c56=>k_is)
  (case k56=>k_is)
#print axioms PySem.Challenge.cw_pollproof_k49_papers_of_seats_let_by_holds
