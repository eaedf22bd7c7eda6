import PyProof.Rows.All
import Wide.All
import OpenK.AllK
import Wide.FinOn
import Lean
import PyProof.EqAt
import PyProof.EqKinds
import PyProof.TupleCall
import PySem.Challenge.RW_pollproof_k58_spoilt_papers
open List
set_option Elab.async false
set_option linter.all false
set_option compiler.extract_closed false
set_option maxRecDepth 100000
namespace Head
open PySem PySem.W PyProof.Rows
def Qy (p:Program) (w:World) (n0:Nat) (ann:Option Value):Nat->SharedT->Thread->Option SharedT
 | 0,_,_=>none
 | n+1,s,t=>match through t with
   | true=>some s
   | false=>match stepOk n0 ann t with
     | false=>none
     | true=>match stepT (denote treeTable) p w s t with
       | some (s',t')=>Qy p w n0 ann n s' t'
       | none=>none
theorem MD {p:Program} {w:World} {n0:Nat} {ann:Option Value}:∀{n:Nat} {s s':SharedT} {t:Thread},Qy p w n0 ann n s t=some s'->topRun treeTable p w n0 ann n s.abs t=some s'.abs
 | 0,_,_,_,h=>by cases h
 | n+1,s,s',t,h=>by
   unfold Qy at h;unfold topRun
   cases he:through t with
   | true=>rw [he] at h;cases h;rfl
   | false =>
     rw [he] at h
     cases hk:stepOk n0 ann t with
     | false=>rw [hk] at h;cases h
     | true =>
       rw [hk] at h
       cases hs:stepT (denote treeTable) p w s t with
       | none=>rw [hs] at h;cases h
       | some r=>obtain ⟨s2,t2⟩:=r;rw [hs] at h;rw [stepT_spec hs];exact MD h
def Nq:List Obj->Nat->BT->Option BT
 | [],_,t=>some t
 | o :: os,n,t=>match ((t.ins n o).get n).isSome with
   | true=>Nq os (n+1) (t.ins n o)
   | false=>none
theorem Ms {life:Life}:∀{os:List Obj} {n:Nat} {t t':BT} {xs:List Obj},(absHeap t n life)=⟨xs.toArray,life⟩->Nq os n t=some t'->absHeap t' (n+os.length) life=⟨(xs++os).toArray,life⟩
 | [],n,t,t',xs,a,h=>by
   cases h
   rw [append_nil];exact a
 | o :: os,n,t,t',xs,a,h=>by
   unfold Nq at h
   cases g:((t.ins n o).get n).isSome with
   | false=>rw [g] at h;cases h
   | true =>
     rw [g] at h
     have b:absHeap (t.ins n o) (n+1) life=⟨(xs++[o]).toArray,life⟩:=by
      rw [absHeap_ins g,a];show (⟨xs.toArray.push o,life⟩:Heap)=_;rw [push_toArray]
     have c:=Ms b h;rw [append_assoc] at c;rw [length_cons,show n+(os.length+1)=n+1+os.length by omega];exact c
theorem O5 {H:Heap} {T:BT} (h:Nq H.objs.toList 0 .nil=some T):absHeap T H.objs.size H.life=H:=by
 have c:=Ms (life:=H.life) (n:=0) (t:=.nil) (xs:=[]) rfl h;rw [Nat.zero_add,Array.length_toList] at c;rw [c];obtain ⟨a,l⟩:=H;show (⟨([]++a.toList).toArray,l⟩:Heap)=⟨a,l⟩;rw [nil_append,Array.toArray_toList]
theorem left {p q:Program} {loose:List PySem.Str} {Xt:Shared->Bool} {α:Type} {Yf:Shared->α} {Ya:World->α} {N:Nat} {g0:Bool}
 (e:opening p=plainProg p.main.scope.names) (hN:Nat.ble 600 N=true) (f:∀s,fenceModules? p s=some s)
 (h:∀(w:World) (os:OsState),((Nq (boot_heap w.params).objs.toList 0 .nil).bind fun T=>(Qy p w (boot_heap w.params).objs.size ((boot_heap w.params).nsMap mainGlobals "__annotations__") N ⟨T,(boot_heap w.params).objs.size,(boot_heap w.params).life,Array.mk [],boot_drawn,boot_toks,os⟩ (topStub p)).map fun s =>
  (((boot_heap w.params).isNs mainGlobals,staticsOk (importedModules p.main.body) (boot_heap w.params) s.abs.heap && namesBound p s.abs.heap && gensDone s.abs && laidKept (boot_heap w.params) s.abs.heap),openSeen q loose (importedModules p.main.body) Xt g0 s.abs,Yf s.abs)) =
  some ((true,true),openGood q loose,Ya w)):LeftO p q loose Xt Yf Ya N g0:=fun w=>by
 obtain ⟨⟨hp,gs,d,k,os⟩,e1,e2⟩:=Option.map_eq_some_iff.mp (boot_open e hN f w);obtain ⟨rfl,rfl,rfl,rfl⟩:hp=boot_heap w.params/\gs=Array.mk []/\d=boot_drawn/\k=boot_toks:=by simpa using e2
 have z:=h w os
 cases gT:Nq (boot_heap w.params).objs.toList 0 .nil with
 | none=>rw [gT] at z;cases z
 | some T =>
   rw [gT] at z;obtain ⟨s,r,y⟩:=Option.map_eq_some_iff.mp z;have r':=MD r;injection y with y1 y2
   injection y1 with y3 y4
   injection y2 with y5 y6
   have a:(⟨T,(boot_heap w.params).objs.size,(boot_heap w.params).life,Array.mk [],boot_drawn,boot_toks,os⟩:SharedT).abs=⟨boot_heap w.params,Array.mk [],boot_drawn,boot_toks,os⟩:=by
    unfold SharedT.abs;rw [O5 gT]
   rw [a] at r';unfold openEnds;rw [e1];show (topFrom treeTable p w N _).map _=_
   have t:topFrom treeTable p w N ⟨boot_heap w.params,Array.mk [],boot_drawn,boot_toks,os⟩=some s.abs:=by
    unfold topFrom;dsimp only;rw [y3,r'];show (match staticsOk (importedModules p.main.body) (boot_heap w.params) s.abs.heap && namesBound p s.abs.heap && gensDone s.abs && laidKept (boot_heap w.params) s.abs.heap with | true=>_ | false=>_)=_;rw [y4]
   rw [t];exact congrArg some (Prod.ext y5 y6)
end Head
namespace Head
open PySem PySem.W PyProof.Rows
abbrev q0:Program:=view PySem.Challenge.pw_pollproof_k58_spoilt_papers [10,58]
abbrev r0:OpenRow:=OpenLaw.row PySem.Challenge.rw_pollproof_k58_spoilt_papers
local macro_rules | `(tactic| o_head $H)=>do
 let (hl,hw,hc):=(Lean.mkIdent `hl,Lean.mkIdent `hw,Lean.mkIdent `hc)
 `(tactic| (
   refine holds_open (r:=r0) (q:=q0) (loose:=[PySem.Str.ofString "_wall",PySem.Str.ofString "all_of",PySem.Str.ofString "holds",PySem.Str.ofString "with_one",PySem.Str.ofString "members",PySem.Str.ofString "overs",PySem.Str.ofString "hands_of",PySem.Str.ofString "leads_of",PySem.Str.ofString "way_by",PySem.Str.ofString "cut_by",PySem.Str.ofString "is_way",PySem.Str.ofString "is_cut",PySem.Str.ofString "least_link",PySem.Str.ofString "greatest_link",PySem.Str.ofString "PollError",PySem.Str.ofString "NoWay",PySem.Str.ofString "is_whole",PySem.Str.ofString "MOST_HANDS",PySem.Str.ofString "MOST_SEATS",PySem.Str.ofString "are_hands",PySem.Str.ofString "are_seats",PySem.Str.ofString "are_lots",PySem.Str.ofString "Way",PySem.Str.ofString "Checker",PySem.Str.ofString "pairs_in_order",PySem.Str.ofString "is_shown",PySem.Str.ofString "strengths_in",PySem.Str.ofString "PairsChecker",PySem.Str.ofString "shown_from",PySem.Str.ofString "is_beaten",PySem.Str.ofString "Pairs",PySem.Str.ofString "_law_whole",PySem.Str.ofString "_law_cell",PySem.Str.ofString "_law_mixed",PySem.Str.ofString "_law_order",PySem.Str.ofString "_law_ranks",PySem.Str.ofString "_law_slip",PySem.Str.ofString "_law_votes",PySem.Str.ofString "_law_sheet",PySem.Str.ofString "_law_leads",PySem.Str.ofString "_law_place",PySem.Str.ofString "_law_overs",PySem.Str.ofString "_law_weaker",PySem.Str.ofString "_law_bad_ones",PySem.Str.ofString "_law_bad_lists",PySem.Str.ofString "_law_bad_overs",PySem.Str.ofString "_law_bad_picks",PySem.Str.ofString "_law_round_ways",PySem.Str.ofString "_law_spoilt"]) (N:=100000)
    (Xt:=fun s=>xlAt q0 [] s && recOk (RowW.records (OpenRow.toRowW r0)) s)
    (XP:=XL q0 []) (Yf:=Hook.obs $H) (Ya:=Hook.val $H) (YP:=Hook.says $H)
    ?$hl (Hook.of $H) (Hook.keeps $H) (fun s e=>xl_of s (Bool.and_eq_true_iff.mp e).1) XL.keeps
    (by rfl) (by rfl) (by rfl) (fun s e=>recFacts_of (Bool.and_eq_true_iff.mp e).2) (by rfl) (by assumption)
    (by decide +kernel) ⟨rfl,rfl,rfl,rfl,rfl,by decide +kernel⟩ ?$hw ?$hc;
   (next=>(exact left (by kernel_rfl) (by decide) (fun s=>by kernel_rfl) (fun w os=>by kernel_rfl)))))
set_option maxRecDepth 100000 in
set_option maxHeartbeats 0 in
open_top top for PySem.Challenge.rw_pollproof_k58_spoilt_papers
end Head
local macro_rules | `(tactic| ext)=>`(tactic| first | lia | omega)
namespace L2
open PySem PySem.Spec PyProof.Rows
abbrev Key:=Sum Int Str
def Io:Key->Value->Bool
 | .inl k,v=>Value.isInt k v
 | .inr x,v=>Value.isStrOf x v
def SO (w:World):Key->Int
 | .inl k=>hashInt k
 | .inr x=>hashStr w x
theorem Bw:∀{k:Key} {v:Value},Io k v=true->(∃i t,k=Sum.inl i/\v=Value.int i t)\/(∃x t,k=Sum.inr x/\v=Value.str x t)
 | .inl i,v,h=>by
   obtain ⟨t,e⟩:=Value.isInt_shape (k:=i) (v:=v) h;exact .inl ⟨i,t,rfl,e⟩
 | .inr x,v,h=>by
   obtain ⟨t,e⟩:=Value.isStrOf_shape (x:=x) (v:=v) h;exact .inr ⟨x,t,rfl,e⟩
theorem Nx (i:Int) (t:Tok):Io (.inl i) (.int i t)=true:=by simp [Io,Value.isInt]
theorem Ny (x:Str) (t:Tok):Io (.inr x) (.str x t)=true:=by simp [Io,Value.isStrOf]
theorem Rm (a b:Int):decide ((Sum.inl a:Key)=Sum.inl b)=(a == b):=by
 by_cases e:a=b
 ·subst e;simp
 ·have h:¬ (Sum.inl a:Key)=Sum.inl b:=fun q=>e (Sum.inl.inj q);rw [decide_eq_false h];exact (beq_eq_false_iff_ne.mpr e).symm
theorem Rp (a b:Str):decide ((Sum.inr a:Key)=Sum.inr b)=decide (a=b):=by
 by_cases e:a=b
 ·subst e;simp
 ·have h:¬ (Sum.inr a:Key)=Sum.inr b:=fun q=>e (Sum.inr.inj q);rw [decide_eq_false h,decide_eq_false e]
theorem Rn (a:Int) (b:Str):decide ((Sum.inl a:Key)=Sum.inr b)=false:=decide_eq_false (fun q=>nomatch q)
theorem Ro (a:Str) (b:Int):decide ((Sum.inr a:Key)=Sum.inl b)=false:=decide_eq_false (fun q=>nomatch q)
def BB (prog:Program) (w:World):PySem.KeyKind prog w Key where
 is:=Io
 hash:=SO w
 inj:=fun v a b ha hb=>by
  rcases Bw ha with ⟨i,t,rfl,rfl⟩ | ⟨x,t,rfl,rfl⟩
  ·rcases Bw hb with ⟨j,u,rfl,e⟩ | ⟨y,u,rfl,e⟩
   ·injection e with e1 _;rw [e1]
   ·exact nomatch e
  ·rcases Bw hb with ⟨j,u,rfl,e⟩ | ⟨y,u,rfl,e⟩
   ·exact nomatch e
   ·injection e with e1 _;rw [e1]
 byValue:=fun k v h=>by
  rcases Bw h with ⟨i,t,rfl,rfl⟩ | ⟨x,t,rfl,rfl⟩ <;> rfl
 pyHash:=fun hv h=>by
  rcases Bw hv with ⟨i,t,rfl,rfl⟩ | ⟨x,t,rfl,rfl⟩
  ·exact wpAny_pyHash_int h
  ·exact wpAny_pyHash_str h
 eqBool:=fun hu hv h=>by
  rcases Bw hu with ⟨i,t,rfl,rfl⟩ | ⟨x,t,rfl,rfl⟩
  ·rcases Bw hv with ⟨j,u,rfl,rfl⟩ | ⟨y,u,rfl,rfl⟩
   ·rw [Rm] at h;exact wpAny_eqBool_int h
   ·rw [Rn] at h;exact SeqAt.EqAt.int_str i t y u _ _ _ _ h
  ·rcases Bw hv with ⟨j,u,rfl,rfl⟩ | ⟨y,u,rfl,rfl⟩
   ·rw [Ro] at h;exact SeqAt.EqAt.str_int x t j u _ _ _ _ h
   ·rw [Rp] at h;exact wpAny_eqBool_str h
 «strs»:=fun k x t v h=>by
  rcases Bw h with ⟨i,u,rfl,e⟩ | ⟨y,u,rfl,e⟩
  ·exact nomatch e
  ·injection e with e1 _
   subst e1
   cases v <;> rfl
theorem Kv (prog:Program) (w:World) (i:Int) (t:Tok):(BB prog w).is (.inl i) (.int i t)=true:=Nx i t
theorem Kw (prog:Program) (w:World) (x:Str) (t:Tok):(BB prog w).is (.inr x) (.str x t)=true:=Ny x t
end L2
namespace L2
open PySem PySem.Spec PyProof.Rows
inductive V where
 | non | bl (b:Bool) | int (i:Int) | str (x:Str) | byt (b:Array UInt8) | flt (b:UInt64) | ref (a:Addr) | ty (n:String)
 deriving DecidableEq
def AF:V->Value->Prop
 | .non,u=>u=Value.none
 | .bl b,u=>u=Value.bool b
 | .int i,u=>∃t,u=Value.int i t
 | .str x,u=>∃t,u=Value.str x t
 | .byt b,u=>∃t,u=Value.bytes b t
 | .flt b,u=>∃t,u=Value.float b t
 | .ref a,u=>u=Value.ref a
 | .ty n,u=>u=Value.type n
abbrev AE:List V->List Value->Prop:=Paired AF
theorem AE.length {xs:List V} {us:List Value} (r:AE xs us):xs.length=us.length:=Paired.length r
theorem AE.get:∀{xs:List V} {us:List Value} {i:Nat} {x:V},AE xs us->xs[i]?=some x->∃u,us[i]?=some u/\AF x u
 | _,_,_,_,.nil,e=>by simp at e
 | _,_,0,_,.cons r _,e=>by simp at e;subst e;exact ⟨_,rfl,r⟩
 | _,_,i+1,x,.cons _ t,e=>by
   obtain ⟨u,h1,h2⟩:=AE.get (i:=i) (x:=x) t (by simpa using e);exact ⟨u,by simpa using h1,h2⟩
theorem AE.set {x:V} {u:Value} (r:AF x u):∀{xs:List V} {us:List Value} (i:Nat),AE xs us->AE (xs.set i x) (us.set i u)
 | _,_,_,.nil=>.nil
 | _,_,0,.cons _ t=>.cons r t
 | _,_,i+1,.cons q t=>.cons q (AE.set r i t)
theorem AE.append:∀{xs ys:List V} {us ws:List Value},AE xs us->AE ys ws->AE (xs++ys) (us++ws)
 | _,_,_,_,.nil,s=>s
 | _,_,_,_,.cons r t,s=>.cons r (AE.append t s)
theorem AE.take:∀{xs:List V} {us:List Value} (n:Nat),AE xs us->AE (xs.take n) (us.take n)
 | _,_,0,_=>.nil
 | _,_,_+1,.nil=>.nil
 | _,_,n+1,.cons r t=>.cons r (AE.take n t)
theorem AE.drop:∀{xs:List V} {us:List Value} (n:Nat),AE xs us->AE (xs.drop n) (us.drop n)
 | _,_,0,r=>r
 | _,_,_+1,.nil=>.nil
 | _,_,n+1,.cons _ t=>AE.drop n t
def DZ:Option V->Option Value->Prop
 | some v,some u=>AF v u
 | none,none=>True
 | _,_=>False
def KV {κ:Type}:List (κ × V)->List (κ × Value)->Prop:=Paired fun (p:κ × V) (q:κ × Value)=>p.1=q.1/\AF p.2 q.2
def kV:Key->V
 | .inl i=>.int i
 | .inr x=>.str x
inductive HO where
 | lst (xs:List V)
 | tup (xs:List V)
 | dK (kvs:List (Key × V)) | dT (kvs:List (List Key × V))
 | set (S:Int->Bool) (n:Nat)
 | ins (C dx:Addr) (fs:List (Str × V))
 | own (x:Addr)
 | xd (fs:List (Str × V))
 | met (f x:Addr)
 | rng (lo hi:Int)
 | frz (o:Obj) (u:HO)
 | tbl (ps:Array Value)
 | ext (φ:Heap->Prop)
abbrev Hp:=Addr->Option HO
def upd (H:Hp) (a:Addr) (o:HO):Hp:=fun b=>if b=a then some o else H b
theorem Ac {H:Hp} {a:Addr} {o:HO}:upd H a o a=some o:=by unfold upd;rw [if_pos rfl]
theorem Aj {H:Hp} {a b:Addr} {o:HO} (h:b≠a):upd H a o b=H b:=by unfold upd;rw [if_neg h]
theorem Bf {H:Hp} {a:Addr} {o u:HO}:upd (upd H a o) a u=upd H a u:=by
 funext b;unfold upd;split <;> rfl
theorem Fd {H:Hp} {a b:Addr} {o u:HO} (h:H a=some o) (h':H b=some u) (d:o≠u):a≠b:=by
 intro e;subst e;rw [h] at h';exact d (Option.some.inj h')
theorem At {H:Hp} {a b:Addr} {o:HO} (h:H a=some o) (h':H b=none):a≠b:=by
 intro e;subst e;rw [h] at h';cases h'
section
variable (P:Program) (w:World)
def Bl (H:Hp) (h:Heap) (a:Addr):HO->Prop
 | .lst xs=>xs.length<=sizeLine/\∃(its:List Value) (n:Nat),AE xs its/\h.get? a=some { cls:=.type "list",data:=.seq its.toArray n }
 | .tup xs=>xs.length<=sizeLine/\∃its:List Value,AE xs its/\IsTup h a its.toArray
 | .dK kvs=>kvs.length<=sizeLine/\(a == sysModules)=false/\∃vs,KV kvs vs/\h.DictOf (BB P w) a vs
 | .dT kvs=>kvs.length<=sizeLine/\(a == sysModules)=false/\∃xs:List (List Key × Addr × Value),
  Paired (fun (p:List Key × V) (q:List Key × Addr × Value)=>p.1=q.1/\H q.2.1=some (.tup (p.1.map kV))/\AF p.2 q.2.2) kvs xs /\
  ∃o es ep,h.get? a=some o/\o.ExactDict/\o.data=.dict es ep/\es.toList=xs.map (entryOfKey (tupleKind (BB P w)))/\(xs.map (·.1)).Nodup
 | .set S n=>h.SetOf (intKind P w) a S n
 | .ins C dx fs=>H dx=some (.own a)/\fs.length<=1000/\dx≠a/\h.get? a=some (PySem.W.instObj C dx) /\
  ∃mA,h.Ns1 dx mA/\(∀f,DZ (fs.lookup f) (mA f))/\PySem.Within mA (fs.map (·.1))
 | .own _=>∃o,h.get? a=some o
 | .xd fs=>∃mA,h.Ns1 a mA/\∀f,DZ (fs.lookup f) (mA f)
 | .rng lo hi=>∃t u v,h.get? a=some { cls:=.type "range",data:=.fields #[.int lo t,.int hi u,.int 1 v] }
 | .frz o u=>h.get? a=some o/\Bl H h a u
 | .tbl ps=>h.get? a=some { cls:=.none,data:=.fields ps }
 | .met f x=>h.get? a=some (PySem.W.methodObj (.ref f) (.ref x))
 | .ext φ=>φ h/\(∃o,h.get? a=some o)/\∀h1 h2:Heap,φ h1->(∀o,h1.get? a=some o->h2.get? a=some o)->φ h2
def HOk (H:Hp) (h:Heap):Prop:=∀a o,H a=some o->Bl P w H h a o
end
section
variable {P:Program} {w:World} {H H':Hp} {h h':Heap} {a:Addr} {o:HO}
theorem Bl.lt (x:Bl P w H h a o):a < h.objs.size:=by
 cases o with
 | lst xs=>obtain ⟨_,_,_,_,e⟩:=x;exact Heap.lt_size e
 | tup xs=>obtain ⟨_,_,_,p⟩:=x;exact p.lt
 | dK kvs=>obtain ⟨_,_,_,_,o,_,_,e,_⟩:=x;exact Heap.lt_size e
 | dT kvs=>obtain ⟨_,_,_,_,o,_,_,e,_⟩:=x;exact Heap.lt_size e
 | set S n=>obtain ⟨o,_,_,_,e,_⟩:=x;exact Heap.lt_size e
 | ins C dx fs=>obtain ⟨_,_,_,e,_⟩:=x;exact Heap.lt_size e
 | own y=>obtain ⟨_,e⟩:=x;exact Heap.lt_size e
 | xd fs=>obtain ⟨_,⟨_,_,_,e,_⟩,_⟩:=x;exact Heap.lt_size e
 | rng lo hi=>obtain ⟨_,_,_,e⟩:=x;exact Heap.lt_size e
 | frz ob u=>obtain ⟨e,_⟩:=x;exact Heap.lt_size e
 | tbl ps=>exact Heap.lt_size (show h.get? a=some _ from x)
 | met f y=>exact Heap.lt_size (show h.get? a=some _ from x)
 | ext φ=>obtain ⟨_,⟨_,e⟩,_⟩:=x;exact Heap.lt_size e
theorem Paired.mapP {α β:Type} {F G:α->β->Prop}:∀{l₁:List α} {l₂:List β},Paired F l₁ l₂->(∀a b,F a b->G a b)->Paired G l₁ l₂
 | _,_,.nil,_=>.nil
 | _,_,.cons r t,f=>.cons (f _ _ r) (Paired.mapP t f)
theorem Bl.stay (x:Bl P w H h a o) (k:∀b u,(b=a\/H b=some (.own a))->h.get? b=some u->h'.get? b=some u)
 (ho:∀b,H b=some (.own a)->H' b=some (.own a)) (ht:∀b xs,H b=some (.tup xs)->H' b=some (.tup xs)):Bl P w H' h' a o:=by
 induction o with
 | lst xs=>obtain ⟨z,its,n,r,e⟩:=x;exact ⟨z,its,n,r,k _ _ (.inl rfl) e⟩
 | tup xs=>obtain ⟨z,its,r,ob,e,c⟩:=x;exact ⟨z,its,r,ob,k _ _ (.inl rfl) e,c⟩
 | dK kvs=>obtain ⟨z,y,vs,r,ob,es,ep,e,c⟩:=x;exact ⟨z,y,vs,r,ob,es,ep,k _ _ (.inl rfl) e,c⟩
 | dT kvs =>
   obtain ⟨z,y,xs,r,ob,es,ep,e,c⟩:=x;exact ⟨z,y,xs,Paired.mapP r fun p q z=>⟨z.1,ht _ _ z.2.1,z.2.2⟩,ob,es,ep,k _ _ (.inl rfl) e,c⟩
 | set S n=>obtain ⟨ob,es,ep,t,e,c⟩:=x;exact ⟨ob,es,ep,t,k _ _ (.inl rfl) e,c⟩
 | ins C dx fs =>
   obtain ⟨d,z,ne,e,mA,⟨od,es,ep,e2,c⟩,r⟩:=x;exact ⟨ho _ d,z,ne,k _ _ (.inl rfl) e,mA,⟨od,es,ep,k _ _ (.inr d) e2,c⟩,r⟩
 | own y=>obtain ⟨ob,e⟩:=x;exact ⟨ob,k _ _ (.inl rfl) e⟩
 | xd fs=>obtain ⟨mA,⟨od,es,ep,e,c⟩,r⟩:=x;exact ⟨mA,⟨od,es,ep,k _ _ (.inl rfl) e,c⟩,r⟩
 | rng lo hi=>obtain ⟨t,u,v,e⟩:=x;exact ⟨t,u,v,k _ _ (.inl rfl) e⟩
 | frz ob u ih=>obtain ⟨e,q⟩:=x;exact ⟨k _ _ (.inl rfl) e,ih q⟩
 | tbl ps =>
   have e:h.get? a=some { cls:=.none,data:=.fields ps }:=x;show h'.get? a=some { cls:=.none,data:=.fields ps };exact k a _ (.inl rfl) e
 | met f y =>
   have e:h.get? a=some (PySem.W.methodObj (.ref f) (.ref y)):=x;show h'.get? a=some (PySem.W.methodObj (.ref f) (.ref y));exact k a _ (.inl rfl) e
 | ext φ=>obtain ⟨p,⟨o,e⟩,st⟩:=x;exact ⟨st _ _ p fun o q=>k _ _ (.inl rfl) q,⟨o,k _ _ (.inl rfl) e⟩,st⟩
theorem HOk.lt (x:HOk P w H h) (e:H a=some o):a < h.objs.size:=(x a o e).lt
theorem HOk.fresh (x:HOk P w H h) (e:h.objs.size<=a):H a=none:=by
 cases q:H a with
 | none=>rfl
 | some u=>exact absurd (Nat.lt_of_lt_of_le (x.lt q) e) (Nat.lt_irrefl _)
theorem HOk.kept (x:HOk P w H h) (k:∀b u,h.get? b=some u->h'.get? b=some u):HOk P w H h':=fun a o e =>
 (x a o e).stay (fun b u _ q=>k b u q) (fun _ q=>q) fun _ _ q=>q
theorem HOk.laid (x:HOk P w H h) (k:∀b u,h.get? b=some u->h'.get? b=some u) (hp:h.objs.size<=a) (new:Bl P w (upd H a o) h' a o):HOk P w (upd H a o) h':=fun b u e=>by
 have hn:=x.fresh hp;by_cases hb:b=a
 ·subst hb;rw [Ac] at e;cases e;exact new
 ·rw [Aj hb] at e;exact (x b u e).stay (fun c v _ q=>k c v q) (fun c q=>by rw [Aj (At q hn)];exact q) fun c xs q=>by rw [Aj (At q hn)];exact q
end
def Rd (H:Hp) (a:Addr) (u:HO):Prop:=H a=some u\/∃o,H a=some (.frz o u)
theorem Rd.ok {P:Program} {w:World} {H:Hp} {h:Heap} {a:Addr} {u:HO} (r:Rd H a u) (x:HOk P w H h):Bl P w H h a u:=by
 rcases r with r | ⟨o,r⟩
 ·exact x a u r
 ·obtain ⟨_,q⟩:=x a _ r;exact q
def Mut:Option HO->Prop
 | some (.lst _)=>True
 | some (.dK _)=>True
 | some (.dT _)=>True
 | some (.set _ _)=>True
 | some (.ins _ _ _)=>True
 | some (.ext _)=>True
 | _=>False
section
variable {P:Program} {w:World} {H:Hp} {h h':Heap} {x e:Addr} {o':HO}
theorem HOk.write (ok:HOk P w H h) (mu:Mut (H x)) (he:e=x\/H e=some (.own x)) (k:∀b u,b≠e->h.get? b=some u->h'.get? b=some u) (heo:∃u,h'.get? e=some u)
 (new:Bl P w (upd H x o') h' x o'):HOk P w (upd H x o') h':=fun b u q=>by
 have nown:∀c y,H c=some (.own y)->c≠x:=fun c y r z=>by subst z;rw [r] at mu;exact mu
 have ntup:∀c xs,H c=some (.tup xs)->c≠x:=fun c xs r z=>by subst z;rw [r] at mu;exact mu
 by_cases hb:b=x
 ·subst hb;rw [Ac] at q;cases q;exact new
 ·rw [Aj hb] at q;by_cases hbe:b=e
  ·have q':H b=some (.own x):=by
    rcases he with z | z
    ·exact absurd (hbe.trans z) hb
    ·rw [hbe];exact z
   rw [q] at q';cases q';obtain ⟨v,hv⟩:=heo;exact ⟨v,by rw [hbe];exact hv⟩
  ·refine (ok b u q).stay (fun c v hc r=>k c v ?_ r) (fun c r=>by rw [Aj (nown c b r)];exact r) fun c xs r=>by rw [Aj (ntup c xs r)];exact r
   rcases hc with rfl | hc
   ·exact hbe
   ·rintro rfl;rcases he with z | z
    ·exact nown c b hc z
    ·rw [hc] at z;cases z;exact hb rfl
end
structure Un (fs ex:List Addr) (H H':Hp) (h h':Heap):Prop where
 keep:∀b o,h.get? b=some o->H b=none->b ∉ fs->b ∉ ex->h'.get? b=some o
 slot:∀b o,h.get? b=some o->H b=none->b∈fs->b ∉ ex->∃sl,h'.get? b=some { o with slots:=sl }
 free:∀b o,h.get? b=some o->H b=none->b ∉ ex->H' b=none
 there:∀b o,h.get? b=some o->b ∉ ex->∃o',h'.get? b=some o'
 tups:∀b xs,H b=some (.tup xs)->H' b=some (.tup xs)
 frzs:∀b o u,H b=some (.frz o u)->H' b=some (.frz o u)
 tbls:∀b ps,H b=some (.tbl ps)->∃more,H' b=some (.tbl (ps++more))
section
variable {fs fs' ex ex':List Addr} {H H1 H2:Hp} {h h1 h2 h':Heap} {a x e:Addr} {o:HO}
theorem Un.any (u:Un fs ex H H1 h h1) {b:Addr} {ob:Obj} (q:h.get? b=some ob) (n:H b=none) (hx:b ∉ ex):∃sl,h1.get? b=some { ob with slots:=sl }:=by
 by_cases hb:b∈fs
 ·exact u.slot b ob q n hb hx
 ·exact ⟨ob.slots,u.keep b ob q n hb hx⟩
theorem Un.kept (k:∀b u,h.get? b=some u->h'.get? b=some u):Un fs ex H H h h' :=
 ⟨fun b ob q _ _ _=>k b ob q,fun b ob q _ _ _=>⟨ob.slots,k b ob q⟩,fun _ _ _ n _=>n,fun b ob q _=>⟨ob,k b ob q⟩,fun _ _ q=>q,fun _ _ _ q=>q,fun _ ps q=>⟨#[],by rw [q];simp⟩⟩
theorem Un.refl:Un fs ex H H h h:=Un.kept fun _ _ q=>q
theorem Un.laid (k:∀b u,h.get? b=some u->h'.get? b=some u) (hp:h.objs.size<=a) (hn:H a=none):Un fs ex H (upd H a o) h h' where
 keep:=fun b u q _ _ _=>k b u q
 slot:=fun b u q _ _ _=>⟨u.slots,k b u q⟩
 free:=fun b u q n _=>by rw [Aj (Nat.ne_of_lt (Nat.lt_of_lt_of_le (Heap.lt_size q) hp))];exact n
 there:=fun b u q _=>⟨u,k b u q⟩
 tups:=fun b xs q=>by rw [Aj (At q hn)];exact q
 frzs:=fun b u xs q=>by rw [Aj (At q hn)];exact q
 tbls:=fun b ps q=>⟨#[],by rw [Aj (At q hn),q];simp⟩
theorem Un.write (mu:Mut (H x)) (he:e=x\/H e=some (.own x)) (k:∀b u,b≠e->h.get? b=some u->h'.get? b=some u) (heo:∃u,h'.get? e=some u):Un fs ex H (upd H x o) h h':=by
 have hx:∀b,H b=none->b≠x:=fun b n z=>by subst z;rw [n] at mu;exact mu
 have hb:∀b,H b=none->b≠e:=fun b n z=>by
  subst z;rcases he with r | r
  ·exact hx b n r
  ·rw [n] at r;cases r
 have hm:∀b u,H b=some u->¬ Mut (some u)->b≠x:=fun b u q nm z=>by subst z;rw [q] at mu;exact nm mu
 refine ⟨fun b u q n _ _=>k b u (hb b n) q,fun b u q n _ _=>⟨u.slots,k b u (hb b n) q⟩,fun b u q n _=>by rw [Aj (hx b n)];exact n,fun b u q _=>?_,
  fun b xs q=>by rw [Aj (hm b _ q fun z=>z)];exact q,fun b u xs q=>by rw [Aj (hm b _ q fun z=>z)];exact q,fun b ps q=>⟨#[],by rw [Aj (hm b _ q fun z=>z),q];simp⟩⟩
 by_cases hbe:b=e
 ·subst hbe;exact heo
 ·exact ⟨u,k b u hbe q⟩
end
def trk (h:Heap) (H:Hp):List Addr:=(List.range h.objs.size).filter fun a=>(H a).isSome
def GI (h:Heap) (H:Hp):Heap:=PySem.W.hideAll h (trk h H)
theorem Nt (h:Heap) (H:Hp):(GI h H).objs.size=h.objs.size:=PySem.W.hideAll_size _ _
theorem O6 {h:Heap} {H:Hp} {b:Addr} {o:Obj} (e:h.get? b=some o) (n:H b=none):(GI h H).get? b=some o :=
 PySem.W.hideAll_get _ e fun hm=>by
  have q:(H b).isSome=true:=(mem_filter.mp hm).2;rw [n] at q;simp at q
theorem M3 {h:Heap} {H:Hp} {b:Addr} {o:Obj} (e:(GI h H).get? b=some o):h.get? b=some o/\H b=none:=by
 have e':h.get? b=some o:=PySem.W.of_hideAll (trk h H) e;refine ⟨e',?_⟩
 cases q:H b with
 | none=>rfl
 | some x =>
   have hm:b∈trk h H:=mem_filter.mpr ⟨mem_range.mpr (Heap.lt_size e'),by simp [q]⟩;have z:(GI h H).get? b=none:=PySem.W.hideAll_none (trk h H) hm;rw [z] at e;cases e
end L2
namespace L2
open PySem PySem.Spec PyProof.Rows
structure Mod (K:PySem.W.Frag) (mg:Str->Option Value) (base:Heap):Prop where
 kin:K.In base
 glob:base.Ns mainGlobals mg
 blt:∃mb,base.Ns builtinsNs mb/\∀x:Str,x≠"__name__"->mb x=bootBuiltins x
 nolimit:base.NoLimit
structure Cx where
 prog:Program
 w:World
 K:PySem.W.Frag
 mg:Str->Option Value
 base:Heap
 A:Around
 N:List Str
 s₀:Shared
 H₀:Hp
 env:Env
 outer:List Env
 stack:List Env
 ex:List Addr
 fn:Str->Bool
 calm:Bool
 pn:List (Addr × Obj)
 xe:Value->Shared->Prop
def frs (l:List Env):List Addr:=l.filterMap (·.frame)
abbrev Cx.fs (X:Cx):List Addr:=frs X.outer
def Vis (sc:Scope) (x:Str):Prop:=sc.names.lookup x=some .local\/sc.names.lookup x=some .cell\/sc.names.lookup x=some .free
def Loc (sc:Scope) (x:Str):Prop:=sc.names.lookup x=some .local\/sc.names.lookup x=some .cell
def SH (env:Env) (h:Heap) (m:Str->Option Value) (x:Str) (u:Value):Prop :=
 (env.kindOf x=some .local/\m x=some u)\/((env.kindOf x=some .cell\/env.kindOf x=some .free)/\∃c,env.cells.lookup x=some c/\h.IsCell c (some u))
structure Cx.Ok (X:Cx):Prop where
 mod:Mod X.K X.mg X.base
 kind:X.env.scope.kind=.function
 glob:X.env.globals=mainGlobals
 blt:X.env.builtins=builtinsNs
 above:X.s₀.heap.objs.size<=X.env.locals
 inj:∀x y c,X.env.cells.lookup x=some c->X.env.cells.lookup y=some c->x=y
 has:∀x,(X.env.kindOf x=some .cell\/X.env.kindOf x=some .free)->∃c,X.env.cells.lookup x=some c
 cab:∀x c,X.fn x=true->X.env.cells.lookup x=some c->X.s₀.heap.objs.size<=c
 hd:X.calm=true->X.A.handled=none
 frames:X.A.frames=some X.stack
 stk:X.stack=X.outer\/(X.stack=X.env :: X.outer/\X.env.frame=some X.env.locals)
 exf:∀b∈X.ex,b≠X.env.locals/\∀x c,X.env.cells.lookup x=some c->c≠b
 bs:∀b o,X.base.get? b=some o->X.s₀.heap.get? b=some o/\X.H₀ b=none
 bsz:X.base.objs.size<=X.s₀.heap.objs.size
 noex:∀b o,X.base.get? b=some o->b ∉ X.ex
 exfs:∀b∈X.ex,b ∉ X.fs
 funs:X.s₀.heap.FunFrames X.base X.outer
 frf:∀b∈X.fs,X.H₀ b=none
structure Inv (X:Cx) (pins:List (Addr × Obj)) (σ:List (Option V)) (H:Hp) (s:Shared):Prop where
 ok:X.Ok
 os:s.os=X.s₀.os
 bare:AllBare s.gens
 base:Un X.fs X.ex X.H₀ H X.s₀.heap s.heap
 loc:∃m,s.heap.Ns X.env.locals m/\∀(i:Nat) (x:Str) (v:V),X.N[i]?=some x->σ[i]?=some (some v)->Vis X.env.scope x->∃u,AF v u/\SH X.env s.heap m x u
 cell:∀x c,X.env.cells.lookup x=some c->∃v,s.heap.IsCell c v
 free:H X.env.locals=none
 freeC:∀x c,X.env.cells.lookup x=some c->H c=none
 pin:∀p∈X.pn++pins,s.heap.get? p.1=some p.2/\H p.1=none/\p.1≠X.env.locals/\p.1 ∉ X.fs/\∀v,p.2.data≠.cell v
 hok:HOk X.prog X.w H s.heap
 len:σ.length=X.N.length
section
variable {X:Cx} {pins:List (Addr × Obj)} {σ:List (Option V)} {H H':Hp} {s:Shared} {h':Heap}
theorem Cx.Ok.nofr (ok:X.Ok) {b:Addr} {o:Obj} (e:X.base.get? b=some o):b ∉ X.fs:=fun hb=>by
 have:=(ok.funs.mem hb).1;rw [e] at this;cases this
theorem Inv.bs (I:Inv X pins σ H s):∀b o,X.base.get? b=some o->s.heap.get? b=some o/\H b=none:=fun b o e =>
 ⟨I.base.keep b o (I.ok.bs b o e).1 (I.ok.bs b o e).2 (I.ok.nofr e) (I.ok.noex b o e),I.base.free b o (I.ok.bs b o e).1 (I.ok.bs b o e).2 (I.ok.noex b o e)⟩
theorem Inv.bk (I:Inv X pins σ H s):∀b o,X.base.get? b=some o->s.heap.get? b=some o:=fun b o e=>(I.bs b o e).1
theorem Inv.mod (I:Inv X pins σ H s):Mod X.K X.mg X.base:=I.ok.mod
theorem Inv.kIn (I:Inv X pins σ H s):X.K.In s.heap:=I.ok.mod.kin.keeps I.bk
theorem Inv.nolimit (I:Inv X pins σ H s):s.heap.NoLimit:=I.ok.mod.nolimit.keeps I.bk
theorem Inv.lt (I:Inv X pins σ H s):X.env.locals < s.heap.objs.size:=let ⟨_,hn,_⟩:=I.loc;hn.lt
theorem Inv.sz (I:Inv X pins σ H s):X.s₀.heap.objs.size<=s.heap.objs.size:=Nat.le_trans I.ok.above (Nat.le_of_lt I.lt)
theorem Inv.nofs (I:Inv X pins σ H s) {a:Addr} (h:s.heap.objs.size<=a):a ∉ X.fs:=fun hb=>by
 obtain ⟨_,o,ho,_⟩:=I.ok.funs.mem hb;exact absurd (Nat.lt_of_lt_of_le (Heap.lt_size ho) (Nat.le_trans I.sz h)) (Nat.lt_irrefl _)
theorem Inv.cne (I:Inv X pins σ H s):∀x c,X.env.cells.lookup x=some c->c≠X.env.locals:=fun x c e z=>by
 obtain ⟨v,o,ho,hd⟩:=I.cell x c e;obtain ⟨m,⟨o',es,ep,ho',hd',_⟩,_⟩:=I.loc;rw [z,ho'] at ho;cases ho;rw [hd'] at hd;cases hd
theorem Inv.funs (I:Inv X pins σ H s):s.heap.FunFrames X.base X.outer:=by
 have all:∀(l:List Env),(∀b∈frs l,b∈X.fs)->X.s₀.heap.FunFrames X.base l->s.heap.FunFrames X.base l:=by
  intro l
  induction l with
  | nil=>intro _ _;trivial
  | cons env r ih =>
    intro hs hl;obtain ⟨hk,⟨L,o,hf,hn,ho,hd⟩,hr⟩:=hl;have hL:L∈X.fs:=hs L (by unfold frs;rw [filterMap_cons,hf];exact mem_cons_self);obtain ⟨sl,e⟩:=I.base.slot L o ho (I.ok.frf L hL) hL fun z=>I.ok.exfs L z hL;exact ⟨hk,⟨L,_,hf,hn,e,hd⟩,ih (fun b hb=>hs b (by unfold frs;rw [filterMap_cons,hf];exact mem_cons_of_mem _ hb)) hr⟩
 exact all X.outer (fun _ hb=>hb) I.ok.funs
theorem Inv.stack (I:Inv X pins σ H s):s.heap.FunFrames X.base X.stack:=by
 rcases I.ok.stk with e | ⟨e,hf⟩
 ·rw [e];exact I.funs
 ·rw [e];obtain ⟨m,hn,_⟩:=I.loc;refine .cons (by rw [I.ok.kind];decide) hf hn ?_ I.funs;exact Heap.get?_none_of_le (Nat.le_trans I.ok.bsz I.ok.above)
theorem Inv.stkSub (I:Inv X pins σ H s):∀b∈frs X.stack,b∈X.env.locals :: X.fs:=fun b hb=>by
 rcases I.ok.stk with e | ⟨e,hf⟩
 ·rw [e] at hb;exact mem_cons_of_mem _ hb
 ·rw [e] at hb;unfold frs at hb;rw [filterMap_cons,hf] at hb;exact hb
theorem Inv.stkFree (I:Inv X pins σ H s):∀b∈frs X.stack,H b=none:=fun b hb=>by
 rcases mem_cons.mp (I.stkSub b hb) with e | hb
 ·rw [e];exact I.free
 ·obtain ⟨_,o,ho,_⟩:=I.ok.funs.mem hb;exact I.base.free b o ho (I.ok.frf b hb) fun z=>I.ok.exfs b z hb
theorem Inv.step {g':Array GenState} {t':Nat} {d':Drawn} {ch:List Addr} (I:Inv X pins σ H s)
 (hch:∀b∈ch,(b∈X.ex\/X.s₀.heap.objs.size<=b)/\b≠X.env.locals/\(∀x c,X.env.cells.lookup x=some c->c≠b)/\∀p∈X.pn++pins,p.1≠b)
 (keep:∀b o,b≠X.env.locals->b ∉ X.fs->b ∉ ch->s.heap.get? b=some o->H b=none->h'.get? b=some o)
 (slot:∀b o,b≠X.env.locals->b∈X.fs->b ∉ ch->s.heap.get? b=some o->H b=none->∃sl,h'.get? b=some { o with slots:=sl }) (free:∀b o,b ∉ ch->s.heap.get? b=some o->H b=none->H' b=none)
 (there:∀b o,b ∉ ch->s.heap.get? b=some o->∃o',h'.get? b=some o')
 (tups:∀b xs,H b=some (.tup xs)->H' b=some (.tup xs)) (frzs:∀b o u,H b=some (.frz o u)->H' b=some (.frz o u)) (tbls:∀b ps,H b=some (.tbl ps)->∃more,H' b=some (.tbl (ps++more)))
 (ns:∀m,s.heap.Ns X.env.locals m->h'.Ns X.env.locals m) (hok:HOk X.prog X.w H' h') (hg:AllBare g') :
 Inv X pins σ H' { s with heap:=h',gens:=g',drawn:=d',toks:=t' }:=by
 have neL:∀b o,X.s₀.heap.get? b=some o->b≠X.env.locals:=fun b o e=>Nat.ne_of_lt (Nat.lt_of_lt_of_le (Heap.lt_size e) I.ok.above)
 have neC:∀b o,X.s₀.heap.get? b=some o->b ∉ X.ex->b ∉ ch:=fun b o e hx hb=>by
  rcases (hch b hb).1 with z | z
  ·exact hx z
  ·exact absurd (Nat.lt_of_lt_of_le (Heap.lt_size e) z) (Nat.lt_irrefl _)
 have cellK:∀x c,X.env.cells.lookup x=some c->∀v,s.heap.IsCell c v->h'.IsCell c v:=fun x c e v ⟨o,ho,hd⟩=>by
  have nch:c ∉ ch:=fun z=>(hch c z).2.2.1 x c e rfl;by_cases hc:c∈X.fs
  ·obtain ⟨sl,q⟩:=slot c o (I.cne x c e) hc nch ho (I.freeC x c e);exact ⟨_,q,hd⟩
  ·exact ⟨o,keep c o (I.cne x c e) hc nch ho (I.freeC x c e),hd⟩
 refine ⟨I.ok,I.os,hg,⟨fun b o e n hb hx=>?_,fun b o e n hb hx=>?_,fun b o e n hx=>?_,fun b o e hx=>?_,fun b xs e=>tups b xs (I.base.tups b xs e),fun b o xs e=>frzs b o xs (I.base.frzs b o xs e),fun b ps e=>?_⟩,?_,fun x c e=>?_,?_,fun x c e=>?_,fun p hp=>?_,hok,I.len⟩
 ·exact keep b o (neL b o e) hb (neC b o e hx) (I.base.keep b o e n hb hx) (I.base.free b o e n hx)
 ·obtain ⟨sl,e1⟩:=I.base.slot b o e n hb hx;obtain ⟨sl',e2⟩:=slot b _ (neL b o e) hb (neC b o e hx) e1 (I.base.free b o e n hx);exact ⟨sl',e2⟩
 ·obtain ⟨o',e1⟩:=I.base.there b o e hx;exact free b o' (neC b o e hx) e1 (I.base.free b o e n hx)
 ·obtain ⟨o',e1⟩:=I.base.there b o e hx;exact there b o' (neC b o e hx) e1
 ·obtain ⟨m1,e1⟩:=I.base.tbls b ps e;obtain ⟨m2,e2⟩:=tbls b _ e1;exact ⟨m1++m2,by rw [e2,Array.append_assoc]⟩
 ·obtain ⟨m,hn,hl⟩:=I.loc;refine ⟨m,ns m hn,fun i x v e1 e2 e3=>?_⟩;obtain ⟨u,r,l⟩:=hl i x v e1 e2 e3;refine ⟨u,r,?_⟩;rcases l with l | ⟨k,c,e,z⟩
  ·exact .inl l
  ·exact .inr ⟨k,c,e,cellK x c e _ z⟩
 ·obtain ⟨v,z⟩:=I.cell x c e;exact ⟨v,cellK x c e v z⟩
 ·obtain ⟨m,⟨o,_,_,ho,_⟩,_⟩:=I.loc;exact free _ o (fun z=>(hch _ z).2.1 rfl) ho I.free
 ·obtain ⟨v,o,ho,hd⟩:=I.cell x c e;exact free c o (fun z=>(hch c z).2.2.1 x c e rfl) ho (I.freeC x c e)
 ·obtain ⟨e,n,ne,nf,d⟩:=I.pin p hp;have nch:p.1 ∉ ch:=fun z=>(hch p.1 z).2.2.2 p hp rfl;exact ⟨keep p.1 p.2 ne nf nch e n,free p.1 p.2 nch e n,ne,nf,d⟩
theorem Inv.un {t':Nat} (I:Inv X pins σ H s) (u:Un X.fs [] H H' s.heap h') (hok:HOk X.prog X.w H' h'):Inv X pins σ H' { s with heap:=h',toks:=t' }:=by
 obtain ⟨m,⟨o,es,ep,ho,r⟩,_⟩:=id I.loc;obtain ⟨sl,hL⟩:=u.any ho I.free (by simp)
 exact I.step (g':=s.gens) (d':=s.drawn) (ch:=[]) (fun _ z=>by cases z) (fun b o _ hb _ e n=>u.keep b o e n hb (by simp)) (fun b o _ hb _ e n=>u.slot b o e n hb (by simp)) (fun b o _ e n=>u.free b o e n (by simp)) (fun b o _ e=>u.there b o e (by simp)) u.tups u.frzs u.tbls (fun m' hm=>by
  obtain ⟨o',es',ep',ho',r'⟩:=hm;rw [ho] at ho';cases ho';exact ⟨_,es',ep',hL,r'⟩) hok I.bare
theorem Inv.call {g':Array GenState} {t':Nat} {d':Drawn} {ch:List Addr} (I:Inv X pins σ H s) (u:Un (frs X.stack) ch H H' s.heap h') (hok:HOk X.prog X.w H' h') (hg:AllBare g')
 (hch:∀b∈ch,(b∈X.ex\/X.s₀.heap.objs.size<=b)/\b≠X.env.locals/\(∀x c,X.env.cells.lookup x=some c->c≠b)/\∀p∈X.pn++pins,p.1≠b) :
 Inv X pins σ H' { s with heap:=h',gens:=g',drawn:=d',toks:=t' }:=by
 obtain ⟨m,⟨o,es,ep,ho,r⟩,_⟩:=id I.loc;obtain ⟨sl,hL⟩:=u.any ho I.free fun z=>(hch _ z).2.1 rfl
 exact I.step (ch:=ch) hch (fun b o hL hb hc e n=>u.keep b o e n (fun z=>(mem_cons.mp (I.stkSub b z)).elim hL hb) hc) (fun b o _ _ hc e n=>u.any e n hc) (fun b o hc e n=>u.free b o e n hc) (fun b o hc e=>u.there b o e hc) u.tups u.frzs u.tbls (fun m' hm=>by
  obtain ⟨o',es',ep',ho',r'⟩:=hm;rw [ho] at ho';cases ho';exact ⟨_,es',ep',hL,r'⟩) hok hg
theorem Inv.turned {t':Nat} {it:Addr} (I:Inv X pins σ H s) (k:∀b o,b≠it->s.heap.get? b=some o->h'.get? b=some o) (hn:H it=none) (hL:it≠X.env.locals)
 (h1:it∈X.ex\/X.s₀.heap.objs.size<=it) (h2:∀x c,X.env.cells.lookup x=some c->c≠it) (h3:∀p∈X.pn++pins,p.1≠it):Inv X pins σ H { s with heap:=h',toks:=t' }:=by
 have nit:∀b u,H b=some u->b≠it:=fun b u e z=>by rw [z,hn] at e;cases e
 refine I.step (g':=s.gens) (d':=s.drawn) (ch:=[it]) (fun b hb=>?_) (fun b o _ _ hc e _=>k b o (fun z=>hc (by simp [z])) e) (fun b o _ _ hc e _=>⟨o.slots,k b o (fun z=>hc (by simp [z])) e⟩) (fun _ _ _ _ n=>n)
  (fun b o hc e=>⟨o,k b o (fun z=>hc (by simp [z])) e⟩) (fun _ _ e=>e) (fun _ _ _ e=>e) (fun b ps e=>⟨#[],by rw [e];simp⟩) (fun m hm=>?_) (fun b u e=>?_) I.bare
 ·have e:b=it:=by simpa using hb
  subst e;exact ⟨h1,hL,h2,h3⟩
 ·obtain ⟨o,es,ep,ho,r⟩:=hm;exact ⟨o,es,ep,k _ o (Ne.symm hL) ho,r⟩
 ·refine (I.hok b u e).stay (fun c v hc q=>k c v ?_ q) (fun _ q=>q) fun _ _ q=>q;rcases hc with z | z
  ·rw [z];exact nit b u e
  ·exact nit c _ z
theorem Inv.tok (I:Inv X pins σ H s) (t:Nat):Inv X pins σ H { s with toks:=t }:=I.un (h':=s.heap) (t':=t) Un.refl I.hok
theorem Inv.kept {t':Nat} (I:Inv X pins σ H s) (k:∀b u,s.heap.get? b=some u->h'.get? b=some u):Inv X pins σ H { s with heap:=h',toks:=t' }:=I.un (Un.kept k) (I.hok.kept k)
theorem Inv.laid {a:Addr} {o:HO} {t':Nat} (I:Inv X pins σ H s) (k:∀b u,s.heap.get? b=some u->h'.get? b=some u) (hp:s.heap.objs.size<=a) (new:Bl X.prog X.w (upd H a o) h' a o) :
 Inv X pins σ (upd H a o) { s with heap:=h',toks:=t' }:=I.un (Un.laid k hp (I.hok.fresh hp)) (I.hok.laid k hp new)
theorem Inv.write {x e:Addr} {o:HO} {t':Nat} (I:Inv X pins σ H s) (mu:Mut (H x)) (he:e=x\/H e=some (.own x)) (k:∀b u,b≠e->s.heap.get? b=some u->h'.get? b=some u) (heo:∃u,h'.get? e=some u)
 (new:Bl X.prog X.w (upd H x o) h' x o):Inv X pins σ (upd H x o) { s with heap:=h',toks:=t' }:=I.un (Un.write mu he k heo) (I.hok.write mu he k heo new)
theorem Inv.pins_of {pins':List (Addr × Obj)} (I:Inv X pins σ H s) (h:∀p∈pins',s.heap.get? p.1=some p.2/\H p.1=none/\p.1≠X.env.locals/\p.1 ∉ X.fs/\∀v,p.2.data≠.cell v):Inv X pins' σ H s :=
 ⟨I.ok,I.os,I.bare,I.base,I.loc,I.cell,I.free,I.freeC,fun p hp=>(mem_append.mp hp).elim (fun z=>I.pin p (mem_append_left _ z)) (h p),I.hok,I.len⟩
theorem K0 {N:List Str} (hN:N.Nodup) {i j:Nat} {x:Str} (a:N[i]?=some x) (b:N[j]?=some x):i=j:=by
 obtain ⟨h1,e1⟩:=List.getElem?_eq_some_iff.mp a;obtain ⟨h2,e2⟩:=List.getElem?_eq_some_iff.mp b;exact (getElem_inj hN).mp (e1.trans e2.symm)
theorem Jb {M:Model} {A:Around} {E:Value->Shared->Prop} {i:Nat} {x:Str} {v:V} {u:Value} {Q:Unit->Shared->Prop} (I:Inv X pins σ H s) (hN:X.N.Nodup) (hi:X.N[i]?=some x) (hx:Loc X.env.scope x) (r:AF v u)
 (h:∀s',Inv X pins (σ.set i (some v)) H s'->(∃a,Heap.SameBut a s.heap s'.heap/\(a=X.env.locals\/X.env.cells.lookup x=some a))->Q () s') (hf:X.fn x=true\/X.env.scope.names.lookup x=some .local:=by first | exact .inl rfl | exact .inr rfl | assumption):wpAny M A (storeName X.env x u) Q E s:=by
 obtain ⟨m,hn,hl⟩:=id I.loc;have hcls:(X.env.scope.kind == .class || (X.env.scope.kind == .module && X.env.locals != X.env.globals))=false:=by rw [I.ok.kind];rfl
 have hiσ:i < σ.length:=by rw [I.len];exact (List.getElem?_eq_some_iff.mp hi).1
 have cne:=I.cne
 have tracked:∀{a:Addr} {h':Heap},(∃o,s.heap.get? a=some o/\H a=none)->Heap.SameBut a s.heap h'->HOk X.prog X.w H h':=fun {a h'} ha hs b ob e=>by
  obtain ⟨_,_,hfree⟩:=ha;refine (I.hok b ob e).stay (fun c w' hc q=>(hs.2 c ?_).trans q) (fun _ q=>q) fun _ _ q=>q;rintro rfl;rcases hc with rfl | hc
  ·rw [hfree] at e;cases e
  ·rw [hfree] at hc;cases hc
 rcases hx with hk | hk
 ·refine wpAny_storeName_local hk hn (fun h' hn' hs=>?_) hcls;obtain ⟨oL,_,_,hoL,_⟩:=id hn;refine h _ ⟨I.ok,I.os,I.bare,⟨fun b o e n hb hx=>?_,fun b o e n hb hx=>?_,I.base.free,fun b o e hx=>?_,I.base.tups,I.base.frzs,I.base.tbls⟩,⟨_,hn',fun j y v' e1 e2 e3=>?_⟩,fun y c e=>?_,I.free,I.freeC,fun p hp=>?_,tracked ⟨oL,hoL,I.free⟩ hs,by simpa using I.len⟩ ⟨_,hs,.inl rfl⟩
  ·exact (hs.2 b (Nat.ne_of_lt (Nat.lt_of_lt_of_le (Heap.lt_size e) I.ok.above))).trans (I.base.keep b o e n hb hx)
  ·obtain ⟨sl,e1⟩:=I.base.slot b o e n hb hx;exact ⟨sl,(hs.2 b (Nat.ne_of_lt (Nat.lt_of_lt_of_le (Heap.lt_size e) I.ok.above))).trans e1⟩
  ·obtain ⟨o',e1⟩:=I.base.there b o e hx;exact ⟨o',(hs.2 b (Nat.ne_of_lt (Nat.lt_of_lt_of_le (Heap.lt_size e) I.ok.above))).trans e1⟩
  ·by_cases hj:j=i
   ·subst hj;rw [hi] at e1;cases e1;rw [List.getElem?_set_self hiσ] at e2
    cases e2
    exact ⟨u,r,.inl ⟨hk,by simp⟩⟩
   ·rw [List.getElem?_set_ne (Ne.symm hj)] at e2;obtain ⟨u',r',q⟩:=hl j y v' e1 e2 e3;refine ⟨u',r',?_⟩;rcases q with ⟨k,e⟩ | ⟨k,c,e,z⟩
    ·refine .inl ⟨k,?_⟩;have:y≠x:=fun e=>hj (K0 hN e1 (e ▸ hi));simp [this,e]
    ·exact .inr ⟨k,c,e,z.sameBut hs (cne y c e)⟩
  ·obtain ⟨w',z⟩:=I.cell y c e;exact ⟨w',z.sameBut hs (cne y c e)⟩
  ·obtain ⟨e,n,ne,nf,d⟩:=I.pin p hp;exact ⟨(hs.2 p.1 ne).trans e,n,ne,nf,d⟩
 ·have hfn:X.fn x=true:=by
   rcases hf with z | z
   ·exact z
   ·rw [z] at hk;cases hk
  obtain ⟨c,hc⟩:=I.ok.has x (.inl hk);obtain ⟨w',z⟩:=I.cell x c hc;refine wpAny_storeName_cell I.ok.kind hk hc z (fun h' hc' hs=>?_);obtain ⟨oc,hoc,hocd⟩:=id z;refine h { s with heap:=h' } ⟨I.ok,I.os,I.bare,⟨fun b o e n hb hx=>?_,fun b o e n hb hx=>?_,I.base.free,fun b o e hx=>?_,I.base.tups,I.base.frzs,I.base.tbls⟩,⟨m,hn.sameBut hs (Ne.symm (cne x c hc)),fun j y v' e1 e2 e3=>?_⟩,fun y c' e=>?_,I.free,I.freeC,fun p hp=>?_,tracked ⟨oc,hoc,I.freeC x c hc⟩ hs,by simpa using I.len⟩ ⟨c,hs,.inr hc⟩
  ·exact (hs.2 b (Nat.ne_of_lt (Nat.lt_of_lt_of_le (Heap.lt_size e) (I.ok.cab x c hfn hc)))).trans (I.base.keep b o e n hb hx)
  ·obtain ⟨sl,e1⟩:=I.base.slot b o e n hb hx;exact ⟨sl,(hs.2 b (Nat.ne_of_lt (Nat.lt_of_lt_of_le (Heap.lt_size e) (I.ok.cab x c hfn hc)))).trans e1⟩
  ·obtain ⟨o',e1⟩:=I.base.there b o e hx;exact ⟨o',(hs.2 b (Nat.ne_of_lt (Nat.lt_of_lt_of_le (Heap.lt_size e) (I.ok.cab x c hfn hc)))).trans e1⟩
  ·by_cases hj:j=i
   ·subst hj;rw [hi] at e1;cases e1;rw [List.getElem?_set_self hiσ] at e2
    cases e2
    exact ⟨u,r,.inr ⟨.inl hk,c,hc,hc'⟩⟩
   ·rw [List.getElem?_set_ne (Ne.symm hj)] at e2;obtain ⟨u',r',q⟩:=hl j y v' e1 e2 e3;refine ⟨u',r',?_⟩;rcases q with q | ⟨k,c',e,z'⟩
    ·exact .inl q
    ·refine .inr ⟨k,c',e,z'.sameBut hs ?_⟩;rintro rfl;exact hj (K0 hN e1 (I.ok.inj _ _ _ e hc ▸ hi))
  ·by_cases hcc:c'=c
   ·subst hcc;exact ⟨_,hc'⟩
   ·obtain ⟨w2,z2⟩:=I.cell y c' e;exact ⟨w2,z2.sameBut hs hcc⟩
  ·obtain ⟨e,n,ne,nf,d⟩:=I.pin p hp;refine ⟨(hs.2 p.1 ?_).trans e,n,ne,nf,d⟩;intro q;rw [q,hoc] at e;have q':oc=p.2:=Option.some.inj e;exact d w' (by rw [<- q'];exact hocd)
theorem Li {M:Model} {A:Around} {E:Value->Shared->Prop} {i:Nat} {x:Str} {v:V} {u:Value} {Q:Unit->Shared->Prop} (I:Inv X pins σ H s) (hN:X.N.Nodup) (hi:X.N[i]?=some x) (hx:Loc X.env.scope x) (r:AF v u)
 (h:∀s',Inv X pins (σ.set i (some v)) H s'->Q () s') (hf:X.fn x=true\/X.env.scope.names.lookup x=some .local:=by first | exact .inl rfl | exact .inr rfl | assumption):wpAny M A (storeName X.env x u) Q E s :=
 Jb I hN hi hx r (fun s' I' _=>h s' I') hf
theorem Inv.call' {s':Shared} {ch:List Addr} (I:Inv X pins σ H s) (ho:s'.os=s.os) (u:Un (frs X.stack) ch H H' s.heap s'.heap) (hok:HOk X.prog X.w H' s'.heap) (hg:AllBare s'.gens)
 (hch:∀b∈ch,(b∈X.ex\/X.s₀.heap.objs.size<=b)/\b≠X.env.locals/\(∀x c,X.env.cells.lookup x=some c->c≠b)/\∀p∈X.pn++pins,p.1≠b):Inv X pins σ H' s':=by
 obtain ⟨h',g',d',t',o'⟩:=s';have e:o'=s.os:=ho;subst e;exact I.call (g':=g') (t':=t') (d':=d') u hok hg hch
end
abbrev XK:=Value->Option Addr->Hp->Prop
abbrev St:=List (Option V)
abbrev VK:=V->Hp->Prop
abbrev TE:=St->Hp->VK->Prop
abbrev TT:=St->Hp->(Bool->Hp->Prop)->Prop
abbrev TA:=St->Hp->(List V->Hp->Prop)->Prop
structure EO where
 nx:St->Hp->Prop
 rt:VK
 bk:St->Hp->Prop:=fun _ _=>False
 ct:St->Hp->Prop:=fun _ _=>False
abbrev TS:=EO->St->Hp->Prop
def EP (X:Cx) (pins:List (Addr × Obj)) (σ:St) (Q:VK) (u:Value) (s':Shared):Prop:=∃v H',Inv X pins σ H' s'/\AF v u/\Q v H'
def TP (X:Cx) (pins:List (Addr × Obj)) (σ:St) (Q:Bool->Hp->Prop) (b:Bool) (s':Shared):Prop:=∃H',Inv X pins σ H' s'/\Q b H'
def AP (X:Cx) (pins:List (Addr × Obj)) (σ:St) (Q:List V->Hp->Prop) (us:List Value) (s':Shared):Prop:=∃vs H',Inv X pins σ H' s'/\AE vs us/\Q vs H'
def SP (X:Cx) (pins:List (Addr × Obj)) (D:EO) (f:Flow) (s':Shared):Prop :=
 match f with
 | .next=>∃σ' H',Inv X pins σ' H' s'/\D.nx σ' H'
 | .brk=>∃σ' H',Inv X pins σ' H' s'/\D.bk σ' H'
 | .cont=>∃σ' H',Inv X pins σ' H' s'/\D.ct σ' H'
 | .ret u=>∃v σ' H',Inv X pins σ' H' s'/\AF v u/\D.rt v H'
def PE (X:Cx) (e:Expr) (t:TE):Prop :=
 ∀(pins:List (Addr × Obj)) (s:Shared) (σ:St) (H:Hp) (Q:VK),Inv X pins σ H s->t σ H Q->wpAny (model X.prog X.w) X.A (eval e X.env) (EP X pins σ Q) X.xe s
def PT (X:Cx) (e:Expr) (t:TT):Prop :=
 ∀(pins:List (Addr × Obj)) (s:Shared) (σ:St) (H:Hp) (Q:Bool->Hp->Prop),Inv X pins σ H s->t σ H Q->wpAny (model X.prog X.w) X.A (isTrue e X.env (eval e X.env)) (TP X pins σ Q) X.xe s
def PW (X:Cx) (e:Expr) (t:TT):Prop :=
 ∀(whole:Sem Value) (pins:List (Addr × Obj)) (s:Shared) (σ:St) (H:Hp) (Q:Bool->Hp->Prop),Inv X pins σ H s->t σ H Q->wpAny (model X.prog X.w) X.A (isTrue e X.env whole) (TP X pins σ Q) X.xe s
theorem PW.pt {X:Cx} {e:Expr} {t:TT} (h:PW X e t):PT X e t:=h _
def PA (X:Cx) (es:List Expr) (t:TA):Prop :=
 ∀(pos:Pos) (pins:List (Addr × Obj)) (s:Shared) (σ:St) (H:Hp) (Q:List V->Hp->Prop),Inv X pins σ H s->t σ H Q->wpAny (model X.prog X.w) X.A (spliced (backTo pos (starEach es X.env))) (AP X pins σ Q) X.xe s
def PS (X:Cx) (st:Stmt) (t:TS):Prop :=
 ∀(pins:List (Addr × Obj)) (s:Shared) (σ:St) (H:Hp) (D:EO),Inv X pins σ H s->t D σ H->wpAny (model X.prog X.w) X.A (exec st X.env) (SP X pins D) X.xe s
def PSs (X:Cx) (st:List Stmt) (t:TS):Prop :=
 ∀(pins:List (Addr × Obj)) (s:Shared) (σ:St) (H:Hp) (D:EO),Inv X pins σ H s->t D σ H->wpAny (model X.prog X.w) X.A (execs st X.env) (SP X pins D) X.xe s
theorem thn {α:Type} {t:Sem α} {Q Q':α->Shared->Prop} {M:Model} {A:Around} {E:Value->Shared->Prop} {s:Shared} (h:wpAny M A t Q E s) (hQ:∀a s,Q a s->Q' a s):wpAny M A t Q' E s:=wpAny_mono h hQ fun _ _ x=>x
end L2
namespace L2
open PySem PySem.Spec PyProof.Rows
section
variable {X:Cx}
def SF (i:Nat):TE:=fun σ H Q=>∃v,σ[i]?=some (some v)/\Q v H
def tC (v:V):TE:=fun _ H Q=>Q v H
theorem R3 {i:Nat} {x:Str} {pos:Pos} (hN:X.N[i]?=some x) (hv:Vis X.env.scope x) (hd:(x == ("__debug__":Str))=false:=by decide) (hcd:(x == ("__classdict__":Str))=false:=by decide):PE X (.Name x pos) (SF i):=by
 intro pins s σ H Q I h;obtain ⟨v,e,h⟩:=h;obtain ⟨m,hn,hl⟩:=I.loc;obtain ⟨u,r,l⟩:=hl i x v hN e hv;have fin:EP X pins σ Q u s:=⟨v,H,I,r,h⟩;rcases l with ⟨hk,hm⟩ | ⟨hk,c,hc,hcell⟩
 ·exact wpAny_Name (wpAny_loadName_local I.ok.kind hk hn hm fin) hd
 ·rcases hk with hk | hk
  ·exact wpAny_Name (wpAny_loadName_cell I.ok.kind hk hc hcell fin) hd
  ·exact wpAny_Name (wpAny_loadName_free I.ok.kind hk hc hcell fin hcd) hd
theorem Ae {i j pos}:PE X (.Constant (.int i) j pos) (tC (.int i)):=fun _ _ _ H _ I h=>wpAny_Constant_int ⟨.int i,H,I.tok _,⟨_,rfl⟩,h⟩
theorem Ce {b j pos}:PE X (.Constant (.bool b) j pos) (tC (.bl b)):=fun _ _ _ H _ I h=>Constant_bool ⟨.bl b,H,I,rfl,h⟩
theorem OR {j pos}:PE X (.Constant .none j pos) (tC .non):=fun _ _ _ H _ I h=>Constant_none ⟨.non,H,I,rfl,h⟩
def Gl (X:Cx) (x:Str):Prop:=X.env.kindOf x=some .globalImplicit
theorem Jn {E:Value->Shared->Prop} {pins:List (Addr × Obj)} {s:Shared} {σ:St} {H:Hp} {x:Str} {u:Value} {pos:Pos} {Q:Value->Shared->Prop} (I:Inv X pins σ H s) (hg:Gl X x) (hm:X.mg x=some u) (h:Q u s)
 (hd:(x == ("__debug__":Str))=false:=by decide):wpAny (model X.prog X.w) X.A (eval (.Name x pos) X.env) Q E s :=
 Calls.Name_function_global I.ok.kind hg (Calls.loadGlobal_global (by rw [I.ok.glob];exact I.mod.glob.keeps I.bk) hm h) hd
theorem BX {E:Value->Shared->Prop} {pins:List (Addr × Obj)} {s:Shared} {σ:St} {H:Hp} {x:Str} {u:Value} {pos:Pos} {Q:Value->Shared->Prop} (I:Inv X pins σ H s) (hg:Gl X x) (hm:X.mg x=none) (hv:bootBuiltins x=some u) (h:Q u s)
 (hn:x≠"__name__":=by decide) (hd:(x == ("__debug__":Str))=false:=by decide):wpAny (model X.prog X.w) X.A (eval (.Name x pos) X.env) Q E s:=by
 obtain ⟨mb,h1,h2⟩:=I.mod.blt;exact Calls.Name_function_global I.ok.kind hg (Calls.loadGlobal_builtin (by rw [I.ok.glob];exact I.mod.glob.keeps I.bk) hm (by rw [I.ok.blt];exact h1.keeps I.bk) ((h2 x hn).trans hv) h) hd
theorem M6 {x:Str} {v:V} {u:Value} {pos:Pos} (hg:Gl X x) (hm:X.mg x=some u) (r:AF v u) (hd:(x == ("__debug__":Str))=false:=by decide):PE X (.Name x pos) (tC v) :=
 fun _ _ _ H _ I h=>Jn I hg hm ⟨v,H,I,r,h⟩ hd
theorem Jz {x:Str} {v:V} {u:Value} {pos:Pos} (hg:Gl X x) (hm:X.mg x=none) (hv:bootBuiltins x=some u) (r:AF v u) (hn:x≠"__name__":=by decide) (hd:(x == ("__debug__":Str))=false:=by decide):PE X (.Name x pos) (tC v) :=
 fun _ _ _ H _ I h=>BX I hg hm hv ⟨v,H,I,r,h⟩ hn hd
variable {a b:Expr} {ta tb:TE} {pos:Pos}
def tB (t:TE):TT:=fun σ H Q=>t σ H fun x H1=>∃c,x=.bl c/\Q c H1
theorem Du {e:Expr} {t:TE} (h:PE X e t) (he:∀whole,isTrue e X.env whole=(do let v <- whole;standAt e.pos;holding [v] (truthy v)):=by intro _;rfl):PT X e (tB t):=by
 intro pins s σ H Q I hw;refine isTrue_plain (thn (h pins s σ H _ I hw) fun v s1 ⟨x,H1,I1,r1,q1⟩=>?_) (he _);obtain ⟨d,rfl,q⟩:=q1
 cases r1
 exact wpAny_truthy_bool ⟨H1,I1,q⟩
variable {tA tB':TT} {rest:List Expr}
def SW (t u:TT):TT:=fun σ H Q=>t σ H fun c H1=>if c=true then u σ H1 Q else Q false H1
def tOr (t u:TT):TT:=fun σ H Q=>t σ H fun c H1=>if c=true then Q true H1 else u σ H1 Q
def Tf (t:TT):TT:=fun σ H Q=>t σ H fun c H1=>Q (!c) H1
theorem MA (ha:PT X a tA):PW X (.BoolOp .And [a] pos) tA:=by
 intro wh pins s σ H Q I h;refine isTrue_and (thn (ha pins s σ H Q I h) fun c s1 e=>?_)
 cases c with
 | true=>exact isTrue_and_nil e
 | false=>exact e
theorem GX (ha:PT X a tA):PW X (.BoolOp .Or [a] pos) tA:=by
 intro wh pins s σ H Q I h;refine isTrue_or (thn (ha pins s σ H Q I h) fun c s1 e=>?_)
 cases c with
 | false=>exact isTrue_or_nil e
 | true=>exact e
theorem OW (ha:PT X a tA) (hb:PW X (.BoolOp .And (b :: rest) pos) tB'):PW X (.BoolOp .And (a :: b :: rest) pos) (SW tA tB'):=by
 intro wh pins s σ H Q I h;refine isTrue_and (thn (ha pins s σ H _ I h) fun c s1 ⟨H1,I1,q1⟩=>?_)
 cases c with
 | true=>exact hb wh pins s1 σ H1 Q I1 q1
 | false=>exact ⟨H1,I1,q1⟩
theorem IF (ha:PT X a tA) (hb:PW X (.BoolOp .Or (b :: rest) pos) tB'):PW X (.BoolOp .Or (a :: b :: rest) pos) (tOr tA tB'):=by
 intro wh pins s σ H Q I h;refine isTrue_or (thn (ha pins s σ H _ I h) fun c s1 ⟨H1,I1,q1⟩=>?_)
 cases c with
 | true=>exact ⟨H1,I1,q1⟩
 | false=>exact hb wh pins s1 σ H1 Q I1 q1
theorem Dt (ha:PT X a tA):PT X (.UnaryOp .Not a pos) (Tf tA):=by
 intro pins s σ H Q I h;exact isTrue_not (ha pins s σ H (fun c H1=>Q (!c) H1) I h)
def S4 (ta tb:TE):TE:=fun σ H Q=>ta σ H fun x H1=>∃c,x=.bl c/\if c=true then tb σ H1 Q else Q (.bl false) H1
def SC (ta:TE):TE:=fun σ H Q=>ta σ H fun x H1=>∃c,x=.bl c/\Q (.bl (!c)) H1
theorem EG {op} {t:TE} (h:PE X a t):PE X (.BoolOp op [a] pos) t:=fun pins s σ H Q I hw=>BoolOp_one (h pins s σ H Q I hw)
theorem El (ha:PE X a ta) (hb:PE X (.BoolOp .And (b :: rest) pos) tb):PE X (.BoolOp .And (a :: b :: rest) pos) (S4 ta tb):=by
 intro pins s σ H Q I h;refine BoolOp_and (thn (ha pins s σ H _ I h) fun v s1 ⟨x,H1,I1,r1,q1⟩=>?_);obtain ⟨c,rfl,q1⟩:=q1
 cases r1
 refine wpAny_truthy_bool ?_
 cases c with
 | true=>exact hb pins s1 σ H1 Q I1 q1
 | false=>exact ⟨.bl false,H1,I1,rfl,q1⟩
theorem OS (ha:PE X a ta):PE X (.UnaryOp .Not a pos) (SC ta):=by
 intro pins s σ H Q I h;refine UnaryOp_ (thn (ha pins s σ H _ I h) fun v s1 ⟨x,H1,I1,r1,q1⟩=>?_);obtain ⟨c,rfl,q1⟩:=q1
 cases r1
 exact not_of (wpAny_truthy_bool ⟨.bl (!c),H1,I1,rfl,q1⟩)
def tIf (t:TT) (ta tb:TE):TE:=fun σ H Q=>t σ H fun c H1=>if c=true then ta σ H1 Q else tb σ H1 Q
theorem KA {c:Expr} (hc:PT X c tA) (ha:PE X a ta) (hb:PE X b tb):PE X (.IfExp c a b pos) (tIf tA ta tb):=by
 intro pins s σ H Q I h;refine wpAny_IfExp (thn (hc pins s σ H _ I h) fun d s1 ⟨H1,I1,q1⟩=>?_)
 cases d with
 | true=>exact ha pins s1 σ H1 Q I1 q1
 | false=>exact hb pins s1 σ H1 Q I1 q1
end
end L2
namespace L2
open PySem PySem.Spec PyProof.Rows
def SqL (K:PySem.W.Frag) (H:Hp) (a:Addr) (xs:List V):Prop :=
 Rd H a (.lst xs) \/
  ∃(o:Obj) (its:Array Value) (n:Nat),K.lookup a=some o/\o.cls=.type "list"/\o.dict=none/\o.data=.seq its n/\its.size<=sizeLine/\AE xs its.toList
def SqT (K:PySem.W.Frag) (H:Hp) (a:Addr) (xs:List V):Prop :=
 Rd H a (.tup xs) \/
  ∃(o:Obj) (its:Array Value) (n:Nat),K.lookup a=some o/\o.cls=.type "tuple"/\o.data=.seq its n/\its.size<=sizeLine/\AE xs its.toList
def SI:Value->Option V
 | .none=>some .non
 | .bool b=>some (.bl b)
 | .int i _=>some (.int i)
 | .str x _=>some (.str x)
 | .bytes b _=>some (.byt b)
 | .float b _=>some (.flt b)
 | .ref a=>some (.ref a)
 | .type n=>some (.ty n)
 | _=>none
theorem AF.abs {x:V} {u:Value} (r:AF x u):SI u=some x:=by
 cases x with
 | non=>cases r;rfl
 | bl _=>cases r;rfl
 | int _=>obtain ⟨t,rfl⟩:=r;rfl
 | str _=>obtain ⟨t,rfl⟩:=r;rfl
 | byt _=>obtain ⟨t,rfl⟩:=r;rfl
 | flt _=>obtain ⟨t,rfl⟩:=r;rfl
 | ref _=>cases r;rfl
 | ty _=>cases r;rfl
theorem AF.inj {x y:V} {u:Value} (r:AF x u) (q:AF y u):x=y:=Option.some.inj (r.abs.symm.trans q.abs)
theorem AE.inj:∀{xs ys:List V} {us:List Value},AE xs us->AE ys us->xs=ys
 | _,_,_,.nil,.nil=>rfl
 | _,_,_,.cons r t,.cons r' t'=>by rw [r.inj r',AE.inj t t']
section
variable {X:Cx} {pins:List (Addr × Obj)} {σ:St} {H:Hp} {s:Shared} {a:Addr} {xs ys:List V}
theorem SqL.of {K:PySem.W.Frag} (h:H a=some (.lst xs)):SqL K H a xs:=.inl (.inl h)
theorem SqT.of {K:PySem.W.Frag} (h:H a=some (.tup xs)):SqT K H a xs:=.inl (.inl h)
theorem Inv.list (I:Inv X pins σ H s) (h:SqL X.K H a xs):∃its:List Value,AE xs its/\PlainL s.heap a its.toArray/\xs.length<=sizeLine:=by
 rcases h with h | ⟨o,its,n,hk,hc,hd,hs,hz,r⟩
 ·obtain ⟨z,its,n,r,e⟩:=h.ok I.hok;exact ⟨its,r,⟨_,n,e,rfl,rfl,rfl⟩,z⟩
 ·refine ⟨its.toList,r,⟨o,n,I.kIn a o hk,hc,hd,by simpa using hs⟩,?_⟩;have e:=r.length;simp only [Array.length_toList] at e;ext
theorem Inv.tuple (I:Inv X pins σ H s) (h:SqT X.K H a xs):∃its:List Value,AE xs its/\IsTup s.heap a its.toArray/\xs.length<=sizeLine:=by
 rcases h with h | ⟨o,its,n,hk,hc,hs,hz,r⟩
 ·obtain ⟨z,its,r,p⟩:=h.ok I.hok;exact ⟨its,r,p,z⟩
 ·refine ⟨its.toList,r,⟨o,I.kIn a o hk,hc,n,by simpa using hs⟩,?_⟩;have e:=r.length;simp only [Array.length_toList] at e;ext
theorem Inv.list_inj (I:Inv X pins σ H s) (h:SqL X.K H a xs) (h':SqL X.K H a ys):xs=ys:=by
 obtain ⟨its,r,⟨o,n,e,_,_,d⟩,_⟩:=I.list h;obtain ⟨its',r',⟨o',n',e',_,_,d'⟩,_⟩:=I.list h';rw [e] at e';cases e';rw [d] at d';injection d' with d1 _
 have:its=its':=by simpa using congrArg Array.toList d1
 subst this;exact r.inj r'
theorem Inv.tuple_inj (I:Inv X pins σ H s) (h:SqT X.K H a xs) (h':SqT X.K H a ys):xs=ys:=by
 obtain ⟨its,r,⟨o,e,_,n,d⟩,_⟩:=I.tuple h;obtain ⟨its',r',⟨o',e',_,n',d'⟩,_⟩:=I.tuple h';rw [e] at e';cases e';rw [d] at d';injection d' with d1 _
 have:its=its':=by simpa using congrArg Array.toList d1
 subst this;exact r.inj r'
end
abbrev Cx.wish (X:Cx) (E:Value->Shared->Prop):Cx:={ X with xe:=E }
abbrev Cx.nox (X:Cx):Cx:=X.wish fun _ _=>False
theorem Cx.Ok.wish {X:Cx} (ok:X.Ok) (E:Value->Shared->Prop):(X.wish E).Ok :=
 ⟨ok.mod,ok.kind,ok.glob,ok.blt,ok.above,ok.inj,ok.has,ok.cab,ok.hd,ok.frames,ok.stk,ok.exf,ok.bs,ok.bsz,ok.noex,ok.exfs,ok.funs,ok.frf⟩
theorem Cx.Ok.unwish {X:Cx} {E:Value->Shared->Prop} (ok:(X.wish E).Ok):X.Ok :=
 ⟨ok.mod,ok.kind,ok.glob,ok.blt,ok.above,ok.inj,ok.has,ok.cab,ok.hd,ok.frames,ok.stk,ok.exf,ok.bs,ok.bsz,ok.noex,ok.exfs,ok.funs,ok.frf⟩
section
variable {X:Cx} {pins:List (Addr × Obj)} {σ:St} {H:Hp} {s:Shared} {E:Value->Shared->Prop}
theorem Inv.wish (I:Inv X pins σ H s) (E:Value->Shared->Prop):Inv (X.wish E) pins σ H s:=⟨I.ok.wish E,I.os,I.bare,I.base,I.loc,I.cell,I.free,I.freeC,I.pin,I.hok,I.len⟩
theorem Inv.unwish (I:Inv (X.wish E) pins σ H s):Inv X pins σ H s:=⟨I.ok.unwish,I.os,I.bare,I.base,I.loc,I.cell,I.free,I.freeC,I.pin,I.hok,I.len⟩
theorem SP.unwish {D:EO} {f:Flow} {s':Shared} (h:SP (X.wish E) pins D f s'):SP X pins D f s':=by
 cases f with
 | next=>obtain ⟨σ',H',I,q⟩:=h;exact ⟨σ',H',I.unwish,q⟩
 | brk=>obtain ⟨σ',H',I,q⟩:=h;exact ⟨σ',H',I.unwish,q⟩
 | cont=>obtain ⟨σ',H',I,q⟩:=h;exact ⟨σ',H',I.unwish,q⟩
 | ret u=>obtain ⟨v,σ',H',I,r,q⟩:=h;exact ⟨v,σ',H',I.unwish,r,q⟩
theorem PSs.nox {st:List Stmt} {t:TS} (h:PSs X.nox st t):PSs X st t:=fun pins s σ H D I hw =>
 wpAny_mono (h pins s σ H D (I.wish _) hw) (fun _ _ q=>q.unwish) fun _ _ z=>False.elim z
end
section
variable {X:Cx} {st:Stmt} {rest:List Stmt} {t u:TS} {e:Expr} {te:TE} {pos:Pos}
def SB:TS:=fun D σ H=>D.nx σ H
def SE (t u:TS):TS:=fun D σ H=>t { D with nx:=u D } σ H
theorem Bb:PSs X [] SB:=fun _ _ σ H _ I h=>wpAny_execs_nil ⟨σ,H,I,h⟩
theorem Ad (h1:PS X st t) (h2:PSs X rest u):PSs X (st :: rest) (SE t u):=by
 intro pins s σ H D I h;refine wpAny_execs_cons (thn (h1 pins s σ H { D with nx:=u D } I h) fun f s1 q=>?_)
 cases f with
 | next =>
   obtain ⟨σ',H',I',q⟩:=q;exact h2 pins s1 σ' H' D I' q
 | ret v=>exact q
 | brk=>exact q
 | cont=>exact q
theorem Ah (h1:PS X st t):PSs X [st] t:=by
 intro pins s σ H D I h;refine wpAny_execs_cons (thn (h1 pins s σ H D I h) fun f s1 q=>?_)
 cases f with
 | next=>exact wpAny_execs_nil q
 | ret v=>exact q
 | brk=>exact q
 | cont=>exact q
theorem Inv.quiet {pins:List (Addr × Obj)} {σ:St} {H:Hp} {s:Shared} (I:Inv X pins σ H s):interactive X.env=false:=by simp [interactive,I.ok.kind]
def S8 (te:TE):TS:=fun D σ H=>te σ H fun _ H1=>D.nx σ H1
theorem Bx (he:PE X e te) (hs:swapsWith e none pos.line X.env=pure false:=by rfl):PS X (.Expr e pos) (S8 te):=by
 intro pins s σ H D I h;exact wpAny_Expr_any (thn (he pins s σ H _ I h) fun v s1 ⟨x,H1,I1,r1,q1⟩=>⟨σ,H1,I1,q1⟩) I.quiet hs
def Tg (te:TE):TS:=fun D σ H=>te σ H D.rt
theorem As (he:PE X e te):PS X (.Return (some e) pos) (Tg te):=by
 intro pins s σ H D I h;exact wpAny_Return_some (thn (he pins s σ H _ I h) fun v s1 ⟨x,H1,I1,r1,q1⟩=>⟨x,σ,H1,I1,r1,q1⟩)
def Tc (c:TT) (t u:TS):TS:=fun D σ H=>c σ H fun b H1=>if b=true then t D σ H1 else u D σ H1
theorem BV {c:Expr} {a b:List Stmt} {tc:TT} (hc:PT X c tc) (ha:PSs X a t) (hb:PSs X b u):PS X (.If c a b pos) (Tc tc t u):=by
 intro pins s σ H D I h;refine wpAny_If (thn (hc pins s σ H _ I h) fun d s1 ⟨H1,I1,q1⟩=>?_)
 cases d with
 | true=>exact ha pins s1 σ H1 D I1 q1
 | false=>exact hb pins s1 σ H1 D I1 q1
def RH:TS:=fun _ _ _=>False
theorem KD:PS X st RH:=fun _ _ _ _ _ _ h=>h.elim
end
abbrev TG:=V->St->Hp->(St->Hp->Prop)->Prop
abbrev TGs:=List V->St->Hp->(St->Hp->Prop)->Prop
def PG (X:Cx) (target:Expr) (t:TG):Prop :=
 ∀(pins:List (Addr × Obj)) (s:Shared) (σ:St) (H:Hp) (v:V) (u:Value) (Q:St->Hp->Prop),Inv X pins σ H s->AF v u->t v σ H Q ->
  wpAny (model X.prog X.w) X.A (assign target X.env u) (fun _ s'=>∃σ' H',Inv X pins σ' H' s'/\Q σ' H') X.xe s
def PGs (X:Cx) (ts:List Expr) (t:TGs):Prop :=
 ∀(pins:List (Addr × Obj)) (s:Shared) (σ:St) (H:Hp) (vs:List V) (us:List Value) (Q:St->Hp->Prop),Inv X pins σ H s->AE vs us->t vs σ H Q ->
  wpAny (model X.prog X.w) X.A (assignInOrder ((assignEach ts X.env).map (·.2)) us) (fun _ s'=>∃σ' H',Inv X pins σ' H' s'/\Q σ' H') X.xe s
abbrev QV:=V->V->V->Hp->(Hp->Prop)->Prop
def RV (X:Cx) (t:QV):Prop :=
 ∀(pins:List (Addr × Obj)) (s:Shared) (σ:St) (H:Hp) (o i v:V) (ov iv u:Value) (Q:Hp->Prop),Inv X pins σ H s->AF o ov->AF i iv->AF v u->t o i v H Q ->
  wpAny (model X.prog X.w) X.A (setItem ov iv u) (fun _ s'=>∃H',Inv X pins σ H' s'/\Q H') X.xe s
section
variable {X:Cx} {pos:Pos}
def DT (i:Nat):TG:=fun v σ H Q=>Q (σ.set i (some v)) H
theorem Ar {i:Nat} {x:Str} (hN:X.N.Nodup) (hi:X.N[i]?=some x) (hx:Loc X.env.scope x) (hf:X.fn x=true\/X.env.scope.names.lookup x=some .local:=by first | exact .inl rfl | exact .inr rfl | assumption):PG X (.Name x pos) (DT i):=by
 intro pins s σ H v u Q I r h;exact wpAny_assign_Name (Li I hN hi hx r (fun s' I'=>⟨_,H,I',h⟩) hf)
def Rh:TGs:=fun vs σ H Q=>vs=[]/\Q σ H
def Kk (t:TG) (u:TGs):TGs:=fun vs σ H Q=>∃v r,vs=v :: r/\t v σ H fun σ' H'=>u r σ' H' Q
theorem Cl:PGs X [] Rh:=by
 intro pins s σ H vs us Q I r h;obtain ⟨e,h⟩:=h;subst e
 cases r
 exact assignInOrder_nil ⟨σ,H,I,h⟩
theorem A6 {e:Expr} {es:List Expr} {t:TG} {u:TGs} (h1:PG X e t) (h2:PGs X es u)
 (hs:(assignEach (e :: es) X.env).map (·.2)=assign e X.env :: (assignEach es X.env).map (·.2):=by rfl):PGs X (e :: es) (Kk t u):=by
 intro pins s σ H vs us Q I r h;obtain ⟨v,vr,e1,h⟩:=h;subst e1
 cases r with
 | cons r rr =>
   rw [hs];refine assignInOrder_cons (thn (h1 pins s σ H _ _ _ I r h) fun _ s1 ⟨σ1,H1,I1,q1⟩=>?_);exact h2 pins s1 σ1 H1 _ _ Q I1 rr q1
def Ri (K:PySem.W.Frag) (n:Nat) (t:TGs):TG:=fun v σ H Q=>∃a xs,v=.ref a/\SqT K H a xs/\xs.length=n/\t xs σ H Q
theorem Ds {es:List Expr} {k:Nat} {t:TGs} {n:Nat} (hc:X.calm=true) (h:PGs X es t)
 (hn:(assignEach es X.env).length=n:=by rfl) (hst:(assignEach es X.env).findIdx? (·.1)=none:=by rfl):PG X (.Tuple es k pos) (Ri X.K n t):=by
 intro pins s σ H v u Q I r hw;obtain ⟨a,xs,e1,hq,hl,hw⟩:=hw;subst e1
 cases r
 obtain ⟨its,rv,ht,hz⟩:=I.tuple hq;refine assign_Tuple_tuple (I.ok.hd hc) ht (by simp [hn,<- hl,rv.length]) hst fun h' hx=>?_;have I1:Inv X pins σ H { s with heap:=h' }:=I.kept (t':=s.toks) fun b o e=>hx b o (Nat.ne_of_lt (Heap.lt_size e)) e;exact h pins _ σ H xs _ Q I1 (by simpa using rv) hw
def SK (to ti:TE) (t:QV):TG:=fun v σ H Q=>to σ H fun o H1=>ti σ H1 fun i H2=>t o i v H2 fun H3=>Q σ H3
theorem Em {o i:Expr} {to ti:TE} {t:QV} (ho:PE X o to) (hi:PE X i ti) (hs:RV X t)
 (ha:∀v,assign (.Subscript o i pos) X.env v=(do
  let ov <- holding [v] (eval o X.env)
  let iv <- holding [v,ov] (eval i X.env)
  standAt pos
  holding [v,ov,iv] (setItem ov iv v)
  release [v,ov,iv] []):=by intro _;rfl):PG X (.Subscript o i pos) (SK to ti t):=by
 intro pins s σ H v u Q I r h;rw [ha];refine wpAny_bind (wpAny_holding (thn (ho pins s σ H _ I h) fun ov s1 ⟨x,H1,I1,r1,q1⟩=>?_));refine wpAny_bind (wpAny_holding (thn (hi pins s1 σ H1 _ I1 q1) fun iv s2 ⟨y,H2,I2,r2,q2⟩=>?_));refine wpAny_bind (wpAny_standAt (wpAny_bind (wpAny_holding (thn (hs pins s2 σ H2 x y v ov iv u _ I2 r1 r2 r q2) fun _ s3 ⟨H3,I3,q3⟩=>?_))));exact wpAny_release ⟨σ,H3,I3,q3⟩
def RE (te:TE) (g:TG):TS:=fun D σ H=>te σ H fun x H1=>g x σ H1 D.nx
theorem Cn {tg e:Expr} {te:TE} {g:TG} (he:PE X e te) (hg:PG X tg g) (hs:swapsWithSole [tg] e pos.line X.env=pure false:=by rfl) (hw:swappedStores [tg] e X.env=pure none:=by rfl)
 (h1:(assignEach [tg] X.env).map (·.2)=[assign tg X.env]:=by rfl):PS X (.Assign [tg] e pos) (RE te g):=by
 intro pins s σ H D I h;refine wpAny_Assign_stores (thn (he pins s σ H _ I h) fun v s1 ⟨x,H1,I1,r1,q1⟩=>?_) hs hw;rw [h1];exact thn (hg pins s1 σ H1 x v _ I1 r1 q1) fun _ s2 q=>q
theorem An {i:Nat} {x:Str} {e:Expr} {te:TE} {pos':Pos} (hN:X.N.Nodup) (hi:X.N[i]?=some x) (hx:Loc X.env.scope x) (he:PE X e te) (hs:swapsWith e (some (.Name x pos')) pos.line X.env=pure false:=by rfl) (hf:X.fn x=true\/X.env.scope.names.lookup x=some .local:=by first | exact .inl rfl | exact .inr rfl | assumption) :
 PS X (.Assign [.Name x pos'] e pos) (RE te (DT i)):=by
 intro pins s σ H D I h;refine wpAny_Assign_Name (thn (he pins s σ H _ I h) fun v s1 ⟨y,H1,I1,r1,q1⟩=>?_) hs;exact Li I1 hN hi hx r1 (fun s2 I2=>⟨_,H1,I2,q1⟩) hf
end
section
variable {X:Cx} {pos:Pos}
def RI (c:TT) (tb:TS):TS:=fun D σ H=>∃W:Nat->St->Hp->Prop,(∃m,W m σ H)/\∀m σ H,W m σ H ->
 c σ H fun b H1=>if b=true then ∃N:St->Hp->Prop,(∀σ' H',N σ' H'->∃m',m' < m/\W m' σ' H')/\tb { D with nx:=N,ct:=N,bk:=D.nx } σ H1 else D.nx σ H1
theorem Fl {c:Expr} {body:List Stmt} {tc:TT} {tb:TS} (hp:PassesOwn (model X.prog X.w) X.A X.env X.xe) (hc:PT X c tc) (hb:PSs X body tb):PS X (.While c body [] pos) (RI tc tb):=by
 intro pins s σ H D I h;obtain ⟨W,⟨m0,w0⟩,turn⟩:=h;refine wpAny_While (codeAny_whileLoop (fun n s'=>∃σ' H',Inv X pins σ' H' s'/\W n σ' H') ?_ m0 ⟨σ,H,I,w0⟩);rintro n s1 ⟨σ1,H1,I1,w1⟩;refine wpAny_passesOwn hp (thn (hc pins s1 σ1 H1 _ I1 (turn n σ1 H1 w1)) fun b s2 ⟨H2,I2,q2⟩=>?_)
 cases b with
 | true =>
   obtain ⟨N,hN,q2⟩:=q2;rw [if_pos rfl];refine wpAny_passesOwn hp (thn (hb pins s2 σ1 H2 _ I2 q2) fun f s3 q3=>?_)
   cases f with
   | next =>
     obtain ⟨σ3,H3,I3,n3⟩:=q3;obtain ⟨m',hm,w3⟩:=hN σ3 H3 n3;exact ⟨m',hm,σ3,H3,I3,w3⟩
   | cont =>
     obtain ⟨σ3,H3,I3,n3⟩:=q3;obtain ⟨m',hm,w3⟩:=hN σ3 H3 n3;exact ⟨m',hm,σ3,H3,I3,w3⟩
   | brk=>exact q3
   | ret v=>exact q3
 | false =>
   rw [if_neg Bool.false_ne_true];exact wpAny_execs_nil ⟨σ1,H2,I2,q2⟩
end
structure It where
 go:Nat->Hp->Prop
 yld:Nat->Hp->V->Hp->Prop
 stop:Nat->Hp->Prop
def Gg (X:Cx) (pins:List (Addr × Obj)) (H:Hp) (b:Addr):Prop :=
 H b=none/\b≠X.env.locals/\b ∉ X.fs/\(b∈X.ex\/X.s₀.heap.objs.size<=b)/\(∀x c,X.env.cells.lookup x=some c->c≠b)/\∀p∈X.pn++pins,p.1≠b
theorem Inv.fpOk {X:Cx} {pins:List (Addr × Obj)} {σ:St} {H H':Hp} {s:Shared} {b:Addr} (I:Inv X pins σ H s) (hb:s.heap.objs.size<=b) (hn:H' b=none):Gg X pins H' b:=by
 refine ⟨hn,Nat.ne_of_gt (Nat.lt_of_lt_of_le I.lt hb),I.nofs hb,.inr (Nat.le_trans I.sz hb),fun x c e z=>?_,fun p hp z=>?_⟩
 ·obtain ⟨v,q⟩:=I.cell x c e;exact absurd (Nat.lt_of_lt_of_le q.lt (by rw [z];exact hb)) (Nat.lt_irrefl _)
 ·exact absurd (Nat.lt_of_lt_of_le (Heap.lt_size (I.pin p hp).1) (by rw [z];exact hb)) (Nat.lt_irrefl _)
structure JU (P:Program) (w:World) (K:PySem.W.Frag) (tg:Expr) (J:It) (fp:List Addr) (it:Addr) (tn:Nat->Heap->Prop):Prop where
 mem:it∈fp
 obj:∀i h,tn i h->∀b∈fp,∃o,h.get? b=some o/\∀v,o.data≠.cell v
 keep:∀i h h',tn i h->(∀b∈fp,∀o,h.get? b=some o->h'.get? b=some o)->tn i h'
 item:∀(X:Cx),X.prog=P->X.w=w->X.K=K->X.calm=true->∀(i:Nat) (pins:List (Addr × Obj)) (s:Shared) (σ:St) (H:Hp) (E:Value->Shared->Prop),Inv X pins σ H s->(∀b∈fp,Gg X pins H b)->tn i s.heap->J.go i H ->
  wpAny (model P w) X.A (pyNext (.ref it)) (fun r s1=>∃u,r=some u /\
   wpAny (model P w) X.A (letOwnedTupleGo tg (.ref it) u) (fun _ s2=>∃x H',Inv X pins σ H' s2/\AF x u/\J.yld i H x H'/\tn (i+1) s2.heap/\∀b∈fp,H' b=none) E s1) E s
 done:∀(X:Cx),X.prog=P->X.w=w->X.K=K->X.calm=true->∀(i:Nat) (pins:List (Addr × Obj)) (s:Shared) (σ:St) (H:Hp) (E:Value->Shared->Prop),Inv X pins σ H s->(∀b∈fp,Gg X pins H b)->tn i s.heap->J.stop i H ->
  wpAny (model P w) X.A (pyNext (.ref it)) (fun r s1=>r=none/\Inv X pins σ H s1) E s
 self:∀(A:Around) (i:Nat) (s:Shared) (Q:Value->Shared->Prop) (E:Value->Shared->Prop),tn i s.heap->Q (.ref it) s->wpAny (model P w) A (pyIter (.ref it)) Q E s
abbrev TI:=St->Hp->(It->Hp->Prop)->Prop
def PIE (X:Cx) (pins:List (Addr × Obj)) (σ:St) (tg:Expr) (R:It->Hp->Prop) (itv:Value) (s2:Shared):Prop :=
 ∃(it:Addr) (fp:List Addr) (tn:Nat->Heap->Prop) (J:It) (H':Hp),itv=.ref it/\Inv X pins σ H' s2/\JU X.prog X.w X.K tg J fp it tn/\tn 0 s2.heap/\(∀b∈fp,Gg X pins H' b)/\R J H'
def PI (X:Cx) (tg iter:Expr) (wi:TI):Prop :=
 ∀(pins:List (Addr × Obj)) (s:Shared) (σ:St) (H:Hp) (R:It->Hp->Prop),Inv X pins σ H s->wi σ H R ->
  wpAny (model X.prog X.w) X.A (eval iter X.env) (fun v s1=>wpAny (model X.prog X.w) X.A (pyIter v) (PIE X pins σ tg R) X.xe s1) X.xe s
theorem O3 {M:Model} {A:Around} {E:Value->Shared->Prop} {s:Shared} {tg:Expr} {it:Addr} {u:Value} {o:Obj} {n:String} {vs:Array Value} {Q:Unit->Shared->Prop} (ho:s.heap.get? it=some o) (hc:o.cls=.type n) (hd:o.data=.fields vs)
 (hn:["enumerate","zip","dict_itemiterator","dict_reverseitemiterator","odict_iterator","itertools.zip_longest","itertools.pairwise"].contains n=false) (hQ:Q () s):wpAny M A (letOwnedTupleGo tg (.ref it) u) Q E s:=by
 unfold letOwnedTupleGo
 cases tg <;> first
  | exact wpAny_pure hQ
  | (cases u <;> first
   | exact wpAny_pure hQ
   | (refine wpAny_bind (wpAny_load ho ?_)
      rw [hc,hd];show wpAny M A (if (["enumerate","zip","dict_itemiterator","dict_reverseitemiterator","odict_iterator","itertools.zip_longest","itertools.pairwise"].contains n && vs[0]? == some (rawInt _))=true then _ else _) Q E s;rw [if_neg (by intro h;rw [hn,Bool.false_and] at h;cases h)];exact wpAny_pure hQ))
def Itl (K:PySem.W.Frag) (a:Addr):It :=
 ⟨fun i H=>∃xs x,SqL K H a xs/\xs[i]?=some x,fun i H x H'=>H'=H/\∀xs,SqL K H a xs->xs[i]?=some x,fun i H=>∃xs,SqL K H a xs/\xs.length<=i⟩
def Itt (K:PySem.W.Frag) (a:Addr):It :=
 ⟨fun i H=>∃xs x,SqT K H a xs/\xs[i]?=some x,fun i H x H'=>H'=H/\∀xs,SqT K H a xs->xs[i]?=some x,fun i H=>∃xs,SqT K H a xs/\xs.length<=i⟩
def Itr (lo:Int) (n:Nat):It:=⟨fun i _=>i < n,fun i H x H'=>H'=H/\x=.int (lo+i),fun i _=>n<=i⟩
theorem NS {P:Program} {w:World} {K:PySem.W.Frag} {tg:Expr} (a it:Addr):JU P w K tg (Itl K a) [it] it (fun i h=>h.IsListIter it a i) where
 mem:=by simp
 obj:=fun i h st b hb=>by
  have e:b=it:=by simpa using hb
  subst e;obtain ⟨o,e,c,d⟩:=st;exact ⟨o,e,fun v z=>by rw [d] at z;cases z⟩
 keep:=fun i h h' st k=>st.at fun o e=>k it (by simp) o e
 item:=by
  intro X hP hw hK hc i pins s σ H E I hf st hg;subst hP hw hK;obtain ⟨xs,x,hq,hx⟩:=hg;obtain ⟨its,rv,p,hz⟩:=I.list hq;obtain ⟨u,hu,ru⟩:=rv.get hx;obtain ⟨f0,f1,f2,f3,f4,f5⟩:=hf it (by simp);refine wpAny_pyNext_list_item st p.isList (x:=u) (by simpa using hu) fun h' st' sb=>?_;have I1:Inv X pins σ H { s with heap:=h' }:=I.turned (t':=s.toks) (fun b o hb e=>(sb.2 b hb).trans e) f0 f1 f3 f4 f5;obtain ⟨o,e,c,d⟩:=id st';exact ⟨u,rfl,O3 (s:={ s with heap:=h' }) e c d (by decide) ⟨x,H,I1,ru,⟨rfl,fun ys hy=>by rw [I.list_inj hy hq];exact hx⟩,st',fun b hb=>(hf b hb).1⟩⟩
 done:=by
  intro X hP hw hK hc i pins s σ H E I hf st hg;subst hP hw hK;obtain ⟨xs,hq,hx⟩:=hg;obtain ⟨its,rv,p,hz⟩:=I.list hq;obtain ⟨f0,f1,f2,f3,f4,f5⟩:=hf it (by simp);have hl:=rv.length;exact wpAny_pyNext_list_end (I.ok.hd hc) st p.isList (by simp;ext) fun h' eb=>⟨rfl,I.turned (t':=s.toks) (fun b o hb e=>eb b o hb e) f0 f1 f3 f4 f5⟩
 self:=fun _ _ _ _ _ st h=>wpAny_pyIter_listiter st h
theorem LY {P:Program} {w:World} {K:PySem.W.Frag} {tg:Expr} (a it:Addr):JU P w K tg (Itt K a) [it] it (fun i h=>h.IsTupleIter it a i) where
 mem:=by simp
 obj:=fun i h st b hb=>by
  have e:b=it:=by simpa using hb
  subst e;obtain ⟨o,e,c,d⟩:=st;exact ⟨o,e,fun v z=>by rw [d] at z;cases z⟩
 keep:=fun i h h' st k=>st.at fun o e=>k it (by simp) o e
 item:=by
  intro X hP hw hK hc i pins s σ H E I hf st hg;subst hP hw hK;obtain ⟨xs,x,hq,hx⟩:=hg;obtain ⟨its,rv,p,hz⟩:=I.tuple hq;obtain ⟨u,hu,ru⟩:=rv.get hx;obtain ⟨f0,f1,f2,f3,f4,f5⟩:=hf it (by simp);refine wpAny_pyNext_tuple_item st (show s.heap.IsTuple a its.toArray from p) (x:=u) (by simpa using hu) fun h' st' sb=>?_;have I1:Inv X pins σ H { s with heap:=h' }:=I.turned (t':=s.toks) (fun b o hb e=>(sb.2 b hb).trans e) f0 f1 f3 f4 f5;obtain ⟨o,e,c,d⟩:=id st';exact ⟨u,rfl,O3 (s:={ s with heap:=h' }) e c d (by decide) ⟨x,H,I1,ru,⟨rfl,fun ys hy=>by rw [I.tuple_inj hy hq];exact hx⟩,st',fun b hb=>(hf b hb).1⟩⟩
 done:=by
  intro X hP hw hK hc i pins s σ H E I hf st hg;subst hP hw hK;obtain ⟨xs,hq,hx⟩:=hg;obtain ⟨its,rv,p,hz⟩:=I.tuple hq;obtain ⟨f0,f1,f2,f3,f4,f5⟩:=hf it (by simp);have hl:=rv.length;exact wpAny_pyNext_tuple_end (I.ok.hd hc) st (show s.heap.IsTuple a its.toArray from p) (by simp;ext) fun h' eb=>⟨rfl,I.turned (t':=s.toks) (fun b o hb e=>eb b o hb e) f0 f1 f3 f4 f5⟩
 self:=fun _ _ _ _ _ st h=>wpAny_pyIter_tupleiter st h
theorem LX {P:Program} {w:World} {K:PySem.W.Frag} {tg:Expr} (it:Addr) (lo:Int) (n:Nat):JU P w K tg (Itr lo n) [it] it (fun i h=>IsRangeIter h it (lo+(i:Nat)*1) ((n:Int) - (i:Nat)) 1) where
 mem:=by simp
 obj:=fun i h st b hb=>by
  have e:b=it:=by simpa using hb
  subst e
  exact ⟨_,st,fun v z=>by
   have z':Data.fields _=Data.cell v:=z
   cases z'⟩
 keep:=fun i h h' st k=>k it (by simp) _ st
 item:=by
  intro X hP hw hK hc i pins s σ H E I hf st hg;subst hP hw hK;obtain ⟨f0,f1,f2,f3,f4,f5⟩:=hf it (by simp);have W:=Walks.range (prog:=X.prog) (w:=X.w) (I.ok.hd hc) it lo 1 n;refine W.item i s _ _ hg st fun v h' tk hv st' kk=>?_;obtain ⟨t,rfl⟩:=hv;have I1:Inv X pins σ H { s with heap:=h',toks:=tk }:=I.turned (fun b o hb e=>kk b o (by simpa using hb) e) f0 f1 f3 f4 f5;refine ⟨_,rfl,O3 (s:={ s with heap:=h',toks:=tk }) (n:="range_iterator") st' rfl rfl (by decide) ⟨.int (lo+i),H,I1,⟨t,?_⟩,⟨rfl,rfl⟩,st',fun b hb=>(hf b hb).1⟩⟩;rw [Int.mul_one]
 done:=by
  intro X hP hw hK hc i pins s σ H E I hf st hg;subst hP hw hK;obtain ⟨f0,f1,f2,f3,f4,f5⟩:=hf it (by simp);exact wpAny_pyNext_range_end (I.ok.hd hc) st (by have:n<=i:=hg;ext) fun h' eb=>⟨rfl,I.turned (t':=s.toks) (fun b o hb e=>eb b o hb e) f0 f1 f3 f4 f5⟩
 self:=fun _ _ _ _ _ st h=>wpAny_pyIter_rangeiter st h
end L2
namespace L2
open PySem PySem.Spec PyProof.Rows
section
variable {X:Cx} {tg:Expr}
def QJ (K:PySem.W.Frag) (tl:TE):TI:=fun σ H R=>tl σ H fun x H1=>∃a,x=.ref a/\(∃xs,SqL K H1 a xs)/\R (Itl K a) H1
def SL (K:PySem.W.Frag) (tl:TE):TI:=fun σ H R=>tl σ H fun x H1=>∃a,x=.ref a/\(∃xs,SqT K H1 a xs)/\R (Itt K a) H1
theorem A9 {l:Expr} {tl:TE} (hl:PE X l tl):PI X tg l (QJ X.K tl):=by
 intro pins s σ H R I h;refine thn (hl pins s σ H _ I h) fun v s1 ⟨x,H1,I1,r1,q1⟩=>?_;obtain ⟨a,e,⟨xs,hq⟩,q⟩:=q1;subst e
 cases r1
 obtain ⟨its,rv,p,hz⟩:=I1.list hq;refine wpAny_pyIter_list p.isList ?_;refine ⟨s1.heap.objs.size,[s1.heap.objs.size],_,_,H1,rfl,I1.kept (t':=s1.toks) fun b o e=>Heap.get?_push_of_some _ e,NS a _,⟨_,Heap.get?_push_size _ rfl,rfl,rfl⟩,fun b hb=>?_,q⟩;have e:b=s1.heap.objs.size:=by simpa using hb
 subst e;exact I1.fpOk (Nat.le_refl _) (I1.hok.fresh (Nat.le_refl _))
theorem R4 {l:Expr} {tl:TE} (hl:PE X l tl):PI X tg l (SL X.K tl):=by
 intro pins s σ H R I h;refine thn (hl pins s σ H _ I h) fun v s1 ⟨x,H1,I1,r1,q1⟩=>?_;obtain ⟨a,e,⟨xs,hq⟩,q⟩:=q1;subst e
 cases r1
 obtain ⟨its,rv,p,hz⟩:=I1.tuple hq;refine wpAny_pyIter_tuple (show s1.heap.IsTuple a its.toArray from p) ?_;refine ⟨s1.heap.objs.size,[s1.heap.objs.size],_,_,H1,rfl,I1.kept (t':=s1.toks) fun b o e=>Heap.get?_push_of_some _ e,LY a _,⟨_,Heap.get?_push_size _ rfl,rfl,rfl⟩,fun b hb=>?_,q⟩;have e:b=s1.heap.objs.size:=by simpa using hb
 subst e;exact I1.fpOk (Nat.le_refl _) (I1.hok.fresh (Nat.le_refl _))
theorem KE {pins:List (Addr × Obj)} {σ:St} {H:Hp} {s:Shared} {R:It->Hp->Prop} {E:Value->Shared->Prop} {lo hi:Int} {t u v:Tok} {tk:Nat} (I:Inv X pins σ H s) (h1:-(2 ^ 62)<=lo) (h2:lo < 2 ^ 62) (h3:-(2 ^ 62)<=hi) (h4:hi < 2 ^ 62)
 (q:R (Itr lo (hi - lo).toNat) H):wpAny (model X.prog X.w) X.A (pyIter (.ref s.heap.objs.size)) (PIE X pins σ tg R) E { s with heap:=s.heap.push { cls:=.type "range",data:=.fields #[.int lo t,.int hi u,.int 1 v] },toks:=tk }:=by
 refine wpAny_pyIter_range (IsRange.new ..) (small_one h1 h2 h3 h4) ?_;have I1:Inv X pins σ H { s with heap:=s.heap.push { cls:=.type "range",data:=.fields #[.int lo t,.int hi u,.int 1 v] },toks:=tk }:=I.kept fun b o e=>Heap.get?_push_of_some _ e
 refine ⟨(s.heap.push { cls:=.type "range",data:=.fields #[.int lo t,.int hi u,.int 1 v] }).objs.size,[(s.heap.push { cls:=.type "range",data:=.fields #[.int lo t,.int hi u,.int 1 v] }).objs.size],_,_,H,rfl,
  I1.kept (t':=tk) fun b o e=>Heap.get?_push_of_some _ e,LX _ lo (hi - lo).toNat,?_,fun b hb=>?_,q⟩
 ·have e1:lo+((0:Nat):Int)*1=lo:=by simp
  have e2:(((hi - lo).toNat:Nat):Int) - ((0:Nat):Int)=Builtin.Range.rangeSize lo hi 1:=by rw [rangeSize_one];split <;> ext
  show IsRangeIter _ _ (lo+((0:Nat):Int)*1) ((((hi - lo).toNat:Nat):Int) - ((0:Nat):Int)) 1;rw [e1,e2];exact Heap.get?_push_size _ rfl
 ·have e:b=(s.heap.push { cls:=.type "range",data:=.fields #[.int lo t,.int hi u,.int 1 v] }).objs.size:=by simpa using hb
  subst e;exact I1.fpOk (Nat.le_refl _) (I1.hok.fresh (Nat.le_refl _))
def Sg (ta:TA):TI:=fun σ H R=>ta σ H fun vs H1=>∃j:Int,vs=[.int j]/\-(2 ^ 62)<=j/\j < 2 ^ 62/\R (Itr 0 j.toNat) H1
def Sh (ta:TA):TI:=fun σ H R=>ta σ H fun vs H1=>∃i j:Int,vs=[.int i,.int j]/\(-(2 ^ 62)<=i/\i < 2 ^ 62/\-(2 ^ 62)<=j/\j < 2 ^ 62)/\R (Itr i (j - i).toNat) H1
theorem AM {a:Expr} {ta:TA} {p pos:Pos} (hg:Gl X "range") (hm:X.mg "range"=none) (ha:PA X [a] ta) (hs:starEach [a] X.env=[(false,eval a X.env)]:=by rfl):PI X tg (.Call (.Name "range" p) [a] [] pos) (Sg ta):=by
 intro pins s σ H R I h;refine Call_ (BX I hg hm boot_range (PyProof.Rows.callWith_type1 (thn (ha pos pins s σ H _ I h) fun us s1 ⟨vs,H1,I1,r1,q1⟩=>?_) hs rfl));obtain ⟨j,e,q1,q2,q⟩:=q1;subst e
 cases r1 with
 | cons r rr =>
   cases rr
   obtain ⟨t,rfl⟩:=r;exact call_range_1 (KE I1 (by ext) (by ext) q1 q2 (by simpa using q))
theorem NE {a b:Expr} {ta:TA} {p pos:Pos} (hg:Gl X "range") (hm:X.mg "range"=none) (ha:PA X [a,b] ta) (hs:starEach [a,b] X.env=[(false,eval a X.env),(false,eval b X.env)]:=by rfl) (hs2:starEach [b] X.env=[(false,eval b X.env)]:=by rfl) :
 PI X tg (.Call (.Name "range" p) [a,b] [] pos) (Sh ta):=by
 intro pins s σ H R I h;refine Call_ (BX I hg hm boot_range (PyProof.Rows.callWith_type1 (thn (ha pos pins s σ H _ I h) fun us s1 ⟨vs,H1,I1,r1,q1⟩=>?_) (by rw [hs,hs2]) (by rw [hs2];rfl)));obtain ⟨i,j,e,⟨q1,q2,q3,q4⟩,q⟩:=q1;subst e
 cases r1 with
 | cons r rr =>
   cases rr with
   | cons r' rr =>
     cases rr
     obtain ⟨t,rfl⟩:=r;obtain ⟨t',rfl⟩:=r';exact call_range_2 (KE I1 q1 q2 q3 q4 q)
def SZ (wi:TI) (g:TG) (tb:TS):TS:=fun D σ H=>wi σ H fun J H1=>∃W:Nat->Nat->St->Hp->Prop,(∃m,W 0 m σ H1)/\∀i m σ H,W i m σ H ->
 (J.stop i H/\D.nx σ H)\/(J.go i H/\∃N:St->Hp->Prop,(∀σ' H',N σ' H'->∃m',m' < m/\W (i+1) m' σ' H')/\∀x H',J.yld i H x H'->g x σ H' fun σ2 H2=>tb { D with nx:=N,ct:=N,bk:=D.nx } σ2 H2)
def F5 (fp:List Addr) (h:Heap):List (Addr × Obj):=fp.filterMap fun b=>(h.get? b).map fun o=>(b,o)
theorem C4 {fp:List Addr} {h:Heap} {b:Addr} {o:Obj} (hb:b∈fp) (e:h.get? b=some o):(b,o)∈F5 fp h:=mem_filterMap.mpr ⟨b,hb,by rw [e];rfl⟩
theorem N6 {fp:List Addr} {h:Heap} {p:Addr × Obj} (hp:p∈F5 fp h):p.1∈fp/\h.get? p.1=some p.2:=by
 obtain ⟨b,hb,e⟩:=mem_filterMap.mp hp
 cases q:h.get? b with
 | none=>rw [q] at e;cases e
 | some o =>
   rw [q] at e;have e':(b,o)=p:=Option.some.inj e;subst e';exact ⟨hb,q⟩
theorem Inv.pinned {pins:List (Addr × Obj)} {σ:St} {H:Hp} {s:Shared} {fp:List Addr} (I:Inv X pins σ H s) (hf:∀b∈fp,Gg X pins H b) (ho:∀b∈fp,∃o,s.heap.get? b=some o/\∀v,o.data≠.cell v):Inv X (pins++F5 fp s.heap) σ H s :=
 I.pins_of fun p hp=>(mem_append.mp hp).elim (fun z=>I.pin p (mem_append_right _ z)) fun z=>by
  obtain ⟨hb,e⟩:=N6 z;obtain ⟨f0,f1,f2,_⟩:=hf p.1 hb;obtain ⟨o,e',d⟩:=ho p.1 hb;rw [e] at e';cases e';exact ⟨e,f0,f1,f2,d⟩
theorem Inv.unpinned {pins pl:List (Addr × Obj)} {σ:St} {H:Hp} {s:Shared} (I:Inv X (pins++pl) σ H s):Inv X pins σ H s:=I.pins_of fun p hp=>I.pin p (mem_append_right _ (mem_append_left _ hp))
theorem Bu {iter:Expr} {body:List Stmt} {wi:TI} {g:TG} {tb:TS} {pos:Pos} (hp:PassesOwn (model X.prog X.w) X.A X.env X.xe) (hc:X.calm=true) (hi:PI X tg iter wi) (hg:PG X tg g) (hb:PSs X body tb)
 (hs:∀x,foldedSetIterable iter X.env x=pure x:=by intro _;rfl):PS X (.For tg iter body [] pos) (SZ wi g tb):=by
 intro pins s σ H D I h;refine wpAny_For (thn (hi pins s σ H _ I h) fun v s1 h1=>thn h1 fun itv s2 h2=>?_) hs;obtain ⟨it,fp,tn,J,H2,e,I2,T,st2,f2,W,⟨m0,w0⟩,turn⟩:=h2;subst e;have stat:∀{H':Hp},(∀b∈fp,H' b=none)->∀b∈fp,Gg X pins H' b:=fun hn b hb=>⟨hn b hb,(f2 b hb).2⟩;refine codeAny_forLoop_any (fun n s'=>∃i σ' H',Inv X pins σ' H' s'/\tn i s'.heap/\(∀b∈fp,H' b=none)/\W i n σ' H') ?_ m0 ⟨0,σ,H2,I2,st2,fun b hb=>(f2 b hb).1,w0⟩;rintro n s3 ⟨i,σ3,H3,I3,st3,fr3,w3⟩;rcases turn i n σ3 H3 w3 with ⟨stop,qn⟩ | ⟨go,N,hN,step⟩
 ·refine wpAny_passesOwn hp (thn (T.done X rfl rfl rfl hc i pins s3 σ3 H3 X.xe I3 (stat fr3) st3 stop) fun r s4 ⟨hr,I4⟩=>?_);subst hr;exact wpAny_execs_nil ⟨σ3,H3,I4,qn⟩
 ·refine wpAny_passesOwn hp (thn (T.item X rfl rfl rfl hc i pins s3 σ3 H3 X.xe I3 (stat fr3) st3 go) fun r s4 ⟨u,hr,h4⟩=>?_);subst hr;refine wpAny_passesOwn hp (thn h4 fun _ s5 ⟨x,H5,I5,r5,y5,st5,fr5⟩=>?_);have I5':=I5.pinned (stat fr5) (T.obj _ _ st5);refine wpAny_passesOwn hp (thn (hg _ s5 σ3 H5 x u _ I5' r5 (step x H5 y5)) fun _ s6 ⟨σ6,H6,I6,q6⟩=>?_);refine wpAny_passesOwn hp (thn (hb _ s6 σ6 H6 _ I6 q6) fun f s7 q7=>?_)
  have again:∀{σ7:St} {H7:Hp},Inv X (pins++F5 fp s5.heap) σ7 H7 s7->N σ7 H7->∃m,m < n/\∃i σ' H',Inv X pins σ' H' s7/\tn i s7.heap/\(∀b∈fp,H' b=none)/\W i m σ' H':=fun {σ7 H7} I7 n7=>by
   obtain ⟨m',hm,w7⟩:=hN σ7 H7 n7;refine ⟨m',hm,i+1,σ7,H7,I7.unpinned,T.keep _ _ _ st5 fun b hb o e=>(I7.pin (b,o) (mem_append_right _ (mem_append_right _ (C4 hb e)))).1,fun b hb=>?_,w7⟩;obtain ⟨o,e,d⟩:=T.obj _ _ st5 b hb;exact (I7.pin (b,o) (mem_append_right _ (mem_append_right _ (C4 hb e)))).2.1
  cases f with
  | next=>obtain ⟨σ7,H7,I7,n7⟩:=q7;exact again I7 n7
  | cont=>obtain ⟨σ7,H7,I7,n7⟩:=q7;exact again I7 n7
  | brk=>obtain ⟨σ7,H7,I7,q7⟩:=q7;exact ⟨σ7,H7,I7.unpinned,q7⟩
  | ret v=>obtain ⟨x7,σ7,H7,I7,r7,q7⟩:=q7;exact ⟨x7,σ7,H7,I7.unpinned,r7,q7⟩
end
theorem Bs {K:PySem.W.Frag} {a:Addr} {xs:List V} {g:TG} {tb:TS} {D:EO} {σ:St} {H:Hp} (Pv:Nat->St->Hp->Prop) (h0:Pv 0 σ H) (hl:∀i σ H,i<=xs.length->Pv i σ H->SqL K H a xs)
 (hs:∀i x σ H,xs[i]?=some x->Pv i σ H->g x σ H fun σ2 H2=>tb { D with nx:=Pv (i+1),ct:=Pv (i+1),bk:=D.nx } σ2 H2) (hd:∀σ H,Pv xs.length σ H->D.nx σ H) :
 ∃W:Nat->Nat->St->Hp->Prop,(∃m,W 0 m σ H)/\∀i m σ H,W i m σ H ->
  ((Itl K a).stop i H/\D.nx σ H)\/((Itl K a).go i H/\∃N:St->Hp->Prop,(∀σ' H',N σ' H'->∃m',m' < m/\W (i+1) m' σ' H')/\∀x H',(Itl K a).yld i H x H'->g x σ H' fun σ2 H2=>tb { D with nx:=N,ct:=N,bk:=D.nx } σ2 H2):=by
 refine ⟨fun i m σ H=>m=xs.length - i/\i<=xs.length/\Pv i σ H,⟨xs.length,by simp,Nat.zero_le _,h0⟩,?_⟩;rintro i m σ H ⟨rfl,hi,p⟩;have q:=hl i σ H hi p;by_cases hlt:i < xs.length
 ·refine .inr ⟨⟨xs,xs[i],q,by simp [hlt]⟩,Pv (i+1),fun σ' H' p'=>⟨xs.length - (i+1),by ext,rfl,hlt,p'⟩,fun x H' y=>?_⟩;obtain ⟨e,y⟩:=y;subst e;exact hs i x σ _ (y xs q) p
 ·have e:i=xs.length:=by ext
  subst e;exact .inl ⟨⟨xs,q,Nat.le_refl _⟩,hd σ H p⟩
theorem PP {K:PySem.W.Frag} {a:Addr} {xs:List V} {g:TG} {tb:TS} {D:EO} {σ:St} {H:Hp} (Pv:Nat->St->Hp->Prop) (h0:Pv 0 σ H) (hl:∀i σ H,i<=xs.length->Pv i σ H->SqT K H a xs)
 (hs:∀i x σ H,xs[i]?=some x->Pv i σ H->g x σ H fun σ2 H2=>tb { D with nx:=Pv (i+1),ct:=Pv (i+1),bk:=D.nx } σ2 H2) (hd:∀σ H,Pv xs.length σ H->D.nx σ H) :
 ∃W:Nat->Nat->St->Hp->Prop,(∃m,W 0 m σ H)/\∀i m σ H,W i m σ H ->
  ((Itt K a).stop i H/\D.nx σ H)\/((Itt K a).go i H/\∃N:St->Hp->Prop,(∀σ' H',N σ' H'->∃m',m' < m/\W (i+1) m' σ' H')/\∀x H',(Itt K a).yld i H x H'->g x σ H' fun σ2 H2=>tb { D with nx:=N,ct:=N,bk:=D.nx } σ2 H2):=by
 refine ⟨fun i m σ H=>m=xs.length - i/\i<=xs.length/\Pv i σ H,⟨xs.length,by simp,Nat.zero_le _,h0⟩,?_⟩;rintro i m σ H ⟨rfl,hi,p⟩;have q:=hl i σ H hi p;by_cases hlt:i < xs.length
 ·refine .inr ⟨⟨xs,xs[i],q,by simp [hlt]⟩,Pv (i+1),fun σ' H' p'=>⟨xs.length - (i+1),by ext,rfl,hlt,p'⟩,fun x H' y=>?_⟩;obtain ⟨e,y⟩:=y;subst e;exact hs i x σ _ (y xs q) p
 ·have e:i=xs.length:=by ext
  subst e;exact .inl ⟨⟨xs,q,Nat.le_refl _⟩,hd σ H p⟩
theorem D4 {lo:Int} {n:Nat} {g:TG} {tb:TS} {D:EO} {σ:St} {H:Hp} (Pv:Nat->St->Hp->Prop) (h0:Pv 0 σ H)
 (hs:∀i σ H,i < n->Pv i σ H->g (.int (lo+i)) σ H fun σ2 H2=>tb { D with nx:=Pv (i+1),ct:=Pv (i+1),bk:=D.nx } σ2 H2) (hd:∀σ H,Pv n σ H->D.nx σ H) :
 ∃W:Nat->Nat->St->Hp->Prop,(∃m,W 0 m σ H)/\∀i m σ H,W i m σ H ->
  ((Itr lo n).stop i H/\D.nx σ H)\/((Itr lo n).go i H/\∃N:St->Hp->Prop,(∀σ' H',N σ' H'->∃m',m' < m/\W (i+1) m' σ' H')/\∀x H',(Itr lo n).yld i H x H'->g x σ H' fun σ2 H2=>tb { D with nx:=N,ct:=N,bk:=D.nx } σ2 H2):=by
 refine ⟨fun i m σ H=>m=n - i/\i<=n/\Pv i σ H,⟨n,by simp,Nat.zero_le _,h0⟩,?_⟩;rintro i m σ H ⟨rfl,hi,p⟩;by_cases hlt:i < n
 ·refine .inr ⟨hlt,Pv (i+1),fun σ' H' p'=>⟨n - (i+1),by ext,rfl,hlt,p'⟩,fun x H' y=>?_⟩;obtain ⟨e,y⟩:=y;subst e y;exact hs i σ _ hlt p
 ·have e:i=n:=by ext
  subst e;exact .inl ⟨Nat.le_refl _,hd σ H p⟩
end L2
namespace L2
open PySem PySem.Spec PyProof.Rows
abbrev R2:=V->V->Hp->VK->Prop
def OpR (X:Cx) (f:Value->Value->Sem Value) (r:R2):Prop :=
 ∀(pins:List (Addr × Obj)) (s:Shared) (σ:St) (H:Hp) (x y:V) (v u:Value) (Q:VK),Inv X pins σ H s->AF x v->AF y u->r x y H Q ->
  wpAny (model X.prog X.w) X.A (f v u) (EP X pins σ Q) X.xe s
def UnR (X:Cx) (f:Value->Sem Value) (r:V->Hp->VK->Prop):Prop :=
 ∀(pins:List (Addr × Obj)) (s:Shared) (σ:St) (H:Hp) (x:V) (v:Value) (Q:VK),Inv X pins σ H s->AF x v->r x H Q ->
  wpAny (model X.prog X.w) X.A (f v) (EP X pins σ Q) X.xe s
def Cc (X:Cx) (f:Value) (r:List V->Hp->VK->Prop):Prop :=
 ∀(pins:List (Addr × Obj)) (s:Shared) (σ:St) (H:Hp) (xs:List V) (us:List Value) (Q:VK),Inv X pins σ H s->AE xs us->r xs H Q ->
  wpAny (model X.prog X.w) X.A (call f us) (EP X pins σ Q) X.xe s
def tOp (r:R2) (ta tb:TE):TE:=fun σ H Q=>ta σ H fun x H1=>tb σ H1 fun y H2=>r x y H2 Q
def tUn (r:V->Hp->VK->Prop) (ta:TE):TE:=fun σ H Q=>ta σ H fun x H1=>r x H1 Q
def rI (C:Int->Int->Prop) (g:Int->Int->V):R2:=fun x y H Q=>∃i j,x=.int i/\y=.int j/\C i j/\Q (g i j) H
def rI0 (g:Int->Int->V):R2:=fun x y H Q=>∃i j,x=.int i/\y=.int j/\Q (g i j) H
def rU (g:Int->V):V->Hp->VK->Prop:=fun x H Q=>∃i,x=.int i/\Q (g i) H
section
variable {X:Cx} {a b c:Expr} {ta tb tc:TE} {pos:Pos}
theorem QW (ha:PE X a ta) (hb:PE X b tb) {pins:List (Addr × Obj)} {s:Shared} {σ:St} {H:Hp} {R:V->V->Hp->Prop} (I:Inv X pins σ H s)
 (h:ta σ H fun x H1=>tb σ H1 fun y H2=>R x y H2) {Q:Value->Shared->Prop} {f:Value->Value->Sem Value}
 (hf:∀v u s2 x y H2,Inv X pins σ H2 s2->AF x v->AF y u->R x y H2->wpAny (model X.prog X.w) X.A (f v u) Q X.xe s2) :
 wpAny (model X.prog X.w) X.A (eval a X.env) (fun v s₁=>wpAny (model X.prog X.w) X.A (eval b X.env) (fun u s₂=>wpAny (model X.prog X.w) X.A (f v u) Q X.xe s₂) X.xe s₁) X.xe s:=by
 refine thn (ha pins s σ H _ I h) fun v s1 ⟨x,H1,I1,r1,q1⟩=>?_;refine thn (hb pins s1 σ H1 _ I1 q1) fun u s2 ⟨y,H2,I2,r2,q2⟩=>?_;exact hf v u s2 x y H2 I2 r1 r2 q2
theorem Ai {op:Operator} {r:R2} (ho:OpR X (binaryOp op) r) (ha:PE X a ta) (hb:PE X b tb):PE X (.BinOp a op b pos) (tOp r ta tb):=by
 intro pins s σ H Q I h;exact wpAny_BinOp (QW ha hb I h fun v u s2 x y H2 I2 rx ry q=>ho pins s2 σ H2 x y v u Q I2 rx ry q)
theorem ID {op:UnaryOp} {r:V->Hp->VK->Prop} (ho:UnR X (unaryOp op) r) (ha:PE X a ta):PE X (.UnaryOp op a pos) (tUn r ta):=by
 intro pins s σ H Q I h;exact UnaryOp_ (thn (ha pins s σ H _ I h) fun v s1 ⟨x,H1,I1,r1,q1⟩=>ho pins s1 σ H1 x v Q I1 r1 q1)
theorem opI {f:Value->Value->Sem Value} {C:Int->Int->Prop} {g:Int->Int->Int}
 (rule:∀(i j:Int) (t u:Tok) (s:Shared) (Q:Value->Shared->Prop) (E:Value->Shared->Prop),C i j->Q (.int (g i j) s.toks) { s with toks:=s.toks+1 }->wpAny (model X.prog X.w) X.A (f (.int i t) (.int j u)) Q E s) :
 OpR X f (rI C fun i j=>.int (g i j)):=by
 intro pins s σ H x y v u Q I rx ry h;obtain ⟨i,j,rfl,rfl,hc,q⟩:=h;obtain ⟨t,rfl⟩:=rx;obtain ⟨t',rfl⟩:=ry;exact rule i j t t' s _ _ hc ⟨.int (g i j),H,I.tok _,⟨_,rfl⟩,q⟩
theorem Qj {f:Value->Value->Sem Value} {g:Int->Int->Int}
 (rule:∀(i j:Int) (t u:Tok) (s:Shared) (Q:Value->Shared->Prop) (E:Value->Shared->Prop),Q (.int (g i j) s.toks) { s with toks:=s.toks+1 }->wpAny (model X.prog X.w) X.A (f (.int i t) (.int j u)) Q E s) :
 OpR X f (rI0 fun i j=>.int (g i j)):=by
 intro pins s σ H x y v u Q I rx ry h;obtain ⟨i,j,rfl,rfl,q⟩:=h;obtain ⟨t,rfl⟩:=rx;obtain ⟨t',rfl⟩:=ry;exact rule i j t t' s _ _ ⟨.int (g i j),H,I.tok _,⟨_,rfl⟩,q⟩
theorem Ry {f:Value->Value->Sem Value} {g:Int->Int->Bool}
 (rule:∀(i j:Int) (t u:Tok) (s:Shared) (Q:Value->Shared->Prop) (E:Value->Shared->Prop),Q (.bool (g i j)) s->wpAny (model X.prog X.w) X.A (f (.int i t) (.int j u)) Q E s) :
 OpR X f (rI0 fun i j=>.bl (g i j)):=by
 intro pins s σ H x y v u Q I rx ry h;obtain ⟨i,j,rfl,rfl,q⟩:=h;obtain ⟨t,rfl⟩:=rx;obtain ⟨t',rfl⟩:=ry;exact rule i j t t' s _ _ ⟨.bl (g i j),H,I,rfl,q⟩
def NV (i j:Int):Prop:=0<=j/\j<=1000000/\i.natAbs < 2 ^ 64
theorem LZ (k:Nat):(0:Int)<=2 ^ k:=by
 rw [two_pow_cast];exact Int.natCast_nonneg _
theorem AG:OpR X (binaryOp .Add) (rI0 fun i j=>.int (i+j)):=Qj fun _ _ _ _ _ _ _ q=>add_int q
theorem BF:OpR X (binaryOp .Sub) (rI0 fun i j=>.int (i - j)):=Qj fun _ _ _ _ _ _ _ q=>sub_int q
theorem AL:OpR X (binaryOp .Mod) (rI (fun _ j=>j≠0) fun i j=>.int (i.fmod j)):=opI fun _ _ _ _ _ _ _ hc q=>mod_int' hc q
theorem EF:OpR X (binaryOp .Pow) (rI NV fun i j=>.int (i ^ j.toNat)):=opI fun _ _ _ _ _ _ _ hc q=>pow_int_small hc.1 hc.2.1 hc.2.2 q
theorem Db:OpR X (binaryOp .LShift) (rI NV fun i j=>.int (i*2 ^ j.toNat)):=opI fun _ _ _ _ _ _ _ hc q=>lshift_int_small hc.1 hc.2.1 hc.2.2 q
theorem OM:OpR X (binaryOp .RShift) (rI (fun _ j=>0<=j) fun i j=>.int (i / 2 ^ j.toNat)):=opI fun i j _ _ _ _ _ hc q =>
 rshift_int hc (by rw [Int.fdiv_eq_ediv_of_nonneg i (LZ _)];exact q)
theorem LJ:OpR X (binaryOp .BitAnd) (rI0 fun i j=>.int (Builtin.bitAnd i j)):=Qj fun _ _ _ _ _ _ _ q=>and_int q
theorem So:OpR X (binaryOp .BitOr) (rI0 fun i j=>.int (Builtin.bitOr i j)):=Qj fun _ _ _ _ _ _ _ q=>or_int q
theorem unI {f:Value->Sem Value} {g:Int->Int}
 (rule:∀(i:Int) (t:Tok) (s:Shared) (Q:Value->Shared->Prop) (E:Value->Shared->Prop),Q (.int (g i) s.toks) { s with toks:=s.toks+1 }->wpAny (model X.prog X.w) X.A (f (.int i t)) Q E s) :
 UnR X f (rU fun i=>.int (g i)):=by
 intro pins s σ H x v Q I rx h;obtain ⟨i,rfl,q⟩:=h;obtain ⟨t,rfl⟩:=rx;exact rule i t s _ _ ⟨.int (g i),H,I.tok _,⟨_,rfl⟩,q⟩
theorem Hy:UnR X (unaryOp .USub) (rU fun i=>.int (-i)):=unI fun _ _ _ _ _ q=>neg_int q
theorem RK:UnR X (unaryOp .Invert) (rU fun i=>.int (Builtin.bitNot i)):=unI fun _ _ _ _ _ q=>invert_int q
end
def S0:V->V->Bool
 | .non,.non=>true | .non,.int _=>true | .int _,.non=>true | .non,.bl _=>true | .bl _,.non=>true | .non,.str _=>true | .str _,.non=>true
 | .int _,.int _=>true | .bl _,.bl _=>true | .str _,.str _=>true | .byt _,.byt _=>true
 | .int _,.str _=>true | .str _,.int _=>true | .bl _,.str _=>true | .str _,.bl _=>true
 | _,_=>false
def rEq:R2:=fun x y H Q=>S0 x y=true/\Q (.bl (decide (x=y))) H
def rNe:R2:=fun x y H Q=>S0 x y=true/\Q (.bl (!decide (x=y))) H
theorem Mn {i j:Int}:decide (V.int i=V.int j)=(i == j):=by
 rw [Bool.eq_iff_iff];simp
theorem Op {i j:Bool}:decide (V.bl i=V.bl j)=(i == j):=by
 rw [Bool.eq_iff_iff];simp
theorem Mo {i j:Str}:decide (V.str i=V.str j)=(i == j):=by
 rw [Bool.eq_iff_iff];simp
theorem Ml {i j:Array UInt8}:decide (V.byt i=V.byt j)=(i.toList == j.toList):=by
 rw [Bool.eq_iff_iff]
 cases i
 cases j
 simp
section
variable {X:Cx} {a b c:Expr} {ta tb tc:TE} {pos:Pos}
theorem AV {pins:List (Addr × Obj)} {σ:St} {H:Hp} {s:Shared} {Q:VK} {k k':Bool} (I:Inv X pins σ H s) (q:Q (.bl k) H) (e:k=k'):EP X pins σ Q (.bool k') s:=by
 subst e;exact ⟨.bl k,H,I,rfl,q⟩
theorem FN:OpR X (compareOp .Eq) rEq:=by
 intro pins s σ H x y v u Q I rx ry h;obtain ⟨hs,q⟩:=h
 cases x with
 | non =>
   cases rx
   cases y with
   | non=>cases ry;exact PySem.EqNone.eq_none_none (AV I q (by simp))
   | bl j=>cases ry;exact PySem.EqNone.eq_none_bool (AV I q (by simp))
   | int j=>obtain ⟨t',rfl⟩:=ry;exact PySem.EqNone.eq_none_int (AV I q (by simp))
   | str j=>obtain ⟨t',rfl⟩:=ry;exact PySem.EqNone.eq_none_str (AV I q (by simp))
   | _=>exact absurd (show false=true from hs) Bool.false_ne_true
 | bl i =>
   cases rx
   cases y with
   | non=>cases ry;exact PySem.EqNone.eq_bool_none (AV I q (by simp))
   | bl j=>cases ry;exact eq_bool (AV I q Op)
   | str j=>obtain ⟨t',rfl⟩:=ry;exact PySem.EqMixed.eq_bool_str (AV I q (by simp))
   | _=>exact absurd (show false=true from hs) Bool.false_ne_true
 | int i =>
   obtain ⟨t,rfl⟩:=rx
   cases y with
   | non=>cases ry;exact PySem.EqNone.eq_int_none (AV I q (by simp))
   | int j=>obtain ⟨t',rfl⟩:=ry;exact eq_int (AV I q Mn)
   | str j=>obtain ⟨t',rfl⟩:=ry;exact PySem.EqMixed.eq_int_str (AV I q (by simp))
   | _=>exact absurd (show false=true from hs) Bool.false_ne_true
 | str i =>
   obtain ⟨t,rfl⟩:=rx
   cases y with
   | non=>cases ry;exact PySem.EqNone.eq_str_none (AV I q (by simp))
   | bl j=>cases ry;exact PySem.EqMixed.eq_str_bool (AV I q (by simp))
   | int j=>obtain ⟨t',rfl⟩:=ry;exact PySem.EqMixed.eq_str_int (AV I q (by simp))
   | str j=>obtain ⟨t',rfl⟩:=ry;exact eq_str (AV I q Mo)
   | _=>exact absurd (show false=true from hs) Bool.false_ne_true
 | byt i =>
   obtain ⟨t,rfl⟩:=rx
   cases y with
   | byt j=>obtain ⟨t',rfl⟩:=ry;exact PySem.W.eq_bytes (AV I q Ml)
   | _=>exact absurd (show false=true from hs) Bool.false_ne_true
 | _=>cases y <;> exact absurd (show false=true from hs) Bool.false_ne_true
theorem IC:OpR X (compareOp .NotEq) rNe:=by
 intro pins s σ H x y v u Q I rx ry h;obtain ⟨hs,q⟩:=h
 cases x with
 | non =>
   cases rx
   cases y with
   | non=>cases ry;exact PySem.EqNone.ne_none_none (AV I q (by simp))
   | bl j=>cases ry;exact PySem.EqNone.ne_none_bool (AV I q (by simp))
   | int j=>obtain ⟨t',rfl⟩:=ry;exact PySem.EqNone.ne_none_int (AV I q (by simp))
   | str j=>obtain ⟨t',rfl⟩:=ry;exact PySem.EqNone.ne_none_str (AV I q (by simp))
   | _=>exact absurd (show false=true from hs) Bool.false_ne_true
 | bl i =>
   cases rx
   cases y with
   | non=>cases ry;exact PySem.EqNone.ne_bool_none (AV I q (by simp))
   | bl j=>cases ry;exact ne_bool (AV I q (congrArg not Op))
   | str j=>obtain ⟨t',rfl⟩:=ry;exact PySem.EqMixed.ne_bool_str (AV I q (by simp))
   | _=>exact absurd (show false=true from hs) Bool.false_ne_true
 | int i =>
   obtain ⟨t,rfl⟩:=rx
   cases y with
   | non=>cases ry;exact PySem.EqNone.ne_int_none (AV I q (by simp))
   | int j=>obtain ⟨t',rfl⟩:=ry;exact ne_int (AV I q (congrArg not Mn))
   | str j=>obtain ⟨t',rfl⟩:=ry;exact PySem.EqMixed.ne_int_str (AV I q (by simp))
   | _=>exact absurd (show false=true from hs) Bool.false_ne_true
 | str i =>
   obtain ⟨t,rfl⟩:=rx
   cases y with
   | non=>cases ry;exact PySem.EqNone.ne_str_none (AV I q (by simp))
   | bl j=>cases ry;exact PySem.EqMixed.ne_str_bool (AV I q (by simp))
   | int j=>obtain ⟨t',rfl⟩:=ry;exact PySem.EqMixed.ne_str_int (AV I q (by simp))
   | str j=>obtain ⟨t',rfl⟩:=ry;exact ne_str (AV I q (congrArg not Mo))
   | _=>exact absurd (show false=true from hs) Bool.false_ne_true
 | byt i =>
   obtain ⟨t,rfl⟩:=rx
   cases y with
   | byt j=>obtain ⟨t',rfl⟩:=ry;exact PySem.W.ne_bytes (AV I q (congrArg not Ml))
   | _=>exact absurd (show false=true from hs) Bool.false_ne_true
 | _=>cases y <;> exact absurd (show false=true from hs) Bool.false_ne_true
theorem FQ:OpR X (compareOp .Lt) (rI0 fun i j=>.bl (decide (i < j))):=Ry fun _ _ _ _ _ _ _ q=>lt_int q
theorem FP:OpR X (compareOp .LtE) (rI0 fun i j=>.bl (decide (i<=j))):=Ry fun _ _ _ _ _ _ _ q=>le_int q
theorem FO:OpR X (compareOp .Gt) (rI0 fun i j=>.bl (decide (j < i))):=Ry fun _ _ _ _ _ _ _ q=>gt_int q
theorem Rz:OpR X (compareOp .Is) (fun x y H Q=>y=.non/\Q (.bl (decide (x=.non))) H):=by
 intro pins s σ H x y v u Q I rx ry h;obtain ⟨rfl,q⟩:=h
 cases ry
 refine is_none_gen (AV I q ?_)
 cases x <;> first
  | (cases rx;rfl)
  | (obtain ⟨t,rfl⟩:=rx;rfl)
theorem Qk:OpR X (compareOp .IsNot) (fun x y H Q=>y=.non/\Q (.bl (!decide (x=.non))) H):=by
 intro pins s σ H x y v u Q I rx ry h;obtain ⟨rfl,q⟩:=h
 cases ry
 refine isnot_none_gen (AV I q ?_)
 cases x <;> first
  | (cases rx;rfl)
  | (obtain ⟨t,rfl⟩:=rx;rfl)
theorem AA (b:Expr) {op:CmpOp} (h:op≠.In:=by decide) (h2:op≠.NotIn:=by decide):behindInMarks op b=false:=by
 have e1:(op == CmpOp.In)=false:=by cases op <;> first | rfl | exact absurd rfl h
 have e2:(op == CmpOp.NotIn)=false:=by cases op <;> first | rfl | exact absurd rfl h2
 cases b <;> simp [behindInMarks,e1,e2]
theorem CA {op:CmpOp} {r:R2} (ho:OpR X (compareOp op) r) (ha:PE X a ta) (hb:PE X b tb) (hm:behindInMarks op b=false):PE X (.Compare a [op] [b] pos) (tOp r ta tb):=by
 intro pins s σ H Q I h;exact wpAny_Compare1 (QW ha hb I h fun v u s2 x y H2 I2 rx ry q=>ho pins s2 σ H2 x y v u Q I2 rx ry q) hm
def QQ (t:TE):TT:=fun σ H Q=>t σ H fun x H'=>∃k,x=.bl k/\Q k H'
theorem A7 {op:CmpOp} {r:R2} (ho:OpR X (compareOp op) r) (ha:PE X a ta) (hb:PE X b tb) (hm:behindInMarks op b=false):PT X (.Compare a [op] [b] pos) (QQ (tOp r ta tb)):=by
 intro pins s σ H Q I h
 refine wpAny_isTrue_Compare1 (thn (ha pins s σ H _ I h) fun v s1 ⟨x,H1,I1,r1,q1⟩=>thn (hb pins s1 σ H1 _ I1 q1) fun u s2 ⟨y,H2,I2,r2,q2⟩ =>
  thn (ho pins s2 σ H2 x y v u _ I2 r1 r2 q2) fun c s3 ⟨z,H3,I3,r3,k,e,q3⟩=>?_) hm
 subst e
 cases r3
 exact wpAny_truthy_bool ⟨H3,I3,q3⟩
def Pr (r r':R2) (ta tb tc:TE):TE:=fun σ H Q=>ta σ H fun x H1=>tb σ H1 fun y H2=>r x y H2 fun z H3=>∃k,z=.bl k /\
 (if k=true then tc σ H3 fun w' H4=>r' y w' H4 Q else Q (.bl false) H3)
theorem Fi {op op':CmpOp} {r r':R2} (ho:OpR X (compareOp op) r) (ho':OpR X (compareOp op') r') (ha:PE X a ta) (hb:PE X b tb) (hc:PE X c tc)
 (hm:lastMarks [op,op'] [b,c]=false:=by with_unfolding_all rfl):PE X (.Compare a [op,op'] [b,c] pos) (Pr r r' ta tb tc):=by
 intro pins s σ H Q I h
 refine Compare_chain (thn (ha pins s σ H _ I h) fun v s1 ⟨x,H1,I1,r1,q1⟩=>chain_link (thn (hb pins s1 σ H1 _ I1 q1) fun u s2 ⟨y,H2,I2,r2,q2⟩ =>
  thn (ho pins s2 σ H2 x y v u _ I2 r1 r2 q2) fun d s3 ⟨z,H3,I3,r3,k,e,q3⟩=>?_)) hm
 subst e
 cases r3
 refine wpAny_truthy_bool ?_
 cases k with
 | false=>exact ite_ff ⟨.bl false,H3,I3,rfl,q3⟩
 | true=>exact ite_tt (chain_last (thn (hc pins s3 σ H3 _ I3 q3) fun w' s4 ⟨z',H4,I4,r4,q4⟩=>ho' pins s4 σ H4 y z' u w' Q I4 r2 r4 q4))
theorem OU {op op':CmpOp} {r r':R2} (ho:OpR X (compareOp op) r) (ho':OpR X (compareOp op') r') (ha:PE X a ta) (hb:PE X b tb) (hc:PE X c tc)
 (hm:lastMarks [op,op'] [b,c]=false:=by with_unfolding_all rfl):PT X (.Compare a [op,op'] [b,c] pos) (QQ (Pr r r' ta tb tc)):=by
 intro pins s σ H Q I h
 refine isTrue_chain (thn (ha pins s σ H _ I h) fun v s1 ⟨x,H1,I1,r1,q1⟩=>test_link (thn (hb pins s1 σ H1 _ I1 q1) fun u s2 ⟨y,H2,I2,r2,q2⟩ =>
  thn (ho pins s2 σ H2 x y v u _ I2 r1 r2 q2) fun d s3 ⟨z,H3,I3,r3,k,e,q3⟩=>?_)) hm
 subst e
 cases r3
 refine wpAny_truthy_bool ?_
 cases k with
 | false =>
   obtain ⟨k',e',q'⟩:=q3
   cases e'
   exact ite_ff ⟨H3,I3,q'⟩
 | true =>
   refine ite_tt (test_last (thn (hc pins s3 σ H3 _ I3 q3) fun w' s4 ⟨z',H4,I4,r4,q4⟩=>thn (ho' pins s4 σ H4 y z' u w' _ I4 r2 r4 q4) fun d' s5 ⟨z2,H5,I5,r5,k2,e2,q5⟩=>?_));subst e2
   cases r5
   exact wpAny_truthy_bool ⟨H5,I5,q5⟩
theorem GM:(sizeLine:Nat) < 2 ^ 63:=by rw [sizeLine_eq];decide
theorem DE {x:V} {us:List Value} (r:AE [x] us):∃u,us=[u]/\AF x u:=by
 cases r with
 | cons r1 r2=>cases r2;exact ⟨_,rfl,r1⟩
theorem P5 {x y:V} {us:List Value} (r:AE [x,y] us):∃u w',us=[u,w']/\AF x u/\AF y w':=by
 cases r with
 | cons r1 r2 =>
   cases r2 with
   | cons r3 r4=>cases r4;exact ⟨_,_,rfl,r1,r3⟩
theorem Na (hc:X.calm=true):Cc X (.builtin "max") (fun xs H Q=>∃i j,xs=[.int i,.int j]/\Q (.int (if j > i then j else i)) H):=by
 intro pins s σ H xs us Q I r h;obtain ⟨i,j,rfl,q⟩:=h;obtain ⟨u,w',rfl,⟨t,rfl⟩,⟨t',rfl⟩⟩:=P5 r;refine max_two_ints (I.ok.hd hc) fun h' tk k=>⟨_,H,I.kept k,?_,q⟩;by_cases hj:j > i
 ·rw [if_pos hj,if_pos hj];exact ⟨_,rfl⟩
 ·rw [if_neg hj,if_neg hj];exact ⟨_,rfl⟩
theorem Ig (hc:X.calm=true):Cc X (.builtin "min") (fun xs H Q=>∃i j,xs=[.int i,.int j]/\Q (.int (if j < i then j else i)) H):=by
 intro pins s σ H xs us Q I r h;obtain ⟨i,j,rfl,q⟩:=h;obtain ⟨u,w',rfl,⟨t,rfl⟩,⟨t',rfl⟩⟩:=P5 r;refine min_two_ints (I.ok.hd hc) fun h' tk k=>⟨_,H,I.kept k,?_,q⟩;by_cases hj:j < i
 ·rw [if_pos hj,if_pos hj];exact ⟨_,rfl⟩
 ·rw [if_neg hj,if_neg hj];exact ⟨_,rfl⟩
theorem Ie:Cc X (.type "int") (fun xs H Q=>(∃i,xs=[.int i]/\Q (.int i) H)\/∃k,xs=[.bl k]/\Q (.int (if k then 1 else 0)) H):=by
 intro pins s σ H xs us Q I r h;rcases h with ⟨i,rfl,q⟩ | ⟨k,rfl,q⟩
 ·obtain ⟨u,rfl,t,rfl⟩:=DE r;exact call_int_int ⟨.int i,H,I,⟨_,rfl⟩,q⟩
 ·obtain ⟨u,rfl,r1⟩:=DE r
  cases r1
  exact call_int_bool ⟨.int (if k then 1 else 0),H,I.tok _,⟨_,rfl⟩,q⟩
def RR (K:PySem.W.Frag) (x:V) (H:Hp) (n:Nat):Prop :=
 match x with
 | .str y=>y.length<=sizeLine/\n=y.length
 | .byt y=>y.size<=sizeLine/\n=y.size
 | .ref p=>(∃xs,SqL K H p xs/\n=xs.length)\/∃xs,SqT K H p xs/\n=xs.length
 | _=>False
theorem Oi:Cc X (.builtin "len") (fun xs H Q=>∃x n,xs=[x]/\RR X.K x H n/\Q (.int n) H):=by
 intro pins s σ H xs us Q I r h;obtain ⟨x,n,rfl,e,q⟩:=h;obtain ⟨u,rfl,rx⟩:=DE r;have hl:=GM;have hs:sizeLine=16777216:=sizeLine_eq
 cases x with
 | str y =>
   obtain ⟨t,rfl⟩:=rx;obtain ⟨hy,e'⟩:y.length<=sizeLine/\n=y.length:=e;subst e';exact len_str (by ext) ⟨.int _,H,I.tok _,⟨_,rfl⟩,q⟩
 | byt y =>
   obtain ⟨t,rfl⟩:=rx;obtain ⟨hy,e'⟩:y.size<=sizeLine/\n=y.size:=e;subst e';exact PySem.W.len_bytes (by ext) ⟨.int _,H,I.tok _,⟨_,rfl⟩,q⟩
 | ref p =>
   cases rx
   have e':(∃xs,SqL X.K H p xs/\n=xs.length)\/∃xs,SqT X.K H p xs/\n=xs.length:=e;rcases e' with ⟨xs,hx,e'⟩ | ⟨xs,hx,e'⟩
   ·subst e';obtain ⟨its,r',pl,hz⟩:=I.list hx;have hlen:=r'.length;exact Calls.call_len_list pl.isList (by simp only [size_toArray];ext) ⟨.int xs.length,H,I.tok _,⟨_,by simp only [size_toArray];rw [hlen]⟩,q⟩
   ·subst e';obtain ⟨its,r',pl,hz⟩:=I.tuple hx;have hlen:=r'.length;exact len_tuple pl (by simp only [size_toArray];ext) ⟨.int xs.length,H,I.tok _,⟨_,by simp only [size_toArray];rw [hlen]⟩,q⟩
 | _=>exact (show False from e).elim
end
end L2
namespace L2
open PySem PySem.Spec PyProof.Rows
structure Lr (h:Heap) (x dx C:Addr) (mA:Str->Option Value):Prop where
 obj:h.get? x=some (PySem.W.instObj C dx)
 ns:h.Ns1 dx mA
 ne:dx≠x
theorem N0 {h:Heap} {dx:Addr} {mA:Str->Option Value} (n:h.Ns1 dx mA):∃od,h.get? dx=some od/\∀name,PySem.W.lookIn name od=some (mA name):=by
 obtain ⟨o,es,ep,ho,hd,hk,_,hm⟩:=n;refine ⟨o,ho,fun name=>?_⟩;have e:=hm name;unfold nsFind findBy at e;rw [<- Array.find?_toList] at e;unfold PySem.W.lookIn;rw [hd];dsimp only
 split
 ·rename_i y q
  rw [q] at e;exact congrArg some e
 ·rename_i q
  rw [q] at e
  have a:es.toList.any (·.refKey)=false:=by
   rw [any_eq_false];intro y hy;obtain ⟨z,t,hkey⟩:=hk y (Array.mem_toList_iff.mp hy);simp [DictEntry.refKey,hkey]
  have a':¬ es.toList.any (·.refKey)=true:=by rw [a];exact Bool.false_ne_true
  rw [if_neg a'];exact congrArg some e
theorem Lr.look {h:Heap} {x dx C:Addr} {mA:Str->Option Value} (I:Lr h x dx C mA):∃od,PySem.W.InstAt h x (PySem.W.instObj C dx) C (some od)/\∀name,PySem.W.lookIn name od=some (mA name) :=
 let ⟨od,ho,hl⟩:=N0 I.ns
 ⟨od,⟨I.obj,rfl,rfl,ho⟩,hl⟩
section
variable {prog:Program} {w:World} {A:Around} {E:Value->Shared->Prop} {s:Shared} {K:PySem.W.Frag} {x dx C f:Addr} {mA:Str->Option Value} {name:Str} {v:Value}
theorem PR {expr:Bool} {Q:Value->Shared->Prop} (X:K.In s.heap) (I:Lr s.heap x dx C mA) (hg:PySem.W.plainGet K C name=true) (hh:PySem.W.hasDictIn K C=true)
 (ha:PySem.W.findIn K (.ref C) name=some none) (hv:mA name=some v) (hv':PySem.W.handedIn v=true) (h:Q v { s with toks:=s.toks+1 }) :
 wpAny (model prog w) A (getAttr (.ref x) name expr) Q E s:=by
 obtain ⟨od,J,hl⟩:=I.look;exact PySem.W.get_value X J (PySem.W.plainGet_of hg).1 (PySem.W.findObj_own hh ha rfl (by rw [hl,hv])) hv' h
theorem O2 {pl:Sem Bool} {Q:Value × List Value->Shared->Prop} (X:K.In s.heap) (I:Lr s.heap x dx C mA) (hg:PySem.W.plainGet K C name=true)
 (hf:PySem.W.findIn K (.ref C) name=some (some (.ref f))) (ht:PySem.W.isFn K (.ref f)=true) (hv:mA name=none) (h:Q (.ref f,[.ref x]) s) :
 wpAny (model prog w) A (getMethod (.ref x) name pl) Q E s:=by
 obtain ⟨od,J,hl⟩:=I.look;exact PySem.W.method_fn X J (PySem.W.plainGet_of hg).1 (PySem.W.plainGet_of hg).2 hf (beq_iff_eq.mp ht) (by show (PySem.W.lookIn name od).map (·.isSome)=some false;rw [hl,hv];rfl) h
theorem set_map {ns:List Str} {Q:Unit->Shared->Prop} (X:K.In s.heap) (I:Lr s.heap x dx C mA)
 (hs:PySem.W.findIn K (.ref C) "__setattr__"=some (some (.builtin "object.__setattr__"))) (hp:PySem.W.plainOver K C=true) (ht:PySem.W.takerIn K C name=some none) (hh:PySem.W.hasDictIn K C=true)
 (hw:PySem.Within mA ns) (hsz:ns.length<=sizeLine)
 (h:∀h',Lr h' x dx C (fun y=>if y=name then some v else mA y)->Heap.SameBut dx s.heap h'->Q () { s with heap:=h',toks:=s.toks+2 }) :
 wpAny (model prog w) A (setAttr (.ref x) name v) Q E s:=by
 obtain ⟨od,J,hl⟩:=I.look;refine PySem.W.set_plain X J hs (PySem.W.osa_open (s:={ s with toks:=s.toks+1 }) (r:=none) X J hp ht fun b=>?_);obtain ⟨cd,hc,hd'⟩:=PySem.W.any_some hh;have hx:s.heap.get? x=some ⟨.ref C,some dx,.plain,#[]⟩:=I.obj;refine wpAny_bind (wpAny_pure (wpAny_bind (wpAny_bind (wpAny_loadPart hx (wpAny_bind (PySem.W.Looks.here (s:={ s with toks:=s.toks+1 }) (PySem.W.looks_clsIn X hc) ?_))))));rw [hd'];refine wpAny_pure (a:=some dx) (wpAny_bind (wpAny_pure (wpAny_bind ?_)));refine wpAny_nsSet1 (s:={ s with toks:=s.toks+1 }) I.ns fun h' hn2 hs2=>?_;obtain ⟨oD,esD,epD,hoD,hdD,hcD⟩:=hn2.count (PySem.Within.cons name v hw);refine wpAny_bind (wpAny_lookBehind hoD (by rw [hdD];exact pastItsLine_dict (Nat.le_trans hcD (by rw [length_cons];ext))) ?_);exact wpAny_pure (h _ ⟨(hs2.2 _ (Ne.symm I.ne)).trans I.obj,hn2,I.ne⟩ hs2)
theorem OH {R:Result->Shared->Prop} {vs:List Value} {kw:List (Str × Value)} (X:K.In s.heap) (hm:PySem.W.makesIn K C=true)
 (hi:PySem.W.findIn K (.ref C) "__init__"=some (some (.ref f))) (hf:PySem.W.typeIn K (.ref f)=some (.type "function"))
 (h:codeAny (model prog w) (A.under (.builtin "type.__call__" ⟨.ref C :: vs,kw⟩)) (.call (.ref f) ⟨.ref (s.heap.objs.size+1) :: vs,kw⟩) (PySem.W.InitBack (s.heap.objs.size+1) R)
  { s with heap:=(s.heap.push PySem.W.emptyDict).push (PySem.W.instObj C s.heap.objs.size) }) :
 codeAny (model prog w) A (.call (.ref C) ⟨vs,kw⟩) R s:=by
 obtain ⟨hh,g,d,t,os⟩:=s;exact PySem.W.make_core (PySem.W.makes_of X hm) (PySem.W.looks_findIn X hi) (fun self=>PySem.W.bind_fn X self hf) (.inl rfl) h
end
def putF (f:Str) (v:V):List (Str × V)->List (Str × V)
 | []=>[(f,v)]
 | (g,x) :: r=>if g=f then (g,v) :: r else (g,x) :: putF f v r
theorem FJ (f g:Str) (v:V):∀fs:List (Str × V),(putF f v fs).lookup g=if g=f then some v else fs.lookup g
 | []=>by
   show List.lookup g [(f,v)]=_;by_cases h:g=f
   ·have hb:(g == f)=true:=beq_iff_eq.mpr h;simp only [List.lookup,hb,if_pos h]
   ·have hb:(g == f)=false:=beq_eq_false_iff_ne.mpr h;simp only [List.lookup,hb,if_neg h]
 | (k,x) :: r=>by
   have ih:=FJ f g v r;rw [show putF f v ((k,x) :: r)=(if k=f then (k,v) :: r else (k,x) :: putF f v r) from rfl];by_cases hk:k=f
   ·rw [if_pos hk];by_cases h:g=k
    ·have hb:(g == k)=true:=beq_iff_eq.mpr h;simp only [List.lookup,hb,if_pos (h.trans hk)]
    ·have hb:(g == k)=false:=beq_eq_false_iff_ne.mpr h;simp only [List.lookup,hb,if_neg (fun e:g=f=>h (e.trans hk.symm))]
   ·rw [if_neg hk];by_cases h:g=k
    ·have hb:(g == k)=true:=beq_iff_eq.mpr h;simp only [List.lookup,hb,if_neg (fun e:g=f=>hk (h.symm.trans e))]
    ·have hb:(g == k)=false:=beq_eq_false_iff_ne.mpr h;simp only [List.lookup,hb];exact ih
theorem Fv (f:Str) (v:V):∀fs:List (Str × V),f∈(putF f v fs).map (·.1)/\∀g,g∈fs.map (·.1)->g∈(putF f v fs).map (·.1)
 | []=>⟨by simp [putF],fun g h=>by simp at h⟩
 | (k,x) :: r=>by
   obtain ⟨i1,i2⟩:=Fv f v r;rw [show putF f v ((k,x) :: r)=(if k=f then (k,v) :: r else (k,x) :: putF f v r) from rfl];by_cases hk:k=f
   ·rw [if_pos hk];subst hk;exact ⟨by simp,fun g h=>by simpa using h⟩
   ·rw [if_neg hk];refine ⟨?_,fun g h=>?_⟩
    ·rw [map_cons];exact mem_cons_of_mem _ i1
    ·rw [map_cons] at h ⊢;rcases mem_cons.mp h with e | e
     ·exact mem_cons.mpr (.inl e)
     ·exact mem_cons_of_mem _ (i2 g e)
theorem FH (f:Str) (v:V):∀fs:List (Str × V),(putF f v fs).length<=fs.length+1
 | []=>by simp [putF]
 | (k,x) :: r=>by
   have ih:=FH f v r;rw [show putF f v ((k,x) :: r)=(if k=f then (k,v) :: r else (k,x) :: putF f v r) from rfl];by_cases hk:k=f
   ·rw [if_pos hk,length_cons,length_cons];ext
   ·rw [if_neg hk,length_cons,length_cons];ext
theorem DZ.some_of {v:V} {o:Option Value} (r:DZ (some v) o):∃u,o=some u/\AF v u:=by
 cases o with
 | none=>exact (show False from r).elim
 | some u=>exact ⟨u,rfl,r⟩
theorem DZ.none_of {o:Option Value} (r:DZ none o):o=none:=by
 cases o with
 | none=>rfl
 | some u=>exact (show False from r).elim
theorem Nr {v:V} {u:Value} (r:AF v u):PySem.W.handedIn u=true:=by
 cases v with
 | non=>cases (show u=Value.none from r);rfl
 | bl b=>cases (show u=Value.bool b from r);rfl
 | int i=>obtain ⟨t,e⟩:=(show ∃t,u=Value.int i t from r);cases e;rfl
 | str x=>obtain ⟨t,e⟩:=(show ∃t,u=Value.str x t from r);cases e;rfl
 | byt b=>obtain ⟨t,e⟩:=(show ∃t,u=Value.bytes b t from r);cases e;rfl
 | flt b=>obtain ⟨t,e⟩:=(show ∃t,u=Value.float b t from r);cases e;rfl
 | ref a=>cases (show u=Value.ref a from r);rfl
 | ty n=>cases (show u=Value.type n from r);rfl
section
variable {P:Program} {w:World} {H H':Hp} {h h':Heap} {a C dx:Addr} {fs fs':List (Str × V)}
theorem Gq (hok:HOk P w H h) (e:H a=some (.ins C dx fs)):∃mA,Lr h a dx C mA/\(∀f,DZ (fs.lookup f) (mA f))/\PySem.Within mA (fs.map (·.1))/\fs.length<=1000/\H dx=some (.own a):=by
 obtain ⟨d,z,ne,ob,mA,n,r,q⟩:=(show Bl P w H h a (.ins C dx fs) from hok a _ e);exact ⟨mA,⟨ob,n,ne⟩,r,q,z,d⟩
end
structure Cls (K:PySem.W.Frag) (C:Addr):Prop where
 pg:PySem.W.plainGet K C Str.empty=true
 hd:PySem.W.hasDictIn K C=true
 po:PySem.W.plainOver K C=true
 sa:PySem.W.findIn K (.ref C) "__setattr__"=some (some (.builtin "object.__setattr__"))
theorem Cls.get {K:PySem.W.Frag} {C:Addr} (c:Cls K C) (f:Str):PySem.W.plainGet K C f=true:=c.pg
def Cg (K:PySem.W.Frag) (C:Addr) (f:Str):Prop:=PySem.W.findIn K (.ref C) f=some none
theorem Cg.taker {K:PySem.W.Frag} {C:Addr} {f:Str} (n:Cg K C f):PySem.W.takerIn K C f=some none:=by
 unfold PySem.W.takerIn;rw [show PySem.W.findIn K (.ref C) f=some none from n];rfl
structure JT (K:PySem.W.Frag) (C:Addr) (m:Str) (f:Addr):Prop where
 at_:PySem.W.findIn K (.ref C) m=some (some (.ref f))
 fn:PySem.W.isFn K (.ref f)=true
 kp:PySem.W.keepIn K (.ref f)=true
section
variable {X:Cx} {pins:List (Addr × Obj)} {σ:St} {H:Hp} {s:Shared} {a C dx:Addr} {fs:List (Str × V)} {f:Str} {v:V} {A:Around} {E:Value->Shared->Prop}
theorem L8 {b:Bool} {Q:Value->Shared->Prop} (I:Inv X pins σ H s) (e:H a=some (.ins C dx fs)) (c:Cls X.K C) (n:Cg X.K C f) (l:fs.lookup f=some v)
 (h:∀u s',Inv X pins σ H s'->AF v u->Q u s'):wpAny (model X.prog X.w) A (getAttr (.ref a) f b) Q E s:=by
 obtain ⟨mA,O,r,_,_,_⟩:=Gq I.hok e;obtain ⟨u,hu,ru⟩:=DZ.some_of (v:=v) (o:=mA f) (by rw [<- l];exact r f);exact PR I.kIn O (c.get f) c.hd n hu (Nr ru) (h u _ (I.tok _) ru)
theorem L9 {m:Str} {g:Addr} {pl:Sem Bool} {Q:Value × List Value->Shared->Prop} (I:Inv X pins σ H s) (e:H a=some (.ins C dx fs)) (c:Cls X.K C) (k:JT X.K C m g) (l:fs.lookup m=none)
 (h:Q (.ref g,[.ref a]) s):wpAny (model X.prog X.w) A (getMethod (.ref a) m pl) Q E s:=by
 obtain ⟨mA,O,r,_,_,_⟩:=Gq I.hok e;have hn:mA m=none:=DZ.none_of (by rw [<- l];exact r m);exact O2 I.kIn O (c.get m) k.at_ k.fn hn h
theorem LS {y:V} {u:Value} {Q:Unit->Shared->Prop} (I:Inv X pins σ H s) (e:H a=some (.ins C dx fs)) (c:Cls X.K C) (n:Cg X.K C f) (hl:fs.length < 1000) (ry:AF y u)
 (h:∀s',Inv X pins σ (upd H a (.ins C dx (putF f y fs))) s'->Q () s'):wpAny (model X.prog X.w) A (setAttr (.ref a) f u) Q E s:=by
 obtain ⟨mA,O,r,wi,_,ho⟩:=Gq I.hok e;have hz:(fs.map (·.1)).length<=sizeLine:=by rw [length_map,sizeLine_eq];ext
 refine set_map I.kIn O c.sa c.po n.taker c.hd wi hz fun h' O' sb=>h _ ?_;have hd:∃o,h'.get? dx=some o:=let ⟨o,_,_,e',_⟩:=O'.ns;⟨o,e'⟩;refine I.write (x:=a) (e:=dx) (by rw [e];exact True.intro) (.inr ho) (fun b q hb z=>(sb.2 b hb).trans z) hd ?_;refine ⟨by rw [Aj O.ne];exact ho,?_,O.ne,O'.obj,_,O'.ns,fun g=>?_,fun g hg=>?_⟩
 ·have:=FH f y fs;ext
 ·show DZ ((putF f y fs).lookup g) (if g=f then some u else mA g);rw [FJ];by_cases q:g=f
  ·rw [if_pos q,if_pos q];exact ry
  ·rw [if_neg q,if_neg q];exact r g
 ·by_cases q:g=f
  ·rw [q];exact (Fv f y fs).1
  ·refine (Fv f y fs).2 g (wi g fun z=>hg ?_);show (if g=f then some u else mA g)=none;rw [if_neg q];exact z
theorem Inv.made (I:Inv X pins σ H s):Inv X pins σ (upd (upd H s.heap.objs.size (.own (s.heap.objs.size+1))) (s.heap.objs.size+1) (.ins C s.heap.objs.size []))
 { s with heap:=(s.heap.push PySem.W.emptyDict).push (PySem.W.instObj C s.heap.objs.size) }:=by
 have e1:(s.heap.push PySem.W.emptyDict).get? s.heap.objs.size=some PySem.W.emptyDict:=Heap.get?_push_size s.heap rfl
 have e2:((s.heap.push PySem.W.emptyDict).push (PySem.W.instObj C s.heap.objs.size)).get? (s.heap.objs.size+1)=some (PySem.W.instObj C s.heap.objs.size):=by
  have:=Heap.get?_push_size (s.heap.push PySem.W.emptyDict) (o:=PySem.W.instObj C s.heap.objs.size) rfl;rwa [Heap.size_push] at this
 have e3:(s.heap.push PySem.W.emptyDict).Ns s.heap.objs.size (fun _=>none):=⟨PySem.W.emptyDict,#[],_,e1,rfl,(fun e he=>absurd he (by simp)),fun _=>rfl⟩;have I1:=I.laid (a:=s.heap.objs.size) (o:=.own (s.heap.objs.size+1)) (h':=s.heap.push PySem.W.emptyDict) (t':=s.toks) (fun b u q=>Heap.get?_push_of_some _ q) (Nat.le_refl _) ⟨_,e1⟩;refine I1.laid (a:=s.heap.objs.size+1) (o:=.ins C s.heap.objs.size []) (t':=s.toks) (fun b u q=>Heap.get?_push_of_some _ q) (Nat.le_of_eq (Heap.size_push _ _)) ?_;have ne:s.heap.objs.size≠s.heap.objs.size+1:=Nat.ne_of_lt (Nat.lt_succ_self _);refine ⟨by rw [Aj ne,Ac],Nat.zero_le _,ne,e2,fun _=>none,(Heap.Ns1.of_empty e3).at fun o q=>Heap.get?_push_of_some _ q,fun _=>True.intro,fun y hy=>absurd rfl hy⟩
theorem PC {prog:Program} {w:World} {env:Env} {e:Expr} {f:Str} {pos:Pos} {s:Shared} {Q:Value->Shared->Prop} (hb:attributeBase e f env (eval e env)=eval e env)
 (h:wpAny (model prog w) A (eval e env) (fun o s₁=>wpAny (model prog w) A (getAttr o f true) Q E s₁) E s):wpAny (model prog w) A (eval (.Attribute e f pos) env) Q E s :=
 Attribute_any_ h (by rw [arm_eval_Attribute,hb])
end
def SY (K:PySem.W.Frag) (ta:TE) (f:Str):TE:=fun σ H Q=>ta σ H fun x H1=>∃a C dx fs v,x=.ref a/\H1 a=some (.ins C dx fs)/\Cls K C/\Cg K C f/\fs.lookup f=some v/\Q v H1
def SV (K:PySem.W.Frag) (ta tv:TE) (f:Str):TS:=fun D σ H=>tv σ H fun y H1=>ta σ H1 fun x H2=>∃a C dx fs,x=.ref a/\H2 a=some (.ins C dx fs)/\Cls K C/\Cg K C f/\fs.length < 1000 /\
 D.nx σ (upd H2 a (.ins C dx (putF f y fs)))
section
variable {X:Cx} {o e value:Expr} {f:Str} {pos pos' tpos:Pos} {ta tv:TE}
theorem DK (he:PE X e ta) (hb:attributeBase e f X.env (eval e X.env)=eval e X.env):PE X (.Attribute e f pos) (SY X.K ta f):=by
 intro pins s σ H Q I h;refine PC hb (thn (he pins s σ H _ I h) fun u s1 ⟨x,H1,I1,rx,a,C,dx,fs,v,ex,ea,c,n,l,q⟩=>?_);subst ex;obtain rfl:u=Value.ref a:=rx;exact L8 I1 ea c n l fun u' s2 I2 ru=>⟨v,H1,I2,ru,q⟩
theorem JA (ha:PE X o ta) (hv:PE X value tv) (hs:swapsWith value (some (.Attribute o f pos')) pos.line X.env=pure false):PS X (.Assign [.Attribute o f pos'] value pos) (SV X.K ta tv f):=by
 intro pins s σ H D I h;refine plainObj_wpAny_Assign_Attribute (thn (hv pins s σ H _ I h) fun u s1 ⟨y,H1,I1,ry,q⟩=>thn (ha pins s1 σ H1 _ I1 q) fun ov s2 ⟨x,H2,I2,rx,a,C,dx,fs,ex,ea,c,n,l,q2⟩=>?_) hs;subst ex;obtain rfl:ov=Value.ref a:=rx;exact LS I2 ea c n l ry fun s3 I3=>⟨σ,_,I3,q2⟩
end
section
variable {X:Cx} {pins:List (Addr × Obj)} {σ:St} {H:Hp} {s:Shared} {A:Around} {E:Value->Shared->Prop} {Q:Value->Shared->Prop} {c:Value} {b:Bool}
inductive E5 (K:PySem.W.Frag) (H:Hp):V->Value->Prop where
 | non:E5 K H .non (.type "NoneType")
 | bl (x:Bool):E5 K H (.bl x) (.type "bool")
 | int (i:Int):E5 K H (.int i) (.type "int")
 | str (x:Str):E5 K H (.str x) (.type "str")
 | flt (x:UInt64):E5 K H (.flt x) (.type "float")
 | lst {a:Addr} {xs:List V} (e:H a=some (.lst xs)):E5 K H (.ref a) (.type "list")
 | frz {a:Addr} {o:Obj} {xs:List V} (e:H a=some (.frz o (.lst xs))):E5 K H (.ref a) (.type "list")
 | tup {a:Addr} {xs:List V} (e:H a=some (.tup xs)):E5 K H (.ref a) (.type "tuple")
 | dK {a:Addr} {kvs:List (Key × V)} (e:H a=some (.dK kvs)):E5 K H (.ref a) (.type "dict")
 | dT {a:Addr} {kvs:List (List Key × V)} (e:H a=some (.dT kvs)):E5 K H (.ref a) (.type "dict")
 | ins {a C dx:Addr} {fs:List (Str × V)} (e:H a=some (.ins C dx fs)) (cl:Cls K C) (ha:PySem.W.findIn K (.ref C) "__class__"=some (some (.builtin "object.__class__")))
  (hn:PySem.W.specialIn K (.builtin "object.__class__") "__get__"=some (some (.builtin "getset_descriptor.__get__"))) (htk:PySem.W.takesIn K (.builtin "object.__class__")=some true)
  (hm:PySem.W.mroIn K C (.type "object")=some true):E5 K H (.ref a) (.ref C)
theorem Nv {x:V} {u t:Value} (I:Inv X pins σ H s) (rx:AF x u) (ty:E5 X.K H x t) (e:PySem.W.kitOne X.K t c=some b) (h:∀tk,Q (.bool b) { s with toks:=tk }) :
 wpAny (model X.prog X.w) A (call (.builtin "isinstance") [u,c]) Q E s:=by
 cases ty with
 | non=>cases (show u=Value.none from rx);exact PySem.W.kia_one PySem.W.kitx_none I.kIn True.intro e (fun z=>by cases z) h
 | bl y=>cases (show u=Value.bool y from rx);exact PySem.W.kia_one PySem.W.kitx_bool I.kIn True.intro e (fun z=>by cases z) h
 | int i=>obtain ⟨t,q⟩:=(show ∃t,u=Value.int i t from rx);cases q;exact PySem.W.kia_one PySem.W.kitx_int I.kIn True.intro e (fun z=>by cases z) h
 | str y=>obtain ⟨t,q⟩:=(show ∃t,u=Value.str y t from rx);cases q;exact PySem.W.kia_one PySem.W.kitx_str I.kIn True.intro e (fun z=>by cases z) h
 | flt y=>obtain ⟨t,q⟩:=(show ∃t,u=Value.float y t from rx);cases q;exact PySem.W.kia_one PySem.W.kitx_float I.kIn True.intro e (fun z=>by cases z) h
 | @lst a xs ea =>
   cases (show u=Value.ref a from rx)
   obtain ⟨_,_,n,_,h1⟩:=(show Bl X.prog X.w H s.heap a (.lst xs) from I.hok a _ ea);exact PySem.W.kia_one PySem.W.kitx_list I.kIn ⟨_,h1,rfl⟩ e (fun z=>by cases z) h
 | @frz a ob xs ea =>
   cases (show u=Value.ref a from rx)
   obtain ⟨_,_,_,n,_,h1⟩:=(show Bl X.prog X.w H s.heap a (.frz ob (.lst xs)) from I.hok a _ ea);exact PySem.W.kia_one PySem.W.kitx_list I.kIn ⟨_,h1,rfl⟩ e (fun z=>by cases z) h
 | @tup a xs ea =>
   cases (show u=Value.ref a from rx)
   obtain ⟨_,_,_,p⟩:=(show Bl X.prog X.w H s.heap a (.tup xs) from I.hok a _ ea);obtain ⟨o,h1,h2,_⟩:=p;exact PySem.W.kia_one PySem.W.kitx_tuple I.kIn ⟨o,h1,h2⟩ e (fun z=>by cases z) h
 | @dK a kvs ea =>
   cases (show u=Value.ref a from rx)
   obtain ⟨_,_,vs,_,p⟩:=(show Bl X.prog X.w H s.heap a (.dK kvs) from I.hok a _ ea);obtain ⟨o,es,ep,h1,h2,_⟩:=p;exact PySem.W.kia_one PySem.W.kitx_dict I.kIn ⟨o,h1,h2.1⟩ e (fun z=>by cases z) h
 | @dT a kvs ea =>
   cases (show u=Value.ref a from rx)
   obtain ⟨_,_,xs,_,o,es,ep,h1,h2,_⟩:=(show Bl X.prog X.w H s.heap a (.dT kvs) from I.hok a _ ea);exact PySem.W.kia_one PySem.W.kitx_dict I.kIn ⟨o,h1,h2.1⟩ e (fun z=>by cases z) h
 | @ins a C dx fs ea cl ha hn htk hm =>
   cases (show u=Value.ref a from rx)
   obtain ⟨mA,O,_⟩:=Gq I.hok ea;obtain ⟨od,J,_⟩:=O.look;exact PySem.W.kia_one (PySem.W.kitx_own (cl.get _) cl.hd ha hn htk hm) I.kIn J e (fun z=>by cases z) h
end
end L2
namespace L2
open PySem PySem.Spec PyProof.Rows
structure CB (k:Nat) (A:Around):Prop where
 hd:A.handled=none
 dp:A.depth+3*k+5 < recursionLimit
 un:A.units+16*k+200 < cLine
theorem CB.mono {j k:Nat} {A:Around} (r:CB k A) (h:j<=k):CB j A:=⟨r.hd,by have:=r.dp;ext,by have:=r.un;ext⟩
theorem CB.deeper {k:Nat} {A:Around} (r:CB (k+1) A) (env:Env):CB k (A.deeper env) :=
 ⟨r.hd,by have:=r.dp;show A.depth+1+3*k+5 < _;ext,by have:=r.un;show A.units+3+16*k+200 < _;ext⟩
theorem LE {A:Around} {C:Addr} {us:List Value} {kw:List (Str × Value)}:(A.under (.builtin "type.__call__" ⟨.ref C :: us,kw⟩)).depth=A.depth+1:=by
 first | rfl | simp [Around.under,Code.weight,Code.isCreation,Code.isGuard,Code.isCaller,Code.frames,Code.isFrame,guardIds]
theorem LF {A:Around} {C:Addr} {us:List Value} {kw:List (Str × Value)}:(A.under (.builtin "type.__call__" ⟨.ref C :: us,kw⟩)).units=A.units+1:=by
 first | rfl | simp [Around.under,Code.cUnits,Code.frames,Code.isFrame]
theorem CB.make {k:Nat} {A:Around} (r:CB (k+1) A) (C:Addr) (us:List Value) (kw:List (Str × Value)):CB k (A.under (.builtin "type.__call__" ⟨.ref C :: us,kw⟩)) :=
 ⟨r.hd,by have:=r.dp;rw [LE];ext,by have:=r.un;rw [LF];ext⟩
theorem CB.depth {k:Nat} {A:Around} (r:CB k A):A.depth < recursionLimit:=by have:=r.dp;ext
theorem CB.units {k:Nat} {A:Around} (r:CB k A):A.units+64 < cLine:=by have:=r.un;ext
def Te:TA:=fun _ H Q=>Q [] H
def S6 (ta:TE) (tr:TA):TA:=fun σ H Q=>ta σ H fun x H1=>tr σ H1 fun xs H2=>Q (x :: xs) H2
section
variable {X:Cx} {e:Expr} {es:List Expr} {te:TE} {t:TA} {pos:Pos}
theorem Ab:PA X [] Te:=fun _ _ _ _ H Q I h=>Calls.spliced_nil ⟨[],H,I,.nil,h⟩
theorem Aa (ha:PE X e te) (hr:PA X es t) (hs:starEach (e :: es) X.env=(false,eval e X.env) :: starEach es X.env:=by rfl):PA X (e :: es) (S6 te t):=by
 intro pos pins s σ H Q I h;rw [hs];show wpAny _ _ (spliced ((false,eval e X.env) :: backTo pos (starEach es X.env))) _ _ s;refine Calls.spliced_cons (thn (ha pins s σ H _ I h) fun u s1 ⟨x,H1,I1,r1,q1⟩=>?_);exact thn (hr pos pins s1 σ H1 _ I1 q1) fun us s2 ⟨xs,H2,I2,r2,q2⟩=>⟨x :: xs,H2,I2,.cons r1 r2,q2⟩
def Ti (t:TA):TE:=fun σ H Q=>t σ H fun xs H1=>xs.length<=sizeLine/\∀p,H1 p=none->Q (.ref p) (upd H1 p (.tup xs))
def Td (t:TA):TE:=fun σ H Q=>t σ H fun xs H1=>xs.length<=sizeLine/\∀p,H1 p=none->Q (.ref p) (upd H1 p (.lst xs))
theorem AX {x1} (h:PA X es t):PE X (.Tuple es x1 pos) (Ti t):=by
 intro pins s σ H Q I hq;refine wpAny_Tuple_spliced (thn (h pos pins s σ H _ I hq) fun us s1 ⟨xs,H1,I1,r,z,q⟩=>⟨by rw [<- r.length];exact z,?_⟩);have hf:H1 s1.heap.objs.size=none:=I1.hok.fresh (Nat.le_refl _);refine ⟨.ref s1.heap.objs.size,upd H1 s1.heap.objs.size (.tup xs),I1.laid (t':=s1.toks) (fun b u e=>Heap.get?_push_of_some _ e) (Nat.le_refl _) ?_,rfl,q _ hf⟩;exact ⟨z,us,r,⟨_,Heap.get?_push_size _ rfl,rfl,_,rfl⟩⟩
theorem Av (h:PA X es t):PE X (.List es pos) (Td t):=by
 intro pins s σ H Q I hq;refine wpAny_List_spliced (thn (h pos pins s σ H _ I hq) fun us s1 ⟨xs,H1,I1,r,z,q⟩=>⟨by rw [<- r.length];exact z,?_⟩);have hf:H1 s1.heap.objs.size=none:=I1.hok.fresh (Nat.le_refl _);refine ⟨.ref s1.heap.objs.size,upd H1 s1.heap.objs.size (.lst xs),I1.laid (t':=s1.toks) (fun b u e=>Heap.get?_push_of_some _ e) (Nat.le_refl _) ?_,rfl,q _ hf⟩;exact ⟨z,us,0,r,Heap.get?_push_size _ rfl⟩
end
abbrev Sp:=List V->Hp->VK->XK->Prop
abbrev CXT:=List Env->Hp->Shared->XK->Value->Shared->Prop
structure Lp (P:Program) (w:World) (K:PySem.W.Frag) (mg:Str->Option Value) (base:Heap) (A:Around) (outer:List Env) (s:Shared) (H:Hp):Prop where
 frames:A.frames=some outer
 mod:Mod K mg base
 bs:∀b o,base.get? b=some o->s.heap.get? b=some o/\H b=none
 bsz:base.objs.size<=s.heap.objs.size
 funs:s.heap.FunFrames base outer
 frf:∀b∈frs outer,H b=none
 hok:HOk P w H s.heap
 bare:AllBare s.gens
def CE (outer:List Env) (P:Program) (w:World) (H:Hp) (s:Shared) (Q:VK) (u:Value) (s':Shared):Prop :=
 ∃v H',s'.os=s.os/\AllBare s'.gens/\Un (frs outer) [] H H' s.heap s'.heap/\HOk P w H' s'.heap/\AF v u/\Q v H'
def CR (CX:CXT) (outer:List Env) (P:Program) (w:World) (H:Hp) (s:Shared) (Q:VK) (E:XK) (r:Result) (s':Shared):Prop :=
 match r with
 | .ok (.ret u)=>CE outer P w H s Q u s'
 | .ok _=>False
 | .error e=>CX outer H s E e s'
structure AZ (P:Program) (w:World) (K:PySem.W.Frag) (mg:Str->Option Value) (base:Heap) (CX:CXT) (k:Nat) (f:Addr) (fd:FuncData) (ps:List Str) (sp:Sp):Prop where
 len:∀vs H Q E,sp vs H Q E->vs.length=ps.length
 run:∀(A:Around) (outer:List Env) (s:Shared) (H:Hp) (args:Args) (us:List Value) (vs:List V) (Q:VK) (E:XK),CB k A->Lp P w K mg base A outer s H->BindsTo s fd args (ps.zip us)->AE vs us->sp vs H Q E ->
  codeAny (model P w) A (.call (.ref f) args) (CR CX outer P w H s Q E) s
theorem Lp.make {P:Program} {w:World} {K:PySem.W.Frag} {mg:Str->Option Value} {base:Heap} {A:Around} {outer:List Env} {s:Shared} {H:Hp} (e:Lp P w K mg base A outer s H) (C:Addr) (us:List Value) (kw:List (Str × Value)) :
 Lp P w K mg base (A.under (.builtin "type.__call__" ⟨.ref C :: us,kw⟩)) outer s H:=⟨by first | exact e.frames | (simpa [Around.under,Code.envs,Code.isFrame,pushEnvs] using e.frames),e.mod,e.bs,e.bsz,e.funs,e.frf,e.hok,e.bare⟩
section
variable {X:Cx} {pins:List (Addr × Obj)} {σ:St} {H:Hp} {s s':Shared}
theorem Inv.env0 (I:Inv X pins σ H s):Lp X.prog X.w X.K X.mg X.base X.A X.stack s H :=
 ⟨I.ok.frames,I.ok.mod,I.bs,Nat.le_trans I.ok.bsz I.sz,I.stack,I.stkFree,I.hok,I.bare⟩
theorem Inv.after {Q:VK} {u:Value} (I:Inv X pins σ H s) (h:CE X.stack X.prog X.w H s Q u s'):EP X pins σ Q u s':=by
 obtain ⟨v,H',os,bare,un,hok,r,q⟩:=h;obtain ⟨hh,g,d,t,os'⟩:=s';obtain rfl:os'=s.os:=os;exact ⟨v,H',I.call (h':=hh) (g':=g) (d':=d) (t':=t) (ch:=[]) un hok bare (fun b z=>absurd z (by simp)),r,q⟩
end
def S5 (sp:Sp) (dvs:List V) (E:XK) (t:TA):TE:=fun σ H Q=>t σ H fun vs H1=>sp (vs++dvs) H1 Q E
def SA (C:Addr) (m:Str) (sp:Sp) (dvs:List V) (E:XK) (ta:TE) (t:TA):TE:=fun σ H Q=>ta σ H fun x H1=>∃a dx fs,x=.ref a/\H1 a=some (.ins C dx fs)/\fs.lookup m=none /\
 t σ H1 fun vs H2=>sp (x :: (vs++dvs)) H2 Q E
def S9 (C:Addr) (sp:Sp) (dvs:List V) (E:XK) (t:TA):TE:=fun σ H Q=>t σ H fun vs H1=>∀x dx,H1 x=none->H1 dx=none->dx≠x ->
 sp (.ref x :: (vs++dvs)) (upd (upd H1 dx (.own x)) x (.ins C dx [])) (fun v H2=>v=.non/\Q (.ref x) H2) E
def AB (K:PySem.W.Frag) (fd:FuncData) (ps:List Str) (ds:List Value):Prop :=
 ∀(s:Shared) (us:List Value),K.In s.heap->(us++ds).length=ps.length->BindsTo s fd ⟨us,[]⟩ (ps.zip (us++ds))
theorem AB.all {K:PySem.W.Frag} {fd:FuncData} {ps:List Str} (h:∀us:List Value,us.length=ps.length->bindArgs fd ⟨us,[]⟩=pure (ps.zip us)):AB K fd ps []:=fun s us _ hl=>by
 rw [append_nil] at hl ⊢;exact .of_eq (h us hl)
def Fp (CX:CXT) (X:Cx) (E:XK):Prop:=∀(pins:List (Addr × Obj)) (σ:St) (H:Hp) (s:Shared) (e:Value) (s':Shared),Inv X pins σ H s->CX X.stack H s E e s'->X.xe e s'
section
variable {X:Cx} {CX:CXT} {k:Nat} {f C:Addr} {fd:FuncData} {ps:List Str} {sp:Sp} {dvs:List V} {ds:List Value} {E:XK} {x m:Str} {p pos apos:Pos} {e o:Expr} {es:List Expr} {ta:TE} {t:TA}
theorem Pe {pins:List (Addr × Obj)} {σ:St} {H:Hp} {s:Shared} {Q:VK} {us:List Value} {vs:List V} (F:AZ X.prog X.w X.K X.mg X.base CX k f fd ps sp) (hr:CB k X.A) (hb:AB X.K fd ps ds) (hd:AE dvs ds) (hx:Fp CX X E)
 (I:Inv X pins σ H s) (r:AE vs us) (h:sp (vs++dvs) H Q E):wpAny (model X.prog X.w) X.A (call (.ref f) us) (EP X pins σ Q) X.xe s:=by
 have r2:AE (vs++dvs) (us++ds):=r.append hd;have hl:(us++ds).length=ps.length:=by rw [<- r2.length];exact F.len _ _ _ _ h
 refine wpAny_call (codeAny_mono (F.run X.A X.stack s H ⟨us,[]⟩ (us++ds) (vs++dvs) Q E hr I.env0 (hb s us I.kIn hl) r2 h) fun r s' hq=>?_)
 cases r with
 | error e=>exact hx pins σ H s e s' I hq
 | ok fl =>
   cases fl with
   | ret u=>exact I.after hq
   | next=>exact False.elim hq
   | brk=>exact False.elim hq
   | cont=>exact False.elim hq
theorem Am (F:AZ X.prog X.w X.K X.mg X.base CX k f fd ps sp) (hr:CB k X.A) (hg:Gl X x) (hm:X.mg x=some (.ref f)) (hk:PySem.W.keepIn X.K (.ref f)=true) (hb:AB X.K fd ps ds) (hd:AE dvs ds) (hx:Fp CX X E)
 (ha:PA X (e :: es) t) (hdb:(x == ("__debug__":Str))=false:=by decide) (he:starEach (e :: es) X.env=(false,eval e X.env) :: starEach es X.env:=by rfl) (hpl:(backTo pos (starEach es X.env)).any (·.1)=false:=by rfl) :
 PE X (.Call (.Name x p) (e :: es) [] pos) (S5 sp dvs E t):=by
 intro pins s σ H Q I h;refine wpAny_Call_Name_kw (Jn I hg hm ?_ hdb);refine PySem.W.callWith_K (h₀:=X.base) I.ok.mod.kin hk (thn (ha pos pins s σ H _ I h) fun us s1 ⟨vs,H1,I1,r,q⟩=>⟨I1.kIn,?_⟩) he hpl;exact Pe F hr hb hd hx I1 r q
theorem B0 {pl:Sem Bool} (he:PE X o ta) (c:Cls X.K C) (hm:JT X.K C m f) (F:AZ X.prog X.w X.K X.mg X.base CX k f fd ps sp) (hr:CB k X.A) (hb:AB X.K fd ps ds) (hd:AE dvs ds) (hx:Fp CX X E) (ha:PA X (e :: es) t)
 (hst:starEach (e :: es) X.env=(false,eval e X.env) :: starEach es X.env:=by rfl) (hpl:(backTo pos (starEach es X.env)).any (·.1)=false:=by rfl)
 (ht:eval (.Call (.Attribute o m apos) (e :: es) [] pos) X.env=(do
  let ov <- eval o X.env
  standAt apos.atName
  let (f,first) <- holding [ov] (getMethod ov m pl)
  callWith pos f first (backTo pos (starEach (e :: es) X.env)) (backToKw pos (keywordEach [] X.env))):=by rfl) :
 PE X (.Call (.Attribute o m apos) (e :: es) [] pos) (SA C m sp dvs E ta t):=by
 intro pins s σ H Q I h;refine PySem.W.methodCall_KW (pl:=pl) (thn (he pins s σ H _ I h) fun u s1 ⟨x,H1,I1,rx,a,dx,fs,ex,ea,l,q⟩=>?_) ht;subst ex;obtain rfl:u=Value.ref a:=rx;refine L9 I1 ea c hm l ?_;refine PySem.W.callWith_K (first:=[.ref a]) (h₀:=X.base) I.ok.mod.kin hm.kp (thn (ha pos pins s1 σ H1 _ I1 q) fun us s2 ⟨vs,H2,I2,r,q2⟩=>⟨I2.kIn,?_⟩) hst hpl;exact Pe (us:=.ref a :: us) (vs:=.ref a :: vs) F hr hb hd hx I2 (.cons rfl r) q2
structure Mk (K:PySem.W.Frag) (C f:Addr):Prop where
 makes:PySem.W.makesIn K C=true
 init:PySem.W.findIn K (.ref C) "__init__"=some (some (.ref f))
 fn:PySem.W.isFn K (.ref f)=true
 kp:PySem.W.keepIn K (.ref C)=true
theorem Pf {pins:List (Addr × Obj)} {σ:St} {H:Hp} {s:Shared} {Q:VK} {us:List Value} {vs:List V} (M:Mk X.K C f) (F:AZ X.prog X.w X.K X.mg X.base CX k f fd ps sp) (hr:CB (k+1) X.A) (hb:AB X.K fd ps ds) (hd:AE dvs ds)
 (hx:Fp CX X E) (I:Inv X pins σ H s) (r:AE vs us)
 (h:∀x dx,H x=none->H dx=none->dx≠x->sp (.ref x :: (vs++dvs)) (upd (upd H dx (.own x)) x (.ins C dx [])) (fun v H2=>v=.non/\Q (.ref x) H2) E) :
 wpAny (model X.prog X.w) X.A (call (.ref C) us) (EP X pins σ Q) X.xe s:=by
 have hq:=h (s.heap.objs.size+1) s.heap.objs.size (I.hok.fresh (Nat.le_succ _)) (I.hok.fresh (Nat.le_refl _)) (Nat.ne_of_lt (Nat.lt_succ_self _));have I2:=Inv.made (C:=C) I;have r2:AE (V.ref (s.heap.objs.size+1) :: (vs++dvs)) (Value.ref (s.heap.objs.size+1) :: (us++ds)):=.cons rfl (r.append hd)
 have hl:(Value.ref (s.heap.objs.size+1) :: us++ds).length=ps.length:=by
  have e:=r2.length;rw [F.len _ _ _ _ hq] at e;exact e.symm
 refine wpAny_call (OH (f:=f) I.kIn M.makes M.init (beq_iff_eq.mp M.fn) (codeAny_mono (F.run _ X.stack _ _ ⟨Value.ref (s.heap.objs.size+1) :: us,[]⟩ (Value.ref (s.heap.objs.size+1) :: (us++ds)) _ _ E (hr.make C us [])
  (I2.env0.make C us []) (hb _ (Value.ref (s.heap.objs.size+1) :: us) I2.kIn hl) r2 hq) fun r s' hq'=>?_))
 cases r with
 | error e=>exact hx pins σ _ _ e s' I2 hq'
 | ok fl =>
   cases fl with
   | ret u =>
     obtain ⟨v,H',I3,rv,ev,q3⟩:=I2.after hq';subst ev;exact ⟨rv,⟨V.ref (s.heap.objs.size+1),H',I3,rfl,q3⟩⟩
   | next=>exact False.elim hq'
   | brk=>exact False.elim hq'
   | cont=>exact False.elim hq'
theorem Gs (M:Mk X.K C f) (F:AZ X.prog X.w X.K X.mg X.base CX k f fd ps sp) (hr:CB (k+1) X.A) (hg:Gl X x) (hm:X.mg x=some (.ref C)) (hb:AB X.K fd ps ds) (hd:AE dvs ds) (hx:Fp CX X E)
 (ha:PA X (e :: es) t) (hdb:(x == ("__debug__":Str))=false:=by decide) (he:starEach (e :: es) X.env=(false,eval e X.env) :: starEach es X.env:=by rfl) (hpl:(backTo pos (starEach es X.env)).any (·.1)=false:=by rfl) :
 PE X (.Call (.Name x p) (e :: es) [] pos) (S9 C sp dvs E t):=by
 intro pins s σ H Q I h;refine wpAny_Call_Name_kw (Jn I hg hm ?_ hdb);refine PySem.W.callWith_K (h₀:=X.base) I.ok.mod.kin M.kp (thn (ha pos pins s σ H _ I h) fun us s1 ⟨vs,H1,I1,r,q⟩=>⟨I1.kIn,?_⟩) he hpl;exact Pf M F hr hb hd hx I1 r q
end
section
variable {X:Cx} {CX:CXT} {k:Nat} {f C:Addr} {fd:FuncData} {ps ks:List Str} {sp:Sp} {E:XK} {x m:Str} {p pos apos kpos:Pos} {e o:Expr} {es:List Expr} {kws:List Keyword} {te ta:TE} {t tk:TA} {nm:Option Str}
variable {g:List Value->List Value->List Value} {gV:List V->List V->List V}
end
structure Ap (N P:List Str) (sc:Scope):Prop where
 kind:sc.kind=.function
 co:sc.isCoroutine=false
 gen:sc.isGenerator=false
 nd:N.Nodup
 pre:N.take P.length=P
 par:∀x∈P,sc.names.lookup x=some .local\/sc.names.lookup x=some .cell
 nofree:∀y∈sc.names,y.2≠.free
theorem Ib {kindOf:Str->Option NameKind} {x:Str}:∀{binds:List (Str × Value)} {m:Str->Option Value},(∀v,(x,v) ∉ binds)->bindL kindOf binds m x=m x
 | [],_,_=>rfl
 | (n,v) :: r,m,h=>by
   unfold bindL;rw [Ib fun w hw=>h w (mem_cons_of_mem _ hw)]
   split
   ·have:x≠n:=by rintro rfl;exact h v mem_cons_self
    simp [this]
   ·rfl
theorem HY {kindOf:Str->Option NameKind} {x:Str}:∀{binds:List (Str × Value)} {m:Str->Option Value},(∀v,(x,v) ∉ binds)->bindC kindOf binds m x=m x
 | [],_,_=>rfl
 | (n,v) :: r,m,h=>by
   unfold bindC;rw [HY fun w hw=>h w (mem_cons_of_mem _ hw)]
   split
   ·rfl
   ·have:x≠n:=by rintro rfl;exact h v mem_cons_self
    simp [this]
theorem HZ {kindOf:Str->Option NameKind} {x:Str} {v:Value}:∀{P:List Str} {vs:List Value} {i:Nat} {m:Str->Option Value},P.Nodup->P[i]?=some x->vs[i]?=some v->kindOf x=some .local ->
 bindL kindOf (P.zip vs) m x=some v
 | [],_,_,_,_,h,_,_=>by simp at h
 | _ :: _,[],_,_,_,_,h,_=>by simp at h
 | p :: P,w :: vs,0,m,nd,h1,h2,hk=>by
   simp at h1 h2;subst h1;subst h2;show bindL kindOf ((p,w) :: P.zip vs) m p=_;unfold bindL;rw [Ib fun v hv=>(nodup_cons.mp nd).1 (of_mem_zip hv).1,if_pos hk];simp
 | p :: P,w :: vs,i+1,m,nd,h1,h2,hk=>by
   show bindL kindOf ((p,w) :: P.zip vs) m x=_;unfold bindL;exact HZ (i:=i) (nodup_cons.mp nd).2 (by simpa using h1) (by simpa using h2) hk
theorem HX {kindOf:Str->Option NameKind} {x:Str} {v:Value}:∀{P:List Str} {vs:List Value} {i:Nat} {m:Str->Option Value},P.Nodup->P[i]?=some x->vs[i]?=some v->kindOf x≠some .local ->
 bindC kindOf (P.zip vs) m x=some v
 | [],_,_,_,_,h,_,_=>by simp at h
 | _ :: _,[],_,_,_,_,h,_=>by simp at h
 | p :: P,w :: vs,0,m,nd,h1,h2,hk=>by
   simp at h1 h2;subst h1;subst h2;show bindC kindOf ((p,w) :: P.zip vs) m p=_;unfold bindC;rw [HY fun v hv=>(nodup_cons.mp nd).1 (of_mem_zip hv).1,if_neg hk];simp
 | p :: P,w :: vs,i+1,m,nd,h1,h2,hk=>by
   show bindC kindOf ((p,w) :: P.zip vs) m x=_;unfold bindC;exact HX (i:=i) (nodup_cons.mp nd).2 (by simpa using h1) (by simpa using h2) hk
def start (N:List Str) (vs:List V):St:=vs.map some++List.replicate (N.length - vs.length) none
def Kd (CX:CXT) (P:Program) (w:World) (K:PySem.W.Frag) (mg:Str->Option Value) (base:Heap) (N:List Str) (qual:Str) (scope:Scope) (f:Addr) (cd:Value) (A:Around) (outer:List Env) (s:Shared) (H:Hp) (E:XK):Cx where
 prog:=P
 w:=w
 K:=K
 mg:=mg
 base:=base
 A:=A.deeper (envOfC qual scope s.heap.objs.size f cd)
 N:=N
 s₀:=s
 H₀:=H
 env:=envOfC qual scope s.heap.objs.size f cd
 outer:=outer
 stack:=envOfC qual scope s.heap.objs.size f cd :: outer
 ex:=[]
 calm:=true
 fn:=fun _=>true
 pn:=[]
 xe:=fun e s'=>wpAny (model P w) (A.deeper (envOfC qual scope s.heap.objs.size f cd)) (leaving (envOfC qual scope s.heap.objs.size f cd) e) (fun _ s''=>CX outer H s E e s'') (fun e' s''=>CX outer H s E e' s'') s'
theorem Ka {sc:Scope} {n:Nat} {x:Str} (h:sc.names.lookup x=some .cell):∃c,(cellsFrom n sc.names []).lookup x=some c:=by
 have q:=PySem.W.cellsFrom_some sc.names n [] (.inl h);exact Option.isSome_iff_exists.mp q
theorem Nu {CX:CXT} {P:Program} {w:World} {K:PySem.W.Frag} {mg:Str->Option Value} {base:Heap} {N ps:List Str} {qual:Str} {scope:Scope} {f:Addr} {cd:Value} {A:Around} {outer:List Env} {s s1:Shared} {H:Hp} {E:XK} {us:List Value} {vs:List V}
 (S:Ap N ps scope) (hd:A.handled=none) (e0:Lp P w K mg base A outer s H) (hl:vs.length=ps.length) (r:AE vs us)
 (x:InCallC s s.heap.objs.size (bindL (envOfC qual scope s.heap.objs.size f cd).kindOf (ps.zip us) fun _=>none) (cellsFrom (s.heap.objs.size+1) scope.names []) (bindC (envOfC qual scope s.heap.objs.size f cd).kindOf (ps.zip us) fun _=>none) s1) :
 Inv (Kd CX P w K mg base N qual scope f cd A outer s H E) [] (start N vs) H s1:=by
 have hpl:ps.length<=N.length:=by have:=congrArg List.length S.pre;rw [length_take] at this;ext
 obtain ⟨h1,tk,rfl,hk⟩:=x.done;have noA:∀b:Addr,b ∉ (Kd CX P w K mg base N qual scope f cd A outer s H E).ex:=fun b z=>absurd (show b∈([]:List Addr) from z) (by simp)
 refine ⟨⟨e0.mod,S.kind,rfl,rfl,Nat.le_refl _,fun y z c h1 h2=>?_,fun y hy=>?_,fun y c _ h=>?_,fun _=>hd,Around.frames_deeper e0.frames,.inr ⟨rfl,rfl⟩,fun b z=>absurd z (noA b),e0.bs,e0.bsz,fun b _ _=>noA b,fun b z=>absurd z (noA b),e0.funs,e0.frf⟩,
  rfl,e0.bare,Un.kept hk,⟨_,x.toInCall.ns,fun i y v h1 h2 h3=>?_⟩,fun y c h=>⟨_,x.cell y c h⟩,e0.hok.fresh (Nat.le_refl _),fun y c h=>?_,fun p hp=>absurd (show p∈([]:List (Addr × Obj)) from hp) (by simp),e0.hok.kept hk,?_⟩
 ·exact name_of_addr x.apart (PySem.mem_of_lookup h1) (PySem.mem_of_lookup h2)
 ·have hy:scope.names.lookup y=some .cell\/scope.names.lookup y=some .free:=hy;rcases hy with hy | hy
  ·exact Ka hy
  ·exact absurd rfl (S.nofree _ (PySem.mem_of_lookup hy))
 ·exact Nat.le_of_lt (x.above y c (PySem.mem_of_lookup h))
 ·have hi:i < vs.length:=by
   unfold start at h2;by_cases hi:i < vs.length
   ·exact hi
   ·rw [List.getElem?_append_right (by simpa using hi)] at h2;rw [List.getElem?_replicate] at h2
    split at h2 <;> cases h2
  have ha:vs[i]?=some v:=by
   unfold start at h2;rw [List.getElem?_append_left (by simpa using hi),List.getElem?_map] at h2
   cases e:vs[i]? with
   | none=>rw [e] at h2;cases h2
   | some a=>rw [e] at h2;cases h2;rfl
  obtain ⟨u,hu,rv⟩:=r.get ha
  have hp:ps[i]?=some y:=by
   rw [<- S.pre,List.getElem?_take_of_lt (by ext)];exact h1
  have ndP:ps.Nodup:=by rw [<- S.pre];exact S.nd.sublist (take_sublist _ _)
  refine ⟨u,rv,?_⟩;rcases S.par y (mem_of_getElem? hp) with k | k
  ·exact .inl ⟨k,HZ ndP hp hu k⟩
  ·obtain ⟨c,e⟩:=Ka (n:=s.heap.objs.size+1) k;refine .inr ⟨.inl k,c,e,?_⟩;have q:=x.cell y c e;rw [HX ndP hp hu (by show scope.names.lookup y≠_;rw [k];decide)] at q;exact q
 ·exact e0.hok.fresh (Nat.le_of_lt (x.above y c (PySem.mem_of_lookup h)))
 ·unfold start;show _=N.length;rw [length_append,length_map,length_replicate];ext
theorem O0 {CX:CXT} {P:Program} {w:World} {K:PySem.W.Frag} {mg:Str->Option Value} {base:Heap} {k:Nat} {f:Addr} {name qual:Str} {params:Arguments} {body:List Stmt} {scope:Scope} {dV kV doc pm cdv ct oc:Value} {an od:Option Addr}
 {osl:Array (Option Value)} {N ps:List Str} {sp:Sp} (lk:K.lookup f=some ⟨oc,od,.func (PySem.W.fnOf name qual params body scope dV kV doc pm an cdv ct),osl⟩) (hcd:PySem.W.codeIn K cdv qual=true) (S:Ap N ps scope)
 (len:∀vs H Q E,sp vs H Q E->vs.length=ps.length)
 (hbody:∀(A:Around) (outer:List Env) (s:Shared) (H:Hp) (vs:List V) (Q:VK) (E:XK),CB k (A.deeper (envOfC qual scope s.heap.objs.size f cdv))->sp vs H Q E ->
  ∃t,PSs (Kd CX P w K mg base N qual scope f cdv A outer s H E) body t/\t { nx:=fun _ H'=>Q .non H',rt:=Q } (start N vs) H) :
 AZ P w K mg base CX (k+1) f (PySem.W.fnOf name qual params body scope dV kV doc pm an cdv ct) ps sp:=by
 refine ⟨len,fun A outer s H args us vs Q E hr e0 hb r hsp=>?_⟩;have hl:=len _ _ _ _ hsp;have KX:K.In s.heap:=e0.mod.kin.keeps fun b o e=>(e0.bs b o e).1;have lim:s.heap.NoLimit:=e0.mod.nolimit.keeps fun b o e=>(e0.bs b o e).1
 have hkind:∀y∈ps.zip us,scope.names.lookup y.1=some .local\/(scope.names.lookup y.1=some .cell/\((cellsFrom (s.heap.objs.size+1) scope.names []).lookup y.1).isSome=true):=fun ⟨n,v⟩ hy=>by
  rcases S.par n (of_mem_zip hy).1 with q | q
  ·exact .inl q
  ·exact .inr ⟨q,PySem.W.cellsFrom_some _ _ _ (.inl q)⟩
 refine codeAny_call_function hr.depth (KX _ _ lk) rfl S.co S.gen rfl (PySem.W.codeRec_of KX hcd) (hb _ _ _ _ ?_);refine wpAny_newFunctionEnv_cells S.kind hkind fun env he s1 x=>?_;subst he;refine ⟨lim.keeps x.toInCall.keep,codeAny_func ?_⟩;obtain ⟨t,ht,hq⟩:=hbody A outer s H vs Q E (hr.deeper _) hsp;have I:Inv (Kd CX P w K mg base N qual scope f cdv A outer s H E) [] (start N vs) H s1:=Nu S hr.hd e0 hl r x;refine wpAny_mono (ht [] s1 (start N vs) H _ I hq) (fun fl s' hs=>?_) fun e s' hs=>hs
 have fin:∀{σ':St} {H':Hp} {v:V} {u:Value},Inv (Kd CX P w K mg base N qual scope f cdv A outer s H E) [] σ' H' s'->AF v u->Q v H'->CE outer P w H s Q u s' :=
  fun {σ' H' v u} J rv q=>⟨v,H',J.os,J.bare,J.base,J.hok,rv,q⟩
 cases fl with
 | ret u =>
   obtain ⟨v,σ',H',J,rv,q⟩:=hs;exact fin J rv q
 | next =>
   obtain ⟨σ',H',J,q⟩:=hs;exact fin (v:=V.non) (u:=Value.none) J rfl q
 | brk =>
   obtain ⟨_,_,_,q⟩:=hs;exact False.elim q
 | cont =>
   obtain ⟨_,_,_,q⟩:=hs;exact False.elim q
end L2
namespace L2
open PySem PySem.Spec PyProof.Rows
section
variable {X:Cx} {x:Str} {p pos:Pos} {e:Expr} {es:List Expr} {t:TA} {id T:String} {r:List V->Hp->VK->Prop}
def tCB (r:List V->Hp->VK->Prop) (t:TA):TE:=fun σ H Q=>t σ H fun vs H1=>r vs H1 Q
theorem Au (hc:Cc X (.builtin id) r) (hg:Gl X x) (hm:X.mg x=none) (hv:bootBuiltins x=some (.builtin id)) (ha:PA X (e :: es) t) (hn:x≠"__name__":=by decide) (hdb:(x == ("__debug__":Str))=false:=by decide)
 (he:starEach (e :: es) X.env=(false,eval e X.env) :: starEach es X.env:=by rfl) (hpl:(backTo pos (starEach es X.env)).any (·.1)=false:=by rfl):PE X (.Call (.Name x p) (e :: es) [] pos) (tCB r t):=by
 intro pins s σ H Q I h;refine wpAny_Call_Name_kw (BX I hg hm hv ?_ hn hdb);exact PyProof.Rows.callWith_builtin1 (thn (ha pos pins s σ H _ I h) fun us s1 ⟨vs,H1,I1,r1,q1⟩=>hc pins s1 σ H1 vs us Q I1 r1 q1) he hpl
theorem BO (hc:Cc X (.type T) r) (hg:Gl X x) (hm:X.mg x=none) (hv:bootBuiltins x=some (.type T)) (ha:PA X (e :: es) t) (hn:x≠"__name__":=by decide) (hdb:(x == ("__debug__":Str))=false:=by decide)
 (he:starEach (e :: es) X.env=(false,eval e X.env) :: starEach es X.env:=by rfl) (hpl:(backTo pos (starEach es X.env)).any (·.1)=false:=by rfl):PE X (.Call (.Name x p) (e :: es) [] pos) (tCB r t):=by
 intro pins s σ H Q I h;refine wpAny_Call_Name_kw (BX I hg hm hv ?_ hn hdb);exact PyProof.Rows.callWith_type1 (thn (ha pos pins s σ H _ I h) fun us s1 ⟨vs,H1,I1,r1,q1⟩=>hc pins s1 σ H1 vs us Q I1 r1 q1) he hpl
end
end L2
namespace HT
open PySem PyProof.Rows
def lexLt:List Int->List Int->Bool
 | [],[]=>false
 | [],_ :: _=>true
 | _ :: _,[]=>false
 | x :: xs,y :: ys=>if x=y then lexLt xs ys else decide (x < y)
theorem lexLt_cons (x y:Int) (xs ys:List Int):lexLt (x :: xs) (y :: ys)=if x=y then lexLt xs ys else decide (x < y):=rfl
theorem HM:lexLt [] []=false:=rfl
theorem GL (y:Int) (ys:List Int):lexLt [] (y :: ys)=true:=rfl
theorem GK (x:Int) (xs:List Int):lexLt (x :: xs) []=false:=rfl
theorem Ou (A:Around) (s:Shared) (a:Int) (t:Tok) (c:Int) (u:Tok):∃e,SeqAt.EqAt A s (.int a t) (.int c u) e/\(e=true↔a=c) :=
 ⟨(a == c),SeqAt.EqAt.int_int a t c u,by simp⟩
theorem Pa (A:Around) (s:Shared) (a:Int) (t:Tok) (c:Int) (u:Tok) (prog:Program) (w:World) (E:Value->Shared->Prop) (Q:Value->Shared->Prop) (h:Q (.bool (decide (a < c))) s) :
 wpAny (model prog w) A (richCompare .Lt (.int a t) (.int c u)) Q E s :=
 (PyProof.Rows.lt_int h:wpAny (model prog w) A (compareOp .Lt (.int a t) (.int c u)) Q E s)
section
open PySem.SeqAt
open PySem.AutoSeq1 (wpAny_loadPart')
open PySem.MeetsSeq PySem.MeetsSeq2 PySem.MeetsSeq3
theorem tuple_lt_ints (l b:Addr) (items items2:Array Value) (n n2:Nat) (dd dd2:Option Addr) (sl sl2:Array (Option Value)) (ns ms:List Int) (hi:IntsAre items.toList ns) (hj:IntsAre items2.toList ms) :
 Meets (Builtin.«tuple.__lt__» ⟨[.ref l,.ref b],[]⟩)
  (fun _ R s=>s.heap.get? l=some { cls:=.type "tuple",dict:=dd,data:=.seq items n,slots:=sl }/\s.heap.get? b=some { cls:=.type "tuple",dict:=dd2,data:=.seq items2 n2,slots:=sl2 } /\
   R (.ok (.ret (.bool (lexLt ns ms)))) s) :=
 .of_wp fun prog w A R s h=>by
  obtain ⟨hp,g,d,tk,os⟩:=s;obtain ⟨hl,hb,h⟩:=h;have f2:=AutoSeq1.sub_tuple_tuple;have z1:items.size=ns.length:=by rw [<- hi.length];simp
  have z2:items2.size=ms.length:=by rw [<- hj.length];simp
  wp_walk using wpAny_loadPart' hl,wpAny_loadPart' hb,wpAny_forIn_list _ (fun rest b s'=>b.1=none/\s'=⟨hp,g,d,tk,os⟩/\∃(vs ws:List Value) (ns' ms':List Int),rest=vs.zip ws /\
   IntsAre vs ns'/\IntsAre ws ms'/\ns'.length+items2.size=ms'.length+items.size/\R (.ok (.ret (.bool (lexLt ns' ms')))) ⟨hp,g,d,tk,os⟩) _
  case turn =>
   rintro ⟨y,x⟩ rest b s' ⟨hb',rfl,vs,ws,ns',ms',hz,hvi,hwi,hlen,hR⟩
   cases hvi with
   | nil=>rw [zip_nil_left] at hz;cases hz
   | cons a t hvi' =>
     cases hwi with
     | nil=>rw [zip_nil_right] at hz;cases hz
     | cons c u hwi' =>
       rw [zip_cons_cons] at hz;injection hz with hyx hrest
       injection hyx with hy hx
       subst hy hx;rw [lexLt_cons] at hR;simp only [length_cons] at hlen;obtain ⟨e,he,hiff⟩:=Ou A.in1 ⟨hp,g,d,tk,os⟩ a t c u;refine wpAny_bind (he prog w _ _ ?_)
       cases e with
       | true =>
         rw [if_pos (hiff.mp rfl)] at hR
         wp_walk
         exact ⟨rfl,rfl,_,_,_,_,hrest,hvi',hwi',by ext,hR⟩
       | false =>
         rw [if_neg (fun q=>absurd (hiff.mpr q) Bool.false_ne_true)] at hR;have hri:=Pa A.in1 ⟨hp,g,d,tk,os⟩ a t c u prog w
         wp_walk using hri
         exact ⟨_,rfl,by simpa using hR⟩
  case fin =>
   rintro ⟨b1,b2⟩ s' ⟨hb',rfl,vs,ws,ns',ms',hz,hvi,hwi,hlen,hR⟩;simp only at hb';subst hb'
   have hv:lexLt ns' ms'=decide (items.size < items2.size):=by
    cases hvi with
    | nil =>
      cases hwi with
      | nil =>
        simp only [length_nil] at hlen;rw [HM];exact (decide_eq_false (by ext)).symm
      | cons c u hw =>
        simp only [length_nil,length_cons] at hlen;rw [GL];exact (decide_eq_true (by ext)).symm
    | cons a t hv =>
      cases hwi with
      | nil =>
        simp only [length_nil,length_cons] at hlen;rw [GK];exact (decide_eq_false (by ext)).symm
      | cons c u hw =>
        rw [zip_cons_cons] at hz
        cases hz
   rw [hv] at hR
   wp_walk
   exact ⟨_,rfl,by simpa [Builtin.Tuple.tupleCompareSizes] using hR⟩
  case h =>
   exact ⟨rfl,rfl,items.toList,items2.toList,ns,ms,rfl,hi,hj,by ext,h⟩
end
section
variable {prog:Program} {w:World} {A:Around} {E:Value->Shared->Prop} {s:Shared}
theorem lt_tupInts {l b:Addr} {items items2:Array Value} {ns ms:List Int} {Q:Value->Shared->Prop} (hl:IsTup s.heap l items) (hb:IsTup s.heap b items2) (hi:IntsAre items.toList ns) (hj:IntsAre items2.toList ms)
 (hu:A.units < cLine) (h:Q (.bool (lexLt ns ms)) s):wpAny (model prog w) A (compareOp .Lt (.ref l) (.ref b)) Q E s:=by
 obtain ⟨⟨cls,dd,data,sl⟩,ho,hc,n,hd⟩:=id hl;obtain ⟨⟨cls2,dd2,data2,sl2⟩,ho2,hc2,n2,hd2⟩:=id hb;simp only at hc hd hc2 hd2;subst hc hd hc2 hd2
 exact richCompare_meets_room (op:=.Lt) ⟨_,ho,rfl⟩ ⟨_,ho2,rfl⟩ PySem.F.slot_tuple_lt PySem.F.entry_tuple_lt (PySem.F.args_tuple_lt_2 _ _) (tuple_lt_ints l b items items2 n n2 dd dd2 sl sl2 ns ms hi hj)
  ⟨ho,ho2,show Value.bool (lexLt ns ms)≠Value.notImplemented/\Q (.bool (lexLt ns ms)) s from ⟨(fun x=>nomatch x),h⟩⟩ hu
def sIx (n d:Nat):Option Int->Nat
 | none=>d
 | some v=>if v < 0 then (v+(n:Int)).toNat else min v.toNat n
theorem sIx_none (n d:Nat):sIx n d none=d:=rfl
theorem sIx_nat (n d k:Nat):sIx n d (some (k:Int))=min k n:=by
 show (if (k:Int) < 0 then ((k:Int)+(n:Int)).toNat else min (k:Int).toNat n)=min k n;rw [if_neg (by ext),Int.toNat_natCast]
end
end HT
namespace L2
open PySem PySem.Spec PyProof.Rows
abbrev TO:=St->Hp->(Option Int->Hp->Prop)->Prop
def PO (X:Cx) (e:Option Expr) (t:TO):Prop :=
 ∀(pins:List (Addr × Obj)) (s:Shared) (σ:St) (H:Hp) (Q:Option Int->Hp->Prop),Inv X pins σ H s->t σ H Q ->
  wpAny (model X.prog X.w) X.A (evalPart e X.env) (fun u s'=>∃o H',Inv X pins σ H' s'/\IsPart u o/\Q o H') X.xe s
def QB:TO:=fun _ H Q=>Q none H
def SD (t:TE):TO:=fun σ H Q=>t σ H fun x H1=>∃i,x=.int i/\Q (some i) H1
theorem BJ {ns:List Int}:∀{us:List Value},AE (ns.map V.int) us->IntsAre us ns:=by
 induction ns with
 | nil=>intro us r;rw [map_nil] at r;cases r;exact .nil
 | cons n ns ih =>
   intro us r;rw [map_cons] at r
   cases r with
   | cons r1 r2 =>
     obtain ⟨t,e⟩:=r1;subst e;exact .cons n t (ih r2)
section
variable {X:Cx} {e:Expr} {te:TE} {lo hi:Option Expr} {tl th:TO} {pos p2:Pos}
theorem AN:PO X none QB:=by
 intro pins s σ H Q I h;rw [evalPart_none];exact wpAny_pure ⟨none,H,I,.none,h⟩
theorem AO (h:PE X e te):PO X (some e) (SD te):=by
 intro pins s σ H Q I hw;rw [evalPart_some];refine thn (h pins s σ H _ I hw) fun u s1 ⟨x,H1,I1,r1,q1⟩=>?_;obtain ⟨i,rfl,q⟩:=q1;obtain ⟨t,rfl⟩:=r1;exact ⟨some i,H1,I1,.int i t,q⟩
def SlR (X:Cx) (r:V->Option Int->Option Int->Hp->VK->Prop):Prop :=
 ∀(pins:List (Addr × Obj)) (s:Shared) (σ:St) (H:Hp) (x:V) (v vl vu:Value) (lo hi:Option Int) (sl:Addr) (Q:VK),Inv X pins σ H s->AF x v->s.heap.IsSliceOf sl vl vu .none->IsPart vl lo->IsPart vu hi->r x lo hi H Q ->
  ∃T id,typeLookup (.type T) "__getitem__"=pure (some (.builtin id))/\s.TypeIs v T/\wpAny (model X.prog X.w) X.A (getItem v (.ref sl)) (EP X pins σ Q) X.xe s
def tSl (r:V->Option Int->Option Int->Hp->VK->Prop) (te:TE) (tl th:TO):TE:=fun σ H Q=>te σ H fun x H1=>tl σ H1 fun l H2=>th σ H2 fun u H3=>r x l u H3 Q
theorem AD {r:V->Option Int->Option Int->Hp->VK->Prop} (hr:SlR X r) (he:PE X e te) (hl:PO X lo tl) (hu:PO X hi th):PE X (.Subscript e (.Slice lo hi none p2) pos) (tSl r te tl th):=by
 intro pins s σ H Q I h;refine Subscript_ (thn (he pins s σ H _ I h) fun v s1 ⟨x,H1,I1,r1,q1⟩=>?_);refine wpAny_Slice (thn (hl pins s1 σ H1 _ I1 q1) fun vl s2 ⟨l,H2,I2,pl,q2⟩=>thn (hu pins s2 σ H2 _ I2 q2) fun vu s3 ⟨u,H3,I3,pu,q3⟩=>?_);rw [evalPart_none];refine wpAny_pure ?_;have I4:Inv X pins σ H3 { s3 with heap:=s3.heap.push { cls:=.type "slice",data:=.fields #[vl,vu,.none] } }:=I3.kept (t':=s3.toks) fun b ob q=>Heap.get?_push_of_some _ q;obtain ⟨T,id,hT,ht,hg⟩:=hr pins { s3 with heap:=s3.heap.push { cls:=.type "slice",data:=.fields #[vl,vu,.none] } } σ H3 x v vl vu l u s3.heap.objs.size Q I4 r1 (Heap.IsSliceOf.new ..) pl pu q3;show wpAny (model X.prog X.w) X.A (subscriptTail e (.Slice lo hi none p2) v (.ref s3.heap.objs.size)) (EP X pins σ Q) X.xe { s3 with heap:=s3.heap.push { cls:=.type "slice",data:=.fields #[vl,vu,.none] } };exact tail_any (ops:=[.ref s3.heap.objs.size,v]) ht hT hg (by with_unfolding_all rfl)
def C1 (xs:List V) (lo hi:Option Int):List V:=(xs.drop (HT.sIx xs.length 0 lo)).take (HT.sIx xs.length xs.length hi - HT.sIx xs.length 0 lo)
theorem Kc (xs:List V) (lo hi:Option Int):(C1 xs lo hi).length<=xs.length:=by
 unfold C1;rw [length_take,length_drop];ext
end
end L2
namespace L2
open PySem PySem.Spec PyProof.Rows
def ixN (n:Nat) (i:Int):Option Nat:=if 0<=i then (if i < n then some i.toNat else none) else if -(n:Int)<=i then some (i+n).toNat else none
def atI {α:Type} (xs:List α) (i:Int):Option α:=(ixN xs.length i).bind fun j=>xs[j]?
theorem Jk {n:Nat} {i:Int} {j:Nat} (h:ixN n i=some j):seqIndex? i n=some j/\j < n/\-(n:Int)<=i/\i < n:=by
 unfold ixN at h;by_cases h0:0<=i
 ·rw [if_pos h0] at h;by_cases h1:i < n
  ·rw [if_pos h1] at h;have e:i.toNat=j:=Option.some.inj h;exact ⟨by rw [seqIndex_of h0 h1,e],by ext,by ext,h1⟩
  ·rw [if_neg h1] at h;cases h
 ·rw [if_neg h0] at h;by_cases h1:-(n:Int)<=i
  ·rw [if_pos h1] at h;have e:(i+n).toNat=j:=Option.some.inj h;exact ⟨by rw [seqIndex_neg (by ext) h1,e],by ext,h1,by ext⟩
  ·rw [if_neg h1] at h;cases h
theorem Mf {α:Type} {xs:List α} {i:Int} {v:α} (h:atI xs i=some v):∃j,seqIndex? i xs.length=some j/\xs[j]?=some v/\j < xs.length/\-(xs.length:Int)<=i/\i < xs.length:=by
 unfold atI at h
 cases e:ixN xs.length i with
 | none=>rw [e] at h;cases h
 | some j =>
   rw [e] at h;obtain ⟨h1,h2,h3,h4⟩:=Jk e;exact ⟨j,h1,h,h2,h3,h4⟩
theorem Bv {α:Type} {xs:List α} {j:Nat} {v:α} (h:xs[j]?=some v):atI xs (j:Int)=some v:=by
 have hj:j < xs.length:=(List.getElem?_eq_some_iff.mp h).1
 have e:ixN xs.length (j:Int)=some j:=by
  unfold ixN;rw [if_pos (by ext),if_pos (by ext)];simp
 unfold atI;rw [e];exact h
def PB (b:Expr):Prop:=∀o i,subscripted b false o i=operate [o,i] (getItem o i)
def IxR (X:Cx) (r:R2):Prop :=
 ∀(value slice:Expr) (pins:List (Addr × Obj)) (s:Shared) (σ:St) (H:Hp) (x y:V) (v u:Value) (Q:VK),Inv X pins σ H s->AF x v->AF y u->r x y H Q ->
  subscripted slice false v u=operate [v,u] (getItem v u)->wpAny (model X.prog X.w) X.A (subscriptTail value slice v u) (EP X pins σ Q) X.xe s
def MtR (X:Cx) (id:String) (r:V->List V->Hp->VK->Prop):Prop :=
 ∀(pins:List (Addr × Obj)) (s:Shared) (σ:St) (H:Hp) (x:V) (xs:List V) (v:Value) (us:List Value) (Q:VK),Inv X pins σ H s->AF x v->AE xs us->r x xs H Q ->
  wpAny (model X.prog X.w) X.A (call (.builtin id) (v :: us)) (EP X pins σ Q) X.xe s
section
variable {X:Cx} {a b:Expr} {ta tb:TE} {pos:Pos}
theorem Ao {r:R2} (hr:IxR X r) (ha:PE X a ta) (hb:PE X b tb) (hs:PB b):PE X (.Subscript a b pos) (tOp r ta tb):=by
 intro pins s σ H Q I h;exact Subscript_ (QW ha hb I h fun v u s2 x y H2 I2 rx ry q=>hr a b pins s2 σ H2 x y v u Q I2 rx ry q (hs _ _))
def Su (K:PySem.W.Frag):R2:=fun x y H Q=>∃p xs i v,x=.ref p/\y=.int i/\SqL K H p xs/\atI xs i=some v/\Q v H
def Sv (K:PySem.W.Frag):R2:=fun x y H Q=>∃p xs i v,x=.ref p/\y=.int i/\SqT K H p xs/\atI xs i=some v/\Q v H
theorem Ax:IxR X (Su X.K):=by
 intro value slice pins s σ H x y v u Q I rx ry h hs;obtain ⟨p,xs,i,z,rfl,rfl,hq,he,q⟩:=h
 cases rx
 obtain ⟨t,rfl⟩:=ry;obtain ⟨its,r,pl,hz⟩:=I.list hq;obtain ⟨j,h1,h2,h3,h4,h5⟩:=Mf he;obtain ⟨w,ew,rw'⟩:=r.get h2;have hl:=r.length;have hn:=GM;have fin:EP X pins σ Q w s:=⟨z,H,I,rw',q⟩;by_cases h0:0<=i
 ·have hj:i.toNat=j:=by
   rw [seqIndex_of h0 h5] at h1;exact Option.some.inj h1
  exact item_listR pl.isList h0 (by ext) (by rw [hj];simpa using ew) fin hs
 ·have hj:(i+(its.toArray.size:Int)).toNat=j:=by
   rw [seqIndex_neg (by ext) h4] at h1;rw [size_toArray,<- hl];exact Option.some.inj h1
  exact subscriptTail_builtinR (x:=w) pl.isList.typeIs slot_list_getitem.lookup
   (wpAny_getItem_list_neg (Q:=fun r s'=>r=w/\EP X pins σ Q r s') pl.isList (by ext) (by rw [size_toArray] <;> ext) (by ext) (by rw [hj];simpa using ew) ⟨rfl,fin⟩) hs
theorem Br:IxR X (Sv X.K):=by
 intro value slice pins s σ H x y v u Q I rx ry h hs;obtain ⟨p,xs,i,z,rfl,rfl,hq,he,q⟩:=h
 cases rx
 obtain ⟨t,rfl⟩:=ry;obtain ⟨its,r,pl,hz⟩:=I.tuple hq;obtain ⟨j,h1,h2,h3,h4,h5⟩:=Mf he;obtain ⟨w,ew,rw'⟩:=r.get h2;have hl:=r.length;have hn:=GM;have fin:EP X pins σ Q w s:=⟨z,H,I,rw',q⟩
 exact subscriptTail_builtinR (x:=w) pl.typeIs slot_tuple_getitem.lookup
  (getItem_tuple (j:=j) (Q:=fun r s'=>r=w/\EP X pins σ Q r s') pl (by ext) (by ext) (by rw [size_toArray,<- hl];exact h1) (by simpa using ew) ⟨rfl,fin⟩) hs
theorem LG (its:List Value) (n j:Nat) (u:Value):Obj.mapSeq (·.setIfInBounds j u) { cls:=.type "list",data:=.seq its.toArray n }={ cls:=.type "list",data:=.seq (its.set j u).toArray n }:=by
 simp [Obj.mapSeq]
theorem Inv.lst {pins:List (Addr × Obj)} {σ:St} {H:Hp} {s:Shared} {p:Addr} {xs:List V} (I:Inv X pins σ H s) (h:H p=some (.lst xs)) :
 ∃(its:List Value) (n:Nat),AE xs its/\s.heap.get? p=some { cls:=.type "list",data:=.seq its.toArray n }/\xs.length<=sizeLine:=by
 obtain ⟨z,its,n,r,e⟩:=I.hok p _ h;exact ⟨its,n,r,e,z⟩
theorem Inv.lstUpd {pins:List (Addr × Obj)} {σ:St} {H:Hp} {s:Shared} {p:Addr} {xs ys:List V} {its its':List Value} {n n':Nat} {f:Obj->Obj} (I:Inv X pins σ H s) (h:H p=some (.lst xs))
 (ho:s.heap.get? p=some { cls:=.type "list",data:=.seq its.toArray n }) (hf:f { cls:=.type "list",data:=.seq its.toArray n }={ cls:=.type "list",data:=.seq its'.toArray n' }) (r:AE ys its') (hz:ys.length<=sizeLine) (t:Nat) :
 Inv X pins σ (upd H p (.lst ys)) { s with heap:=s.heap.update p f,toks:=t }:=by
 have e:(s.heap.update p f).get? p=some { cls:=.type "list",data:=.seq its'.toArray n' }:=by
  rw [Heap.get?_update_self f ho (by rw [hf] <;> rfl),hf]
 refine I.write (x:=p) (e:=p) (by rw [h];trivial) (.inl rfl) (fun b u hb q=>(Heap.get?_update_other _ _ (Ne.symm hb)).trans q) ⟨_,e⟩ ?_;exact ⟨hz,its',n',r,e⟩
def Sw:V->V->V->Hp->(Hp->Prop)->Prop:=fun o i v H Q=>∃p xs k j,o=.ref p/\i=.int k/\H p=some (.lst xs)/\ixN xs.length k=some j/\Q (upd H p (.lst (xs.set j v)))
theorem CF:RV X Sw:=by
 intro pins s σ H o i v ov iv u Q I ro ri rv h;obtain ⟨p,xs,k,j,rfl,rfl,hp,hj,q⟩:=h
 cases ro
 obtain ⟨t,rfl⟩:=ri;obtain ⟨its,n,r,ho,hz⟩:=I.lst hp;obtain ⟨h1,h2,h3,h4⟩:=Jk hj;have hl:=r.length;have hn:=GM
 have I':Inv X pins σ (upd H p (.lst (xs.set j v))) { s with heap:=s.heap.update p (Obj.mapSeq (·.setIfInBounds j u)) } :=
  I.lstUpd hp ho (LG its n j u) (r.set rv j) (by rw [length_set];exact hz) s.toks
 by_cases h0:0<=k
 ·have hk:k.toNat=j:=by
   rw [seqIndex_of h0 h4] at h1;exact Option.some.inj h1
  exact PySem.W.ki_setAt ho h0 (by ext) (by rw [size_toArray,<- hl];exact h4) (by rw [hk];exact ⟨_,I',q⟩)
 ·have hk:(k+(its.toArray.size:Int)).toNat=j:=by
   rw [seqIndex_neg (by ext) h3] at h1;rw [size_toArray,<- hl];exact Option.some.inj h1
  exact PySem.W.ki_setBack ho (by ext) (by rw [size_toArray,<- hl];exact h3) (by ext) (by rw [hk];exact ⟨_,I',q⟩)
theorem JK (lo hi:Option Int) (n:Nat):(sliceBounds lo hi none n).1=((HT.sIx n 0 lo:Nat):Int)/\(sliceBounds lo hi none n).2.1=((HT.sIx n n hi:Nat):Int)/\(sliceBounds lo hi none n).2.2=1:=by
 refine ⟨?_,?_,rfl⟩
 ·cases lo with
  | none=>simp [sliceBounds,HT.sIx]
  | some i =>
    simp only [sliceBounds,HT.sIx,Option.getD_none,show (1:Int) > 0 by decide,if_true];by_cases h:i < 0
    ·simp only [h,if_true] <;> ext
    ·simp only [h,if_false] <;> ext
 ·cases hi with
  | none=>simp [sliceBounds,HT.sIx]
  | some i =>
    simp only [sliceBounds,HT.sIx,Option.getD_none,show (1:Int) > 0 by decide,if_true];by_cases h:i < 0
    ·simp only [h,if_true] <;> ext
    ·simp only [h,if_false] <;> ext
theorem HU (its:List Value) (lo hi:Option Int):slicePick its.toArray lo hi none=((its.drop (HT.sIx its.length 0 lo)).take (HT.sIx its.length its.length hi - HT.sIx its.length 0 lo)).toArray:=by
 obtain ⟨h1,h2,h3⟩:=JK lo hi its.toArray.size;unfold slicePick;rw [h1,h2,h3];simp only [sliceRange_one,pick_run,size_toArray] <;> rfl
def SU (K:PySem.W.Frag):V->Option Int->Option Int->Hp->VK->Prop:=fun x lo hi H Q=>∃a xs,x=.ref a/\SqL K H a xs/\∀p,H p=none->Q (.ref p) (upd H p (.lst (C1 xs lo hi)))
theorem AQ:SlR X (SU X.K):=by
 intro pins s σ H x v vl vu lo hi sl Q I rx hs pl pu h;obtain ⟨a,xs,rfl,hx,q⟩:=h
 cases rx
 obtain ⟨its,r,ht,hz⟩:=I.list hx;have hlen:=r.length;refine ⟨"list",_,slot_list_getitem.lookup,ht.isList.typeIs,?_⟩;refine wpAny_getItem_list_slice ht.isList hs pl pu .none (by simp) ?_ (by rw [size_toArray] <;> ext);rw [HU,<- hlen];refine ⟨.ref s.heap.objs.size,_,I.laid (t':=s.toks) (o:=.lst (C1 xs lo hi)) (fun b ob q=>Heap.get?_push_of_some _ q) (Nat.le_refl _) ?_,rfl,q _ (I.hok.fresh (Nat.le_refl _))⟩;exact ⟨Nat.le_trans (Kc xs lo hi) hz,_,0,(r.drop (HT.sIx xs.length 0 lo)).take (HT.sIx xs.length xs.length hi - HT.sIx xs.length 0 lo),Heap.get?_push_size _ rfl⟩
def EY:V->Bool
 | .non=>true
 | .bl _=>true
 | .int _=>true
 | .str _=>true
 | _=>false
def eqV:V->V->Bool
 | .non,.non=>true
 | .bl a,.bl b=>a == b
 | .bl a,.int b=>(if a then 1 else 0) == b
 | .int a,.bl b=>a == (if b then 1 else 0)
 | .int a,.int b=>a == b
 | .str a,.str b=>a == b
 | _,_=>false
theorem Rc {A:Around} {s:Shared} {y x:V} {u v:Value} (ry:AF y u) (rx:AF x v) (fy:EY y=true) (fx:EY x=true):SeqAt.EqAt A s u v (eqV y x):=by
 cases y with
 | non =>
   cases ry
   cases x with
   | non=>cases rx;exact SeqAt.EqAt.same _
   | bl b=>cases rx;exact SeqAt.EqAt.none_bool b
   | int b=>obtain ⟨t,rfl⟩:=rx;exact SeqAt.EqAt.none_int b t
   | str b=>obtain ⟨t,rfl⟩:=rx;exact SeqAt.EqAt.none_str b t
   | _=>exact absurd (show false=true from fx) Bool.false_ne_true
 | bl a =>
   cases ry
   cases x with
   | non=>cases rx;exact SeqAt.EqAt.bool_none a
   | bl b=>cases rx;exact SeqAt.EqAt.bool_bool a b
   | int b=>obtain ⟨t,rfl⟩:=rx;exact SeqAt.EqAt.bool_int a b t
   | str b=>obtain ⟨t,rfl⟩:=rx;exact SeqAt.EqAt.bool_str a b t
   | _=>exact absurd (show false=true from fx) Bool.false_ne_true
 | int a =>
   obtain ⟨t',rfl⟩:=ry
   cases x with
   | non=>cases rx;exact SeqAt.EqAt.int_none a t'
   | bl b=>cases rx;exact SeqAt.EqAt.int_bool a t' b
   | int b=>obtain ⟨t,rfl⟩:=rx;exact SeqAt.EqAt.int_int a t' b t
   | str b=>obtain ⟨t,rfl⟩:=rx;exact SeqAt.EqAt.int_str a t' b t
   | _=>exact absurd (show false=true from fx) Bool.false_ne_true
 | str a =>
   obtain ⟨t',rfl⟩:=ry
   cases x with
   | non=>cases rx;exact SeqAt.EqAt.str_none a t'
   | bl b=>cases rx;exact SeqAt.EqAt.str_bool a t' b
   | int b=>obtain ⟨t,rfl⟩:=rx;exact SeqAt.EqAt.str_int a t' b t
   | str b=>obtain ⟨t,rfl⟩:=rx;exact SeqAt.EqAt.str_str a t' b t
   | _=>exact absurd (show false=true from fx) Bool.false_ne_true
 | _=>exact absurd (show false=true from fy) Bool.false_ne_true
def eqU (x:V) (u:Value):Bool:=match u with
 | .none=>eqV .non x
 | .bool b=>eqV (.bl b) x
 | .int i _=>eqV (.int i) x
 | .str z _=>eqV (.str z) x
 | _=>false
theorem Ov {x y:V} {u:Value} (r:AF y u) (f:EY y=true):eqU x u=eqV y x:=by
 cases y with
 | non=>cases r;rfl
 | bl b=>cases r;rfl
 | int i=>obtain ⟨t,rfl⟩:=r;rfl
 | str z=>obtain ⟨t,rfl⟩:=r;rfl
 | _=>exact absurd (show false=true from f) Bool.false_ne_true
theorem ES {x:V}:∀{xs:List V} {us:List Value},AE xs us->xs.all EY=true->us.any (eqU x)=xs.any fun y=>eqV y x
 | _,_,.nil,_=>rfl
 | y :: xs,u :: us,.cons r t,f=>by
   rw [all_cons,Bool.and_eq_true] at f;rw [any_cons,any_cons,Ov r f.1,ES t f.2]
theorem Ee {A:Around} {s:Shared} {x:V} {v:Value} (rx:AF x v) (fx:EY x=true):∀{xs:List V} {us:List Value},AE xs us->xs.all EY=true->∀u∈us,SeqAt.EqAt A s u v (eqU x u)
 | _,_,.nil,_=>fun u hu=>by cases hu
 | y :: xs,u :: us,.cons r t,f=>fun u' hu=>by
   rw [all_cons,Bool.and_eq_true] at f;rcases mem_cons.mp hu with rfl | hu
   ·rw [Ov r f.1];exact Rc r rx f.1 fx
   ·exact Ee rx fx t f.2 u' hu
def inV (x:V) (xs:List V):Bool:=xs.any fun y=>eqV y x
def rIn (K:PySem.W.Frag) (neg:Bool):R2:=fun x y H Q=>∃p xs,y=.ref p/\(SqL K H p xs\/SqT K H p xs)/\EY x=true/\xs.all EY=true/\Q (.bl (if neg then !inV x xs else inV x xs)) H
theorem NB:OpR X (compareOp .In) (rIn X.K false):=by
 intro pins s σ H x y v u Q I rx ry h;obtain ⟨p,xs,rfl,hq,fx,fs,q⟩:=h
 cases ry
 rcases hq with hq | hq
 ·obtain ⟨its,r,pl,hz⟩:=I.list hq;refine SeqAt.in_listAt (eqU x) pl.isList (fun w hw=>Ee rx fx r fs w (by simpa using hw)) ⟨.bl _,H,I,rfl,?_⟩;rw [show its.toArray.any (eqU x)=its.any (eqU x) by simp,ES r fs];exact q
 ·obtain ⟨its,r,pl,hz⟩:=I.tuple hq;refine SeqAt.in_tupleAt (eqU x) pl (fun w hw=>Ee rx fx r fs w (by simpa using hw)) ⟨.bl _,H,I,rfl,?_⟩;rw [show its.toArray.any (eqU x)=its.any (eqU x) by simp,ES r fs];exact q
theorem Jy:OpR X (compareOp .NotIn) (rIn X.K true):=by
 intro pins s σ H x y v u Q I rx ry h;obtain ⟨p,xs,rfl,hq,fx,fs,q⟩:=h
 cases ry
 rcases hq with hq | hq
 ·obtain ⟨its,r,pl,hz⟩:=I.list hq;refine SeqAt.notIn_listAt (eqU x) pl.isList (fun w hw=>Ee rx fx r fs w (by simpa using hw)) ⟨.bl _,H,I,rfl,?_⟩;rw [show its.toArray.any (eqU x)=its.any (eqU x) by simp,ES r fs];exact q
 ·obtain ⟨its,r,pl,hz⟩:=I.tuple hq;refine SeqAt.notIn_tupleAt (eqU x) pl (fun w hw=>Ee rx fx r fs w (by simpa using hw)) ⟨.bl _,H,I,rfl,?_⟩;rw [show its.toArray.any (eqU x)=its.any (eqU x) by simp,ES r fs];exact q
theorem Az:Cc X (.builtin "len") (fun xs H Q=>∃p ys,xs=[.ref p]/\(SqL X.K H p ys\/SqT X.K H p ys)/\Q (.int ys.length) H):=by
 intro pins s σ H xs us Q I r h;obtain ⟨p,ys,rfl,hq,q⟩:=h;obtain ⟨u,rfl,rx⟩:=DE r
 cases rx
 have hn:=GM;rcases hq with hq | hq
 ·obtain ⟨its,r',pl,hz⟩:=I.list hq;have hlen:=r'.length;exact Calls.call_len_list pl.isList (by simp only [size_toArray] <;> ext) ⟨.int ys.length,H,I.tok _,⟨s.toks+1,by rw [size_toArray,hlen]⟩,q⟩
 ·obtain ⟨its,r',pl,hz⟩:=I.tuple hq;have hlen:=r'.length;exact len_tuple pl (by simp only [size_toArray] <;> ext) ⟨.int ys.length,H,I.tok _,⟨s.toks+1,by rw [size_toArray,hlen]⟩,q⟩
theorem BK:Cc X (.type "list") (fun xs H Q=>∃p ys,xs=[.ref p]/\(SqL X.K H p ys\/SqT X.K H p ys)/\∀l,H l=none->Q (.ref l) (upd H l (.lst ys))):=by
 intro pins s σ H xs us Q I r h;obtain ⟨p,ys,rfl,hq,q⟩:=h;obtain ⟨u,rfl,rx⟩:=DE r
 cases rx
 have fin:∀(its:List Value),AE ys its->ys.length<=sizeLine->∀(h':Heap) (c':Nat),(∀b o',s.heap.get? b=some o'->h'.get? b=some o') ->
  h'.get? s.heap.objs.size=some { cls:=.type "list",dict:=none,data:=.seq its.toArray c',slots:=#[] }->EP X pins σ Q (.ref s.heap.objs.size) { s with heap:=h' }:=fun its r' hz h' c' kp e =>
  ⟨.ref s.heap.objs.size,_,I.laid (t':=s.toks) kp (Nat.le_refl _) (show Bl X.prog X.w _ h' _ (.lst ys) from ⟨hz,its,c',r',e⟩),rfl,q _ (I.hok.fresh (Nat.le_refl _))⟩
 rcases hq with hq | hq
 ·obtain ⟨its,r',pl,hz⟩:=I.list hq;have hlen:=r'.length;obtain ⟨o,ho,hc,n,hd⟩:=pl.isList;exact call_list_seq p (.inl rfl) ho hc hd (fun h' c' kp e=>fin its r' hz h' c' kp e) (by simp only [size_toArray] <;> ext)
 ·obtain ⟨its,r',pl,hz⟩:=I.tuple hq;have hlen:=r'.length;obtain ⟨o,ho,hc,n,hd⟩:=pl;exact call_list_seq p (.inr rfl) ho hc hd (fun h' c' kp e=>fin its r' hz h' c' kp e) (by simp only [size_toArray] <;> ext)
theorem HJ:Cc X (.type "tuple") (fun xs H Q=>∃p ys,xs=[.ref p]/\((SqL X.K H p ys/\∀l,H l=none->Q (.ref l) (upd H l (.tup ys)))\/(SqT X.K H p ys/\Q (.ref p) H))):=by
 intro pins s σ H xs us Q I r h;obtain ⟨p,ys,rfl,h⟩:=h;obtain ⟨u,rfl,rx⟩:=DE r
 cases rx
 rcases h with ⟨hq,q⟩ | ⟨hq,q⟩
 ·obtain ⟨its,r',pl,hz⟩:=I.list hq;have hlen:=r'.length;refine call_tuple_list pl.isList (fun h' kp=>?_) (by simp only [size_toArray] <;> ext);have I1:Inv X pins σ H { s with heap:=h' }:=I.kept (t':=s.toks) kp
  have I2:Inv X pins σ (upd H h'.objs.size (.tup ys)) { s with heap:=h'.push { cls:=.type "tuple",data:=.seq its.toArray } } :=
   I1.laid (t':=s.toks) (fun b o e=>Heap.get?_push_of_some _ e) (Nat.le_refl _) (show Bl X.prog X.w _ _ _ (.tup ys) from ⟨hz,its,r',IsTup.new _ _⟩)
  exact ⟨.ref h'.objs.size,_,I2,rfl,q _ (I1.hok.fresh (Nat.le_refl _))⟩
 ·obtain ⟨its,r',pl,hz⟩:=I.tuple hq;exact call_tuple_same pl ⟨.ref p,H,I,rfl,q⟩
def tyV (K:PySem.W.Frag) (T:String) (x:V) (H:Hp):Prop:=match x with
 | .str _=>T="str"
 | .int _=>T="int"
 | .ref p=>(T="list"/\∃xs,SqL K H p xs)\/(T="tuple"/\∃o,K.lookup p=some o/\o.cls=.type "tuple"/\o.dict=none) \/
  (T="dict"/\((∃kvs,H p=some (.dK kvs))\/∃kvs,H p=some (.dT kvs)))\/(T="set"/\∃S n,H p=some (.set S n))
 | _=>False
theorem Py {pins:List (Addr × Obj)} {σ:St} {H:Hp} {s:Shared} {T:String} {x:V} {v:Value} (I:Inv X pins σ H s) (r:AF x v) (ty:tyV X.K T x H) :
 s.TypeIs v T/\∀a,v=.ref a->∃ob,s.heap.get? a=some ob/\ob.dict=none:=by
 cases x with
 | str z =>
   obtain ⟨t,rfl⟩:=r
   cases (show T="str" from ty)
   exact ⟨typeIs_str s z t,fun _ e=>nomatch e⟩
 | int i =>
   obtain ⟨t,rfl⟩:=r
   cases (show T="int" from ty)
   exact ⟨typeIs_int s i t,fun _ e=>nomatch e⟩
 | ref p =>
   cases r
   rcases ty with ⟨rfl,xs,hq⟩ | ⟨rfl,o,hk,hc,hd⟩ | ⟨rfl,hk⟩ | ⟨rfl,S,n,hk⟩
   ·obtain ⟨its,_,pl,_⟩:=I.list hq;refine ⟨pl.isList.typeIs,fun a e=>?_⟩
    cases e
    obtain ⟨o,n,e,c,hd,_⟩:=pl;exact ⟨o,e,hd⟩
   ·refine ⟨⟨o,I.kIn p o hk,hc⟩,fun a e=>?_⟩
    cases e
    exact ⟨o,I.kIn _ o hk,hd⟩
   ·have z:∃o,s.heap.get? p=some o/\o.ExactDict:=by
     rcases hk with ⟨kvs,hk⟩ | ⟨kvs,hk⟩
     ·obtain ⟨_,_,_,_,o,_,_,e,ex,_⟩:=I.hok p _ hk;exact ⟨o,e,ex⟩
     ·obtain ⟨_,_,_,_,o,_,_,e,ex,_⟩:=I.hok p _ hk;exact ⟨o,e,ex⟩
    obtain ⟨o,e,ex⟩:=z;refine ⟨⟨o,e,ex.1⟩,fun a e2=>?_⟩
    cases e2
    exact ⟨o,e,ex.2.1⟩
   ·obtain ⟨o,_,_,_,e,ex,_⟩:=I.hok p _ hk;refine ⟨⟨o,e,ex.1⟩,fun a e2=>?_⟩
    cases e2
    exact ⟨o,e,ex.2.1⟩
 | _=>exact False.elim ty
def SX (K:PySem.W.Frag) (T:String) (r:V->List V->Hp->VK->Prop) (to:TE):TE:=fun σ H Q=>to σ H fun x H1=>tyV K T x H1/\r x [] H1 Q
def tBM (K:PySem.W.Frag) (T:String) (r:V->List V->Hp->VK->Prop) (to:TE) (t:TA):TE:=fun σ H Q=>to σ H fun x H1=>tyV K T x H1/\t σ H1 fun xs H2=>r x xs H2 Q
variable {o e:Expr} {es:List Expr} {to:TE} {t:TA} {name:Str} {apos cpos:Pos} {T id:String} {r:V->List V->Hp->VK->Prop}
theorem R1 (pa:PlainAttrs T) (slot:Slot T name id) (hty:typeOf (.builtin id)=pure (.type "method_descriptor")) (hm:MtR X id r) (ho:PE X o to)
 (hbase:attributeBase o name X.env (eval o X.env)=eval o X.env:=by rfl) (hline:(apos.endLine == cpos.line)=true:=by rfl):PE X (.Call (.Attribute o name apos) [] [] cpos) (SX X.K T r to):=by
 intro pins s σ H Q I h;refine wpAny_Call_method0_late hbase hline (thn (ho pins s σ H _ I h) fun v s1 ⟨x,H1,I1,r1,ty,q1⟩=>?_);obtain ⟨h1,h2⟩:=Py I1 r1 ty;exact ⟨T,id,pa,slot,hty,h1,h2,Calls.callWith_builtin rfl (PySem.evalArgs_none (hm pins s1 σ H1 x [] v [] Q I1 r1 .nil q1))⟩
theorem Cy (pa:PlainAttrs T) (slot:Slot T name id) (hty:typeOf (.builtin id)=pure (.type "method_descriptor")) (hm:MtR X id r) (ho:PE X o to) (ha:PA X (e :: es) t)
 (hbase:attributeBase o name X.env (eval o X.env)=eval o X.env:=by rfl)
 (hfew:((backTo cpos (starEach (e :: es) X.env)).all (fun x=>!x.1) && (backToKw cpos (keywordEach [] X.env)).all (fun x=>x.1.isSome)
  && decide ((e :: es).length+([]:List Keyword).length+(if ([]:List Keyword).isEmpty then 0 else 1) < 30))=true:=by rfl)
 (hline:(apos.endLine == cpos.line)=true:=by rfl) (hs:starEach (e :: es) X.env=(false,eval e X.env) :: starEach es X.env:=by rfl) (hplain:(backTo cpos (starEach es X.env)).any (·.1)=false:=by rfl) :
 PE X (.Call (.Attribute o name apos) (e :: es) [] cpos) (tBM X.K T r to t):=by
 intro pins s σ H Q I h;refine wpAny_Call_method_late hbase hfew hline rfl (thn (ho pins s σ H _ I h) fun v s1 ⟨x,H1,I1,r1,ty,q1⟩=>?_);obtain ⟨h1,h2⟩:=Py I1 r1 ty;refine ⟨T,id,pa,slot,hty,h1,h2,?_⟩;have hA:=ha cpos pins s1 σ H1 _ I1 q1;rw [hs] at hA ⊢;refine Calls.callWith_builtin (by show (false || (backTo cpos (starEach es X.env)).any (·.1))=false;rw [hplain] <;> rfl) (Calls.evalArgs_plain ?_);exact thn hA fun us s2 ⟨vs,H2,I2,r2,q2⟩=>hm pins s2 σ H2 x vs v us Q I2 r1 r2 q2
end
end L2
namespace L2
open PySem PySem.Spec PyProof.Rows
def MtM (X:Cx) (id:String) (r:V->List V->Hp->VK->Prop):Prop :=
 ∀(pins:List (Addr × Obj)) (s:Shared) (σ:St) (H:Hp) (x:V) (xs:List V) (v:Value) (us:List Value) (Q:VK),Inv X pins σ H s->AF x v->AE xs us->r x xs H Q ->
  wpAny (model X.prog X.w) X.A (call (.builtin id) (v :: us)) (EP X pins σ Q) X.xe s
theorem AE.one:∀{x:V} {us:List Value},AE [x] us->∃u,us=[u]/\AF x u
 | _,_,.cons r .nil=>⟨_,rfl,r⟩
theorem AE.eraseIdx:∀{xs:List V} {us:List Value} (i:Nat),AE xs us->AE (xs.eraseIdx i) (us.eraseIdx i)
 | _,_,_,.nil=>.nil
 | _,_,0,.cons _ t=>t
 | _,_,i+1,.cons r t=>.cons r (AE.eraseIdx i t)
theorem AE.reverse {xs:List V} {us:List Value} (h:AE xs us):AE xs.reverse us.reverse:=by
 induction h with
 | nil=>exact .nil
 | cons r t ih=>rw [reverse_cons,reverse_cons];exact AE.append ih (.cons r .nil)
theorem AE.rep {xs:List V} {us:List Value} (h:AE xs us):∀k:Nat,AE (List.replicate k xs).flatten (List.replicate k us).flatten
 | 0=>.nil
 | k+1=>by
   rw [replicate_succ,replicate_succ,flatten_cons,flatten_cons];exact AE.append h (AE.rep h k)
theorem Fx {α:Type}:∀(l:List α) (i:Nat),(l.eraseIdx i).length<=l.length
 | [],_=>Nat.le_refl _
 | _ :: _,0=>Nat.le_succ _
 | _ :: r,i+1=>Nat.succ_le_succ (Fx r i)
theorem Ij (its:List Value):∀(k:Nat) (acc:List Value),
 List.foldl (fun x1 x2=>x1++x2) acc.toArray (List.replicate k its.toArray)=(acc++(List.replicate k its).flatten).toArray
 | 0,acc=>by simp
 | k+1,acc=>by
   have e:acc.toArray++its.toArray=(acc++its).toArray:=by simp
   have e2:(acc++its)++(List.replicate k its).flatten=acc++(List.replicate (k+1) its).flatten:=by
    rw [replicate_succ,flatten_cons,append_assoc]
   rw [<- e2,<- Ij its k (acc++its),<- e,replicate_succ,foldl_cons]
section
variable {X:Cx} {pins:List (Addr × Obj)} {σ:St} {H:Hp} {s:Shared} {l b:Addr} {xs ys zs:List V}
theorem Inv.lset {its its':List Value} {n:Nat} {f:Array Value->Array Value} {t':Nat} (I:Inv X pins σ H s) (hH:H l=some (.lst xs))
 (e:s.heap.get? l=some { cls:=.type "list",data:=.seq its.toArray n }) (hf:f its.toArray=its'.toArray) (hv:AE ys its') (hz:ys.length<=sizeLine) :
 Inv X pins σ (upd H l (.lst ys)) { s with heap:=s.heap.update l (Obj.mapSeq f),toks:=t' }:=by
 have q:=PySem.IsL.update e f;rw [hf] at q;refine I.write (x:=l) (e:=l) (by rw [hH];exact trivial) (.inl rfl) (fun b' u hb hu=>(Heap.get?_update_other s.heap (Obj.mapSeq f) (Ne.symm hb)).trans hu) ⟨_,q⟩ ?_;exact ⟨hz,its',_,hv,q⟩
theorem Inv.lnew {its:List Value} {t':Nat} (I:Inv X pins σ H s) (hv:AE ys its) (hz:ys.length<=sizeLine) :
 Inv X pins σ (upd H s.heap.objs.size (.lst ys)) { s with heap:=s.heap.push { cls:=.type "list",data:=.seq its.toArray },toks:=t' } :=
 I.laid (fun _ _ q=>Heap.get?_push_of_some _ q) (Nat.le_refl _) ⟨hz,its,0,hv,Heap.get?_push_size _ rfl⟩
theorem Inv.fresh (I:Inv X pins σ H s):H s.heap.objs.size=none:=I.hok.fresh (Nat.le_refl _)
theorem Inv.lstM (I:Inv X pins σ H s) (hH:H l=some (.lst xs)):xs.length<=sizeLine/\∃(its:List Value) (n:Nat),AE xs its/\xs.length=its.length/\s.heap.get? l=some { cls:=.type "list",data:=.seq its.toArray n }:=by
 obtain ⟨z,its,n,r,e⟩:=I.hok l _ hH;exact ⟨z,its,n,r,r.length,e⟩
theorem K3 {n:Nat} (h:n<=sizeLine):Builtin.List.listTooLong n=false:=by
 unfold Builtin.List.listTooLong;exact decide_eq_false (by ext)
end
section
variable {X:Cx}
def Qs:V->List V->Hp->VK->Prop:=fun x vs H Q=>∃l xs y,x=.ref l/\vs=[y]/\H l=some (.lst xs)/\xs.length < sizeLine/\Q .non (upd H l (.lst (xs++[y])))
theorem Bn:MtM X "list.append" Qs:=by
 intro pins s σ H x vs v us Q I rx rv h;obtain ⟨l,xs,y,rfl,rfl,hH,hz,q⟩:=h
 cases rx
 obtain ⟨u,rfl,ru⟩:=rv.one;obtain ⟨z,its,n,r,hl,e⟩:=I.lstM hH;refine call_meets F.slot_list_append ⟨_,e,rfl⟩ F.entry_list_append (F.args_list_append_2 _ _) (PySem.list_append l its.toArray n u (by rw [size_toArray];ext)) ⟨e,?_⟩;refine ⟨.non,_,I.lset (its':=its++[u]) hH e (by simp) (r.append (.cons ru .nil)) ?_,rfl,q⟩;rw [length_append,length_singleton];ext
def Qt:V->List V->Hp->VK->Prop:=fun x vs H Q=>∃l b xs zs,x=.ref l/\vs=[.ref b]/\H l=some (.lst xs)/\H b=some (.lst zs)/\xs.length+zs.length<=sizeLine/\Q .non (upd H l (.lst (xs++zs)))
theorem Iu:MtM X "list.extend" Qt:=by
 intro pins s σ H x vs v us Q I rx rv h;obtain ⟨l,b,xs,zs,rfl,rfl,hH,hB,hz,q⟩:=h
 cases rx
 obtain ⟨u,rfl,ru⟩:=rv.one
 cases ru
 obtain ⟨z,its,n,r,hl,e⟩:=I.lstM hH;obtain ⟨z2,its2,n2,r2,hl2,e2⟩:=I.lstM hB;have hsz:its.toArray.size+its2.toArray.size<=sizeLine:=by rw [size_toArray,size_toArray];ext
 have hlong:¬ (!its.toArray.isEmpty && Builtin.List.listTooLong (its.toArray.size+its2.toArray.size))=true:=by
  rw [K3 hsz,Bool.and_false];exact Bool.false_ne_true
 refine call_meets F.slot_list_extend ⟨_,e,rfl⟩ F.entry_list_extend (F.args_list_extend_2 _ _)
  (AutoSeq1.list_extend_list_list_0 l its.toArray n b its2.toArray n2 hlong (by rw [size_toArray];ext) (by ext)) ⟨e,e2,?_⟩
 refine ⟨.non,_,I.lset (its':=its++its2) hH e (by simp) (r.append r2) ?_,rfl,q⟩;rw [length_append];ext
def R7:V->List V->Hp->VK->Prop:=fun x vs H Q=>∃l xs i k y,x=.ref l/\vs=[.int i]/\H l=some (.lst xs)/\-(2 ^ 63)<=i/\i < 2 ^ 63/\seqIndex? i xs.length=some k/\xs[k]?=some y/\Q y (upd H l (.lst (xs.eraseIdx k)))
theorem OJ:MtM X "list.pop" R7:=by
 intro pins s σ H x vs v us Q I rx rv h;obtain ⟨l,xs,i,k,y,rfl,rfl,hH,h1,h2,hk,hy,q⟩:=h
 cases rx
 obtain ⟨u,rfl,ru⟩:=rv.one;obtain ⟨t,rfl⟩:=ru;obtain ⟨z,its,n,r,hl,e⟩:=I.lstM hH;obtain ⟨w,hw,rw'⟩:=r.get hy
 refine call_meets F.slot_list_pop ⟨_,e,rfl⟩ F.entry_list_pop (F.args_list_pop_2 _ _)
  (MeetsSeq.list_pop_at l its.toArray n i t k w (fitsIndex_both h1 h2) (by rw [size_toArray,<- hl];exact hk) (by rw [<- Array.getElem?_toList];exact hw) (by rw [size_toArray];ext)) ⟨e,?_⟩
 refine ⟨y,_,I.lset (its':=its.eraseIdx k) hH e ?_ (r.eraseIdx k) ?_,rw',q⟩
 ·show its.toArray.eraseIdxIfInBounds k=(its.eraseIdx k).toArray;rw [eraseIdxIfInBounds_toArray]
 ·have:=Fx xs k;ext
def SQ:R2:=fun x y H Q=>∃l b xs zs,x=.ref l/\y=.ref b/\H l=some (.lst xs)/\H b=some (.lst zs)/\xs.length+zs.length<=sizeLine/\∀p,H p=none->Q (.ref p) (upd H p (.lst (xs++zs)))
theorem AW:OpR X (binaryOp .Add) SQ:=by
 intro pins s σ H x y v u Q I rx ry h;obtain ⟨l,b,xs,zs,rfl,rfl,hH,hB,hz,q⟩:=h
 cases rx
 cases ry
 obtain ⟨z,its,n,r,hl,e⟩:=I.lstM hH;obtain ⟨z2,its2,n2,r2,hl2,e2⟩:=I.lstM hB;refine PySem.P.add_list e e2 ?_ (by rw [size_toArray,size_toArray];ext);have ea:its.toArray++its2.toArray=(its++its2).toArray:=by simp
 rw [ea];exact ⟨.ref _,_,I.lnew (t':=s.toks) (r.append r2) (by rw [length_append];ext),rfl,q _ I.fresh⟩
def ST:R2:=fun x y H Q=>∃l k xs,x=.ref l/\y=.int k/\H l=some (.lst xs)/\-(2 ^ 63)<=k/\k < 2 ^ 63/\xs.length*k.toNat<=sizeLine /\
 ∀p,H p=none->Q (.ref p) (upd H p (.lst (List.replicate k.toNat xs).flatten))
theorem Qb {α:Type} (xs:List α) (k:Nat):(List.replicate k xs).flatten.length=k*xs.length:=by
 induction k with
 | zero=>simp
 | succ k ih=>rw [replicate_succ,flatten_cons,length_append,ih,Nat.succ_mul,Nat.add_comm]
theorem R0:OpR X (binaryOp .Mult) ST:=by
 intro pins s σ H x y v u Q I rx ry h;obtain ⟨l,k,xs,rfl,rfl,hH,h1,h2,hz,q⟩:=h
 cases rx
 obtain ⟨t,rfl⟩:=ry;obtain ⟨z,its,n,r,hl,e⟩:=I.lstM hH;have hlen:its.toArray.size*k.toNat<=sizeLine:=by rw [size_toArray,<- hl];exact hz
 have hcap:¬ its.toArray.size*k.toNat > (2 ^ 63 - 1) / 8:=by
  have:(sizeLine:Nat)<=(2 ^ 63 - 1) / 8:=by decide
  ext
 have hfit:¬ (!Builtin.List.listFitsIndex k)=true:=by
  rw [fitsIndex_both h1 h2];exact Bool.false_ne_true
 have hlong:¬ Builtin.List.listTooLong (its.toArray.size*k.toNat)=true:=by
  rw [K3 hlen];exact Bool.false_ne_true
 have hnew:List.foldl (fun x1 x2=>x1++x2) #[] (List.replicate (if its.toArray.isEmpty=true then 0 else k.toNat) its.toArray)=(List.replicate k.toNat its).flatten.toArray:=by
  have f0:∀m:Nat,List.foldl (fun x1 x2=>x1++x2) #[] (List.replicate m its.toArray)=(List.replicate m its).flatten.toArray:=fun m=>by
   have:=Ij its m [];rw [nil_append] at this;exact this
  rw [f0]
  cases its with
  | nil=>simp
  | cons a r'=>rw [if_neg (by simp)]
 refine wpAny_binaryOp_repeat_ref (T:="list") (U:="int") (by decide) ⟨_,e,rfl⟩ (fun s'=>typeIs_int s' k t) noFill_list_mul F.fills_int_mul F.slot_int_rmul repeat_list F.slot_int_index.lookup
  (call_meets F.slot_int_rmul (typeIs_int s k t) F.entry_int_rmul (F.args_int_rmul_2 _ _) (int___rmul___int_list k t l its.toArray n)
   ⟨e,rfl,⟨_,e,rfl⟩,call_meets F.slot_list_mul ⟨_,e,rfl⟩ F.entry_list_mul (F.args_list_mul_2 _ _) (AutoListH.list___mul___list_int_3 l its.toArray n k t hfit hcap hlong) ⟨e,?_⟩⟩)
 rw [hnew];exact ⟨.ref _,_,I.lnew (t':=s.toks) (r.rep k.toNat) (by rw [Qb,Nat.mul_comm];exact hz),rfl,q _ I.fresh⟩
end
section
variable {prog:Program} {w:World} {A:Around} {E:Value->Shared->Prop} {s:Shared}
set_option maxRecDepth 100000 in
end
section
variable {X:Cx}
end
end L2
namespace Att
open PySem PySem.W PySem.Calls PyProof.Rows
theorem Gh {P:Params} {h:Heap}:∀(ns:List Int) (vs:List Value),WellAll P h vs (ns.map WData.int)->IntsAre vs ns:=by
 intro ns
 induction ns with
 | nil =>
   intro vs w;rw [map_nil] at w
   cases w
   exact .nil
 | cons n ns ih =>
   intro vs w;rw [map_cons] at w
   cases w with
   | cons a b =>
     cases a
     exact .cons _ _ (ih _ b)
theorem NM {l:OpenLaw} {n:Nat} (hn:l.most=some n) {P:Params} {h:Heap} {args:List WData} {vals:List Value}
 (hpre:l.row.toRowW.claim.pre args=true) (hwl:WellAll P h vals args) :
 ∃a vs ns,vals=[Value.ref a]/\args=[WData.list (ns.map WData.int)]/\h.get? a=some { cls:=.type "list",data:=.seq vs.toArray }/\IntsAre vs ns/\ns.length<=n:=by
 have hsh:WShape.hasAll [] args [.list .int]=true:=(pre_splitW hpre).1;have hc:l.pre.holds [] { args:=args }=true:=(pre_splitW hpre).2;obtain ⟨d,r,rfl,h1,h2⟩:=hasAllW_cons hsh;obtain rfl:=hasAllW_nil h2;obtain ⟨xs,rfl,h3⟩:=hasW_list h1;obtain ⟨ns,rfl⟩:=items_int h3
 have hlen:ns.length<=n:=by
  unfold OpenLaw.pre at hc
  have h4:(WTm.not (.lt (.lit (.int (n:Int))) (.len (.arg 0)))).holds [] { args:=[.list (ns.map .int)] }=true:=by
   have h4:=(holds_andW hc).1;rw [hn] at h4;exact h4
  have h5:=condW_of h4 (w_not (w_lt w_lit (w_len_list (w_arg rfl))));rw [length_map] at h5;refine Nat.le_of_not_lt fun q=>?_;have q':(n:Int) < ((ns.length:Nat):Int):=by ext
  first
   | (rw [decide_eq_true q'] at h5;exact absurd h5 (by decide))
   | (simp at h5;ext)
 cases hwl with
 | cons w1 w2 =>
   cases w2
   cases w1 with
   | list ho hall=>exact ⟨_,_,ns,rfl,rfl,ho,Gh ns _ hall,hlen⟩
theorem NF (l:OpenLaw) (args:List WData):l.row.toRowW.claim.post args (.bool true) args=true :=
 postW_of (r:=l.row.toRowW) (X:=(true == true))
  (show WShape.has [] (.bool true) .bool=true by first | rfl | decide | simp [WShape.has,WShape.arms,WShape.armsAll])
  (show (WTm.eq .res (.lit (.bool true))).value [] { args:=args,res:=some (.bool true),after:=args }=some (.bool (true == true)) from w_eq_bool (w_res rfl) w_lit) rfl
theorem attach_call {l:OpenLaw} {n:Nat} {q:Program} {loose:List Str} {XP:(Str->Option Value)->Heap->Prop} {YP:World->Heap->Prop} {d:DefRec}
 (hn:l.most=some n) (hdf:d.params.defaults=[])
 (call:∀(w:World) (s₀ s₁:Shared) (mg mb:Str->Option Value) (fa:Addr) (o:Obj) (pm cd doc:Value) (a:Addr) (vs:List Value) (ns:List Int),
  Ground q loose [] XP w s₀ mg mb s₁.heap->YP w s₁.heap ->
  s₁.heap.get? fa=some o->o.data=.func (docDef d.name d.params d.body d.scope pm cd doc)->s₁.heap.CodeRec cd d.name->mg d.name=some (.ref fa) ->
  s₁.heap.get? a=some { cls:=.type "list",data:=.seq vs.toArray }->IntsAre vs ns->ns.length<=n->s₁.gens=#[] ->
  codeAny (model l.prog w) callerA (.call (.ref fa) ⟨[.ref a],[]⟩) (fun r s'=>r=.ok (.ret (.bool true))/\OldK s₁.heap s'.heap/\s'.os=s₁.os/\AllBare s'.gens) s₁) :
 WalkO q loose XP YP l.row.toRowW d [] (fun f vs=>PySem.call f vs):=by
 intro w s₀ s₁ mg mb G Y fa o pm cd doc dV kV ho hd hcd hD hmg hg args vals as hpre hlay hrd hwl hlo;obtain rfl:dV=.none:=Dflts.none hD hdf;obtain rfl:kV=.none:=Dflts.noKw hD;obtain ⟨a,vs,ns,rfl,rfl,hobj,hints,hlen⟩:=NM hn hpre hwl;refine enter_call (codeAny_mono (call w s₀ s₁ mg mb fa o pm cd doc a vs ns G Y ho (fd_plain hd) hcd hmg hobj hints hlen hg) fun r s' hq=>?_);obtain ⟨rfl,h2,h3,h4⟩:=hq;exact ⟨.inl ⟨.bool true,.bool true,[],rfl,fun _=>rfl,.bool true,NF l _,fun _=>⟨List.Pairwise.nil,fun _ hm=>(nomatch hm)⟩⟩,h2,h3,h4⟩
section
variable {prog:Program} {w:World} {A:Around} {E:Value->Shared->Prop} {s:Shared} {K:Frag}
end
end Att
namespace L2
open PySem PySem.Spec PyProof.Rows
theorem E3:∀{vs:List Value} {ns:List Int},IntsAre vs ns->AE (ns.map V.int) vs
 | _,_,.nil=>.nil
 | _,_,.cons n t h=>.cons ⟨t,rfl⟩ (E3 h)
end L2
namespace L2
open PySem PySem.Spec PyProof.Rows
end L2
namespace L2
open PySem PySem.Spec PyProof.Rows
def De (s:Stmt) (j:Nat):Stmt:=match s with
 | .ClassDef _ _ _ body _ _ _ _ _ _ _=>body.getD j (.Pass ⟨0,0,0,0⟩)
 | _=>.Pass ⟨0,0,0,0⟩
def Ez (s:Stmt):Arguments:=match s with
 | .FunctionDef _ a _ _ _ _ _ _ _ _=>a
 | _=>{ posonlyargs:=[],args:=[],vararg:=none,kwonlyargs:=[],kw_defaults:=[],kwarg:=none,defaults:=[] }
def CQ (s:Stmt):List Stmt:=match s with
 | .FunctionDef _ _ b _ _ _ _ _ _ _=>b
 | _=>[]
def Af (s:Stmt):Scope:=match s with
 | .FunctionDef _ _ _ _ _ _ sc _ _ _=>sc
 | _=>{ kind:=.function,names:=[],isGenerator:=false,isCoroutine:=false }
abbrev CX0:CXT:=fun _ _ _ _ _ _=>False
abbrev E0:XK:=fun _ _ _=>False
theorem Aw {X:Cx}:Fp CX0 X E0:=fun _ _ _ _ _ _ _ h=>h.elim
structure Fun (K:PySem.W.Frag) (x qual:Str) (st:Stmt) (f:Addr) (fd:FuncData):Prop where
 ex:∃(oc:Value) (od:Option Addr) (kV doc pm:Value) (an:Option Addr) (cdv ct:Value) (osl:Array (Option Value)),
  fd=PySem.W.fnOf x qual (Ez st) (CQ st) (Af st) .none kV doc pm an cdv ct/\K.lookup f=some ⟨oc,od,.func fd,osl⟩/\PySem.W.codeIn K cdv qual=true
 kp:PySem.W.keepIn K (.ref f)=true
section
variable {P:Program} {w:World} {K:PySem.W.Frag} {mg:Str->Option Value} {base:Heap}
theorem Fun.ok {x qual:Str} {st:Stmt} {f:Addr} {fd:FuncData} {N ps:List Str} {k:Nat} {sp:Sp} (F:Fun K x qual st f fd) (S:Ap N ps (Af st)) (len:∀vs H Q E,sp vs H Q E->vs.length=ps.length)
 (hbody:∀(cdv:Value) (A:Around) (outer:List Env) (s:Shared) (H:Hp) (vs:List V) (Q:VK) (E:XK),CB k (A.deeper (envOfC qual (Af st) s.heap.objs.size f cdv))->sp vs H Q E ->
  ∃t,PSs (Kd CX0 P w K mg base N qual (Af st) f cdv A outer s H E).nox (CQ st) t/\t { nx:=fun _ H'=>Q .non H',rt:=Q } (start N vs) H):AZ P w K mg base CX0 (k+1) f fd ps sp:=by
 obtain ⟨oc,od,kV,doc,pm,an,cdv,ct,osl,rfl,lk,hcd⟩:=F.ex;refine O0 lk hcd S len fun A outer s H vs Q E hr hsp=>?_;obtain ⟨t,h,q⟩:=hbody cdv A outer s H vs Q E hr hsp;exact ⟨t,h.nox,q⟩
theorem fun_mk {x qual:Str} {st:Stmt} {f:Addr} {oc:Value} {od an:Option Addr} {osl:Array (Option Value)} {kV doc pm cdv ct:Value} (l:K.lookup f=some ⟨oc,od,.func (PySem.W.fnOf x qual (Ez st) (CQ st) (Af st) .none kV doc pm an cdv ct),osl⟩)
 (c:PySem.W.codeIn K cdv qual=true) (k:PySem.W.keepIn K (.ref f)=true):Fun K x qual st f (PySem.W.fnOf x qual (Ez st) (CQ st) (Af st) .none kV doc pm an cdv ct):=⟨⟨oc,od,kV,doc,pm,an,cdv,ct,osl,rfl,l,c⟩,k⟩
end
theorem AU {n:Nat} (h:n<=1000):n < sizeLine:=Nat.lt_of_le_of_lt h (by decide)
section
variable {X:Cx}
theorem pv (i:Nat) {x:Str} {pos:Pos} (hN:X.N[i]?=some x:=by rfl) (hv:Vis X.env.scope x:=by first | exact Or.inl rfl | exact Or.inr (Or.inl rfl) | exact Or.inr (Or.inr rfl)) (hd:(x == ("__debug__":Str))=false:=by decide)
 (hcd:(x == ("__classdict__":Str))=false:=by decide):PE X (.Name x pos) (SF i):=R3 hN hv hd hcd
end
theorem SN {A B:Prop} (h:B):if false=true then A else B:=by
 rw [if_neg Bool.false_ne_true];exact h
theorem Sk {A B:Prop} (h:A):if true=true then A else B:=by
 rw [if_pos rfl];exact h
theorem Sj {c A B:Prop} [Decidable c] (h1:c->A) (h2:¬ c->B):if c then A else B:=by
 by_cases h:c
 ·rw [if_pos h];exact h1 h
 ·rw [if_neg h];exact h2 h
def Al (H H':Hp):Prop:=∀b o,H b=some o->H' b=some o
theorem Al.refl (H:Hp):Al H H:=fun _ _ h=>h
theorem Al.trans {H H1 H2:Hp} (a:Al H H1) (b:Al H1 H2):Al H H2:=fun c o h=>b c o (a c o h)
theorem Al.seq {K:PySem.W.Frag} {H H':Hp} {a:Addr} {xs:List V} (e:Al H H') (h:SqL K H a xs):SqL K H' a xs:=by
 rcases h with (h | ⟨o,h⟩) | h
 ·exact .inl (.inl (e _ _ h))
 ·exact .inl (.inr ⟨o,e _ _ h⟩)
 ·exact .inr h
end L2
namespace L2
open PySem PySem.Spec PyProof.Rows
section
variable {κ:Type} [DecidableEq κ]
def CH (kvs:List (κ × V)) (k:κ):Option V:=(kvs.find? fun kv=>decide (kv.1=k)).map (·.2)
def CV (kvs:List (κ × V)) (k:κ) (v:V):List (κ × V) :=
 if (kvs.any fun kv=>decide (kv.1=k))=true then kvs.map (fun kv=>if kv.1=k then (kv.1,v) else kv) else kvs++[(k,v)]
theorem HA {p:κ × V} {r:List (κ × V)} {k:κ} (e:p.1=k):CH (p :: r) k=some p.2:=by simp [CH,List.find?_cons,e]
theorem Hz {p:κ × V} {r:List (κ × V)} {k:κ} (e:¬ p.1=k):CH (p :: r) k=CH r k:=by simp [CH,List.find?_cons,e]
theorem Ex (k:κ):∀kvs:List (κ × V),(kvs.any fun kv=>decide (kv.1=k))=(CH kvs k).isSome
 | []=>rfl
 | p :: r=>by
   rw [any_cons];by_cases e:p.1=k
   ·simp only [HA e,decide_eq_true e,Bool.true_or,Option.isSome_some]
   ·rw [Hz e,decide_eq_false e,Bool.false_or];exact Ex k r
theorem FI (kvs:List (κ × V)) (k:κ) (v:V):(CV kvs k v).length<=kvs.length+1:=by
 unfold CV
 split
 ·rw [length_map];ext
 ·rw [length_append,length_cons,length_nil];ext
theorem DZ.isSome_eq {o:Option V} {u:Option Value} (r:DZ o u):o.isSome=u.isSome:=by
 cases o with
 | none=>cases u with
   | none=>rfl
   | some _=>exact (show False from r).elim
 | some _=>cases u with
   | none=>exact (show False from r).elim
   | some _=>rfl
theorem DZ.getD {o:Option V} {u:Option Value} {d:V} {d':Value} (r:DZ o u) (rd:AF d d'):AF (o.getD d) (u.getD d'):=by
 cases o with
 | none=>cases u with
   | none=>exact rd
   | some _=>exact (show False from r).elim
 | some _=>cases u with
   | none=>exact (show False from r).elim
   | some _=>exact r
theorem KV.val {kvs:List (κ × V)} {vs:List (κ × Value)} (r:KV kvs vs) (k:κ):DZ (CH kvs k) (valueAt vs k):=by
 unfold KV at r
 induction r with
 | nil=>exact True.intro
 | @cons p q ps qs h t ih =>
   obtain ⟨h1,h2⟩:=h;by_cases e:p.1=k
   ·have e':q.1=k:=h1.symm.trans e;have b:valueAt (q :: qs) k=some q.2:=by simp [valueAt,List.find?_cons,e']
    rw [HA e,b];exact h2
   ·have e':¬ q.1=k:=fun z=>e (h1.trans z);have b:valueAt (q :: qs) k=valueAt qs k:=by simp [valueAt,List.find?_cons,e']
    rw [Hz e,b];exact ih
theorem KV.any {kvs:List (κ × V)} {vs:List (κ × Value)} (r:KV kvs vs) (k:κ):(kvs.any fun kv=>decide (kv.1=k))=vs.any fun kv=>decide (kv.1=k):=by
 unfold KV at r
 induction r with
 | nil=>rfl
 | cons h t ih=>rw [any_cons,any_cons,ih,h.1]
theorem KV.repl {kvs:List (κ × V)} {vs:List (κ × Value)} (r:KV kvs vs) (k:κ) {y:V} {u:Value} (ry:AF y u) :
 KV (kvs.map fun kv=>if kv.1=k then (kv.1,y) else kv) (vs.map fun kv=>if kv.1=k then (kv.1,u) else kv):=by
 unfold KV at r ⊢
 induction r with
 | nil=>exact .nil
 | @cons p q ps qs h t ih =>
   rw [map_cons,map_cons];refine .cons ?_ ih;obtain ⟨h1,h2⟩:=h;by_cases e:p.1=k
   ·rw [if_pos e,if_pos (h1.symm.trans e)];exact ⟨h1,ry⟩
   ·rw [if_neg e,if_neg (fun z=>e (h1.trans z))];exact ⟨h1,h2⟩
theorem KV.put {kvs:List (κ × V)} {vs:List (κ × Value)} (r:KV kvs vs) (k:κ) {y:V} {u:Value} (ry:AF y u):KV (CV kvs k y) (stored vs k u):=by
 unfold CV stored;rw [r.any k];by_cases e:(vs.any fun kv=>decide (kv.1=k))=true
 ·rw [if_pos e,if_pos e];exact r.repl k ry
 ·rw [if_neg e,if_neg e];exact Paired.snoc r ⟨rfl,ry⟩
theorem KV.length {kvs:List (κ × V)} {vs:List (κ × Value)} (r:KV kvs vs):kvs.length=vs.length:=Paired.length r
end
theorem Mu {P:Program} {w:World} {k:Key} {u:Value} (r:AF (kV k) u):(BB P w).is k u=true:=by
 cases k with
 | inl i=>obtain ⟨t,e⟩:=(show ∃t,u=Value.int i t from r);subst e;exact Kv P w i t
 | inr x=>obtain ⟨t,e⟩:=(show ∃t,u=Value.str x t from r);subst e;exact Kw P w x t
theorem Im {P:Program} {w:World}:∀{ks:List Key} {us:List Value},AE (ks.map kV) us->ItemsAre (BB P w) ks us
 | [],_,r=>by rw [map_nil] at r;cases r;exact .nil
 | k :: ks,_,r=>by
   rw [map_cons] at r
   cases r with
   | cons h t=>exact .cons (Mu h) (Im t)
abbrev KT (H:Hp):List (List Key × V)->List (List Key × Addr × Value)->Prop:=Paired fun p q=>p.1=q.1/\H q.2.1=some (.tup (p.1.map kV))/\AF p.2 q.2.2
theorem KT.val {H:Hp} {kvs:List (List Key × V)} {xs:List (List Key × Addr × Value)} (r:KT H kvs xs) (k:List Key):DZ (CH kvs k) ((atKey xs k).map (·.2)):=by
 induction r with
 | nil=>exact True.intro
 | @cons p q ps qs h t ih =>
   obtain ⟨h1,_,h2⟩:=h;by_cases e:p.1=k
   ·have e':q.1=k:=h1.symm.trans e;have b:atKey (q :: qs) k=some q.2:=by simp [atKey,List.find?_cons,e']
    rw [HA e,b];exact h2
   ·have e':¬ q.1=k:=fun z=>e (h1.trans z);have b:atKey (q :: qs) k=atKey qs k:=by simp [atKey,List.find?_cons,e']
    rw [Hz e,b];exact ih
theorem KT.repl {H:Hp} {kvs:List (List Key × V)} {xs:List (List Key × Addr × Value)} (r:KT H kvs xs) (k:List Key) {y:V} {u:Value} (ry:AF y u) :
 KT H (kvs.map fun kv=>if kv.1=k then (kv.1,y) else kv) (xs.map (putAt k u)):=by
 induction r with
 | nil=>exact .nil
 | @cons p q ps qs h t ih =>
   rw [map_cons,map_cons];refine .cons ?_ ih;obtain ⟨h1,h2,h3⟩:=h;unfold putAt;by_cases e:p.1=k
   ·rw [if_pos e,if_pos (h1.symm.trans e)];exact ⟨h1,h2,ry⟩
   ·rw [if_neg e,if_neg (fun z=>e (h1.trans z))];exact ⟨h1,h2,h3⟩
theorem KT.put {H:Hp} {kvs:List (List Key × V)} {xs:List (List Key × Addr × Value)} (r:KT H kvs xs) (k:List Key) {b:Addr} {y:V} {u:Value} (hb:H b=some (.tup (k.map kV))) (ry:AF y u) :
 KT H (CV kvs k y) (storedH xs k b u):=by
 have e:(kvs.any fun kv=>decide (kv.1=k))=(atKey xs k).isSome:=by
  rw [Ex,(r.val k).isSome_eq,Option.isSome_map]
 unfold CV storedH;rw [e];by_cases q:(atKey xs k).isSome=true
 ·rw [if_pos q,if_pos q];exact r.repl k ry
 ·rw [if_neg q,if_neg q];exact Paired.snoc r ⟨rfl,hb,ry⟩
theorem KT.keeps {H H':Hp} {kvs:List (List Key × V)} {xs:List (List Key × Addr × Value)} (r:KT H kvs xs) (ht:∀b ys,H b=some (.tup ys)->H' b=some (.tup ys)):KT H' kvs xs :=
 Paired.mapP r fun _ _ z=>⟨z.1,ht _ _ z.2.1,z.2.2⟩
section
variable {P:Program} {w:World} {H:Hp} {h:Heap} {a:Addr}
theorem QM {u:HO} (ok:HOk P w H h) (e:Rd H a u):Bl P w H h a u:=e.ok ok
theorem Kf {kvs:List (Key × V)} (ok:HOk P w H h) (e:Rd H a (.dK kvs)):kvs.length<=sizeLine/\(a == sysModules)=false/\∃vs,KV kvs vs/\h.DictOf (BB P w) a vs :=
 show Bl P w H h a (.dK kvs) from QM ok e
theorem Sb {kvs:List (Key × V)} (ok:HOk P w H h) (e:H a=some (.dK kvs)):kvs.length<=sizeLine/\(a == sysModules)=false/\∃vs,KV kvs vs/\h.DictOf (BB P w) a vs:=Kf ok (.inl e)
theorem Jl {ks:List Key} (ok:HOk P w H h) (e:H a=some (.tup (ks.map kV))):(tupleKind (BB P w)).is h ks a:=by
 obtain ⟨_,its,r,o,h1,h2,n,h3⟩:=(show Bl P w H h a (.tup (ks.map kV)) from ok a _ e);exact ⟨o,its.toArray,n,h1,h2,h3,by simpa using Im r⟩
theorem Ii {kvs:List (List Key × V)} (ok:HOk P w H h) (e:Rd H a (.dT kvs)):kvs.length<=sizeLine/\(a == sysModules)=false /\
 ∃xs,KT H kvs xs/\h.DictOfH (tupleKind (BB P w)) a xs:=by
 obtain ⟨z,y,xs,r,o,es,ep,h1,h2,h3,h4,h5⟩:=(show Bl P w H h a (.dT kvs) from QM ok e);refine ⟨z,y,xs,r,o,es,ep,h1,h2,h3,h4,fun x hx=>?_,h5⟩
 have all:∀{l:List (List Key × V)} {m:List (List Key × Addr × Value)},KT H l m->∀x∈m,(tupleKind (BB P w)).is h x.1 x.2.1:=by
  intro l m q
  induction q with
  | nil=>intro x hx;exact nomatch hx
  | @cons p q ps qs hq t ih =>
    intro x hx;rcases mem_cons.mp hx with e | hx
    ·subst e;exact Jl ok (by rw [<- hq.1];exact hq.2.1)
    ·exact ih x hx
 exact all r x hx
theorem Sc {kvs:List (List Key × V)} (ok:HOk P w H h) (e:H a=some (.dT kvs)):kvs.length<=sizeLine/\(a == sysModules)=false /\
 ∃xs,KT H kvs xs/\h.DictOfH (tupleKind (BB P w)) a xs:=Ii ok (.inl e)
end
def Jg (H:Hp) (a:Addr) (y:V) (r:Option V):Prop :=
 (∃kvs k,Rd H a (.dK kvs)/\y=kV k/\r=CH kvs k)\/∃kvs k b,Rd H a (.dT kvs)/\y=.ref b/\H b=some (.tup (k.map kV))/\r=CH kvs k
def MR (H:Hp) (a:Addr) (y v:V) (H':Hp):Prop :=
 (∃kvs k,H a=some (.dK kvs)/\y=kV k/\kvs.length < sizeLine/\H'=upd H a (.dK (CV kvs k v))) \/
 ∃kvs k b,H a=some (.dT kvs)/\y=.ref b/\H b=some (.tup (k.map kV))/\kvs.length < sizeLine/\H'=upd H a (.dT (CV kvs k v))
theorem Jg.t {H:Hp} {a b:Addr} {kvs:List (List Key × V)} {k:List Key} (e:H a=some (.dT kvs)) (eb:H b=some (.tup (k.map kV))):Jg H a (.ref b) (CH kvs k):=.inr ⟨kvs,k,b,.inl e,rfl,eb,rfl⟩
theorem MR.t {H:Hp} {a b:Addr} {kvs:List (List Key × V)} {k:List Key} {v:V} (e:H a=some (.dT kvs)) (eb:H b=some (.tup (k.map kV))) (hl:kvs.length < sizeLine) :
 MR H a (.ref b) v (upd H a (.dT (CV kvs k v))):=.inr ⟨kvs,k,b,e,rfl,eb,hl,rfl⟩
section
variable {X:Cx} {pins:List (Addr × Obj)} {σ:St} {H:Hp} {s:Shared} {a:Addr} {y v:V} {u r:Value} {o:Option V} {A:Around} {E:Value->Shared->Prop}
theorem Inv.big (I:Inv X pins σ H s):sysModules < s.heap.objs.size:=by
 have h:mainGlobals < s.heap.objs.size:=(I.mod.glob.keeps I.bk).lt;exact Nat.lt_trans (by decide) h
theorem Nk {Q:Value->Shared->Prop} (hu:A.units+1 < cLine) (I:Inv X pins σ H s) (g:Jg H a y (some v)) (ry:AF y u) (h:∀w' s',Inv X pins σ H s'->AF v w'->Q w' s') :
 wpAny (model X.prog X.w) A (getItem (.ref a) u) Q E s:=by
 rcases g with ⟨kvs,k,e,ey,l⟩ | ⟨kvs,k,b,e,ey,eb,l⟩
 ·subst ey;obtain ⟨z,hd,vs,rel,dd⟩:=Kf I.hok e;obtain ⟨w',hw,rw'⟩:=DZ.some_of (v:=v) (o:=valueAt vs k) (by rw [l];exact rel.val k);exact wpAny_getItem_of (Mu ry) dd.mapOf hw (h w' _ (I.tok _) rw')
 ·subst ey
  cases (show u=Value.ref b from ry)
  obtain ⟨z,hd,xs,rel,dd⟩:=Ii I.hok e;obtain ⟨w',hw,rw'⟩:=DZ.some_of (v:=v) (o:=(atKey xs k).map (·.2)) (by rw [l];exact rel.val k);obtain ⟨p,hp,hp2⟩:=Option.map_eq_some_iff.mp hw;refine wpAny_getItem_heap (tupleKind_room_in1 hu) (Jl I.hok eb) dd hp ?_;rw [hp2];exact h w' _ (I.tok _) rw'
theorem Mj {h':Heap} {t':Nat} {ob:HO} (I:Inv X pins σ H s) (mu:Mut (H a)) (hs:Heap.SameBut a s.heap h') (he:∃q,h'.get? a=some q) (new:Bl X.prog X.w (upd H a ob) h' a ob) :
 Inv X pins σ (upd H a ob) { s with heap:=h',toks:=t' } :=
 I.write (x:=a) (e:=a) mu (.inl rfl) (fun b q hb z=>(hs.2 b hb).trans z) he new
theorem Ra {P:Program} {w:World} {H':Hp} {h':Heap} {kvs:List (Key × V)} {vs:List (Key × Value)} (z:kvs.length<=sizeLine) (hd:(a == sysModules)=false) (rel:KV kvs vs) (dd:h'.DictOf (BB P w) a vs) :
 Bl P w H' h' a (.dK kvs):=⟨z,hd,vs,rel,dd⟩
theorem Nl {H':Hp} {Q:Unit->Shared->Prop} (hu:A.units+1 < cLine) (I:Inv X pins σ H s) (g:MR H a y v H') (ry:AF y u) (rv:AF v r) (h:∀s',Inv X pins σ H' s'->Q () s') :
 wpAny (model X.prog X.w) A (setItem (.ref a) u r) Q E s:=by
 rcases g with ⟨kvs,k,e,ey,l,eH⟩ | ⟨kvs,k,b,e,ey,eb,l,eH⟩
 ·subst ey eH;obtain ⟨z,hd,vs,rel,dd⟩:=Sb I.hok e;have hz:vs.length<=sizeLine:=by rw [<- rel.length];exact z
  have hl:(CV kvs k v).length<=sizeLine:=by have:=FI kvs k v;ext
  refine wpAny_setItem_pairs (hsz:=hz) (Mu ry) dd fun h' dd' hs=>h _ ?_;have he:∃q,h'.get? a=some q:=let ⟨q,_,_,hq,_⟩:=dd';⟨q,hq⟩;exact Mj I (by rw [e];exact True.intro) hs he (Ra hl hd (rel.put k rv) dd')
 ·subst ey eH
  cases (show u=Value.ref b from ry)
  obtain ⟨z,hd,xs,rel,dd⟩:=Sc I.hok e;have hz:xs.length<=sizeLine:=by rw [<- Paired.length rel];exact z
  have hl:(CV kvs k v).length<=sizeLine:=by have:=FI kvs k v;ext
  refine wpAny_setItem_heap (hsz:=hz) (tupleKind_room_in1 hu) (Jl I.hok eb) dd fun h' dd' hs=>h _ ?_;obtain ⟨q,es,ep,hq,h2,h3,h4,_,h5⟩:=dd';refine Mj I (by rw [e];exact True.intro) hs ⟨q,hq⟩ ⟨hl,hd,_,(rel.put k eb rv).keeps fun c ys ec=>?_,q,es,ep,hq,h2,h3,h4,h5⟩;rw [Aj (Fd ec e (fun z=>nomatch z))];exact ec
end
section
variable {X:Cx} {pins:List (Addr × Obj)} {σ:St} {H:Hp} {s:Shared} {a:Addr} {kvs:List (Key × V)} {k:Key} {u:Value} {A:Around} {E:Value->Shared->Prop}
end
def RT (i:Expr):Prop:=∀ov iv,subscripted i false ov iv=operate [ov,iv] (getItem ov iv)
theorem Q6 {prog:Program} {w:World} {A:Around} {E:Value->Shared->Prop} {s:Shared} {env:Env} {value slice:Expr} {pos:Pos} {T id:String} {Q:Value->Shared->Prop}
 (hl:typeLookup (.type T) "__getitem__"=pure (some (.builtin id))) (hs:RT slice)
 (h:wpAny (model prog w) A (eval value env) (fun o s₁=>wpAny (model prog w) A (eval slice env) (fun i s₂=>s₂.TypeIs o T/\wpAny (model prog w) A (getItem o i) Q E s₂) E s₁) E s) :
 wpAny (model prog w) A (eval (.Subscript value slice pos) env) Q E s:=by
 refine Subscript_ (wpAny_mono h (fun o s₁ h₁=>wpAny_mono h₁ (fun i s₂ h₂=>?_) fun _ _ x=>x) fun _ _ x=>x);obtain ⟨hT,h₂⟩:=h₂;unfold subscriptTail;refine wpAny_bind ?_;rw [getitemInPython_of_ne hT.not_modules];refine wpAny_bind (wpAny_specialOf hT hl ?_)
 have fin:wpAny (model prog w) A (subscripted slice false o i) (fun r s₃=>wpAny (model prog w) A (letTemporaryGo value o r >>= fun _=>pure r) Q E s₃) E s₂:=by
  rw [hs o i];exact wpAny_operating (wpAny_mono h₂ (fun r s₃ h₃=>wpAny_bind (wpAny_letTemporaryGo (wpAny_pure h₃))) fun _ _ x=>x)
 first
  | exact wpAny_pure (wpAny_bind fin)
  | exact wpAny_bind (wpAny_pure (wpAny_bind fin))
  | exact wpAny_bind fin
theorem Ke {X:Cx} {pins:List (Addr × Obj)} {σ:St} {H:Hp} {s:Shared} {a:Addr} {y:V} {o:Option V} (I:Inv X pins σ H s) (g:Jg H a y o):s.TypeIs (.ref a) "dict":=by
 rcases g with ⟨kvs,k,e,_,_⟩ | ⟨kvs,k,b,e,_,_,_⟩
 ·obtain ⟨_,_,vs,_,dd⟩:=Kf I.hok e;exact dd.typeIs
 ·obtain ⟨_,_,xs,_,dd⟩:=Ii I.hok e;exact dd.typeIs
def S7 (td ty:TE):TE:=fun σ H Q=>td σ H fun x H1=>ty σ H1 fun y H2=>∃a v,x=.ref a/\Jg H2 a y (some v)/\Q v H2
def Sy (td ty tv:TE):TS:=fun D σ H=>tv σ H fun v H1=>td σ H1 fun x H2=>ty σ H2 fun y H3=>∃a H4,x=.ref a/\MR H3 a y v H4/\D.nx σ H4
section
variable {X:Cx} {o i e value:Expr} {pos pos' tpos:Pos} {td ty tv:TE}
theorem Ql (hu:X.A.units+1 < cLine) (ho:PE X o td) (hi:PE X i ty) (hs:RT i):PE X (.Subscript o i pos) (S7 td ty):=by
 intro pins s σ H Q I h;refine Q6 PySem.F.slot_dict_getitem.lookup hs (thn (ho pins s σ H _ I h) fun u s1 ⟨x,H1,I1,rx,q1⟩=>thn (hi pins s1 σ H1 _ I1 q1) fun iv s2 ⟨y,H2,I2,ry,a,v,ex,g,q2⟩=>?_);subst ex;obtain rfl:u=Value.ref a:=rx;exact ⟨Ke I2 g,Nk hu I2 g ry fun w' s3 I3 rw'=>⟨v,H2,I3,rw',q2⟩⟩
theorem Qp (hu:X.A.units+1 < cLine) (ho:PE X o td) (hi:PE X i ty) (hv:PE X value tv) (hs:swapsWith value (some (.Subscript o i pos')) pos.line X.env=pure false) :
 PS X (.Assign [.Subscript o i pos'] value pos) (Sy td ty tv):=by
 intro pins s σ H D I h;refine wpAny_Assign_Subscript (thn (hv pins s σ H _ I h) fun r s1 ⟨v,H1,I1,rv,q1⟩=>thn (ho pins s1 σ H1 _ I1 q1) fun u s2 ⟨x,H2,I2,rx,q2⟩=>thn (hi pins s2 σ H2 _ I2 q2) fun iv s3 ⟨y,H3,I3,ry,a,H4,ex,g,q3⟩=>?_) hs;subst ex;obtain rfl:u=Value.ref a:=rx;exact Nl hu I3 g ry rv fun s4 I4=>⟨σ,H4,I4,q3⟩
end
theorem Ot {P:Program} {w:World} {H:Hp} (h:Heap) (hb:sysModules < h.objs.size):Bl P w H (h.push { cls:=.type "dict",data:=.dict #[] }) h.objs.size (.dT []) :=
 ⟨Nat.zero_le _,beq_eq_false_iff_ne.mpr (Ne.symm (Nat.ne_of_lt hb)),[],.nil,_,#[],0,Heap.get?_push_size _ rfl,⟨rfl,rfl,rfl⟩,rfl,rfl,nodup_nil⟩
def RG:TE:=fun _ H Q=>∀p,H p=none->Q (.ref p) (upd H p (.dT []))
section
variable {X:Cx} {pos:Pos}
theorem OQ:PE X (.Dict [] [] pos) RG:=fun pins s σ H Q I h =>
 wpAny_Dict_empty ⟨.ref s.heap.objs.size,_,I.laid (a:=s.heap.objs.size) (o:=.dT []) (t':=s.toks) (fun _ _ q=>Heap.get?_push_of_some _ q) (Nat.le_refl _) (Ot s.heap I.big),rfl,h _ (I.hok.fresh (Nat.le_refl _))⟩
end
structure M2 (X:Cx) (o:Expr) (m:Str) (apos:Pos) (e f:Expr) (cpos:Pos):Prop where
 base:attributeBase o m X.env (eval o X.env)=eval o X.env
 few:((backTo cpos (starEach [e,f] X.env)).all (fun x=>!x.1) && (backToKw cpos (keywordEach [] X.env)).all (fun x=>x.1.isSome)
  && decide (([e,f]:List Expr).length+([]:List Keyword).length+(if ([]:List Keyword).isEmpty then 0 else 1) < 30))=true
 line:(apos.endLine == cpos.line)=true
 trees:backTo cpos (starEach [e,f] X.env)=[(false,eval e X.env),(false,eval f X.env)]
def IsD (H:Hp) (a:Addr):Prop:=(∃kvs,Rd H a (.dK kvs))\/∃kvs,Rd H a (.dT kvs)
theorem Rk {X:Cx} {pins:List (Addr × Obj)} {σ:St} {H:Hp} {s:Shared} {a:Addr} (I:Inv X pins σ H s) (d:IsD H a) :
 s.TypeIs (.ref a) "dict"/\(∀b,Value.ref a=.ref b->∃ob,s.heap.get? b=some ob/\ob.dict=none)/\(a == sysModules)=false:=by
 rcases d with ⟨kvs,e⟩ | ⟨kvs,e⟩
 ·obtain ⟨_,hd,vs,_,dd⟩:=Kf I.hok e;refine ⟨dd.typeIs,fun b q=>?_,hd⟩
  cases q
  obtain ⟨ob,_,_,h1,h2,_⟩:=dd;exact ⟨ob,h1,h2.2.1⟩
 ·obtain ⟨_,hd,xs,_,dd⟩:=Ii I.hok e;refine ⟨dd.typeIs,fun b q=>?_,hd⟩
  cases q
  obtain ⟨ob,_,_,h1,h2,_⟩:=dd;exact ⟨ob,h1,h2.2.1⟩
section
variable {X:Cx} {pins:List (Addr × Obj)} {σ:St} {H:Hp} {s:Shared} {a:Addr} {y d:V} {u r:Value} {o:Option V} {A:Around} {E:Value->Shared->Prop}
theorem QZ {Q:Value->Shared->Prop} (hu:A.units+1 < cLine) (I:Inv X pins σ H s) (g:Jg H a y o) (ry:AF y u) (rd:AF d r) (h:∀w' s',Inv X pins σ H s'->AF (o.getD d) w'->Q w' s') :
 wpAny (model X.prog X.w) A (call (.builtin "dict.get") [.ref a,u,r]) Q E s:=by
 rcases g with ⟨kvs,k,e,ey,l⟩ | ⟨kvs,k,b,e,ey,eb,l⟩
 ·subst ey;obtain ⟨z,hd,vs,rel,dd⟩:=Kf I.hok e;refine call_meetsIn PySem.F.slot_dict_get dd.typeIs PySem.F.entry_dict_get (PySem.F.args_dict_get_3 _ _ _) (meets_dict_get_default (BB X.prog X.w) a (Mu ry) hd r) ⟨_,dd.mapOf,h _ _ (I.tok _) ?_⟩;rw [l];exact (rel.val k).getD rd
 ·subst ey
  cases (show u=Value.ref b from ry)
  obtain ⟨z,hd,xs,rel,dd⟩:=Ii I.hok e;refine call_meetsIn PySem.F.slot_dict_get dd.typeIs PySem.F.entry_dict_get (PySem.F.args_dict_get_3 _ _ _) (meetsH_dict_get_default (tupleKind (BB X.prog X.w)) a b hd r) ⟨tupleKind_room_in1 hu,k,xs,Jl I.hok eb,dd,h _ _ (I.tok _) ?_⟩;rw [l];exact (rel.val k).getD rd
end
def RF (td ty tx:TE):TE:=fun σ H Q=>td σ H fun x H1=>∃a,x=.ref a/\IsD H1 a/\ty σ H1 fun y H2=>tx σ H2 fun z H3=>∃o,Jg H3 a y o/\Q (o.getD z) H3
section
variable {X:Cx} {o e f:Expr} {apos cpos:Pos} {td ty tx:TE}
theorem OP (hu:X.A.units+1 < cLine) (ho:PE X o td) (he:PE X e ty) (hf:PE X f tx) (m:M2 X o "get" apos e f cpos):PE X (.Call (.Attribute o "get" apos) [e,f] [] cpos) (RF td ty tx):=by
 intro pins s σ H Q I h;refine wpAny_Call_method m.base m.few m.line PySem.F.plainAttrs_dict PySem.F.slot_dict_get PySem.F.type_dict_get (thn (ho pins s σ H _ I h) fun u s1 ⟨x,H1,I1,rx,a,ex,d,q1⟩=>?_);subst ex;obtain rfl:u=Value.ref a:=rx;obtain ⟨t1,t2,_⟩:=Rk I1 d;refine ⟨t1,t2,?_⟩;rw [m.trees]
 refine Calls.callWith_builtin rfl (Calls.evalArgs_plain (Calls.spliced_cons (thn (he pins s1 σ H1 _ I1 q1) fun iv s2 ⟨y,H2,I2,ry,q2⟩ =>
  Calls.spliced_cons (thn (hf pins s2 σ H2 _ I2 q2) fun fv s3 ⟨z,H3,I3,rz,ov,g,q3⟩=>Calls.spliced_nil ?_))))
 exact QZ hu I3 g ry rz fun w' s4 I4 rw'=>⟨_,H3,I4,rw',q3⟩
end
section
variable {X:Cx} {pins:List (Addr × Obj)} {σ:St} {H:Hp} {s:Shared} {a:Addr} {kvs:List (Key × V)} {A:Around} {E:Value->Shared->Prop}
end
section
variable {X:Cx} {pins:List (Addr × Obj)} {σ:St} {H:Hp} {s:Shared} {a:Addr} {y:V} {u:Value} {A:Around} {E:Value->Shared->Prop}
end
end L2
namespace L2
open PySem PySem.Spec PyProof.Rows
section
variable {κ:Type} [DecidableEq κ]
theorem P4 {kvs:List (κ × V)} {k:κ} (h:CH kvs k=none):¬ k∈kvs.map (·.1):=by
 intro m;obtain ⟨p,hp,e⟩:=mem_map.mp m;have q:(kvs.any fun kv=>decide (kv.1=k))=true:=any_eq_true.mpr ⟨p,hp,decide_eq_true e⟩;rw [Ex,h] at q;exact absurd q (by simp)
end
end L2
namespace L2
open PySem PySem.Spec PyProof.Rows
def Sz (n:Nat) (x:Int):Prop:=x.natAbs < 2 ^ n
section
variable {m n:Nat} {x y:Int}
theorem Sz.bits (h:Sz n x):Builtin.Int.intBits x<=n:=intBits_le_iff.mpr h
theorem Sz.of_bits (h:Builtin.Int.intBits x<=n):Sz n x:=intBits_le_iff.mp h
theorem Sz.mono (h:Sz m x) (l:m<=n):Sz n x:=.of_bits (Nat.le_trans h.bits l)
theorem Sz.mul (h:Sz m x) (k:Sz n y):Sz (m+n) (x*y):=.of_bits (intBits_mul_le h.bits k.bits)
theorem Sz.add (h:Sz m x) (k:Sz n y):Sz (max m n+1) (x+y):=.of_bits (intBits_add_le h.bits k.bits)
theorem Sz.sub (h:Sz m x) (k:Sz n y):Sz (max m n+1) (x - y):=.of_bits (intBits_sub_le h.bits k.bits)
theorem Sz.neg (h:Sz m x):Sz m (-x):=.of_bits (intBits_neg_le h.bits)
theorem Sz.fdiv (h:Sz m x):Sz m (x.fdiv y):=.of_bits (intBits_fdiv_le h.bits)
theorem szd (n:Nat) {x:Int} (h:decide (x.natAbs < 2 ^ n)=true:=by decide +kernel):Sz n x:=(show x.natAbs < 2 ^ n from of_decide_eq_true h)
theorem Fo (h:-(2 ^ n:Nat) < x) (k:x < (2 ^ n:Nat)):Sz n x:=by
 unfold Sz;generalize 2 ^ n=p at h k ⊢;ext
end
def QH (i j:Int):Prop:=∃m n,Sz m i/\Sz n j/\m+n<=134217728
def QG (_ j:Int):Prop:=j≠0/\Sz 9000 j
section
variable {X:Cx}
theorem DI:OpR X (binaryOp .Mult) (rI QH fun i j=>.int (i*j)):=opI fun _ _ _ _ _ _ _ hc q =>
 mul_int q (let ⟨_,_,a,b,c⟩:=hc;IntMulOk.of_le a.bits b.bits c)
theorem Bm:OpR X (binaryOp .FloorDiv) (rI QG fun i j=>.int (i.fdiv j)):=opI fun _ j _ _ _ _ _ hc q =>
 floordiv_int hc.1 q (.inl (PyProof.noPylong_of_log2 ((Nat.log2_lt (by have:=hc.1;ext)).mpr hc.2)))
theorem GC:Cc X (.builtin "isinstance") (fun xs H Q=>∃x t c b,xs=[x,.ty c]/\E5 X.K H x t/\PySem.W.kitOne X.K t (.type c)=some b/\Q (.bl b) H):=by
 intro pins s σ H xs us Q I rv h;obtain ⟨x,t,c,b,rfl,ty,e,q⟩:=h;obtain ⟨u,u',rfl,r1,r2⟩:=P5 rv
 cases (show u'=Value.type c from r2)
 exact Nv I r1 ty e fun tk=>⟨.bl b,H,I.tok tk,rfl,q⟩
end
section
variable {K:PySem.W.Frag}
theorem Kp:PySem.W.kitOne K (.type "int") (.type "int")=some true:=by
 show (if ((Value.type "int") == (Value.type "int"))=true then some true else (if PySem.W.kitMeta "int"=true then (PySem.fastBuiltinMro "int").map (·.contains (Value.type "int")) else none))=some true
 decide +kernel
theorem Jm:PySem.W.kitOne K (.type "int") (.type "bool")=some false:=by
 show (if ((Value.type "int") == (Value.type "bool"))=true then some true else (if PySem.W.kitMeta "bool"=true then (PySem.fastBuiltinMro "int").map (·.contains (Value.type "bool")) else none))=some false
 decide +kernel
theorem HK:PySem.W.kitOne K (.type "list") (.type "list")=some true:=by
 show (if ((Value.type "list") == (Value.type "list"))=true then some true else (if PySem.W.kitMeta "list"=true then (PySem.fastBuiltinMro "list").map (·.contains (Value.type "list")) else none))=some true
 decide +kernel
end
def Ta (c:TT) (t u:TS):TS:=fun D σ H=>∃M:St->Hp->Prop,(c σ H fun b H1=>if b=true then t { D with nx:=M } σ H1 else u { D with nx:=M } σ H1)/\∀σ' H',M σ' H'->D.nx σ' H'
theorem OT {X:Cx} {c:Expr} {a b:List Stmt} {tc:TT} {t u:TS} {pos:Pos} (hc:PT X c tc) (ha:PSs X a t) (hb:PSs X b u):PS X (.If c a b pos) (Ta tc t u):=by
 intro pins s σ H D I h;obtain ⟨M,h,hM⟩:=h
 have up:∀(f:Flow) (s':Shared),SP X pins { D with nx:=M } f s'->SP X pins D f s':=fun f s' q=>by
  cases f with
  | next =>
    obtain ⟨σ',H',I',q⟩:=q;exact ⟨σ',H',I',hM σ' H' q⟩
  | ret v=>exact q
  | brk=>exact q
  | cont=>exact q
 refine wpAny_If (thn (hc pins s σ H _ I h) fun d s1 ⟨H1,I1,q1⟩=>?_)
 cases d with
 | true=>exact thn (ha pins s1 σ H1 _ I1 q1) up
 | false=>exact thn (hb pins s1 σ H1 _ I1 q1) up
theorem QY:NV 10 40:=⟨by decide,by decide,by decide⟩
theorem A8 {n:Nat} (h:n<=1000):n<=sizeLine:=Nat.le_of_lt (AU h)
theorem PV {ns:List Int} {k:Int} (h0:0<=k) (h:k < (ns.length:Int)):∃v:Int,atI (ns.map V.int) k=some (.int v):=by
 have hk:k.toNat < ns.length:=by ext
 have ek:k=((k.toNat:Nat):Int):=by ext
 have q:atI (ns.map V.int) ((k.toNat:Nat):Int)=some (.int ns[k.toNat]):=Bv (by rw [List.getElem?_map,List.getElem?_eq_getElem hk] <;> rfl);rw [<- ek] at q;exact ⟨_,q⟩
end L2
namespace L2
open PySem PySem.Spec PyProof.Rows
def Cx.inComp (X:Cx) (Nc:List Str) (sc:Scope) (cl:List (Str × Addr)) (s:Shared) (H:Hp) (ex:List Addr):Cx :=
 { X with N:=Nc,s₀:=s,H₀:=H,env:=compEnvC sc cl s.heap.objs.size X.env,outer:=X.stack,stack:=X.stack,ex:=ex,fn:=fun _=>false,pn:=[],xe:=fun _ _=>False }
theorem Ly {env:Env} {f:Str × NameKind->List (Str × Addr)->Sem (ForInStep (List (Str × Addr)))}
 (hf:∀n k r,f (n,k) r=if (k == NameKind.free)=true then (cellOf env n >>= fun c=>pure (ForInStep.yield ((n,c) :: r))) else pure (ForInStep.yield r)) :
 ∀(l:List (Str × NameKind)) (cs:List (Str × Addr)),(∀x∈l,x.2=.free->∃c,env.cells.lookup x.1=some c) ->
  ∃cl,(forIn l cs f:Sem (List (Str × Addr)))=pure cl/\(∀p∈cl,p∈cs\/env.cells.lookup p.1=some p.2)/\(∀p∈cs,p∈cl)/\∀x∈l,x.2=.free->∃c,(x.1,c)∈cl:=by
 intro l
 induction l with
 | nil =>
   intro cs _;exact ⟨cs,by rw [forIn_nil],fun p hp=>.inl hp,fun p hp=>hp,fun x hx=>absurd hx (by simp)⟩
 | cons y r ih =>
   intro cs h;obtain ⟨n,k⟩:=y;by_cases hk:k=.free
   ·subst hk;obtain ⟨c,hc⟩:=h (n,.free) (by simp) rfl
    have e:cellOf env n=pure c:=by
     unfold cellOf;rw [show env.cells.lookup n=some c from hc]
    obtain ⟨cl,h1,h2,h3,h4⟩:=ih ((n,c) :: cs) fun x hx=>h x (mem_cons_of_mem _ hx);refine ⟨cl,?_,fun p hp=>?_,fun p hp=>h3 p (mem_cons_of_mem _ hp),fun x hx hf'=>?_⟩
    ·rw [forIn_cons,hf,if_pos (by decide),e];simp only [pure_bind];exact h1
    ·rcases h2 p hp with z | z
     ·rcases mem_cons.mp z with z | z
      ·subst z;exact .inr hc
      ·exact .inl z
     ·exact .inr z
    ·rcases mem_cons.mp hx with z | z
     ·subst z;exact ⟨c,h3 _ (by simp)⟩
     ·exact h4 x z hf'
   ·have hb:(k == NameKind.free)=false:=by simpa using hk
    obtain ⟨cl,h1,h2,h3,h4⟩:=ih cs fun x hx=>h x (mem_cons_of_mem _ hx);refine ⟨cl,?_,h2,h3,fun x hx hf'=>?_⟩
    ·rw [forIn_cons,hf,hb,if_neg (by decide)];simp only [pure_bind];exact h1
    ·rcases mem_cons.mp hx with z | z
     ·subst z;exact absurd hf' hk
     ·exact h4 x z hf'
theorem GN {α:Type}:∀{l:List (Str × α)} {n:Str} {c:α},(n,c)∈l->∃d,l.lookup n=some d
 | (k,v) :: r,n,c,h=>by
   rw [lookup_cons]
   cases hx:(n == k) with
   | true=>exact ⟨v,rfl⟩
   | false =>
     rcases mem_cons.mp h with z | z
     ·cases z
      simp at hx
     ·exact GN z
theorem Da {env:Env} {sc:Scope} (h:∀x∈sc.names,x.2=.free->∃c,env.cells.lookup x.1=some c) :
 ∃cl,closureFor sc env=pure cl/\(∀y c,cl.lookup y=some c->env.cells.lookup y=some c)/\∀x∈sc.names,x.2=.free->∃c,cl.lookup x.1=some c:=by
 obtain ⟨cl,h1,h2,_,h4⟩:=Ly (env:=env) (f:=fun x r=>if (x.2 == NameKind.free)=true then (cellOf env x.1 >>= fun c=>pure (ForInStep.yield ((x.1,c) :: r))) else pure (ForInStep.yield r)) (fun _ _ _=>rfl) sc.names [] h;refine ⟨cl,?_,fun y c e=>?_,fun x hx hf=>?_⟩
 ·unfold closureFor;have:(forIn sc.names ([]:List (Str × Addr)) fun x r=>(match x with | (name,kind)=>if (kind == NameKind.free)=true then (do let __do_lift <- cellOf env name;pure (ForInStep.yield ((name,__do_lift) :: r))) else pure (ForInStep.yield r)):Sem (List (Str × Addr)))=pure cl:=h1
  first
   | (simp only [this,pure_bind];done)
   | (simp only [h1,pure_bind];done)
   | (rw [show (forIn sc.names ([]:List (Str × Addr)) _:Sem (List (Str × Addr)))=pure cl from h1];rfl)
 ·rcases h2 (y,c) (PySem.mem_of_lookup e) with z | z
  ·exact absurd z (by simp)
  ·exact z
 ·obtain ⟨c,hc⟩:=h4 x hx hf;exact GN hc
theorem Ci (env:Env):∀(names:List (Str × NameKind)) (y:Str),
 (names.map fun (n,k)=>if (k == NameKind.free && env.scope.kind == .function && env.kindOf n == some .cell) then (n,NameKind.cell) else (n,k)).lookup y
  = (names.lookup y).map fun k=>if (k == NameKind.free && env.scope.kind == .function && env.kindOf y == some .cell) then NameKind.cell else k
 | [],y=>rfl
 | (n,k) :: r,y=>by
   have ih:=Ci env r y;rw [map_cons];dsimp only
   cases hx:(y == n) with
   | true =>
     have e:y=n:=by simpa using hx
     subst e;by_cases c:(k == NameKind.free && env.scope.kind == .function && env.kindOf y == some .cell)=true
     ·rw [if_pos c];simp only [lookup_cons,hx,Option.map_some];rw [if_pos c]
     ·rw [if_neg c];simp only [lookup_cons,hx,Option.map_some];rw [if_neg c]
   | false =>
     by_cases c:(k == NameKind.free && env.scope.kind == .function && env.kindOf n == some .cell)=true
     ·rw [if_pos c];simp only [lookup_cons,hx];exact ih
     ·rw [if_neg c];simp only [lookup_cons,hx];exact ih
def G5 (X:Cx) (ifs:List Expr) (t:TT):Prop :=
 ∀(pins:List (Addr × Obj)) (s:Shared) (σ:St) (H:Hp) (Q:Bool->Hp->Prop),Inv X pins σ H s->t σ H Q ->
  wpAny (model X.prog X.w) X.A (forIn ifs true fun c r=>if r=true then do let ok <- isTrue c X.env (eval c X.env);pure (ForInStep.yield ok) else pure (ForInStep.yield r)) (TP X pins σ Q) X.xe s
def SG:TT:=fun _ H Q=>Q true H
theorem yes {σ:St} {H:Hp} {Q:Bool->Hp->Prop} (h:Q true H):SG σ H Q:=h
theorem AI {X:Cx}:G5 X [] SG:=by
 intro pins s σ H Q I h;rw [forIn_nil];exact wpAny_pure ⟨H,I,h⟩
theorem Cm {X:Cx} {c:Expr} {t:TT} (hc:PT X c t):G5 X [c] t:=by
 intro pins s σ H Q I h;rw [forIn_cons,if_pos rfl];refine wpAny_bind (wpAny_bind (thn (hc pins s σ H Q I h) fun b s1 q=>wpAny_pure ?_));dsimp only;rw [forIn_nil];exact wpAny_pure q
theorem EL {α:Type} {t:Sem α} {Q Q':α->Shared->Prop} {M:Model} {A:Around} {E:Value->Shared->Prop} {s:Shared} (h:wpAny M A t Q (fun _ _=>False) s) (hQ:∀a s,Q a s->Q' a s):wpAny M A t Q' E s:=wpAny_mono h hQ fun _ _ z=>z.elim
def Lj (wi:TI) (tt:TT) (te:TE):TE:=fun σ H Q=>wi σ H fun J H1=>∀D,H1 D=none->∃W:Nat->Nat->List V->Hp->Prop,(∃m,W 0 m [] (upd H1 D (.lst [])))/\∀i m ys H2,W i m ys H2 ->
 H2 D=some (.lst ys)/\((J.stop i H2/\Q (.ref D) H2)\/(J.go i H2/\ys.length < sizeLine/\∀x H3,J.yld i H2 x H3->tt (σ++[some x]) H3 fun b H4=>if b=true then te (σ++[some x]) H4 fun y H5=>H5 D=some (.lst ys)/\∃m',m' < m/\W (i+1) m' (ys++[y]) (upd H5 D (.lst (ys++[y])))
  else ∃m',m' < m/\W (i+1) m' ys H4))
structure DR (N Nc:List Str) (x:Str) (sc fsc:Scope):Prop where
 kind:sc.kind=.function
 cell:∀y∈sc.names,y.2≠.cell
 nm:∀y∈sc.names,y.2=.local->sc.names.lookup y.1=some .local
 own:sc.names.lookup x=some .local
 fr:∀y∈sc.names,y.2=.free->fsc.names.lookup y.1=some .cell\/fsc.names.lookup y.1=some .free
 len:Nc.length=N.length+1
 nd:Nc.Nodup
 last:Nc[N.length]?=some x
 slot:((List.range N.length).all fun i=>match Nc[i]? with
  | some y=>(match sc.names.lookup y with | some .free=>N[i]? == some y | some .local=>false | some .cell=>false | _=>true)
  | none=>true)=true
theorem DR.at {N Nc:List Str} {x:Str} {sc fsc:Scope} (C:DR N Nc x sc fsc) {i:Nat} {y:Str} (hi:i < N.length) (h:Nc[i]?=some y):sc.names.lookup y≠some .local/\sc.names.lookup y≠some .cell/\(sc.names.lookup y=some .free->N[i]?=some y):=by
 have q:=all_eq_true.mp C.slot i (mem_range.mpr hi);rw [h] at q;dsimp only at q
 cases e:sc.names.lookup y with
 | none=>exact ⟨fun z=>(nomatch z),fun z=>(nomatch z),fun z=>(nomatch z)⟩
 | some k =>
   rw [e] at q
   cases k with
   | «local»=>exact absurd (show false=true from q) Bool.false_ne_true
   | cell=>exact absurd (show false=true from q) Bool.false_ne_true
   | free=>exact ⟨fun z=>(nomatch z),fun z=>(nomatch z),fun _=>by simpa using q⟩
   | _=>exact ⟨fun z=>(nomatch z),fun z=>(nomatch z),fun z=>(nomatch z)⟩
section
variable {X:Cx} {elt iter:Expr} {x:Str} {px pos:Pos} {ifs:List Expr} {sc fsc:Scope} {N Nc:List Str} {wi:TI} {tt:TT} {te:TE}
structure DY (X:Cx) (pins:List (Addr × Obj)) (H:Hp) (C:Addr):Prop where
 free:H C=none
 ne:C≠X.env.locals
 new:X.s₀.heap.objs.size<=C
 cells:∀x c,X.env.cells.lookup x=some c->c≠C
 pins:∀p∈X.pn++pins,p.1≠C
theorem Inv.sameBut {pins:List (Addr × Obj)} {σ:St} {H:Hp} {s:Shared} {C:Addr} {h':Heap} (I:Inv X pins σ H s) (c:DY X pins H C) (k:Heap.SameBut C s.heap h'):Inv X pins σ H { s with heap:=h' } :=
 I.turned (t':=s.toks) (it:=C) (fun b o hb e=>(k.2 b hb).trans e) c.free c.ne (.inr c.new) c.cells c.pins
theorem KZ {σ:St} {o v:Option V}:(σ++[o]).set σ.length v=σ++[v]:=by
 rw [set_append_right _ _ (Nat.le_refl _),Nat.sub_self];rfl
theorem Om (I:∀y,(X.env.kindOf y=some .cell\/X.env.kindOf y=some .free)->∃c,X.env.cells.lookup y=some c) (hE:X.env.scope=fsc) (cn:DR N Nc x sc fsc):∀y∈sc.names,y.2=.free->∃c,X.env.cells.lookup y.1=some c:=fun y hy hf=>by
 refine I y.1 ?_;show X.env.scope.names.lookup y.1=some .cell\/X.env.scope.names.lookup y.1=some .free;rw [hE];exact cn.fr y hy hf
end
theorem AY {lo:Int} {n:Nat} {tt:TT} {te:TE} {σ:St} {H1:Hp} {Q:Addr->Hp->Prop} (hn:n<=sizeLine) (Pv:Addr->Nat->List V->Hp->Prop)
 (h0:∀D,H1 D=none->Pv D 0 [] (upd H1 D (.lst []))) (hD:∀D i ys H,Pv D i ys H->H D=some (.lst ys)/\ys.length<=i)
 (hs:∀D i ys H (K1:VK) (K2:Hp->Prop),H1 D=none->i < n->Pv D i ys H->(∀y H5,H5 D=some (.lst ys)->Pv D (i+1) (ys++[y]) (upd H5 D (.lst (ys++[y])))->K1 y H5)->(∀H4,Pv D (i+1) ys H4->K2 H4) ->
  tt (σ++[some (.int (lo+i))]) H fun b H4=>if b=true then te (σ++[some (.int (lo+i))]) H4 K1 else K2 H4)
 (hd:∀D ys H,H1 D=none->Pv D n ys H->Q D H) :
 ∀D,H1 D=none->∃W:Nat->Nat->List V->Hp->Prop,(∃m,W 0 m [] (upd H1 D (.lst [])))/\∀i m ys H2,W i m ys H2 ->
  H2 D=some (.lst ys)/\(((Itr lo n).stop i H2/\Q D H2)\/((Itr lo n).go i H2/\ys.length < sizeLine/\∀x H3,(Itr lo n).yld i H2 x H3->tt (σ++[some x]) H3 fun b H4=>if b=true then te (σ++[some x]) H4 fun y H5=>H5 D=some (.lst ys)/\∃m',m' < m/\W (i+1) m' (ys++[y]) (upd H5 D (.lst (ys++[y])))
   else ∃m',m' < m/\W (i+1) m' ys H4)):=by
 intro D hDn;refine ⟨fun i m ys H=>m=n - i/\i<=n/\Pv D i ys H,⟨n,rfl,Nat.zero_le _,h0 D hDn⟩,?_⟩;rintro i m ys H2 ⟨rfl,hi,p⟩;obtain ⟨e,l⟩:=hD D i ys H2 p;refine ⟨e,?_⟩;by_cases hlt:i < n
 ·refine .inr ⟨hlt,Nat.lt_of_le_of_lt l (Nat.lt_of_lt_of_le hlt hn),fun x H3 y=>?_⟩;obtain ⟨e1,e2⟩:=y;subst e1 e2;exact hs D i ys _ _ _ hDn hlt p (fun y H5 h5 p5=>⟨h5,n - (i+1),by ext,rfl,hlt,p5⟩) fun H4 p4=>⟨n - (i+1),by ext,rfl,hlt,p4⟩
 ·have ei:i=n:=by ext
  subst ei;exact .inl ⟨Nat.le_refl _,hd D ys H2 hDn p⟩
theorem AC {K:PySem.W.Frag} {a:Addr} {xs:List V} {tt:TT} {te:TE} {σ:St} {H1:Hp} {Q:Addr->Hp->Prop} (hn:xs.length<=sizeLine) (Pv:Addr->Nat->List V->Hp->Prop)
 (h0:∀D,H1 D=none->Pv D 0 [] (upd H1 D (.lst []))) (hD:∀D i ys H,Pv D i ys H->H D=some (.lst ys)/\ys.length<=i) (hl:∀D i ys H,H1 D=none->Pv D i ys H->SqL K H a xs)
 (hs:∀D i x ys H (K1:VK) (K2:Hp->Prop),H1 D=none->xs[i]?=some x->Pv D i ys H->(∀y H5,H5 D=some (.lst ys)->Pv D (i+1) (ys++[y]) (upd H5 D (.lst (ys++[y])))->K1 y H5)->(∀H4,Pv D (i+1) ys H4->K2 H4) ->
  tt (σ++[some x]) H fun b H4=>if b=true then te (σ++[some x]) H4 K1 else K2 H4)
 (hd:∀D ys H,H1 D=none->Pv D xs.length ys H->Q D H) :
 ∀D,H1 D=none->∃W:Nat->Nat->List V->Hp->Prop,(∃m,W 0 m [] (upd H1 D (.lst [])))/\∀i m ys H2,W i m ys H2 ->
  H2 D=some (.lst ys)/\(((Itl K a).stop i H2/\Q D H2)\/((Itl K a).go i H2/\ys.length < sizeLine/\∀x H3,(Itl K a).yld i H2 x H3->tt (σ++[some x]) H3 fun b H4=>if b=true then te (σ++[some x]) H4 fun y H5=>H5 D=some (.lst ys)/\∃m',m' < m/\W (i+1) m' (ys++[y]) (upd H5 D (.lst (ys++[y])))
   else ∃m',m' < m/\W (i+1) m' ys H4)):=by
 intro D hDn;refine ⟨fun i m ys H=>m=xs.length - i/\i<=xs.length/\Pv D i ys H,⟨xs.length,rfl,Nat.zero_le _,h0 D hDn⟩,?_⟩;rintro i m ys H2 ⟨rfl,hi,p⟩;obtain ⟨e,l⟩:=hD D i ys H2 p;have q:=hl D i ys H2 hDn p;refine ⟨e,?_⟩;by_cases hlt:i < xs.length
 ·refine .inr ⟨⟨xs,xs[i],q,by simp [hlt]⟩,Nat.lt_of_le_of_lt l (Nat.lt_of_lt_of_le hlt hn),fun x H3 y=>?_⟩;obtain ⟨e1,y⟩:=y;subst e1;exact hs D i x ys _ _ _ hDn (y xs q) p (fun y H5 h5 p5=>⟨h5,xs.length - (i+1),by ext,rfl,hlt,p5⟩) fun H4 p4=>⟨xs.length - (i+1),by ext,rfl,hlt,p4⟩
 ·have ei:i=xs.length:=by ext
  subst ei;exact .inl ⟨⟨xs,q,Nat.le_refl _⟩,hd D ys H2 hDn p⟩
section
variable {X:Cx}
theorem AJ (K:PySem.W.Frag) (h:X.K=K:=by rfl):IxR X (Su K):=by subst h;exact Ax
theorem Gr (K:PySem.W.Frag) (h:X.K=K:=by rfl):IxR X (Sv K):=by subst h;exact Br
theorem LL (K:PySem.W.Frag) (h:X.K=K:=by rfl):OpR X (compareOp .In) (rIn K false):=by subst h;exact NB
theorem E7 (K:PySem.W.Frag) (h:X.K=K:=by rfl):OpR X (compareOp .NotIn) (rIn K true):=by subst h;exact Jy
theorem MZ (K:PySem.W.Frag) (h:X.K=K:=by rfl):Cc X (.builtin "len") (fun xs H Q=>∃x n,xs=[x]/\RR K x H n/\Q (.int n) H):=by subst h;exact Oi
end
end L2
namespace L2
open PySem PySem.Spec PyProof.Rows
section
variable {X:Cx}
theorem Oj (hc:X.calm=true):Cc X (.builtin "sum") (fun xs H Q=>∃(p:Addr) (ns:List Int),xs=[.ref p]/\SqL X.K H p (ns.map V.int)/\Q (.int ns.sum) H):=by
 intro pins s σ H xs us Q I rv h;obtain ⟨p,ns,rfl,hS,q⟩:=h;obtain ⟨u,rfl,r⟩:=DE rv
 cases r
 obtain ⟨its,rv,pl,hz⟩:=I.list hS;have hi:=BJ rv;obtain ⟨xs,e⟩:=hi.allInts.items
 have en:xs.toList.map (·.1)=ns:=by
  have:=nums_intItems xs;rw [<- e,show its.toArray.toList=its from rfl,hi.numsOf] at this;exact this.symm
 refine sum_intListG (I.ok.hd hc) (by rw [<- e];exact pl.isList) fun h' tk t' hk=>?_;rw [preSum_eq,take_of_length_le (by simp),en];exact ⟨.int ns.sum,H,I.kept hk,⟨_,rfl⟩,q⟩
theorem Qh:MtR X "int.bit_length" (fun x xs H Q=>∃i:Int,x=.int i/\xs=[]/\Q (.int (Builtin.Int.intBits i:Nat)) H):=by
 intro pins s σ H x xs v us Q I rx rv h;obtain ⟨i,rfl,rfl,q⟩:=h;obtain ⟨t,rfl⟩:=rx
 cases rv
 exact call_int_bit_length ⟨.int _,H,I.tok _,⟨_,rfl⟩,q⟩
end
theorem EW {xs:List V} {j:Nat}:C1 xs none (some (j:Int))=xs.take j:=by
 unfold C1;rw [HT.sIx_none,HT.sIx_nat,drop_zero,Nat.sub_zero];by_cases h:j<=xs.length
 ·rw [Nat.min_eq_left h]
 ·rw [Nat.min_eq_right (by ext),take_of_length_le (Nat.le_refl _),take_of_length_le (by ext)]
end L2
namespace L2
open PySem PySem.Spec PyProof.Rows
section
variable {M:Model} {A:Around} {E:Value->Shared->Prop} {s:Shared} {env:Env} {outer:List Env} {L e:Addr} {base:Heap}
end
end L2
namespace L2
open PySem PySem.Spec PyProof.Rows
section
variable {X:Cx} {pins:List (Addr × Obj)} {σ:St} {H:Hp} {s:Shared} {e:Addr} {cls:Value} {od:Option Addr}
end
section
variable {X:Cx} {pins:List (Addr × Obj)} {σ:St} {H:Hp} {s s':Shared} {E:XK} {ev:Value}
end
section
variable {X:Cx} {W:St->XK} {k:Nat} {f:Addr} {fd:FuncData} {ps:List Str} {sp:Sp} {dvs:List V} {ds:List Value} {x:Str} {p pos:Pos} {e:Expr} {es:List Expr} {t:TA}
end
end L2
namespace L2
open PySem PySem.Spec PyProof.Rows
section
variable {X:Cx} {W:St->XK} {C:Addr} {x:Str} {p cpos pos:Pos} {e:Expr} {es:List Expr} {t:TA}
end
section
variable {X:Cx} {pins:List (Addr × Obj)} {σ:St} {H:Hp} {s:Shared} {e:Addr} {cls:Value} {od:Option Addr}
end
section
variable {X:Cx} {pins:List (Addr × Obj)} {σ:St} {H:Hp} {s:Shared} {e C:Addr} {cls:Value} {od:Option Addr} {x n:Str} {i:Nat} {np pos:Pos} {b₀:Stmt} {suite:List Stmt} {rest:List ExceptHandler} {ts:TS} {tr:TH}
end
end L2
namespace L2
open PySem PySem.Spec PyProof.Rows
section
variable {prog:Program} {w:World} {A:Around} {E:Value->Shared->Prop} {s:Shared} {K:PySem.W.Frag} {a C:Addr} {o:Obj} {od:Option Obj} {name:Str} {tk:Tok}
end
section
variable {X:Cx}
end
end L2
namespace L2
open PySem PySem.Spec PyProof.Rows
section
variable {X:Cx}
end
section
variable {K:PySem.W.Frag} {H H':Hp} {x:V} {b:Bool}
end
section
variable {K:PySem.W.Frag} {A B:Addr}
end
end L2
namespace L2
open PySem PySem.Spec PyProof.Rows
end L2
namespace L2
open PySem PySem.Spec PyProof.Rows
section
variable {prog:Program} {w:World} {A:Around} {E:Value->Shared->Prop} {s:Shared} {K:PySem.W.Frag} {C P f x:Addr} {ox:Obj} {od:Option Obj} {name:Str} {v:Value}
end
end L2
namespace L2
open PySem PySem.Spec PyProof.Rows
section
variable {prog:Program} {w:World} {A:Around} {E:Value->Shared->Prop} {h:Heap} {g:Array GenState} {d:Drawn} {t:Nat} {os:OsState}
variable {nm q:Str} {C N:Addr} {bs bm:List Value} {hd:Bool} {sn:List Str} {sub:List Value} {ab:Bool} {col:Option Bool} {dd:Option Addr} {k0 k1 k2 k3 k5:Option Value}
end
section
variable {X:Cx} {W:St->XK} {C P fi:Addr} {k:Nat} {fd:FuncData} {ps ns:List Str} {x:Str} {p cpos pos:Pos} {e:Expr} {es:List Expr} {t:TA}
end
end L2
namespace L2
open PySem PySem.Spec PyProof.Rows
mutual
inductive Rep (K:PySem.W.Frag) (H:Hp):V->PyData->Prop
 | non:Rep K H .non .none
 | bl (b:Bool):Rep K H (.bl b) (.bool b)
 | int (i:Int):Rep K H (.int i) (.int i)
 | str (x:Str):Rep K H (.str x) (.str x)
 | lst {a:Addr} {xs:List V} {ds:List PyData}:SqL K H a xs->Reps K H xs ds->Rep K H (.ref a) (.list ds)
 | tup {a:Addr} {xs:List V} {ds:List PyData}:SqT K H a xs->Reps K H xs ds->Rep K H (.ref a) (.tuple ds)
inductive Reps (K:PySem.W.Frag) (H:Hp):List V->List PyData->Prop
 | nil:Reps K H [] []
 | cons {x:V} {xs:List V} {d:PyData} {ds:List PyData}:Rep K H x d->Reps K H xs ds->Reps K H (x :: xs) (d :: ds)
end
section
variable {K:PySem.W.Frag} {H H':Hp}
mutual
theorem Rep.same (e:Al H H'):∀{x:V} {d:PyData},Rep K H x d->Rep K H' x d
 | _,_,.non=>.non
 | _,_,.bl b=>.bl b
 | _,_,.int i=>.int i
 | _,_,.str x=>.str x
 | _,_,.lst h r=>.lst (e.seq h) (Reps.same e r)
 | _,_,.tup h r=>.tup (by
  rcases h with (h | ⟨o,h⟩) | h
  ·exact .inl (.inl (e _ _ h))
  ·exact .inl (.inr ⟨o,e _ _ h⟩)
  ·exact .inr h) (Reps.same e r)
theorem Reps.same (e:Al H H'):∀{xs:List V} {ds:List PyData},Reps K H xs ds->Reps K H' xs ds
 | _,_,.nil=>.nil
 | _,_,.cons r t=>.cons (Rep.same e r) (Reps.same e t)
end
theorem Reps.ints:∀(ns:List Int),Reps K H (ns.map V.int) (ns.map PyData.int)
 | []=>.nil
 | n :: ns=>.cons (.int n) (Reps.ints ns)
end
section
variable {X:Cx} {pins:List (Addr × Obj)} {σ:St} {H:Hp} {s:Shared}
mutual
theorem Inv.reads (I:Inv X pins σ H s):∀{x:V} {d:PyData},Rep X.K H x d->∀{v:Value},AF x v->∃as,Reads s.heap v d as
 | _,_,.non,v,r=>by cases (show v=Value.none from r);exact ⟨_,.none⟩
 | _,_,.bl b,v,r=>by cases (show v=Value.bool b from r);exact ⟨_,.bool b⟩
 | _,_,.int i,v,r=>by obtain ⟨t,e⟩:=(show ∃t,v=Value.int i t from r);cases e;exact ⟨_,.int i t⟩
 | _,_,.str x,v,r=>by obtain ⟨t,e⟩:=(show ∃t,v=Value.str x t from r);cases e;exact ⟨_,.str x t⟩
 | _,_,.lst (a:=a) h rs,v,r=>by
   cases (show v=Value.ref a from r)
   obtain ⟨its,rv,⟨o,n,e1,e2,_,e4⟩,_⟩:=I.list h;obtain ⟨as,q⟩:=Inv.readsAll I rs rv;exact ⟨_,.list e1 e2 e4 q⟩
 | _,_,.tup (a:=a) h rs,v,r=>by
   cases (show v=Value.ref a from r)
   obtain ⟨its,rv,⟨o,e1,e2,n,e4⟩,_⟩:=I.tuple h;obtain ⟨as,q⟩:=Inv.readsAll I rs rv;exact ⟨_,.tuple e1 e2 e4 q⟩
theorem Inv.readsAll (I:Inv X pins σ H s):∀{xs:List V} {ds:List PyData},Reps X.K H xs ds->∀{vs:List Value},AE xs vs->∃as,ReadsAll s.heap vs ds as
 | _,_,.nil,_,.nil=>⟨_,.nil⟩
 | _,_,.cons r t,_,.cons q u=>by
   obtain ⟨a1,h1⟩:=Inv.reads I r q;obtain ⟨a2,h2⟩:=Inv.readsAll I t u;exact ⟨_,.cons h1 h2⟩
end
def SR (K:PySem.W.Frag):R2:=fun x y H Q=>∃d e,Rep K H x d/\Rep K H y e/\PySem.SeqAt.shaped d=true/\PySem.SeqAt.shaped e=true/\Q (.bl (PyData.eqv d e)) H
def SS (K:PySem.W.Frag):R2:=fun x y H Q=>∃d e,Rep K H x d/\Rep K H y e/\PySem.SeqAt.shaped d=true/\PySem.SeqAt.shaped e=true/\Q (.bl (!PyData.eqv d e)) H
theorem LK {K:PySem.W.Frag} (hu:X.A.units+64 < cLine) (hK:X.K=K:=by rfl):OpR X (compareOp .Eq) (SR K):=by
 subst hK;intro pins s σ H x y v u Q I rx ry h;obtain ⟨d,e,hx,hy,s1,s2,q⟩:=h;obtain ⟨as,r1⟩:=I.reads hx rx;obtain ⟨bs,r2⟩:=I.reads hy ry;exact eq_dataH r1 r2 s1 s2 hu ⟨.bl _,H,I,rfl,q⟩
theorem GS {K:PySem.W.Frag} (hu:X.A.units+64 < cLine) (hK:X.K=K:=by rfl):OpR X (compareOp .NotEq) (SS K):=by
 subst hK;intro pins s σ H x y v u Q I rx ry h;obtain ⟨d,e,hx,hy,s1,s2,q⟩:=h;obtain ⟨as,r1⟩:=I.reads hx rx;obtain ⟨bs,r2⟩:=I.reads hy ry;exact ne_dataH r1 r2 s1 s2 hu ⟨.bl _,H,I,rfl,q⟩
end
end L2
namespace L2
open PySem PySem.Spec PyProof.Rows
theorem N1:typeLookup (.type "list_reverseiterator") "__len__"=pure none:=by rw [typeLookup_type,builtinLookup_eq_fast];kernel_rfl
theorem OF:typeLookup (.type "list_reverseiterator") "__length_hint__"=pure (some (.builtin "list_reverseiterator.__length_hint__")):=by rw [typeLookup_type,builtinLookup_eq_fast];kernel_rfl
section
variable {prog:Program} {w:World} {A:Around} {E:Value->Shared->Prop} {s:Shared}
theorem OG {I:Addr} {Q:Bool->Shared->Prop} (hT:s.TypeIs (.ref I) "list_reverseiterator") (h:Q false s):wpAny (model prog w) A (Builtin.List.listLengthHint (.ref I)) Q E s:=by
 unfold Builtin.List.listLengthHint;refine wpAny_bind (wpAny_specialOf hT N1 ?_);show wpAny _ A (specialOf (Value.ref I) (Str.ofString "__length_hint__") >>= _) _ _ _;refine wpAny_bind (wpAny_specialOf hT OF ?_);generalize hid:("list_reverseiterator.__length_hint__":String)=id0
 wp_delta
 rw [show splitId id0=some ("list_reverseiterator","__length_hint__") from by subst hid;decide +kernel];subst hid;refine wpAny_bind (wpAny_isInstance (b:=true) hT (by rw [isSubtype_type];kernel_rfl) ?_);exact wpAny_pure h
theorem NH {items acc:Array Value} (h:ItemsOf (fun i v=>items[items.size - 1 - i]?=some v) acc items.size):acc=items.toList.reverse.toArray:=by
 obtain ⟨h1,h2⟩:=h;apply Array.ext
 ·simpa using h1
 ·intro i hi hj;have e:items[items.size - 1 - i]?=some acc[i]:=h2 i acc[i] (by simp [hi]);have hi':i < items.size:=by ext
  rw [Array.getElem?_eq_getElem (by ext)] at e;simp only [getElem_toArray,getElem_reverse,Array.getElem_toList,Array.length_toList];exact (Option.some.inj e).symm
theorem LD {I l S:Addr} {items:Array Value} {R:Result->Shared->Prop} {c₀:Nat} (hh:A.handled=none) (hne:l≠I) (hit:s.heap.IsRevIter I l ((items.size:Int) - 1)) (hl:s.heap.IsList l items)
 (hSI:S≠I) (hSl:S≠l) (hz:items.size<=sizeLine) (hS:s.heap.get? S=some { cls:=.type "list",data:=.seq #[] c₀ })
 (hR:∀s' c',Moved [S,I] (fun a b=>b=a) s s'->s'.heap.get? S=some { cls:=.type "list",dict:=none,data:=.seq items.toList.reverse.toArray c',slots:=#[] }->R (.ok (.ret .none)) s') :
 wpAny (model prog w) A.in1 (Builtin.List.listExtendWith (.ref S) (.ref I) .none)
  (fun fin s'=>match fin with | .done f=>R (.ok f) s' | .again c'=>c'.quiet=true/\codeAny (model prog w) A c' R s') (fun e s'=>R (.error e) s') s:=by
 have W:=(Walks.listRev (prog:=prog) (w:=w) (A:=A.in1) hh I l hne items).toS;have st:(0:Nat)<=items.size/\s.heap.IsRevIter I l ((items.size:Int) - 1 - ((0:Nat):Int))/\s.heap.IsList l items:=⟨Nat.zero_le _,by simpa using hit,hl⟩;have hT:=hit.typeIs;unfold Builtin.List.listExtendWith;refine wpAny_bind (wpAny_typeOf hT ?_);have h1:Builtin.List.listSameRef (.ref S) (.ref I)=false:=by simp [Builtin.List.listSameRef,hSI]
 rw [if_neg (by rw [h1];decide)];refine wpAny_bind (wpAny_pyIter_revIter hit ?_);refine wpAny_bind (wpAny_holding (OG hT ?_));rw [if_neg (by decide)];refine wpAny_pure ⟨plainId_quiet F.plain_extend_loop _,codeAny_extend_loopS W hz S (by simp [hSI,hSl]) .none items.size 0 _ _ _ rfl (Nat.zero_le _) st hS (ItemsOf.nil _) fun s' acc c' hm hS' hacc=>?_⟩;rw [NH hacc] at hS';exact hR s' c' hm hS'
theorem HH {I l:Addr} {items:Array Value} {Q:Value->Shared->Prop} (hh:A.handled=none) (hne:l≠I) (hit:s.heap.IsRevIter I l ((items.size:Int) - 1)) (hl:s.heap.IsList l items) (hz:items.size<=sizeLine)
 (hQ:∀h' tk c',(∀b o,b≠I->s.heap.get? b=some o->h'.get? b=some o)->h'.get? s.heap.objs.size=some { cls:=.type "list",dict:=none,data:=.seq items.toList.reverse.toArray c',slots:=#[] } ->
  Q (.ref s.heap.objs.size) { s with heap:=h',toks:=tk }):wpAny (model prog w) A (call (.type "list") [.ref I]) Q E s:=by
 refine callType_codes (Q₁:=fun obj s₁=>obj=.ref s.heap.objs.size/\s₁={ s with heap:=s.heap.push { cls:=.type "list",data:=.seq #[] } }) F.called_list (F.typeCall_list_1 _) F.entry_list_init (code_list_new _ ⟨rfl,rfl⟩) ?_;rintro obj s₁ ⟨rfl,rfl⟩;have hS:(s.heap.push { cls:=.type "list",data:=.seq #[] }).get? s.heap.objs.size=some { cls:=.type "list",data:=.seq #[] }:=Heap.get?_push_size _ rfl;refine ⟨⟨_,hS,rfl⟩,F.args_list_init_2 _ _,?_⟩;have lI:I < s.heap.objs.size:=by obtain ⟨o,ho,_⟩:=hit;exact Heap.lt_size ho
 have ll:l < s.heap.objs.size:=by obtain ⟨o,ho,_⟩:=hl;exact Heap.lt_size ho
 show wpAny _ A.in1.in1 (do let old <- Builtin.List.listItems (.ref s.heap.objs.size);Builtin.List.listUpdate (.ref s.heap.objs.size) (fun _=>#[]);letGo old.toList.reverse;Builtin.List.listExtendWith (.ref s.heap.objs.size) (.ref I) .none) _ _ _;refine wpAny_bind ?_;unfold Builtin.List.listItems;refine wpAny_bind (wpAny_seqItems hS rfl (wpAny_pure ?_));show wpAny _ A.in1.in1 (updateSeq s.heap.objs.size (fun _=>#[]) >>= fun _=>letGo (#[]:Array Value).toList.reverse >>= fun _=>Builtin.List.listExtendWith (.ref s.heap.objs.size) (.ref I) .none) _ _ _;refine wpAny_bind (wpAny_updateSeq hS rfl ?_);have hS₂:=Heap.get?_update_self (Obj.mapSeq (fun _=>(#[]:Array Value))) hS rfl
 have oth:∀b o,s.heap.get? b=some o->((s.heap.push { cls:=.type "list",data:=.seq #[] }).update s.heap.objs.size (Obj.mapSeq (fun _=>(#[]:Array Value)))).get? b=some o :=
  fun b o e=>(Heap.get?_update_other _ _ (Ne.symm (Nat.ne_of_lt (Heap.lt_size e)))).trans (Heap.get?_push_of_some _ e)
 refine wpAny_bind (wpAny_letGo ?_);refine LD (A:=A.in1) hh hne (hit.at (oth I)) (hl.at (oth l)) (Ne.symm (Nat.ne_of_lt lI)) (Ne.symm (Nat.ne_of_lt ll)) hz hS₂ fun s' c' hm hS'=>?_;refine ⟨rfl,?_⟩;rw [Moved.eq_with hm];exact hQ s'.heap s'.toks c' (fun b o hb e=>hm.heap b o (by simp [hb,Nat.ne_of_lt (Heap.lt_size e)]) (oth b o e)) hS'
end
section
variable {X:Cx} {e:Expr} {te:TE} {p p2 pos pos2:Pos}
def Th (K:PySem.W.Frag) (te:TE):TE:=fun σ H Q=>te σ H fun x H1=>∃a ys,x=.ref a/\SqL K H1 a ys/\∀l,H1 l=none->Q (.ref l) (upd H1 l (.lst ys.reverse))
theorem LM (hc:X.calm=true) (hg:Gl X "list") (hm:X.mg "list"=none) (hg2:Gl X "reversed") (hm2:X.mg "reversed"=none) (he:PE X e te)
 (hs:starEach [e] X.env=[(false,eval e X.env)]:=by rfl)
 (hs2:starEach [(.Call (.Name "reversed" p2) [e] [] pos2:Expr)] X.env=[(false,eval (.Call (.Name "reversed" p2) [e] [] pos2) X.env)]:=by rfl) :
 PE X (.Call (.Name "list" p) [.Call (.Name "reversed" p2) [e] [] pos2] [] pos) (Th X.K te):=by
 intro pins s σ H Q I h;refine wpAny_Call_Name_kw (BX I hg hm boot_list ?_ (by decide) (by decide));refine callWith_type1 ?_ hs2 rfl;rw [hs2];refine Calls.spliced_cons ?_;refine wpAny_Call_Name_kw (BX I hg2 hm2 boot_reversed ?_ (by decide) (by decide));refine callWith_type1 ?_ hs rfl;rw [hs];refine Calls.spliced_cons (thn (he pins s σ H _ I h) fun u s1 ⟨x,H1,I1,r1,a,ys,hx,hq,q⟩=>?_);subst hx
 cases r1
 refine Calls.spliced_nil ?_;obtain ⟨its,rv,pl,hz⟩:=I1.list hq;have hl:=pl.isList;have hlen:=rv.length;refine call_reversed_list hl ?_;refine Calls.spliced_nil ?_;have la:a < s1.heap.objs.size:=by obtain ⟨o,ho,_⟩:=hl;exact Heap.lt_size ho
 refine HH (items:=its.toArray) (I1.ok.hd hc) (Nat.ne_of_lt la) ⟨_,Heap.get?_push_size _ rfl,rfl,rfl⟩ (hl.at fun o e=>Heap.get?_push_of_some _ e) (by simp only [size_toArray];ext) fun h' tk c' kp eS=>?_;have kp':∀b o,s1.heap.get? b=some o->h'.get? b=some o:=fun b o e=>kp b o (Nat.ne_of_lt (Heap.lt_size e)) (Heap.get?_push_of_some _ e);have hp:s1.heap.objs.size<=(s1.heap.push (revObj a ((its.toArray.size:Int) - 1))).objs.size:=by simp [Heap.push]
 refine ⟨.ref _,_,I1.laid (t':=tk) kp' hp (show Bl X.prog X.w _ h' _ (.lst ys.reverse) from ⟨by simpa using hz,its.reverse,c',rv.reverse,by simpa using eS⟩),rfl,q _ (I1.hok.fresh hp)⟩
end
end L2
namespace L2
open PySem PySem.W PySem.Spec PyProof.Rows
section
variable {O:KeyOrd} {ky:Nat->O.α} {n:Nat} {cmp:Nat->Nat->(Bool->Shared->Prop)->Shared->Prop} {J:Shared->Prop}
def kk (ky:Nat->O.α) (p:Array Nat) (i:Nat):O.α:=ky (p.getD i 0)
def Srt (ky:Nat->O.α) (p:Array Nat) (m:Nat):Prop:=∀i j,i<=j->j < m->O.kle (kk ky p i) (kk ky p j)
def Fal (ky:Nat->O.α) (p:Array Nat) (m:Nat):Prop:=∀i j,i<=j->j < m->O.kle (kk ky p j) (kk ky p i)
def Prm (n:Nat) (p:Array Nat):Prop:=p.toList.Perm (List.range n)
def Jf (O:KeyOrd) (ky:Nat->O.α) (n:Nat) (cmp:Nat->Nat->(Bool->Shared->Prop)->Shared->Prop) (J:Shared->Prop):Prop :=
 ∀i j (C:Bool->Shared->Prop) s,i < n->j < n->J s->(∀s',J s'->C (O.blt (ky i) (ky j)) s')->cmp i j C s
theorem Prm.size {p:Array Nat} (h:Prm n p):p.size=n:=by
 have:=h.length_eq;rw [length_range] at this;exact this
theorem Prm.lt {p:Array Nat} (h:Prm n p) {k:Nat} (hk:k < n):p.getD k 0 < n:=by
 have hz:=h.size;have e:p.getD k 0=p[k]'(by ext):=by simp [Array.getD,hz,hk]
 rw [e];exact mem_range.mp (h.mem_iff.mp (by simp))
theorem Prm.rev {p:Array Nat} (h:Prm n p) (i j:Nat):Prm n (kas_rev p i j):=(mirror_perm p i j _).toList.trans h
theorem Prm.bub {p:Array Nat} (h:Prm n p) (k d:Nat):Prm n (bubble p k d):=(bubble_perm p k d).toList.trans h
theorem EZ {p q:Array Nat} {i j:Nat} (e:p[i]?=q[j]?):p.getD i 0=q.getD j 0:=by
 rw [Array.getD_eq_getD_getElem?,Array.getD_eq_getD_getElem?,e]
theorem Fw {p:Array Nat} {i j:Nat} (hj:j<=p.size) (k:Nat):kk ky (kas_rev p i j) k=if i<=k/\k < j then kk ky p (i+j - 1 - k) else kk ky p k:=by
 have e:=getElem?_mirror_all (xs:=p) (i:=i) hj k;unfold kk kas_rev;by_cases c:i<=k/\k < j
 ·rw [if_pos c] at e ⊢;rw [EZ e]
 ·rw [if_neg c] at e ⊢;rw [EZ e]
theorem O7 {p:Array Nat} {src d:Nat} (hs:src < p.size) (hd:d<=src) (k:Nat) :
 kk ky (bubble p src d) k=if k=src - d then kk ky p src else if src - d < k/\k<=src then kk ky p (k - 1) else kk ky p k:=by
 have e:=getElem?_bubble hs d hd k;unfold kk;by_cases c:k=src - d
 ·rw [if_pos c] at e ⊢;rw [EZ e]
 ·rw [if_neg c] at e ⊢;by_cases c2:src - d < k/\k<=src
  ·rw [if_pos c2] at e ⊢;rw [EZ e]
  ·rw [if_neg c2] at e ⊢;rw [EZ e]
theorem Srt.succ {p:Array Nat} {m:Nat} (h:Srt ky p m) (h1:1<=m) (c:O.kle (kk ky p (m - 1)) (kk ky p m)):Srt ky p (m+1):=fun i j hij hj=>by
 by_cases e:j=m
 ·subst e;by_cases e2:i=j
  ·subst e2;exact KeyOrd.kle_refl _
  ·exact KeyOrd.kle_trans (h i (j - 1) (by ext) (by ext)) c
 ·exact h i j hij (by ext)
theorem Fal.succ {p:Array Nat} {m:Nat} (h:Fal ky p m) (h1:1<=m) (c:O.kle (kk ky p m) (kk ky p (m - 1))):Fal ky p (m+1):=fun i j hij hj=>by
 by_cases e:j=m
 ·subst e;by_cases e2:i=j
  ·subst e2;exact KeyOrd.kle_refl _
  ·exact KeyOrd.kle_trans c (h i (j - 1) (by ext) (by ext))
 ·exact h i j hij (by ext)
theorem Srt.one {p:Array Nat}:Srt ky p 1:=fun i j hij hj=>by
 have:i=j:=by ext
 subst this;exact KeyOrd.kle_refl _
theorem Fal.rev {p:Array Nat} {m:Nat} (hz:m<=p.size) (h:Fal ky p m):Srt ky (kas_rev p 0 m) m:=fun i j hij hj=>by
 rw [Fw hz,Fw hz,if_pos ⟨Nat.zero_le _,by ext⟩,if_pos ⟨Nat.zero_le _,hj⟩];exact h _ _ (by ext) (by ext)
theorem Fal.revEq {p:Array Nat} {i j m:Nat} (hz:j<=p.size) (hm:j<=m) (h:Fal ky p m) (eq:∀a b,i<=a->a < j->i<=b->b < j->O.kle (kk ky p a) (kk ky p b)):Fal ky (kas_rev p i j) m:=fun a b hab hb=>by
 rw [Fw hz,Fw hz];by_cases c1:i<=a/\a < j
 ·rw [if_pos c1];by_cases c2:i<=b/\b < j
  ·rw [if_pos c2];exact eq _ _ (by ext) (by ext) (by ext) (by ext)
  ·rw [if_neg c2];exact h _ _ (by ext) hb
 ·rw [if_neg c1];by_cases c2:i<=b/\b < j
  ·rw [if_pos c2];exact h _ _ (by ext) (by ext)
  ·rw [if_neg c2];exact h _ _ hab hb
theorem Lw (ac:Jf O ky n cmp J) {p:Array Nat} (hp:Prm n p) {R:Nat->Shared->Prop}:∀(f a:Nat) (s:Shared),1<=a->a+f<=n->Srt ky p a->J s ->
 (∀m s',a<=m->m<=a+f->Srt ky p m->(m < a+f->O.klt (kk ky p m) (kk ky p (m - 1)))->J s'->R m s')->(kas_asc p f a).kasWp cmp R s
 | 0,a,s,h1,hz,hs,hJ,k=>k a s (Nat.le_refl _) (Nat.le_refl _) hs (fun h=>absurd h (Nat.lt_irrefl _)) hJ
 | f+1,a,s,h1,hz,hs,hJ,k=>by
   refine ac _ _ _ s (hp.lt (by ext)) (hp.lt (by ext)) hJ fun s' hJ'=>?_
   cases e:O.blt (ky (p.getD a 0)) (ky (p.getD (a - 1) 0)) with
   | true =>
     dsimp only;rw [if_pos rfl];exact k a s' (Nat.le_refl _) (by ext) hs (fun _=>e) hJ'
   | false =>
     dsimp only;rw [if_neg Bool.false_ne_true];refine Lw ac hp f (a+1) s' (by ext) (by ext) (hs.succ h1 e) hJ' fun m s2 l1 l2 q1 q2 q3=>?_;exact k m s2 (by ext) (by ext) q1 (fun h=>q2 (by ext)) q3
theorem Gp (ac:Jf O ky n cmp J) {R:Array Nat × Nat × Nat->Shared->Prop}:∀(f:Nat) (p:Array Nat) (m q:Nat) (s:Shared),Prm n p->q+1<=m->m+f<=n->Fal ky p m ->
 (∀a b,m - (q+1)<=a->a < m->m - (q+1)<=b->b < m->O.kle (kk ky p a) (kk ky p b))->J s ->
 (∀p' m' q' s',Prm n p'->q'+1<=m'->m<=m'->m'<=m+f->Fal ky p' m'->(∀a b,m' - (q'+1)<=a->a < m'->m' - (q'+1)<=b->b < m'->O.kle (kk ky p' a) (kk ky p' b))->J s'->R (p',m',q') s') ->
 (kas_desc f p m q).kasWp cmp R s
 | 0,p,m,q,s,hp,hq,hz,hf,he,hJ,k=>k p m q s hp hq (Nat.le_refl _) (Nat.le_refl _) hf he hJ
 | f+1,p,m,q,s,hp,hq,hz,hf,he,hJ,k=>by
   have hsz:=hp.size;refine ac _ _ _ s (hp.lt (by ext)) (hp.lt (by ext)) hJ fun s' hJ'=>?_
   cases e:O.blt (ky (p.getD m 0)) (ky (p.getD (m - 1) 0)) with
   | true =>
     dsimp only;rw [if_pos rfl];have hf':Fal ky p (m+1):=hf.succ (by ext) (KeyOrd.kle_of_klt e)
     have one:∀p':Array Nat,∀a b,m+1 - (0+1)<=a->a < m+1->m+1 - (0+1)<=b->b < m+1->O.kle (kk ky p' a) (kk ky p' b):=fun p' a b _ _ _ _=>by
      have:a=b:=by ext
      subst this;exact KeyOrd.kle_refl _
     by_cases c:q > 0
     ·rw [if_pos c];refine Gp ac f (kas_rev p (m - (q+1)) m) (m+1) 0 s' (hp.rev _ _) (by ext) (by ext) (hf'.revEq (by ext) (by ext) he) (one _) hJ' fun p' m' q' s2 a1 a2 a3 a4 a5 a6 a7=>?_;exact k p' m' q' s2 a1 a2 (by ext) (by ext) a5 a6 a7
     ·rw [if_neg c];refine Gp ac f p (m+1) 0 s' hp (by ext) (by ext) hf' (one _) hJ' fun p' m' q' s2 a1 a2 a3 a4 a5 a6 a7=>?_;exact k p' m' q' s2 a1 a2 (by ext) (by ext) a5 a6 a7
   | false =>
     dsimp only;rw [if_neg Bool.false_ne_true];refine ac _ _ _ s' (hp.lt (by ext)) (hp.lt (by ext)) hJ' fun s2 hJ2=>?_
     cases e2:O.blt (ky (p.getD (m - 1) 0)) (ky (p.getD m 0)) with
     | true =>
       dsimp only;rw [if_pos rfl];exact k p m q s2 hp hq (Nat.le_refl _) (by ext) hf he hJ2
     | false =>
       dsimp only;rw [if_neg Bool.false_ne_true];have g1:O.kle (kk ky p (m - 1)) (kk ky p m):=e;have g2:O.kle (kk ky p m) (kk ky p (m - 1)):=e2;refine Gp ac f p (m+1) (q+1) s2 hp (by ext) (by ext) (hf.succ (by ext) g2) (fun a b a1 a2 b1 b2=>?_) hJ2 fun p' m' q' s3 c1 c2 c3 c4 c5 c6 c7=>?_
       ·by_cases ea:a=m
        ·by_cases eb:b=m
         ·rw [ea,eb];exact KeyOrd.kle_refl _
         ·rw [ea];exact KeyOrd.kle_trans g2 (he (m - 1) b (by ext) (by ext) (by ext) (by ext))
        ·by_cases eb:b=m
         ·rw [eb];exact KeyOrd.kle_trans (he a (m - 1) (by ext) (by ext) (by ext) (by ext)) g1
         ·exact he a b (by ext) (by ext) (by ext) (by ext)
       ·exact k p' m' q' s3 c1 c2 (by ext) (by ext) c5 c6 c7
theorem Lk (ac:Jf O ky n cmp J) {p:Array Nat} (hp:Prm n p) {m nrem:Nat} {R:Nat × Array Nat->Shared->Prop} {s:Shared} (h1:1<=m) (h2:m<=nrem) (h3:nrem<=n) (hf:Fal ky p m) (hJ:J s)
 (k:∀m' p' s',1<=m'->m'<=nrem->Prm n p'->Srt ky p' m'->J s'->R (m',p') s'):(kas_tail3 m nrem p).kasWp cmp R s:=by
 have hsz:=hp.size;unfold kas_tail3;rw [KasT.kasWp_bind];refine Lw ac (hp.rev 0 m) (nrem - m) m s h1 (by ext) (hf.rev (by ext)) hJ fun m' s' a1 a2 a3 _ a5=>?_;exact k m' _ s' (by ext) (by ext) (hp.rev _ _) a3 a5
theorem FD (ac:Jf O ky n cmp J) {p:Array Nat} (hp:Prm n p) {m nrem:Nat} {R:Nat × Array Nat->Shared->Prop} {s:Shared} (h2:m+1<=nrem) (h3:nrem<=n) (hf:Fal ky p (m+1)) (hJ:J s)
 (k:∀m' p' s',1<=m'->m'<=nrem->Prm n p'->Srt ky p' m'->J s'->R (m',p') s'):(kas_descPart m nrem p).kasWp cmp R s:=by
 unfold kas_descPart;rw [KasT.kasWp_bind];refine Gp ac (nrem - (m+1)) p (m+1) 0 s hp (by ext) (by ext) hf (fun a b _ _ _ _=>?_) hJ fun p' m' q' s' a1 a2 a3 a4 a5 a6 a7=>?_
 ·have:a=b:=by ext
  subst this;exact KeyOrd.kle_refl _
 ·have hsz:=a1.size;dsimp only;by_cases c:q' > 0
  ·rw [if_pos c];exact Lk ac (a1.rev _ _) (by ext) (by ext) h3 (a5.revEq (by ext) (Nat.le_refl _) a6) a7 k
  ·rw [if_neg c];exact Lk ac a1 (by ext) (by ext) h3 a5 a7 k
theorem On (ac:Jf O ky n cmp J) {p:Array Nat} (hp:Prm n p) {R:Nat × Array Nat->Shared->Prop} {s:Shared} (h1:1<=n) (hJ:J s)
 (k:∀m' p' s',1<=m'->m'<=n->Prm n p'->Srt ky p' m'->J s'->R (m',p') s'):(kas_count n p).kasWp cmp R s:=by
 have hsz:=hp.size;unfold kas_count;rw [KasT.kasWp_bind];refine Lw ac hp (n - 1) 1 s (Nat.le_refl _) (by ext) Srt.one hJ fun m s' a1 a2 a3 a4 a5=>?_;by_cases c:m=n
 ·rw [if_pos (by simpa using c)];exact k m p s' a1 (by ext) hp a3 a5
 ·rw [if_neg (by simpa using c)];have lt:=a4 (by ext);by_cases c1:m > 1
  ·rw [if_pos c1];refine ac _ _ _ s' (hp.lt (by ext)) (hp.lt (by ext)) a5 fun s2 hJ2=>?_
   cases e:O.blt (ky (p.getD 0 0)) (ky (p.getD (m - 1) 0)) with
   | true =>
     dsimp only;rw [if_pos rfl];exact k m p s2 a1 (by ext) hp a3 hJ2
   | false =>
     dsimp only;rw [if_neg Bool.false_ne_true];have g:O.kle (kk ky p (m - 1)) (kk ky p 0):=e
     have eq:∀a b,a < m->b < m->O.kle (kk ky p a) (kk ky p b):=fun a b ha hb =>
      KeyOrd.kle_trans (a3 a (m - 1) (by ext) (by ext)) (KeyOrd.kle_trans g (a3 0 b (by ext) hb))
     refine FD ac (hp.rev 0 m) (by ext) (Nat.le_refl _) ?_ hJ2 k;intro i j hij hj;rw [Fw (by ext),Fw (by ext)];by_cases cj:j < m
     ·rw [if_pos ⟨Nat.zero_le _,cj⟩,if_pos ⟨Nat.zero_le _,by ext⟩];exact eq _ _ (by ext) (by ext)
     ·have ej:j=m:=by ext
      subst ej;rw [if_neg (by ext)];by_cases ci:i < j
      ·rw [if_pos ⟨Nat.zero_le _,ci⟩];exact KeyOrd.kle_trans (KeyOrd.kle_of_klt lt) (eq _ _ (by ext) (by ext))
      ·rw [if_neg (by ext)];have:i=j:=by ext
       subst this;exact KeyOrd.kle_refl _
  ·rw [if_neg c1];have em:m=1:=by ext
   subst em;refine FD ac hp (by ext) (Nat.le_refl _) ?_ a5 k
   have f1:Fal ky p 1:=fun i j hij hj=>by
    have:i=j:=by ext
    subst this;exact KeyOrd.kle_refl _
   exact f1.succ (Nat.le_refl _) (KeyOrd.kle_of_klt lt)
theorem GW (ac:Jf O ky n cmp J) {p:Array Nat} (hp:Prm n p) {t:Nat} (ht:t < n) {R:Nat->Shared->Prop}:∀(f l r:Nat) (s:Shared),l<=r->r<=t->r - l<=f->(∀i,i < l->O.kle (kk ky p i) (kk ky p t))->(∀i,r<=i->i < t->O.klt (kk ky p t) (kk ky p i)) ->
 Srt ky p t->J s->(∀l' s',l'<=t->(∀i,i < l'->O.kle (kk ky p i) (kk ky p t))->(∀i,l'<=i->i < t->O.klt (kk ky p t) (kk ky p i))->J s'->R l' s')->(kas_place p t f l r).kasWp cmp R s
 | 0,l,r,s,h1,h2,h3,h4,h5,_,hJ,k=>k l s (by ext) h4 (fun i a b=>h5 i (by ext) b) hJ
 | f+1,l,r,s,h1,h2,h3,h4,h5,hs,hJ,k=>by
   unfold kas_place;by_cases c:l>=r
   ·rw [if_pos c];exact k l s (by ext) h4 (fun i a b=>h5 i (by ext) b) hJ
   ·rw [if_neg c];refine ac _ _ _ s (hp.lt ht) (hp.lt (by ext)) hJ fun s' hJ'=>?_
    cases e:O.blt (ky (p.getD t 0)) (ky (p.getD ((l+r) / 2) 0)) with
    | true =>
      dsimp only;rw [if_pos rfl];have g:O.klt (kk ky p t) (kk ky p ((l+r) / 2)):=e;exact GW ac hp ht f l ((l+r) / 2) s' (by ext) (by ext) (by ext) h4 (fun i a b=>KeyOrd.klt_of_klt_of_kle g (hs _ _ a b)) hs hJ' k
    | false =>
      dsimp only;rw [if_neg Bool.false_ne_true];have g:O.kle (kk ky p ((l+r) / 2)) (kk ky p t):=e;exact GW ac hp ht f ((l+r) / 2+1) r s' (by ext) h2 (by ext) (fun i a=>KeyOrd.kle_trans (hs i ((l+r) / 2) (by ext) (by ext)) g) h5 hs hJ' k
theorem Oc (ac:Jf O ky n cmp J) {R:Array Nat->Shared->Prop}:∀(f:Nat) (p:Array Nat) (t:Nat) (s:Shared),Prm n p->t+f=n->Srt ky p t->J s->(∀p' s',Prm n p'->Srt ky p' n->J s'->R p' s')->(kas_bin f p t).kasWp cmp R s
 | 0,p,t,s,hp,hz,hs,hJ,k=>k p s hp (by have:t=n:=by ext
                                       subst this;exact hs) hJ
 | f+1,p,t,s,hp,hz,hs,hJ,k=>by
   have hsz:=hp.size;unfold kas_bin;rw [KasT.kasWp_bind];refine GW ac hp (by ext) t 0 t s (Nat.zero_le _) (Nat.le_refl _) (by ext) (fun i h=>absurd h (Nat.not_lt_zero _)) (fun i a b=>absurd b (by ext)) hs hJ fun l s' a1 a2 a3 hJ'=>?_;refine Oc ac f (bubble p t (t - l)) (t+1) s' (hp.bub _ _) (by ext) ?_ hJ' k;intro i j hij hj;have el:t - (t - l)=l:=by ext
   rw [O7 (by ext) (by ext),O7 (by ext) (by ext),el];by_cases ci:i=l
   ·rw [if_pos ci];by_cases cj:j=l
    ·rw [if_pos cj];exact KeyOrd.kle_refl _
    ·rw [if_neg cj,if_pos ⟨by ext,by ext⟩];exact KeyOrd.kle_of_klt (a3 _ (by ext) (by ext))
   ·rw [if_neg ci];by_cases ci2:l < i/\i<=t
    ·rw [if_pos ci2,if_neg (by ext),if_pos ⟨by ext,by ext⟩];exact hs _ _ (by ext) (by ext)
    ·rw [if_neg ci2];by_cases cj:j=l
     ·rw [if_pos cj];exact a2 _ (by ext)
     ·rw [if_neg cj];by_cases cj2:l < j/\j<=t
      ·rw [if_pos cj2];exact hs _ _ (by ext) (by ext)
      ·rw [if_neg cj2];exact hs _ _ hij (by ext)
theorem Q1 (ac:Jf O ky n cmp J) {R:Array Nat->Shared->Prop} {s:Shared} (h1:1<=n) (hJ:J s) (k:∀p s',Prm n p->Srt ky p n->J s'->R p s'):(kas_sort n).kasWp cmp R s:=by
 unfold kas_sort;rw [KasT.kasWp_bind];refine On ac (List.Perm.refl _) h1 hJ fun m p s' a1 a2 a3 a4 a5=>?_;dsimp only;by_cases c:m < n
 ·rw [if_pos c];have e:max m 1=m:=by ext
  rw [e];exact Oc ac (n - m) p m s' a3 (by ext) a4 a5 k
 ·rw [if_neg c];have e:m=n:=by ext
  subst e;exact k p s' a3 a4 a5
end
end L2
namespace L2
open PySem PySem.W PySem.Spec PyProof.Rows
theorem DH:∀a b:List Int,HT.lexLt a b=decide (a < b)
 | [],[]=>by simp [HT.lexLt]
 | [],_ :: _=>by simp [HT.lexLt]
 | _ :: _,[]=>by simp [HT.lexLt]
 | x :: xs,y :: ys=>by
   rw [HT.lexLt_cons,DH xs ys];by_cases e:x=y
   ·subst e;rw [if_pos rfl];simp [cons_lt_cons_iff]
   ·rw [if_neg e];simp [cons_lt_cons_iff,e]
def Qc:KeyOrd where
 α:=List Int
 blt a b:=HT.lexLt a b
 irrefl a:=by rw [DH];simpa using List.lt_irrefl a
 trans a b c h1 h2:=by
  rw [DH] at *;simp only [decide_eq_true_eq] at *;exact List.lt_trans h1 h2
 negTrans a b c h:=by
  rw [DH] at h;rw [DH,DH];simp only [decide_eq_true_eq] at *;by_cases hab:a < b
  ·exact .inl hab
  ·exact .inr (List.lt_of_le_of_lt (List.not_lt.mp hab) h)
 total a b h1 h2:=by
  rw [DH] at *;simp only [decide_eq_false_iff_not] at *;exact List.le_antisymm (List.not_lt.mp h2) (List.not_lt.mp h1)
def DS (h:Heap) (v:Value) (ns:List Int):Prop:=∃a its,v=.ref a/\IsTup h a its/\IntsAre its.toList ns
section
variable {prog:Program} {w:World} {A:Around} {E:Value->Shared->Prop} {s:Shared} {Q:Bool->Shared->Prop}
theorem MC {fin bb:Bool}:∀{vs us:List Value} {ns ms:List Int} (i:Nat),IntsAre vs ns->IntsAre us ms->Q (HT.lexLt ns ms) s->fin=decide (vs.length < us.length)->KatLex prog w A bb fin Q (vs.zip us) i s
 | _,_,_,_,i,.nil,.nil,h,e=>by
   refine kat_nil ?_;rw [e];exact h
 | _,_,_,_,i,.nil,.cons _ _ _,h,e=>by
   refine kat_nil ?_;rw [e];simpa [HT.lexLt] using h
 | _,_,_,_,i,.cons _ _ _,.nil,h,e=>by
   refine kat_nil ?_;rw [e];simpa [HT.lexLt] using h
 | _,_,_,_,i,.cons (vs:=vs) (ns:=ns) x t hv,.cons (vs:=us) (ns:=ms) y u hu,h,e=>by
   refine kat_cons (wpAny_eqBool_int (kat_go (fun c=>?_) (fun c=>?_)))
   ·have xy:x=y:=by simpa using c
    subst xy;refine kat_yes (MC (i+1) hv hu ?_ ?_)
    ·simpa [HT.lexLt] using h
    ·rw [e];simp
   ·have xy:¬ x=y:=by simpa using c
    refine kat_no ?_;have h':Q (decide (x < y)) s:=by simpa [HT.lexLt,xy] using h
    cases (bb && i == 0) with
    | true=>exact oneLt_int h'
    | false=>exact kat_one _ _ (lt_int h')
def Md (κ:SortKind):Prop:=(∃b,κ=tuples' b)\/κ=general'\/κ=oneType'
theorem R9 {κ:SortKind} {x y:Value} {ns ms:List Int} (hk:Md κ) (hx:DS s.heap x ns) (hy:DS s.heap y ms) (hu:A.units < cLine) (h:Q (HT.lexLt ns ms) s):wpAny (model prog w) A (keyLt' κ x y) Q E s:=by
 obtain ⟨a,its,rfl,ta,ia⟩:=hx;obtain ⟨b,jts,rfl,tb,ib⟩:=hy;rcases hk with ⟨bb,rfl⟩ | rfl | rfl
 ·obtain ⟨o,ho,hc,n,hd⟩:=ta;obtain ⟨o2,ho2,hc2,n2,hd2⟩:=tb;exact kat_lt ho hd ho2 hd2 (MC 0 ia ib h (by simp))
 ·exact kat_one _ _ (HT.lt_tupInts ta tb ia ib hu h)
 ·rw [keyLt'_oneType,oneLt'_eq];simp only [if_true];refine wpAny_bind (wpAny_cRoomFor hu ?_);obtain ⟨⟨cls,dd,data,sl⟩,ho,hc,n,hd⟩:=id ta;obtain ⟨⟨cls2,dd2,data2,sl2⟩,ho2,hc2,n2,hd2⟩:=id tb;simp only at hc hd hc2 hd2;subst hc hd hc2 hd2;refine wpAny_bind (wpAny_callSpecialIfBound?_slot (T:="tuple") ⟨_,ho,rfl⟩ PySem.F.slot_tuple_lt (call_meets PySem.F.slot_tuple_lt ⟨_,ho,rfl⟩ PySem.F.entry_tuple_lt (PySem.F.args_tuple_lt_2 _ _) (HT.tuple_lt_ints a b its jts n n2 dd dd2 sl sl2 ns ms ia ib) ⟨ho,ho2,?_⟩));exact wpAny_truthy_bool h
theorem LC:∀{l:List Value} {ns:List Int},IntsAre l ns->∀{v:Value},l[0]?=some v->∃n t,v=Value.int n t
 | _,_,.nil,v,e=>by simp at e
 | _,_,.cons n t _,v,e=>⟨n,t,by simpa using e.symm⟩
theorem Ks {α β:Type} {f:α->Sem β}:∀(l:List α) {R:List β->Shared->Prop},(∀v∈l,∀(Q':β->Shared->Prop),(∀r,Q' r s)->wpAny (model prog w) A (f v) Q' E s)->(∀rs,R rs s)->wpAny (model prog w) A (l.mapM f) R E s
 | [],_,_,h=>by
   rw [mapM_nil];exact wpAny_pure (h [])
 | x :: l,R,hf,h=>by
   rw [mapM_cons];exact wpAny_bind (hf x (.head _) _ fun r=>wpAny_bind (Ks l (R:=fun bs s'=>wpAny (model prog w) A (pure (r :: bs)) R E s') (fun v hv=>hf v (.tail _ hv)) fun rs=>wpAny_pure (h _)))
theorem K8 {l:List Value} {R:Option Value->Shared->Prop} (hf:∀v∈l,∀(Q':Value->Shared->Prop),(∀r,Q' r s)->wpAny (model prog w) A (typeOf v) Q' E s) (h:∀r,R r s):wpAny (model prog w) A (oneTypeOnly' l.toArray) R E s:=by
 rw [oneTypeOnly'_eq,mapM_toArray,map_eq_pure_bind];refine wpAny_bind (wpAny_bind (Ks l hf fun rs=>wpAny_pure ?_))
 cases rs.toArray[0]? with
 | none=>exact wpAny_pure (h _)
 | some t=>exact wpAny_pure (h _)
theorem LQ {rows:List (List Int)}:∀{vs:List Value},Paired (DS s.heap) vs rows->∀{R:List (Option Value)->Shared->Prop},(∀fs,fs.length=vs.length->(∀f∈fs,∀v,f=some v->∃n t,v=Value.int n t)->R fs s) ->
 wpAny (model prog w) A (vs.mapM firstOfTuple') R E s:=by
 intro vs hp
 induction hp with
 | nil =>
   intro R h;rw [mapM_nil];exact wpAny_pure (h [] rfl (fun f m=>nomatch m))
 | cons hx hr ih =>
   intro R h;obtain ⟨a,its,rfl,⟨o,ho,hc,n,hd⟩,ia⟩:=hx;rw [mapM_cons];refine wpAny_bind ?_;rw [kas_first_eq];refine wpAny_bind (Looks.here (show Looks (model prog w) s.heap (typeOf (.ref a)) o.cls from (Looks.ld ho).andThen .now) ?_);rw [hc,if_neg (by first | decide | simp)];refine wpAny_bind (listItems_at ho hd (wpAny_pure ?_));refine wpAny_bind (ih fun fs l1 l2=>wpAny_pure (h _ (by rw [length_cons,length_cons,l1]) fun f m v e=>?_));rcases mem_cons.mp m with m | m
   ·subst m;have e':its.toList[0]?=some v:=by simpa using e
    exact LC ia e'
   ·exact l2 f m v e
theorem Pc {vs:List Value} {rows:List (List Int)} (hp:Paired (DS s.heap) vs rows) {R:SortKind->Shared->Prop} (h:∀κ,Md κ->R κ s):wpAny (model prog w) A (keyKind' vs.toArray) R E s:=by
 rw [kat_kind_eq,mapM_toArray,map_eq_pure_bind];refine wpAny_bind (wpAny_bind (LQ hp fun fs l1 l2=>wpAny_pure ?_));by_cases c:(fs.toArray.all fun x=>x.isSome)=true
 ·rw [if_pos c];refine wpAny_bind (wpAny_rule ?_);have e:fs.toArray.filterMap id=(fs.filterMap id).toArray:=by simp
  rw [e];refine wpAny_bind (K8 (fun v hv Q' hq=>?_) fun r=>wpAny_pure (h _ (.inl ⟨_,rfl⟩)));obtain ⟨f,fm,fe⟩:=mem_filterMap.mp hv;obtain ⟨n,t,rfl⟩:=l2 f fm v fe;exact wpAny_of_eq (a:=Value.type "int") rfl (hq _)
 ·rw [if_neg c];by_cases c2:(fs.toArray[0]?.bind id).isSome=true
  ·rw [if_pos c2];exact wpAny_pure (h _ (.inr (.inl rfl)))
  ·rw [if_neg c2];refine wpAny_bind (K8 (fun v hv Q' hq=>?_) fun r=>?_)
   ·obtain ⟨ns,hr⟩:∃ns,DS s.heap v ns:=by
     clear l1 l2 c c2
     induction hp with
     | nil=>cases hv
     | cons hx _ ih =>
       rcases mem_cons.mp hv with m | m
       ·exact ⟨_,m ▸ hx⟩
       ·exact ih m
    obtain ⟨a,its,rfl,⟨o,ho,hc,n,hd⟩,ia⟩:=hr;exact Looks.here (show Looks (model prog w) s.heap (typeOf (.ref a)) o.cls from (Looks.ld ho).andThen .now) (hq _)
   ·cases r with
    | none=>exact wpAny_pure (h _ (.inr (.inl rfl)))
    | some t=>exact wpAny_pure (h _ (.inr (.inr rfl)))
theorem F4 {α β:Type} {R:α->β->Prop} (d:α) (e:β):∀{xs:List α} {ys:List β},Paired R xs ys->∀i,i < xs.length->R (xs.getD i d) (ys.getD i e)
 | _,_,.nil,i,h=>absurd h (Nat.not_lt_zero _)
 | _,_,.cons r _,0,_=>r
 | _,_,.cons _ t,i+1,h=>F4 d e t i (by simpa using h)
theorem GO (vs:List Value):(List.range vs.length).map (fun i=>vs.getD i Value.none)=vs:=by
 apply ext_getElem
 ·simp
 ·intro i h1 h2;simp [h2]
theorem DS.keep {h h':Heap} {v:Value} {ns:List Int} (x:DS h v ns) (k:∀b o,o.cls=.type "tuple"->h.get? b=some o->h'.get? b=some o):DS h' v ns:=by
 obtain ⟨a,its,rfl,⟨o,ho,hc,n,hd⟩,ia⟩:=x;exact ⟨a,its,rfl,⟨o,k a o hc ho,hc,n,hd⟩,ia⟩
theorem Pd {a:Addr} {vs:List Value} {rows:List (List Int)} {n:Nat} {P:PySem.Fin->Shared->Prop} (ho:s.heap.get? a=some (seqObj "list" vs.toArray n)) (hp:Paired (DS s.heap) vs rows) (h64:vs.length < 64) (hu:A.units < cLine)
 (h:∀p:Array Nat,Prm vs.length p->Srt (O:=Qc) (fun i=>rows.getD i []) p vs.length->P (.done (.ret .none)) { s with heap:=sortedHeap s.heap a vs (List.toArray (p.toList.map fun i=>vs.getD i Value.none)) }) :
 wpAny (model prog w) A (Builtin.«list.sort» ⟨[.ref a],[]⟩) P E s:=by
 rw [list_sort_plain];have ha:a < s.heap.objs.size:=Heap.lt_size ho;refine wpAny_bind (listItems_at ho rfl ?_);refine wpAny_bind (listUpdate_at ho rfl ?_);obtain ⟨e1,ho1⟩:∃e1,(s.heap.update a (Obj.mapSeq fun _=>#[])).get? a=some (seqObj "list" #[] e1):=⟨_,get?_update_seq ho (fun _=>#[])⟩;refine wpAny_bind (seqEpoch_at ho1 rfl ?_);refine wpAny_bind (wpAny_newTuple ?_);refine wpAny_bind (wpAny_newList ?_);refine wpAny_holding ?_
 have ho6:(((s.heap.update a (Obj.mapSeq fun _=>#[])).push (seqObj "tuple" vs.toArray 0)).push (seqObj "list" #[] 0)).get? a=some (seqObj "list" #[] e1):=by
  rw [Heap.get?_push_ne _ _ _ (by rw [size_push',Heap.size_update];exact Nat.ne_of_lt (Nat.lt_succ_of_lt ha)),Heap.get?_push_ne _ _ _ (by rw [Heap.size_update];exact Nat.ne_of_lt ha)];exact ho1
 have hp6:Paired (DS (((s.heap.update a (Obj.mapSeq fun _=>#[])).push (seqObj "tuple" vs.toArray 0)).push (seqObj "list" #[] 0))) vs rows:=Paired.mapP hp fun v ns x=>x.keep fun b o hc e=>by
  have hb:b≠a:=fun z=>by
   rw [z,ho] at e
   cases e
   exact absurd (show Value.type "list"=Value.type "tuple" from hc) (by decide)
  exact Heap.get?_push_of_some _ (Heap.get?_push_of_some _ ((Heap.get?_update_other _ _ (Ne.symm hb)).trans e))
 show wpAny (model prog w) A _ P E { s with heap:=((s.heap.update a (Obj.mapSeq fun _=>#[])).push (seqObj "tuple" vs.toArray 0)).push (seqObj "list" #[] 0) };dsimp only;have hsz:vs.toArray.size=vs.length:=by simp
 by_cases h2:vs.toArray.size < 2
 ·rw [if_pos h2,if_pos h2];refine wpAny_bind (wpAny_pure ?_);rw [StateT.run_pure];refine wpAny_bind (wpAny_pure ?_);dsimp only;refine wpAny_bind (seqEpoch_at ho6 rfl ?_);refine wpAny_bind (listUpdate_at ho6 rfl ?_ (hsz2:=by rw [Array.size_map];show (pairsOf vs).size<=_;rw [pairsOf_size,sizeLine_eq];ext));simp only [bne_self_eq_false,Bool.false_eq_true,if_false]
  have hh:=h (List.range vs.length).toArray (List.Perm.refl _) (fun i j hij hj=>by
   have:i=j:=by ext
   subst this;exact KeyOrd.kle_refl _)
  rw [show (List.range vs.length).toArray.toList.map (fun i=>vs.getD i Value.none)=vs from GO vs] at hh
  have e:(arrOf (SortSt.mk' general' (vs.toArray.zip vs.toArray) #[] 7 none)).map (·.2)=vs.toArray:=by
   show (vs.toArray.zip vs.toArray).map (·.2)=vs.toArray;apply Array.ext
   ·simp
   ·intro i h1 h2;simp
  refine wpAny_pure ?_;have hh':=hh;rw [<- e] at hh';exact hh'
 ·rw [if_neg h2,if_neg h2];refine wpAny_bind (Pc hp6 fun κ hκ=>?_)
  have ac:Jf Qc (fun i=>rows.getD i []) vs.length (kas_ask prog w A κ vs) (fun s'=>s'={ s with heap:=((s.heap.update a (Obj.mapSeq fun _=>#[])).push (seqObj "tuple" vs.toArray 0)).push (seqObj "list" #[] 0) }):=by
   intro i j C s' hi hj e k;subst e;exact R9 hκ (F4 Value.none [] hp6 i hi) (F4 Value.none [] hp6 j hj) hu (k _ rfl)
  refine wpAny_bind (wpAny_mono (kat_run (ks:=vs) (vs:=vs) (Q:=fun st' s'=>∃p:Array Nat,arrOf st'=p.map (kas_item (vs.toArray.zip vs.toArray))/\failedOf st'=none/\s'={ s with heap:=((s.heap.update a (Obj.mapSeq fun _=>#[])).push (seqObj "tuple" vs.toArray 0)).push (seqObj "list" #[] 0) }/\Prm vs.length p/\Srt (O:=Qc) (fun i=>rows.getD i []) p vs.length)
   (G:=fun p s'=>s'={ s with heap:=((s.heap.update a (Obj.mapSeq fun _=>#[])).push (seqObj "tuple" vs.toArray 0)).push (seqObj "list" #[] 0) }/\Prm vs.length p/\Srt (O:=Qc) (fun i=>rows.getD i []) p vs.length)
   rfl (by ext) h64 (fun p st' s' _ a2 a3 g=>⟨p,a2,a3,g⟩) (Q1 ac (by ext) rfl fun p s' q1 q2 e=>⟨e,q1,q2⟩)) ?_ fun _ _ e=>e)
  rintro ⟨⟨⟩,st'⟩ s' ⟨p,har,hf,rfl,q1,q2⟩;dsimp only;have hout:=kat_snds rfl har;refine wpAny_bind (seqEpoch_at ho6 rfl ?_);rw [hout];refine wpAny_bind (listUpdate_at ho6 rfl ?_ (hsz2:=by rw [size_toArray,length_map,Array.length_toList,q1.size,sizeLine_eq];ext));rw [hf];simp only [bne_self_eq_false,Bool.false_eq_true,if_false];exact wpAny_pure (h p q1 q2)
end
section
variable {X:Cx}
theorem Jh:Cc X (.builtin "sorted") (fun xs H Q=>∃(a:Addr) (ns:List Int),xs=[.ref a]/\SqL X.K H a (ns.map V.int)/\ns.length < 64 /\
 ∀(l:Addr) (ms:List Int),ms.Perm ns->ms.Pairwise (·<=·)->H l=none->Q (.ref l) (upd H l (.lst (ms.map V.int)))):=by
 intro pins s σ H xs us Q I r h;obtain ⟨a,ns,rfl,hq,h64,q⟩:=h;obtain ⟨u,rfl,rx⟩:=DE r
 cases rx
 obtain ⟨its,rv,pl,hz⟩:=I.list hq;have hlen:=rv.length;rw [length_map] at hlen;refine sorted_ints pl.isList (BJ rv) (by ext) fun out ms i1 i2 i3=>?_;obtain ⟨e,he⟩:=sortedAll_at s.heap its out;have hfr:H (s.heap.objs.size+1)=none:=I.hok.fresh (Nat.le_succ _);refine ⟨.ref _,_,I.laid (t':=s.toks) (fun b o hb=>sortedAll_old hb) (Nat.le_succ _) (show Bl X.prog X.w _ _ _ (.lst (ms.map V.int)) from ⟨?_,out.toList,e,E3 i1,he⟩),rfl,q _ ms i2 i3 hfr⟩;rw [length_map,i2.length_eq,sizeLine_eq];ext
theorem Je:∀as:List Addr,AE (as.map V.ref) (as.map Value.ref)
 | []=>.nil
 | a :: as=>.cons rfl (Je as)
end
end L2
namespace L2
open PySem PySem.W PySem.Spec PyProof.Rows
def Dd (h:Heap) (d:Addr) (es:Array DictEntry) (ep:Nat):Prop:=∃o,h.get? d=some o/\o.ExactDict/\o.data=.dict es ep
theorem Dd.at {h h':Heap} {d:Addr} {es:Array DictEntry} {ep:Nat} (x:Dd h d es ep) (e:∀o,h.get? d=some o->h'.get? d=some o):Dd h' d es ep:=let ⟨o,ho,r⟩:=x;⟨o,e _ ho,r⟩
theorem Dd.lt {h:Heap} {d:Addr} {es:Array DictEntry} {ep:Nat} (x:Dd h d es ep):d < h.objs.size:=let ⟨_,ho,_⟩:=x;Heap.lt_size ho
theorem Dd.typeIs {s:Shared} {d:Addr} {es:Array DictEntry} {ep:Nat} (x:Dd s.heap d es ep):s.TypeIs (.ref d) "dict":=let ⟨o,ho,hc,_⟩:=x;⟨o,ho,hc.1⟩
section
variable {prog:Program} {w:World} {A:Around} {E:Value->Shared->Prop} {s:Shared} {d:Addr} {es:Array DictEntry} {ep:Nat}
theorem OX {Q:Value->Shared->Prop} (hd:(d == sysModules)=false) (hm:Dd s.heap d es ep)
 (hQ:Q (.ref s.heap.objs.size) { s with heap:=s.heap.push { cls:=.type "dict_keyiterator",data:=.fields #[.ref d,.int 0 0,.int es.size 0,.int ep 0] } }):wpAny (model prog w) A (pyIter (.ref d)) Q E s:=by
 have hT:=hm.typeIs;obtain ⟨o,ho,hc,hdat⟩:=id hm;refine wpAny_pyIter_slot hT F.slot_dict_iter (wpAny_call_entry F.slot_dict_iter hT F.entry_dict_iter ?_ (F.args_dict_iter_1 _));unfold Builtin.«dict.__iter__»;refine wpAny_bind ?_;unfold Builtin.Dict.dictSlotNone;refine wpAny_bind (wpAny_notOrdered_dict hT ?_);show wpAny _ _ (pure (Value.ref d)) _ _ s;refine wpAny_pure ?_;show wpAny _ _ (Builtin.Dict.showsAll d >>= _) _ _ s;unfold Builtin.Dict.showsAll;rw [if_neg (by rw [hd];exact Bool.false_ne_true)];refine wpAny_bind (wpAny_pure ?_);refine wpAny_bind (wpAny_dictEntries ho hdat ?_);refine wpAny_bind (wpAny_dictEpoch ho hdat ?_);refine wpAny_bind (wpAny_newObj_type (wpAny_pure ⟨_,rfl,"dict_keyiterator",_,⟨_,Heap.get?_push_size _ rfl,rfl⟩,F.slot_dict_keyiterator_next.lookup,?_⟩));simpa [rawInt] using hQ
theorem OZ {it:Addr} {i:Nat} {e:DictEntry} {Q:Option Value->Shared->Prop} (hit:s.heap.IsKeyIter it d i es.size ep) (hm:Dd s.heap d es ep) (hx:es[i]?=some e)
 (hQ:∀h',h'.IsKeyIter it d (i+1) es.size ep->Heap.SameBut it s.heap h'->Q (some e.key) { s with heap:=h' }):wpAny (model prog w) A (pyNext (.ref it)) Q E s:=by
 obtain ⟨o,ho,hc,hd⟩:=id hit;obtain ⟨od,hod,hcd,hdd⟩:=id hm;unfold pyNext
 refine wpAny_bind (wpAny_attempt (wpAny_callSpecial?_slot (name:=Str.ofString "__next__") hit.typeIs F.slot_dict_keyiterator_next
  (wpAny_call_entry F.slot_dict_keyiterator_next hit.typeIs F.entry_dict_keyiterator_next ?_ (F.args_dict_keyiterator_next_1 _))))
 refine wpAny_bind (wpAny_pure ?_);refine wpAny_bind ?_;refine wpAny_bind ?_
 first | refine wpAny_bind (wpAny_typeNameOfWhole_keyiter hit.typeIs (wpAny_pure ?_)) | refine wpAny_bind (wpAny_typeNameOf_keyiter hit.typeIs (wpAny_pure ?_))
 refine wpAny_bind (wpAny_fieldsOf ho hd ?_);have hown:Builtin.Dict_items.ownsTuple "dict_keyiterator"=false:=by decide
 simp only [hown,Bool.false_eq_true,if_false];show wpAny _ _ (if (Value.ref d == Value.none)=true then _ else _) _ _ s;rw [if_neg (show ¬ ((Value.ref d == Value.none)=true) from Bool.false_ne_true)];refine wpAny_bind (wpAny_pure ?_);refine wpAny_bind (wpAny_dictEntries hod hdd ?_);rw [if_neg (by simp)];refine wpAny_bind (wpAny_pure ?_);refine wpAny_bind (wpAny_dictEpoch hod hdd ?_);rw [if_neg (by simp)];refine wpAny_pure ?_;simp only [show ¬ ((i:Int) < 0) from by ext,if_false,Int.toNat_natCast,hx];refine wpAny_bind ?_
 first | refine wpAny_bind (wpAny_typeNameOfWhole_keyiter hit.typeIs (wpAny_pure ?_)) | refine wpAny_bind (wpAny_typeNameOf_keyiter hit.typeIs (wpAny_pure ?_))
 refine wpAny_bind (wpAny_isOneOf_keyiter hit.typeIs ?_);show wpAny _ _ (setField (.ref it) 1 (rawInt ((i:Int)+1)) >>= _) _ _ s;refine wpAny_bind (wpAny_setField ho hd (by simp) ?_)
 have hit':(s.heap.update it (Obj.mapFields (·.setIfInBounds 1 (rawInt ((i:Int)+1))))).IsKeyIter it d (i+1) es.size ep :=
  ⟨_,Heap.get?_update_self _ ho (Obj.isFreed_of_fields (Obj.data_mapFields hd _)),(Obj.cls_mapFields ..).trans hc,by rw [Obj.data_mapFields hd];simp [rawInt]⟩
 refine wpAny_bind (wpAny_holding ?_);refine wpAny_bind (wpAny_isOneOf_keyiter (s:={ s with heap:=s.heap.update it (Obj.mapFields (·.setIfInBounds 1 (rawInt ((i:Int)+1)))) }) hit'.typeIs ?_);show wpAny _ _ (pure e.key) _ _ _;exact wpAny_pure (wpAny_pure ⟨_,rfl,wpAny_pure (hQ _ hit' (Heap.SameBut.update ..))⟩)
theorem Qw {it:Addr} {i:Nat} {Q:Option Value->Shared->Prop} (hh:A.handled=none) (hit:s.heap.IsKeyIter it d i es.size ep) (hm:Dd s.heap d es ep) (hx:es.size<=i)
 (hQ:∀h',Heap.ExtBut it s.heap h'->Q none { s with heap:=h' }):wpAny (model prog w) A (pyNext (.ref it)) Q E s:=by
 obtain ⟨o,ho,hc,hd⟩:=id hit;obtain ⟨od,hod,hcd,hdd⟩:=id hm;unfold pyNext
 refine wpAny_bind (wpAny_attempt (wpAny_callSpecial?_slot (name:=Str.ofString "__next__") hit.typeIs F.slot_dict_keyiterator_next
  (wpAny_call_entry F.slot_dict_keyiterator_next hit.typeIs F.entry_dict_keyiterator_next ?_ (F.args_dict_keyiterator_next_1 _))))
 refine wpAny_bind (wpAny_pure ?_);refine wpAny_bind ?_;refine wpAny_bind ?_
 first | refine wpAny_bind (wpAny_typeNameOfWhole_keyiter hit.typeIs (wpAny_pure ?_)) | refine wpAny_bind (wpAny_typeNameOf_keyiter hit.typeIs (wpAny_pure ?_))
 refine wpAny_bind (wpAny_fieldsOf ho hd ?_);have hown:Builtin.Dict_items.ownsTuple "dict_keyiterator"=false:=by decide
 simp only [hown,Bool.false_eq_true,if_false];show wpAny _ _ (if (Value.ref d == Value.none)=true then _ else _) _ _ s;rw [if_neg (show ¬ ((Value.ref d == Value.none)=true) from Bool.false_ne_true)];refine wpAny_bind (wpAny_pure ?_);refine wpAny_bind (wpAny_dictEntries hod hdd ?_);rw [if_neg (by simp)];refine wpAny_bind (wpAny_pure ?_);refine wpAny_bind (wpAny_dictEpoch hod hdd ?_);rw [if_neg (by simp)];refine wpAny_pure ?_;simp only [show ¬ ((i:Int) < 0) from by ext,if_false,Int.toNat_natCast,Array.getElem?_eq_none hx];refine wpAny_bind ?_
 first | refine wpAny_bind (wpAny_typeNameOfWhole_keyiter hit.typeIs (wpAny_pure ?_)) | refine wpAny_bind (wpAny_typeNameOf_keyiter hit.typeIs (wpAny_pure ?_))
 show wpAny _ _ (setField (.ref it) 0 .none >>= _) _ _ s;refine wpAny_bind (wpAny_setField ho hd (by simp) ?_);show wpAny _ _ (newExc (.type "StopIteration") [] >>= _) _ _ _;refine wpAny_bind ?_;simp only [newExc,newTuple];refine wpAny_bind (wpAny_newObj_type ?_ (by size_fits));refine wpAny_bind (m:=firstArgMember _ _) (wpAny_of_eq (a:=Value.none) (by first | rfl | (simp only [firstArgMember];rfl)) ?_);refine wpAny_newObj_type ?_ (by size_fits);simp only [raiseNew];refine wpAny_bind (wpAny_handled ?_);rw [show A.in1.handled=none from hh];refine wpAny_bind (wpAny_pure (wpAny_throw ?_));refine wpAny_bind (wpAny_isInstance (T:="StopIteration") (b:=true) ⟨_,Heap.get?_push_size _ rfl,rfl⟩ isSubtype_stop ?_);exact wpAny_pure (hQ _ (((Heap.SameBut.update ..).extBut.push _).push _))
theorem NG (hh:A.handled=none) (I:Addr) (hne:d≠I):Walks prog w A I [I,d] [I] es.size (fun i v=>∃e,es[i]?=some e/\v=e.key) (fun i h=>h.IsKeyIter I d i es.size ep/\Dd h d es ep) where
 sub:=fun b hb=>by simp at hb;simp [hb]
 frame:=fun _ _ _ st hk=>⟨st.1.at fun o e=>hk I (by simp) o e,st.2.at fun o e=>hk d (by simp) o e⟩
 item:=fun i s Q E hi st hQ=>by
  obtain ⟨e,hx⟩:∃e,es[i]?=some e:=⟨es[i],by simp [hi]⟩;refine OZ st.1 st.2 hx fun h' hit' hs'=>?_;exact hQ e.key h' s.toks ⟨e,hx,rfl⟩ ⟨hit',st.2.at fun o q=>hs'.extBut d o hne q⟩ fun b o hb q=>hs'.extBut b o (fun h=>hb (by simp [h])) q
 done:=fun s Q E st hQ=>Qw hh st.1 st.2 (Nat.le_refl _) fun h' he'=>hQ h' s.toks fun b o hb q=>he' b o (fun h=>hb (by simp [h])) q
 self:=fun _ _ _ _ st hQ=>wpAny_pyIter_keyiter st.1 hQ
theorem Qx (lo:(d == sysModules)=false):KdlSrc prog w "dict" d d es.size (fun i v=>∃e,es[i]?=some e/\v=e.key) (fun h=>Dd h d es ep) where
 type:=fun _ hm=>hm.typeIs
 there:=fun _ hm=>⟨hm.lt,hm.lt⟩
 keep:=fun _ _ hm hk=>hm.at fun o e=>hk d (.inl rfl) o e
 notList:=by decide
 notTuple:=by decide
 hint:=fun _ _ _ _ hm hq=>kdl_hint_dict hm.typeIs hq
 iter:=fun _ s hh hm=>⟨_,_,(fun _ _ hq=>OX lo hm hq),NG hh _ (Nat.ne_of_lt hm.lt),⟨⟨_,Heap.get?_push_size _ rfl,rfl,rfl⟩,hm.at fun o e=>Heap.get?_push_of_some _ e⟩⟩
theorem OY {acc:Array Value} (h:ItemsOf (fun i v=>∃e,es[i]?=some e/\v=e.key) acc es.size):acc=es.map (·.key):=by
 obtain ⟨h1,h2⟩:=h;apply Array.ext
 ·simpa using h1
 ·intro i hi hj;obtain ⟨e,he,hk⟩:=h2 i acc[i] (by simp [hi]);have hi':i < es.size:=by ext
  rw [Array.getElem?_eq_getElem hi'] at he;rw [hk,Array.getElem_map,Option.some.inj he]
theorem KF {R:List Value->Shared->Prop} (lo:(d == sysModules)=false) (hm:Dd s.heap d es ep) (hh:A.handled=none) (hn:es.size<=sizeLine)
 (h:∀(h':Heap) (tk:Nat),(∀b o,s.heap.get? b=some o->h'.get? b=some o)->s.heap.objs.size < h'.objs.size->R (es.toList.map (·.key)) { s with heap:=h',toks:=tk }) :
 wpAny (model prog w) A (collect (.ref d)) R E s:=by
 have hlt:=hm.lt;unfold collect;refine wpAny_bind (wpAny_runValue (codeAny_builtin entry_proto_collect' ?_));rw [Around.under_plainId PySem.F.plain_proto_collect _];show wpAny _ A.in1 (newList [] >>= fun l=>again (.builtin "list.__iadd__" ⟨[l,.ref d],[]⟩)) _ _ s;refine wpAny_bind (wpAny_newObj_type ?_);refine wpAny_pure ⟨plainId_quiet PySem.F.plain_list_iadd _,codeAny_builtin entry_list_iadd' ?_⟩;rw [Around.under_plainId PySem.F.plain_list_iadd _];have hS₁:(s.heap.push { cls:=.type "list",data:=.seq ([]:List Value).toArray }).get? s.heap.objs.size=some { cls:=.type "list",data:=.seq #[] }:=Heap.get?_push_size _ rfl;show wpAny _ A.in1 (Builtin.List.listExtendWith (.ref s.heap.objs.size) (.ref d) (.ref s.heap.objs.size)) _ _ _
 have key:=kdl_extend (A:=A) (s:={ s with heap:=s.heap.push { cls:=.type "list",data:=.seq ([]:List Value).toArray } })
  (R:=fun (q:Result) (s':Shared)=>∃(h':Heap) (tk c':Nat),q=.ok (.ret (.ref s.heap.objs.size))/\s'={ s with heap:=h',toks:=tk } /\
   (∀b o,s.heap.get? b=some o->h'.get? b=some o)/\h'.get? s.heap.objs.size=some { cls:=.type "list",dict:=none,data:=.seq (es.map (·.key)) c',slots:=#[] })
  (Qx (prog:=prog) (w:=w) (es:=es) (ep:=ep) lo) hh (hm.at fun o e=>Heap.get?_push_of_some _ e) s.heap.objs.size (Nat.ne_of_gt hlt) (Nat.ne_of_gt hlt) (.ref s.heap.objs.size) 0 hS₁
  (fun h' tk acc' c' hk hS' hacc=>⟨h',tk,c',rfl,rfl,fun b o e=>hk b o (Nat.ne_of_lt (Heap.lt_size e)) (Heap.get?_push_of_some _ e),by rw [<- OY hacc];exact hS'⟩) hn
 refine wpAny_mono key (fun fin s' x=>?_) fun e s' x=>?_
 ·cases fin with
  | done f =>
    obtain ⟨h',tk,c',e,rfl,hk,hS'⟩:=x
    cases e
    show wpAny _ A (load s.heap.objs.size >>= _) _ _ _;refine wpAny_bind (wpAny_load hS' ?_);have:=h h' tk hk (Heap.lt_size hS');rw [<- Array.toList_map] at this;exact wpAny_pure this
  | again c₁ =>
    refine ⟨x.1,codeAny_mono x.2 fun q s₂ y=>?_⟩;obtain ⟨h',tk,c',rfl,rfl,hk,hS'⟩:=y;show wpAny _ A (load s.heap.objs.size >>= _) _ _ _;refine wpAny_bind (wpAny_load hS' ?_);have:=h h' tk hk (Heap.lt_size hS');rw [<- Array.toList_map] at this;exact wpAny_pure this
 ·obtain ⟨_,_,_,e',_⟩:=x
  cases e'
theorem Lb {vs:List Value} (lo:(d == sysModules)=false) (hm:Dd s.heap d es ep) (hz:es.size<=1000) (hh:A.handled=none) (hv:es.toList.map (·.key)=vs) {R:Value->Shared->Prop}
 (h:∀(h':Heap) (tk:Nat) (a:Addr),(∀b o,s.heap.get? b=some o->h'.get? b=some o/\b≠a)->s.heap.objs.size<=a->h'.get? a=some (seqObj "list" vs.toArray 0) ->
  wpAny (model prog w) A.in1.in1 (Builtin.«list.sort» ⟨[.ref a],[]⟩) (fun fin s'=>∃v,fin=.done (.ret v)/\R (.ref a) s') E { s with heap:=h',toks:=tk }) :
 wpAny (model prog w) A (call (.builtin "sorted") [.ref d]) R E s:=by
 refine Calls.call_function_entry kind_sorted plain_sorted entry_sorted (args_sorted1 _) ?_;unfold Builtin.«sorted»;refine wpAny_bind (m:=checkCount "sorted" 1 1 _) (wpAny_pure ?_);refine wpAny_bind (KF (A:=A.in1) lo hm hh (by rw [sizeLine_eq];ext) fun h' tk hk ge=>?_);rw [hv];have hl:vs.length<=1000:=by rw [<- hv,length_map,Array.length_toList];exact hz
 refine wpAny_bind (wpAny_newList ?_ (by rw [sizeLine_eq];ext));have ho:(h'.push (seqObj "list" vs.toArray 0)).get? h'.objs.size=some (seqObj "list" vs.toArray 0):=Heap.get?_push_size _ rfl;refine wpAny_bind (wpAny_holding (wpAny_call_entry slot_list_sort ⟨_,ho,rfl⟩ entry_list_sort ?_ (args_list_sort _)));refine wpAny_mono (h _ tk h'.objs.size (fun b o e=>⟨Heap.get?_push_of_some _ (hk b o e),Nat.ne_of_lt (Heap.lt_size (hk b o e))⟩) (Nat.le_of_lt ge) ho) (fun fin s' x=>?_) fun _ _ x=>x;obtain ⟨v,rfl,q⟩:=x;exact ⟨_,rfl,wpAny_pure ⟨_,rfl,q⟩⟩
end
section
variable {X:Cx}
theorem PX {H:Hp}:∀{kvs:List (List Key × V)} {xs:List (List Key × Addr × Value)} {ks:List (List Int)},KT H kvs xs->kvs.map (·.1)=ks.map (List.map Sum.inl) ->
 ∃qs:List (Addr × List Int),xs.map (fun x=>Value.ref x.2.1)=(qs.map (·.1)).map Value.ref/\qs.map (·.2)=ks/\∀q∈qs,H q.1=some (.tup (q.2.map V.int)):=by
 intro kvs xs ks r
 induction r generalizing ks with
 | nil =>
   intro e
   cases ks with
   | nil=>exact ⟨[],rfl,rfl,fun _ m=>nomatch m⟩
   | cons _ _=>cases e
 | @cons p q ps qr hq t ih =>
   intro e
   cases ks with
   | nil=>cases e
   | cons k ks =>
     injection e with e1 e2
     obtain ⟨qs,a1,a2,a3⟩:=ih e2;refine ⟨(q.2.1,k) :: qs,?_,?_,fun x m=>?_⟩
     ·rw [map_cons,a1];rfl
     ·rw [map_cons,a2]
     ·rcases mem_cons.mp m with m | m
      ·subst m;have h:=hq.2.1;have e1':p.1=k.map Sum.inl:=e1;rw [e1',map_map] at h;exact h
      ·exact a3 x m
theorem HI (hc:X.calm=true) (hu:X.A.units+64 < cLine):Cc X (.builtin "sorted") (fun xs H Q=>∃(d:Addr) (kvs:List (List Key × V)) (ks:List (List Int)),xs=[.ref d]/\Rd H d (.dT kvs)/\kvs.map (·.1)=ks.map (List.map Sum.inl)/\ks.length < 64 /\
 ∀(l:Addr) (rs:List (Addr × List Int)),(∀q∈rs,H q.1=some (.tup (q.2.map V.int)))->(rs.map (·.2)).Perm ks->rs.Pairwise (fun x y=>HT.lexLt y.2 x.2=false)->H l=none->Q (.ref l) (upd H l (.lst (rs.map fun q=>V.ref q.1)))):=by
 intro pins s σ H xs us Q I r h;obtain ⟨d,kvs,ks,rfl,hd,hks,h64,q⟩:=h;obtain ⟨u,rfl,rx⟩:=DE r
 cases rx
 obtain ⟨_,lo,xs,kt,o,es,ep,h1,h2,h3,h4,_,_⟩:=Ii I.hok hd;obtain ⟨qs,b1,b2,b3⟩:=PX kt hks
 have hv:es.toList.map (·.key)=(qs.map (·.1)).map Value.ref:=by
  rw [h4,map_map,<- b1];rfl
 have hql:qs.length=ks.length:=by rw [<- b2,length_map]
 have hes:es.size=qs.length:=by
  have:=congrArg List.length hv;simpa using this
 have hp:Paired (DS s.heap) ((qs.map (·.1)).map Value.ref) (qs.map (·.2)):=by
  clear hv hql hes b1 b2
  induction qs with
  | nil=>exact .nil
  | cons q0 qr ih =>
    refine .cons ?_ (ih fun q m=>b3 q (mem_cons_of_mem _ m));obtain ⟨jts,rj,tj,_⟩:=I.tuple (SqT.of (b3 q0 (mem_cons_self ..)));exact ⟨q0.1,jts.toArray,rfl,tj,by simpa using BJ rj⟩
 refine Lb lo ⟨o,h1,h2,h3⟩ (by ext) (I.ok.hd hc) hv fun h' tk a kp ge ho=>?_;have hp':Paired (DS h') ((qs.map (·.1)).map Value.ref) (qs.map (·.2)):=Paired.mapP hp fun v ns x=>x.keep fun b o _ e=>(kp b o e).1;have ll:((qs.map (·.1)).map Value.ref).length=qs.length:=by rw [length_map,length_map]
 refine Pd (s:={ s with heap:=h',toks:=tk }) ho hp' (by ext) (by show X.A.units+1+1 < cLine;ext) fun p a1 a2=>⟨_,rfl,?_⟩;obtain ⟨e,he⟩:=sortedHeap_at (out:=List.toArray (p.toList.map fun i=>((qs.map (·.1)).map Value.ref).getD i Value.none)) ho;have hfr:H a=none:=I.hok.fresh ge;have hps:=a1.size
 have lt:∀i∈p.toList,i < qs.length:=fun i m=>by
  have:=mem_range.mp (a1.mem_iff.mp m);ext
 let rs:=p.toList.map fun i=>qs.getD i (0,[])
 have eo:(p.toList.map fun i=>((qs.map (·.1)).map Value.ref).getD i Value.none)=(rs.map (·.1)).map Value.ref:=by
  show _=((p.toList.map fun i=>qs.getD i (0,[])).map (·.1)).map Value.ref;simp only [map_map];refine map_congr_left fun i m=>?_;have hi:=lt i m;simp [hi]
 rw [eo] at he ⊢
 have pm:rs.Perm qs:=by
  have e1:(List.range ((qs.map (·.1)).map Value.ref).length).map (fun i=>qs.getD i ((0:Addr),([]:List Int)))=qs:=by
   rw [ll];apply ext_getElem
   ·simp
   ·intro i h1 h2;simp [h2]
  have:=List.Perm.map (fun i=>qs.getD i ((0:Addr),([]:List Int))) a1;rw [e1] at this;exact this
 refine ⟨.ref _,_,I.laid (t':=tk) (fun b o hb=>?_) ge (show Bl X.prog X.w _ _ _ (.lst (rs.map fun q=>V.ref q.1)) from ⟨?_,(rs.map (·.1)).map Value.ref,e,?_,he⟩),rfl,q _ rs (fun q m=>b3 q (pm.mem_iff.mp m)) (by rw [<- b2];exact pm.map _) ?_ hfr⟩
 ·obtain ⟨k1,k2⟩:=kp b o hb;rw [sortedHeap_old k2 (Heap.lt_size k1)];exact k1
 ·rw [length_map,pm.length_eq,sizeLine_eq];ext
 ·have:=Je (rs.map (·.1));rw [map_map] at this;exact this
 ·rw [pairwise_iff_getElem];intro i j hi hj hij;have hi':i < p.size:=by simpa [rs] using hi
  have hj':j < p.size:=by simpa [rs] using hj
  have g:=a2 i j (by ext) (by ext)
  have gi:(qs.map (·.2)).getD (p.getD i 0) []=(rs[i]).2:=by
   have l1:=lt p[i] (by simp);simp [rs,Array.getD,hi',l1]
  have gj:(qs.map (·.2)).getD (p.getD j 0) []=(rs[j]).2:=by
   have l1:=lt p[j] (by simp);simp [rs,Array.getD,hj',l1]
  have g2:HT.lexLt ((qs.map (·.2)).getD (p.getD j 0) []) ((qs.map (·.2)).getD (p.getD i 0) [])=false:=g;rw [gi,gj] at g2;exact g2
theorem Fq (hc:X.calm=true):Cc X (.builtin "max") (fun xs H Q=>∃(a:Addr) (ns:List Int),xs=[.ref a]/\SqL X.K H a (ns.map V.int)/\0 < ns.length/\∀M,M∈ns->(∀z∈ns,z<=M)->Q (.int M) H):=by
 intro pins s σ H xs us Q I r h;obtain ⟨a,ns,rfl,hq,hne,q⟩:=h;obtain ⟨u,rfl,rx⟩:=DE r
 cases rx
 obtain ⟨its,rv,pl,hz⟩:=I.list hq;have hi:=BJ rv;obtain ⟨xs,e⟩:=hi.allInts.items
 have hns:ns=xs.toList.map (·.1):=by
  rw [<- hi.numsOf,<- nums_intItems,<- e]
 have hsz:0 < xs.size:=by
  have h3:=hne;rw [hns,length_map,Array.length_toList] at h3;exact h3
 have hl:=pl.isList;rw [e] at hl;refine max_intList (I.ok.hd hc) hl hsz fun v h' tk hv hk=>?_;obtain ⟨t,rfl⟩:=intItems_at hv;obtain ⟨_,h2⟩:=argBest_gt (numAt xs) (xs.size - 1);refine ⟨.int _,H,I.kept hk,⟨t,rfl⟩,q _ ?_ fun z m=>?_⟩
 ·rw [hns,numAt_eq];exact getD_mem (by rw [length_map,Array.length_toList];ext)
 ·rw [hns] at m;obtain ⟨j,hj,rfl⟩:=mem_getD m;rw [length_map,Array.length_toList] at hj;rw [<- numAt_eq];exact h2 j (by ext)
theorem Nb (hc:X.calm=true):Cc X (.builtin "min") (fun xs H Q=>∃(a:Addr) (ns:List Int),xs=[.ref a]/\SqL X.K H a (ns.map V.int)/\0 < ns.length/\∀M,M∈ns->(∀z∈ns,M<=z)->Q (.int M) H):=by
 intro pins s σ H xs us Q I r h;obtain ⟨a,ns,rfl,hq,hne,q⟩:=h;obtain ⟨u,rfl,rx⟩:=DE r
 cases rx
 obtain ⟨its,rv,pl,hz⟩:=I.list hq;have hi:=BJ rv;obtain ⟨xs,e⟩:=hi.allInts.items
 have hns:ns=xs.toList.map (·.1):=by
  rw [<- hi.numsOf,<- nums_intItems,<- e]
 have hsz:0 < xs.size:=by
  have h3:=hne;rw [hns,length_map,Array.length_toList] at h3;exact h3
 have hl:=pl.isList;rw [e] at hl;refine min_intList (I.ok.hd hc) hl hsz fun v h' tk hv hk=>?_;obtain ⟨t,rfl⟩:=intItems_at hv;obtain ⟨_,h2⟩:=argBest_lt (numAt xs) (xs.size - 1);refine ⟨.int _,H,I.kept hk,⟨t,rfl⟩,q _ ?_ fun z m=>?_⟩
 ·rw [hns,numAt_eq];exact getD_mem (by rw [length_map,Array.length_toList];ext)
 ·rw [hns] at m;obtain ⟨j,hj,rfl⟩:=mem_getD m;rw [length_map,Array.length_toList] at hj;rw [<- numAt_eq];exact h2 j (by ext)
end
end L2
namespace L2
open PySem
def Ris (xs:Array Nat):Prop:=∀i j,i < j->j < xs.size->xs.getD i 0 < xs.getD j 0
theorem Kl {xs:Array Nat} {i:Nat} (h:i < xs.size) (a b:Nat):xs.getD i a=xs.getD i b:=by
 simp [Array.getD,h]
theorem G7 {xs:Array Nat} (hr:Ris xs) (j:Nat):∀(f lo hi:Nat),lo<=hi->hi<=xs.size->hi - lo<=f->(∀i,i < lo->xs.getD i 0 < j)->(∀i,hi<=i->i < xs.size->j<=xs.getD i 0) ->
 SetTable.below.go xs j f lo hi<=xs.size/\(∀i,i < SetTable.below.go xs j f lo hi->xs.getD i 0 < j)/\∀i,SetTable.below.go xs j f lo hi<=i->i < xs.size->j<=xs.getD i 0
 | 0,lo,hi,h1,h2,h3,h4,h5=>by
   have:lo=hi:=by ext
   subst this;exact ⟨h2,h4,h5⟩
 | f+1,lo,hi,h1,h2,h3,h4,h5=>by
   unfold SetTable.below.go;by_cases c:lo < hi
   ·rw [if_pos c];dsimp only;have hm:(lo+hi) / 2 < xs.size:=by ext
    by_cases c2:xs.getD ((lo+hi) / 2) j < j
    ·rw [if_pos c2];refine G7 hr j f _ hi (by ext) h2 (by ext) (fun i hi'=>?_) h5;rw [Kl hm j 0] at c2;by_cases e:i=(lo+hi) / 2
     ·rw [e];exact c2
     ·exact Nat.lt_trans (hr i ((lo+hi) / 2) (by ext) hm) c2
    ·rw [if_neg c2];refine G7 hr j f lo _ (by ext) (by ext) (by ext) h4 (fun i a b=>?_);rw [Kl hm j 0] at c2;by_cases e:i=(lo+hi) / 2
     ·rw [e];ext
     ·have:=hr ((lo+hi) / 2) i (by ext) b;ext
   ·rw [if_neg c];have:lo=hi:=by ext
    subst this;exact ⟨h2,h4,h5⟩
theorem G9 {xs:Array Nat} (hr:Ris xs) (j:Nat):SetTable.below xs j<=xs.size/\(∀i,i < SetTable.below xs j->xs.getD i 0 < j)/\∀i,SetTable.below xs j<=i->i < xs.size->j<=xs.getD i 0 :=
 G7 hr j xs.size 0 xs.size (Nat.zero_le _) (Nat.le_refl _) (by ext) (fun i h=>absurd h (Nat.not_lt_zero _)) (fun i a b=>absurd a (by ext))
theorem GA {xs:Array Nat} (hr:Ris xs):SetTable.below xs 0=0:=by
 obtain ⟨_,h,_⟩:=G9 hr 0
 cases e:SetTable.below xs 0 with
 | zero=>rfl
 | succ n=>exact absurd (h n (by ext)) (Nat.not_lt_zero _)
theorem G8 {xs:Array Nat} (hr:Ris xs) {i:Nat} (hi:i < xs.size):SetTable.below xs (xs.getD i 0+1)=i+1:=by
 obtain ⟨h0,h1,h2⟩:=G9 hr (xs.getD i 0+1)
 have a:¬ SetTable.below xs (xs.getD i 0+1)<=i:=fun c=>by
  have:=h2 i c hi;ext
 have b:¬ i+1 < SetTable.below xs (xs.getD i 0+1):=fun c=>by
  have p:=h1 (i+1) c;have q:=hr i (i+1) (by ext) (by ext);ext
 ext
theorem Ko {α:Type} {xs:Array α} {p:Nat} (hp:p<=xs.size) (x:α):(SetTable.insertAt xs p x).size=xs.size+1:=by
 unfold SetTable.insertAt;simp;ext
theorem FF {xs:Array Nat} {p:Nat} (hp:p<=xs.size) (x i:Nat):(SetTable.insertAt xs p x).getD i 0=if i < p then xs.getD i 0 else if i=p then x else xs.getD (i - 1) 0:=by
 unfold SetTable.insertAt;rw [Array.getD_eq_getD_getElem?,Array.getElem?_append];by_cases c:i < p
 ·rw [if_pos c,if_pos (by simp;ext),Array.getElem?_push];rw [if_neg (by simp;ext),Array.getElem?_extract];rw [if_pos (by ext),Array.getD_eq_getD_getElem?];simp
 ·rw [if_neg c];by_cases c2:i=p
  ·subst c2;rw [if_pos rfl,if_pos (by simp;ext),Array.getElem?_push,if_pos (by simp;ext)];rfl
  ·rw [if_neg c2,if_neg (by simp;ext),Array.getElem?_extract,Array.getD_eq_getD_getElem?];have e:((xs.extract 0 p).push x).size=p+1:=by simp;ext
   rw [e];by_cases c3:i - (p+1) < min xs.size xs.size - p
   ·rw [if_pos c3]
    congr 2
    ext
   ·rw [if_neg c3,Array.getElem?_eq_none (by ext)]
theorem Ris.put {xs:Array Nat} (hr:Ris xs) {j:Nat} (hj:xs[SetTable.below xs j]?≠some j):Ris (SetTable.insertAt xs (SetTable.below xs j) j):=by
 obtain ⟨h0,h1,h2⟩:=G9 hr j;intro a b hab hb;rw [Ko h0] at hb;rw [FF h0,FF h0];generalize hp:SetTable.below xs j=p at *
 have gt:∀i,p<=i->i < xs.size->j < xs.getD i 0:=fun i a b=>by
  have l:=h2 i a b;by_cases e:i=p
  ·subst e;have:xs.getD i 0≠j:=fun z=>hj (by simp [Array.getD,b] at z;simp [b,z]);ext
  ·have:=h2 p (Nat.le_refl _) (by ext);have:=hr p i (by ext) b;ext
 by_cases ca:a < p
 ·rw [if_pos ca];by_cases cb:b < p
  ·rw [if_pos cb];exact hr a b hab (by ext)
  ·rw [if_neg cb];by_cases cb2:b=p
   ·rw [if_pos cb2];exact h1 a ca
   ·rw [if_neg cb2];exact hr a (b - 1) (by ext) (by ext)
 ·rw [if_neg ca];by_cases ca2:a=p
  ·rw [if_pos ca2,if_neg (show ¬ b < p by ext),if_neg (show ¬ b=p by ext)];exact gt (b - 1) (by ext) (by ext)
  ·rw [if_neg ca2,if_neg (show ¬ b < p by ext),if_neg (show ¬ b=p by ext)];exact hr (a - 1) (b - 1) (by ext) (by ext)
theorem NI (n:Nat):Ris (Array.range n):=fun i j hij hj=>by
 have hj':j < n:=by simpa using hj
 have hi':i < n:=by ext
 simp [Array.getD,hj',hi'];exact hij
theorem Gm {l:List Nat} (h:l.Pairwise (· < ·)):Ris l.toArray:=fun i j hij hj=>by
 have hj':j < l.length:=by simpa using hj
 have hi':i < l.length:=by ext
 have:=pairwise_iff_getElem.mp h i j hi' hj' hij;simpa [Array.getD,hj',hi'] using this
theorem Kr {owner:Array (Option Nat)} (n:Nat):(((List.range n).filterMap fun j=>(owner.getD j none).map (j,·)).map (·.1)).Pairwise (· < ·):=by
 rw [pairwise_map,pairwise_filterMap];refine List.Pairwise.imp ?_ pairwise_lt_range;intro a b hab x hx y hy
 cases e1:owner.getD a none with
 | none=>rw [e1] at hx;cases hx
 | some u =>
   cases e2:owner.getD b none with
   | none=>rw [e2] at hy;cases hy
   | some v =>
     rw [e1] at hx;rw [e2] at hy
     cases hx
     cases hy
     exact hab
theorem PY {mask finger moves:Nat} {led plain:Bool} {hashes:Array Int} {t:SetTable} {order:Array Nat} (h:SetTable.laid mask finger moves led plain hashes=some (t,order)):Ris t.place/\t.led=led:=by
 unfold SetTable.laid at h
 cases e:SetTable.layClean mask hashes with
 | none=>rw [e] at h;cases h
 | some owner =>
   rw [e] at h
   cases h
   exact ⟨Gm (Kr _),rfl⟩
theorem EH {t:SetTable} {f:Nat->Int} {hv:Int}:∀(n:Nat) (p:SetTable.Probe) {j:Nat} {du:Option Nat},(∀d,p.dummy=some d->t.place[SetTable.below t.place d]?≠some d) ->
 SetTable.probe.go t f hv n p=some (.empty j du)->(∀d,du=some d->t.place[SetTable.below t.place d]?≠some d)/\t.place[SetTable.below t.place j]?≠some j
 | 0,p,j,du,hd,e=>by cases e
 | n+1,p,j,du,hd,e=>by
   unfold SetTable.probe.go at e;by_cases c:t.place[SetTable.below t.place p.j]?=some p.j
   ·have es:t.slot p.j=.live (SetTable.below t.place p.j):=by
     unfold SetTable.slot;simp [c]
    rw [es] at e;dsimp only at e;by_cases c2:(f (SetTable.below t.place p.j) == hv)=true
    ·rw [if_pos c2] at e;cases e
    ·rw [if_neg c2] at e;refine EH n _ ?_ e;unfold SetTable.advance;by_cases c3:p.more > 0
     ·rw [if_pos c3];exact hd
     ·rw [if_neg c3];exact hd
   ·by_cases c4:SetTable.has t.dummies p.j=true
    ·have es:t.slot p.j=.dummy:=by
      unfold SetTable.slot;simp [c,c4]
     rw [es] at e;dsimp only at e;refine EH n _ ?_ e
     have k:∀d,some p.j=some d->t.place[SetTable.below t.place d]?≠some d:=fun d z=>by
      cases z
      exact c
     unfold SetTable.advance;by_cases c3:p.more > 0
     ·rw [if_pos c3];exact k
     ·rw [if_neg c3];exact k
    ·have es:t.slot p.j=.empty:=by
      unfold SetTable.slot;simp [c,c4]
     rw [es] at e
     cases e
     exact ⟨hd,c⟩
theorem PQ {t:SetTable} {hv:Int} {slot:Nat} {b:Bool} (h:t.freeSlot hv=some (slot,b)):t.place[SetTable.below t.place slot]?≠some slot:=by
 unfold SetTable.freeSlot SetTable.probe at h
 cases e:SetTable.probe.go t (fun _=>hv+1) hv (10*SetTable.turns t.mask) (t.probeStart hv) with
 | none=>rw [e] at h;cases h
 | some m =>
   rw [e] at h
   cases m with
   | candidate j i nx=>cases h
   | empty j du =>
     obtain ⟨a,b'⟩:=EH _ _ (fun d z=>by cases z) e
     cases du with
     | none =>
       cases h
       exact b'
     | some d =>
       cases h
       exact a d rfl
def Dq (t:SetTable):Prop:=Ris t.place/\t.led=true
theorem Dq.standIn {t:SetTable} (h:Dq t) (n:Nat):Dq (t.standIn n):=⟨NI n,h.2⟩
theorem Dq.orStandIn {t:SetTable} (h:Dq t) (n:Nat):Dq (t.orStandIn n):=by
 unfold SetTable.orStandIn
 split
 ·exact h
 ·exact h.standIn n
theorem Dq.lay {t:SetTable} (h:Dq t) (es:Array (Int × Value)) (hv:Int) (x:Value):Dq (layNew t es hv x).2.1:=by
 unfold layNew
 cases e:t.freeSlot hv with
 | none=>exact h.standIn _
 | some q =>
   obtain ⟨slot,b⟩:=q;have w:Dq (t.put slot).1:=⟨h.1.put (PQ e),h.2⟩;exact w.orStandIn _
theorem Dq.relay {t:SetTable} (h:Dq t) (es:Array (Int × Value)) (n:Nat):Dq (relayAll t es n).2.1:=by
 unfold relayAll SetTable.relaid
 cases e:SetTable.laid (SetTable.sizeAbove n - 1) t.finger (t.movedTo (SetTable.sizeAbove n - 1)) t.led t.plain (es.map (·.1)) with
 | none=>exact h.standIn _
 | some q =>
   obtain ⟨t',order⟩:=q;obtain ⟨a,b⟩:=PY e;dsimp only
   split
   ·exact ⟨a,b.trans h.2⟩
   ·exact h.standIn _
end L2
namespace L2
open PySem PySem.W PySem.Spec PyProof.Rows
def Cb (w:World):Bool:=w.params.followText "set-order"
def ER (prog:Program) (w:World) (h:Heap) (a:Addr) (l:List Int):Prop :=
 ∃o es ep t ms,h.get? a=some o/\o.ExactSet/\o.data=.set es ep t/\ElemsOf (intKind prog w) es.toList/\IntsAre (es.toList.map (·.2)) ms/\ms.Perm l/\es.size < scanBound/\t.fits es.size=true/\(Cb w=true\/Dq t)
theorem Fu {vs vs':List Value} (p:vs'.Perm vs):∀{ns:List Int},IntsAre vs ns->∃ns',IntsAre vs' ns'/\ns'.Perm ns:=by
 induction p with
 | nil=>intro ns h;cases h;exact ⟨[],.nil,.refl _⟩
 | cons x _ ih =>
   intro ns h
   cases h with
   | cons n t h =>
     obtain ⟨ns',a,b⟩:=ih h;exact ⟨n :: ns',.cons n t a,b.cons n⟩
 | swap x y l =>
   intro ns h
   cases h with
   | cons n t h =>
     cases h with
     | cons m u h=>exact ⟨m :: n :: _,.cons m u (.cons n t h),.swap _ _ _⟩
 | trans _ _ ih1 ih2 =>
   intro ns h;obtain ⟨n1,a1,b1⟩:=ih2 h;obtain ⟨n2,a2,b2⟩:=ih1 a1;exact ⟨n2,a2,b2.trans b1⟩
theorem FG:∀{vs us:List Value} {ns ms:List Int},IntsAre vs ns->IntsAre us ms->IntsAre (vs++us) (ns++ms)
 | _,_,_,_,.nil,h=>h
 | _,_,_,_,.cons n t a,h=>.cons n t (FG a h)
theorem Fa:∀{vs:List Value} {ns:List Int},IntsAre vs ns->∀{n:Int},n∈ns↔∃t,Value.int n t∈vs
 | _,_,.nil,n=>⟨(fun h=>by cases h),(fun ⟨_,h⟩=>by cases h)⟩
 | _,_,.cons m u a,n=>by
   constructor
   ·intro h;rcases mem_cons.mp h with e | h
    ·subst e;exact ⟨u,mem_cons_self ..⟩
    ·obtain ⟨t,ht⟩:=(Fa a).mp h;exact ⟨t,mem_cons_of_mem _ ht⟩
   ·rintro ⟨t,h⟩;rcases mem_cons.mp h with e | h
    ·cases e
     exact mem_cons_self ..
    ·exact mem_cons_of_mem _ ((Fa a).mpr ⟨t,h⟩)
section
variable {prog:Program} {w:World} {A:Around} {E:Value->Shared->Prop} {s:Shared}
theorem Ja {h:Heap} {a:Addr} {o:Obj} {es:Array (Int × Value)} {ep:Nat} {t:SetTable} (ho:h.get? a=some o) (hd:o.data=.set es ep t) (es':Array (Int × Value)) (t':SetTable) :
 (h.update a (Obj.putSet es' t')).get? a=some { o with data:=.set es' (ep+1) t' }:=by
 have:=Heap.get?_update_self (Obj.putSet es' t') ho (by rw [putSet_of es' t' hd];rfl);rw [putSet_of es' t' hd] at this;exact this
theorem JV {g:Bool->Sem Unit} (hg:∀(b:Bool) (s₁:Shared) (Q':Unit->Shared->Prop),Q' () s₁->wpAny (model prog w) A (g b) Q' E s₁)
 {a:Addr} {o:Obj} {es:Array (Int × Value)} {ep:Nat} {t:SetTable} (ho:s.heap.get? a=some o) (hex:o.ExactSet) (hd:o.data=.set es ep t)
 {es1:Array (Int × Value)} {t2:SetTable} {ms l:List Int} (hel1:ElemsOf (intKind prog w) es1.toList) (hi:IntsAre (es1.toList.map (·.2)) ms) (hp:ms.Perm l)
 (hb1:es1.size < scanBound) (hf2:t2.fits es1.size=true) (hw:Cb w=true\/Dq t2) {wasDummy:Bool} {R:Option Bool->Shared->Prop}
 (h:∀h',Heap.SameBut a s.heap h'->ER prog w h' a l->R (some true) { s with heap:=h' }) :
 wpAny (model prog w) A (do
  storeSet a es1 t2
  if (!wasDummy && t2.tooFull)=true then do
      g (relayAll t2 es1 (SetTable.grown es1.size)).2.2
      storeSet a (relayAll t2 es1 (SetTable.grown es1.size)).1 (relayAll t2 es1 (SetTable.grown es1.size)).2.1
      pure (some true)
   else pure (some true)) R E s:=by
 refine wpAny_bind (wpAny_storeSet_of ho hd ?_ (fits_of_scanBound hb1));have ho1:=Ja ho hd es1 t2;have hsb1:=Heap.SameBut.update s.heap a (Obj.putSet es1 t2)
 split
 ·have pr:=relayAll_perm t2 es1 (SetTable.grown es1.size);have fr:=relayAll_fits t2 es1 (SetTable.grown es1.size);have wr:Cb w=true\/Dq (relayAll t2 es1 (SetTable.grown es1.size)).2.1:=hw.imp id fun x=>x.relay _ _;generalize relayAll t2 es1 (SetTable.grown es1.size)=Rl at pr fr wr ⊢;obtain ⟨es2,t3,gave2⟩:=Rl;dsimp only at pr fr wr ⊢;have hsz:es2.size=es1.size:=by rw [<- Array.length_toList,pr.length_eq,Array.length_toList]
  obtain ⟨ms2,i2,p2⟩:=Fu (pr.map (·.2)) hi;refine wpAny_bind (hg _ _ _ ?_);refine wpAny_bind (wpAny_storeSet_of ho1 rfl ?_ (fits_of_scanBound (by rw [hsz];exact hb1)));exact wpAny_pure (h _ (hsb1.trans (Heap.SameBut.update _ a _)) ⟨_,es2,_,t3,ms2,Ja ho1 rfl es2 t3,hex,rfl,hel1.perm pr,i2,p2.trans hp,by rw [hsz];exact hb1,fr,wr⟩)
 ·exact wpAny_pure (h _ hsb1 ⟨_,es1,_,t2,ms,ho1,hex,rfl,hel1,hi,hp,hb1,hf2,hw⟩)
theorem add_int {a:Addr} {l:List Int} {k:Int} {tk:Tok} {Q:Bool->Shared->Prop} (hS:ER prog w s.heap a l) (hroom:l.length+1 < scanBound)
 (h:∀h' b,Heap.SameBut a s.heap h'->ER prog w h' a (step_dedup l k)->Q b { s with heap:=h' }) :
 wpAny (model prog w) A (setAddHashed a (.int k tk) ((intKind prog w).hash k)) Q E s:=by
 obtain ⟨o,es,ep,t,ms,ho,hex,hd,hel,hi,hp,hb,hf,hw⟩:=hS;have hkey:(intKind prog w).is k (.int k tk)=true:=intKind_is _ _ _ _;have hsc:(Value.int k tk).scannable=true:=rfl
 have hlen:es.size=l.length:=by
  have:=hi.length;rw [length_map,Array.length_toList] at this;rw [this,hp.length_eq]
 unfold setAddHashed setAddHashedIn;refine wpAny_holding (wpAny_bind (wpAny_setState_of ho hd hf ?_));dsimp only;rw [byScan_of hsc hb hel];simp only [↓reduceIte];unfold setAddByScan;refine wpAny_bind ?_;refine wpAny_bind (wpAny_rule ?_);refine wpAny_bind (wpAny_setScan_of hkey ho hd hf hel ?_)
 cases hr:List.findIdx? (fun e=>(intKind prog w).is k e.2) es.toList with
 | some j =>
   dsimp only;obtain ⟨hj,hpj,_⟩:=List.findIdx?_eq_some_iff_getElem.mp hr
   have mem:k∈l:=by
    refine hp.mem_iff.mp ((Fa hi).mpr ?_);obtain ⟨t',e⟩:=Value.isInt_shape (show Value.isInt k es.toList[j].2=true from hpj);exact ⟨t',mem_map.mpr ⟨_,getElem_mem hj,e⟩⟩
   have es':step_dedup l k=l:=by
    unfold step_dedup;rw [if_pos (any_eq_true.mpr ⟨k,mem,by simp⟩)]
   refine wpAny_pure (wpAny_pure ?_);exact h s.heap _ (Heap.SameBut.refl a s.heap) ⟨o,es,ep,t,ms,ho,hex,hd,hel,hi,by rw [es'];exact hp,hb,hf,hw⟩
 | none =>
   dsimp only
   have nmem:¬ k∈l:=fun m=>by
    obtain ⟨t',ht⟩:=(Fa hi).mp (hp.mem_iff.mpr m);obtain ⟨e,he,hv⟩:=mem_map.mp ht;have:=List.findIdx?_eq_none_iff.mp hr e he;rw [hv,intKind_is] at this;exact Bool.noConfusion this
   have es':step_dedup l k=l++[k]:=by
    unfold step_dedup
    rw [if_neg (by
     intro z;obtain ⟨y,hy,ey⟩:=any_eq_true.mp z;have:y=k:=by simpa using ey
     exact nmem (this ▸ hy))]
   have hgw:∀(b:Bool) {s₁:Shared} {Q':Unit->Shared->Prop},Q' () s₁->wpAny (model prog w) A (match b with | true=>rule "set.scan.the-table-gave-way" | false=>pure ()) Q' E s₁ :=
    fun b s₁ Q' hq=>by cases b <;> first | exact wpAny_pure hq | exact wpAny_rule hq
   have pr:=layNew_perm t es ((intKind prog w).hash k) (.int k tk);have fr:=layNew_fits t es ((intKind prog w).hash k) (.int k tk);have wr:Cb w=true\/Dq (layNew t es ((intKind prog w).hash k) (.int k tk)).2.1:=hw.imp id fun x=>x.lay _ _ _;generalize layNew t es ((intKind prog w).hash k) (.int k tk)=L at pr fr wr ⊢;obtain ⟨es1,t1,wasDummy,gave⟩:=L;dsimp only at pr fr wr ⊢;rw [Array.toList_push] at pr;have hel1:ElemsOf (intKind prog w) es1.toList:=(hel.push hkey hsc).perm pr
   have hi0:IntsAre ((es.toList++[((intKind prog w).hash k,Value.int k tk)]).map (·.2)) (ms++[k]):=by
    rw [map_append];exact FG hi (.cons k tk .nil)
   obtain ⟨ms1,i1,p1⟩:=Fu (pr.map (·.2)) hi0;have hp1:ms1.Perm (step_dedup l k):=by rw [es'];exact p1.trans (hp.append_right [k])
   have hb1:es1.size < scanBound:=by rw [<- Array.length_toList,pr.length_eq,length_append,Array.length_toList,hlen];simpa using hroom
   refine wpAny_bind (hgw _ ?_)
   split
   ·refine wpAny_bind ?_;rw [hashByValue_scannable 8 hsc];refine wpAny_pure ?_;refine JV ?_ ho hex hd hel1 i1 hp1 hb1 ?_ ?_ ?_
    ·intro b s₁ Q' hq;cases b <;> first | exact wpAny_pure hq | exact wpAny_rule hq
    ·split
     ·exact fr
     ·exact SetTable.fits_plain_off fr
    ·split
     ·exact wr
     ·exact wr
    ·intro h' hsb hS';dsimp only;exact wpAny_pure (h h' _ hsb hS')
   ·refine wpAny_bind (wpAny_pure ?_);simp only [↓reduceIte];refine JV ?_ ho hex hd hel1 i1 hp1 hb1 fr wr ?_
    ·intro b s₁ Q' hq;cases b <;> first | exact wpAny_pure hq | exact wpAny_rule hq
    ·intro h' hsb hS';dsimp only;exact wpAny_pure (h h' _ hsb hS')
theorem ER.at {h h':Heap} {a:Addr} {l:List Int} (x:ER prog w h a l) (e:∀o,h.get? a=some o->h'.get? a=some o):ER prog w h' a l:=by
 obtain ⟨o,es,ep,t,ms,ho,r⟩:=x;exact ⟨o,es,ep,t,ms,e o ho,r⟩
end
section
variable {prog:Program} {w:World} {A:Around} {R:Result->Shared->Prop} {I:Addr} {fp wr:List Addr} {G:Array GenState->Array GenState->Prop} {n:Nat} {P:Nat->Value->Prop} {St:Nat->Shared->Prop}
theorem Pj (W:WalksS prog w A.in1 I fp wr G n P St) (S:Addr) (hSf:S ∉ fp) (val:Nat->Int) (hval:∀i v,P i v->∃t,v=.int (val i) t) (hb:n+1 < scanBound) :
 ∀(k i:Nat) (s:Shared),n - i=k->i<=n->St i s->ER prog w s.heap S (firstMet val i)->(∀s',Moved (S :: wr) G s s'->ER prog w s'.heap S (firstMet val n)->R (.ok (.ret .none)) s') ->
  codeAny (model prog w) A (.builtin "set.update.loop" ⟨[.ref S,.ref I],[]⟩) R s:=by
 have hSw:S ∉ wr:=fun h=>hSf (W.sub _ h);have hsub:∀b∈wr,b∈S :: wr:=fun b hb=>mem_cons_of_mem _ hb;intro k
 induction k with
 | zero =>
   intro i s hk hi hst hS hR;have hin:i=n:=by ext
   subst hin;refine codeAny_builtin F.entry_set_update_loop ?_;rw [Around.under_plainId F.plain_set_update_loop _];show wpAny _ A.in1 (pyNext (.ref I) >>= _) _ _ s;refine wpAny_bind (W.done s _ _ hst fun s' hm=>?_);show wpAny _ A.in1 (ret Value.none) _ _ s';exact wpAny_pure (hR s' (hm.mono hsub) (hS.at fun o e=>hm.heap S o hSw e))
 | succ k ih =>
   intro i s hk hi hst hS hR;have hlt:i < n:=by ext
   refine codeAny_builtin F.entry_set_update_loop ?_;rw [Around.under_plainId F.plain_set_update_loop _];show wpAny _ A.in1 (pyNext (.ref I) >>= _) _ _ s;refine wpAny_bind (W.item i s _ _ hlt hst fun v s' hP hst' hm=>?_);obtain ⟨t,rfl⟩:=hval i v hP;have hS':=hS.at fun o e=>hm.heap S o hSw e;show wpAny _ A.in1 (holding [Value.int (val i) t] (setAdd S (.int (val i) t)) >>= _) _ _ s';refine wpAny_bind (wpAny_holding ?_);unfold setAdd;refine wpAny_holding ?_;refine wpAny_bind ((intKind prog w).pyHash (k:=val i) (intKind_is _ _ _ _) ?_);have hroom:(firstMet val i).length+1 < scanBound:=by have:=firstMet_length_le val i;ext
   refine add_int (s:={ s' with toks:=s'.toks+1 }) hS' hroom fun h' b hsb hS2=>?_;have hSi:ER prog w h' S (firstMet val (i+1)):=by rw [firstMet_succ];exact hS2
   refine wpAny_pure ⟨plainId_quiet F.plain_set_update_loop _,ih (i+1) _ (by ext) hlt (W.frame _ s' _ _ hst' (Nat.le_succ _) fun b hb o e=>?_) hSi fun s'' hm'' hS''=>?_⟩
   ·rw [hsb.2 b (fun h:b=S=>hSf (by rw [<- h];exact hb))];exact e
   ·refine hR s'' (Moved.trans W.gtrans ((hm.mono hsub).then_heap (Nat.le_succ _) fun b o hb e=>?_) hm'') hS'';rw [hsb.2 b (fun h:b=S=>hb (by rw [h];exact mem_cons_self))];exact e
end
section
variable {prog:Program} {w:World} {A:Around} {E:Value->Shared->Prop} {s:Shared}
abbrev B7 (w:World):Obj:={ cls:=.type "set",dict:=none,data:=.set #[] 0 (.fresh 0 0 (!Cb w)) }
theorem Q0 (a:Value) {Q₁:Value->Shared->Prop} (h:Q₁ (.ref s.heap.objs.size) { s with heap:=s.heap.push (B7 w) }) :
 codeAny (model prog w) A (.call (.builtin "set.__new__") ⟨[.type "set",a],[]⟩) (wants Q₁ E) s:=by
 refine codeAny_of_tree ?_;show wpAny _ A.in1 (do checkBuiltinCall "set.__new__" ⟨[.type "set",a],[]⟩;again (.builtin "set.__new__" ⟨[.type "set",a],[]⟩)) _ _ s;refine wpAny_bind (wpAny_of_eq (PySem.F.newCall_set_1 a) (wpAny_pure ⟨plainId_quiet PySem.F.plain_set_new _,codeAny_builtin PySem.F.entry_set_new ?_⟩));rw [Around.under_plainId PySem.F.plain_set_new _];unfold Builtin.«set.__new__» Builtin.Frozenset.newClass;have hsub:=sub_set_self;obtain ⟨hp,g,d,tk,os⟩:=s;dsimp only
 wp_walk
 refine wpAny_askSetting (wpAny_pure ?_);dsimp only;simp only [newObj];refine wpAny_bind (wpAny_alloc (wpAny_pure ?_));exact wpAny_pure h
theorem No {h:Heap} {a:Addr} (ho:h.get? a=some (B7 w)):ER prog w h a [] :=
 ⟨_,#[],0,_,[],ho,⟨rfl,rfl,rfl⟩,rfl,fun e he=>by simp at he,.nil,.refl _,by decide,rfl,by
  cases e:Cb w with
  | true=>exact .inl rfl
  | false=>exact .inr ⟨fun i j _ hj=>absurd hj (by simp [SetTable.fresh]),by simp [SetTable.fresh]⟩⟩
set_option maxRecDepth 100000 in
set_option maxHeartbeats 3200000 in
theorem Ga {l:Addr} {items:Array Value} {ns:List Int} {Q:Value->Shared->Prop} (hh:A.handled=none) (hl:s.heap.IsList l items) (hi:IntsAre items.toList ns) (hb:items.size+1 < scanBound)
 (h:∀(h':Heap) (tk:Nat),ER prog w h' s.heap.objs.size (firstMet (fun i=>ns.getD i 0) items.size)->(∀b o,b < s.heap.objs.size->s.heap.get? b=some o->h'.get? b=some o)->Q (.ref s.heap.objs.size) { s with heap:=h',toks:=tk }) :
 wpAny (model prog w) A (call (.type "set") [.ref l]) Q E s:=by
 obtain ⟨c,tl,hmro⟩:=PySem.F.called_set.mro;have hmade:=PySem.F.called_set.made;have hsub:=PySem.F.called_set.sub;refine wpAny_call (codeAny_of_tree ?_);show wpAny _ _ (callAny (.type "set") _) _ _ _;refine wpAny_pure ⟨Code.quiet_builtin _ (by decide +kernel),codeAny_builtin PySem.F.entry_type_call ?_⟩;rw [Around.under_plain (weight_type_call_type "set" [.ref l] []) rfl];have h1:=PySem.F.called_set.notType;have h2:=PySem.F.called_set.canCreate;have hct:=PySem.F.typeCall_set_1 (.ref l)
 repeat (any_goals (first | assumption | wp_step))
 refine codeAny_mono (Q0 (.ref l) (E:=E) (Q₁:=fun obj s₁=>obj=.ref s.heap.objs.size/\s₁={ s with heap:=s.heap.push (B7 w) }) ⟨rfl,rfl⟩) fun r s₁ hr=>?_
 cases r with
 | error e=>exact hr
 | ok fl =>
   cases fl with
   | ret obj =>
     obtain ⟨rfl,rfl⟩:=hr;have hS:(s.heap.push (B7 w)).get? s.heap.objs.size=some (B7 w):=Heap.get?_push_size _ rfl;have hT:Shared.TypeIs { s with heap:=s.heap.push (B7 w) } (.ref s.heap.objs.size) "set":=⟨_,hS,rfl⟩;have hli:=PySem.F.called_set.init.lookup;have hbi:=PySem.F.called_set.init.bind (.ref s.heap.objs.size)
     repeat (any_goals (first | assumption | wp_step))
     refine codeAny_mono (codeAny_call_builtin (R:=wants (fun r s₂=>r=.none/\∃h' tk,s₂={ s with heap:=h',toks:=tk }/\ER prog w h' s.heap.objs.size (firstMet (fun i=>ns.getD i 0) items.size) /\
      (∀b o,b < s.heap.objs.size->s.heap.get? b=some o->h'.get? b=some o)) E) PySem.F.called_set.init.plain PySem.F.entry_set_init (check_set_init_1 hT ?_)) fun r₂ s₂ hr₂=>?_
     ·obtain ⟨ol,hol,hcl,nl,hdl⟩:=hl;obtain ⟨ocls,odict,odata,oslots⟩:=ol;simp only at hcl hdl;subst hcl;subst hdl;have hol':(s.heap.push (B7 w)).get? l=some { cls:=.type "list",dict:=odict,data:=.seq items nl,slots:=oslots }:=Heap.get?_push_of_some _ hol;have hsls:=PySem.F.sub_list_set;have hslf:=PySem.F.sub_list_frozenset;have hne:(Value.type "list" == Value.type "dict")=false:=by decide
      have hl1:(s.heap.push (B7 w)).IsList l items:=⟨_,hol',rfl,nl,rfl⟩;unfold Builtin.«set.__init__» noKeywords Builtin.Frozenset.updateFrom;generalize hPI:pyIter=PI
      wp_walk
      subst hPI;refine wpAny_pyIter_list hl1 ?_;refine wpAny_bind (wpAny_runValue ?_);have hlS:l < s.heap.objs.size:=Heap.lt_size hol;have hh3:A.in1.in1.in1.handled=none:=by simp [hh]
      have hneI:l≠(s.heap.push (B7 w)).objs.size:=by
       rw [Heap.size_push];exact Nat.ne_of_lt (Nat.lt_succ_of_lt hlS)
      have hSf:s.heap.objs.size ∉ [(s.heap.push (B7 w)).objs.size,l]:=by
       rw [Heap.size_push];simp only [mem_cons,mem_singleton,List.not_mem_nil,or_false,not_or];exact ⟨Nat.ne_of_lt (Nat.lt_succ_self _),Nat.ne_of_gt hlS⟩
      have hval:∀(i:Nat) (v:Value),items[i]?=some v->∃t,v=.int ((fun i=>ns.getD i 0) i) t:=fun i v hv =>
       IntsAre.int_at hi i v (by rw [Array.getElem?_toList];exact hv)
      refine Pj ((Walks.list hh3 _ l hneI items).toS) s.heap.objs.size hSf (fun i=>ns.getD i 0) hval hb (items.size - 0) 0 _ (by ext) (Nat.zero_le _)
       ⟨⟨_,Heap.get?_push_size _ rfl,rfl,rfl⟩,(hl1.push _)⟩ (No (Heap.get?_push_of_some _ hS)) ?_
      intro s' hm hS';obtain ⟨h',g',d',tk',os'⟩:=s';have eg:g'=s.gens:=hm.gens;have ed:d'=s.drawn:=hm.drawn;have eo:os'=s.os:=hm.os;subst eg;subst ed;subst eo;show wpAny _ _ _ _ _ _;refine wpAny_pure ?_;show wpAny _ _ (ret Value.none) _ _ _;refine wpAny_pure ⟨rfl,h',tk',rfl,hS',fun b o hb e=>?_⟩;have hb1:b≠s.heap.objs.size:=Nat.ne_of_lt hb
      have hb2:b≠(s.heap.push (B7 w)).objs.size:=by
       rw [Heap.size_push];exact Nat.ne_of_lt (Nat.lt_succ_of_lt hb)
      exact hm.heap b o (by simp only [mem_cons,mem_singleton,List.not_mem_nil,or_false,not_or];exact ⟨hb1,hb2⟩) (Heap.get?_push_of_some _ (Heap.get?_push_of_some _ e))
     ·cases r₂ with
      | error e=>exact hr₂
      | ok fl₂ =>
        cases fl₂ with
        | ret r =>
          obtain ⟨rfl,h',tk,rfl,hS',hk'⟩:=hr₂
          repeat (any_goals (first | assumption | wp_step))
          exact h _ _ hS' hk'
        | _=>exact hr₂.elim
   | _=>exact hr.elim
end
end L2
namespace L2
open PySem PySem.W PySem.Spec PyProof.Rows
theorem erase_perm {α:Type}:∀(xs:List α) (i:Nat) (hi:i < xs.length),(xs[i] :: xs.eraseIdx i).Perm xs
 | [],i,hi=>absurd hi (Nat.not_lt_zero _)
 | x :: xs,0,_=>.refl _
 | x :: xs,i+1,hi=>by
   have hi':i < xs.length:=by simpa using hi
   have ih:=erase_perm xs i hi';show (xs[i] :: x :: xs.eraseIdx i).Perm (x :: xs);exact (List.Perm.swap _ _ _).trans (ih.cons x)
section
variable {prog:Program} {w:World} {A:Around} {E:Value->Shared->Prop} {s:Shared}
theorem Lx {src:Source} {n:Nat} {Q:Nat->Shared->Prop} (hn:n≠0) (h:∀x d,x < n->Q x { s with drawn:=d }):wpAny (model prog w) A (choose src n) Q E s:=fun Γ p _=>by
 unfold choose;rw [Sem.wp_choose];exact ⟨hn,h _ _ (Nat.mod_lt _ (Nat.pos_of_ne_zero hn))⟩
theorem Kg {α:Type}:∀(n:Nat) (xs:List α) (s:Shared) {Q:List α->Shared->Prop},xs.length=n->(∀ys d,ys.Perm xs->Q ys { s with drawn:=d })->wpAny (model prog w) A (drawOrder n xs) Q E s
 | 0,xs,s,Q,hl,h=>by
   have:xs=[]:=length_eq_zero_iff.mp hl;subst this;have:=h [] s.drawn (.refl _);exact wpAny_pure this
 | n+1,[],s,Q,hl,h=>by simp at hl
 | n+1,x :: xs,s,Q,hl,h=>by
   unfold drawOrder;refine wpAny_bind (Lx (by simp) fun i d hi=>?_);have e:(x :: xs)[i]?=some (x :: xs)[i]:=by simp [hi]
   rw [e];dsimp only;refine wpAny_bind (Kg n ((x :: xs).eraseIdx i) _ (by rw [length_eraseIdx,if_pos hi];simp at hl ⊢;ext) fun ys d' hp=>wpAny_pure ?_);refine h _ d' ?_;exact (hp.cons _).trans (erase_perm _ _ hi)
end
theorem M7 {α:Type} (next:Nat->Nat):∀(f k:Nat) (left:List α) (out:Array α),left.length=f->(pickOrder.go next f k left out).toList.Perm (out.toList++left)
 | 0,k,left,out,hl=>by
   have:left=[]:=length_eq_zero_iff.mp hl;subst this;simp [pickOrder.go]
 | f+1,k,left,out,hl=>by
   unfold pickOrder.go;have hi:next k % left.length < left.length:=Nat.mod_lt _ (by ext);have e:left[next k % left.length]?=some left[next k % left.length]:=by simp [hi]
   rw [e];dsimp only;refine (M7 next f (k+1) (left.eraseIdx (next k % left.length)) _ (by rw [length_eraseIdx,if_pos hi];ext)).trans ?_;rw [Array.toList_push,append_assoc];exact List.Perm.append_left _ (erase_perm _ _ hi)
theorem IE {α:Type} (next:Nat->Nat) (xs:Array α):(pickOrder next xs).toList.Perm xs.toList:=by
 have:=M7 next xs.size 0 xs.toList #[] (by simp);simpa [pickOrder] using this
def B6 (h:Heap) (a:Addr) (es:Array (Int × Value)) (ep:Nat) (t:SetTable):Prop:=∃o,h.get? a=some o/\o.ExactSet/\o.data=.set es ep t
theorem B6.at {h h':Heap} {a:Addr} {es:Array (Int × Value)} {ep:Nat} {t:SetTable} (x:B6 h a es ep t) (e:∀o,h.get? a=some o->h'.get? a=some o):B6 h' a es ep t:=let ⟨o,ho,r⟩:=x;⟨o,e o ho,r⟩
theorem B6.typeIs {s:Shared} {a:Addr} {es:Array (Int × Value)} {ep:Nat} {t:SetTable} (x:B6 s.heap a es ep t):s.TypeIs (.ref a) "set":=let ⟨o,ho,hc,_⟩:=x;⟨o,ho,hc.1⟩
def E1 (es:Array (Int × Value)) (t:SetTable):Bool:=!t.plain && decide (es.size > 1)
def Hv (t:SetTable):Nat->Nat
 | 0=>0
 | i+1=>t.place.getD i 0+1
def SIt (w:World) (h:Heap) (I tp a:Addr) (es:Array (Int × Value)) (ep:Nat) (t:SetTable) (out:List Value) (i:Nat):Prop :=
 ∃first,(∃o,h.get? I=some o/\o.cls=.type "set_iterator"/\o.data=.fields #[first,rawInt i,.ref a,rawInt es.size,rawInt ep]) /\
  ((Cb w=true/\first=rawInt 0/\out=(pickOrder (w.params.setOrder a ep) es).toList.map (·.2)) \/
   (Cb w=false/\E1 es t=true/\first=.ref tp/\∃ps:List Nat,(∃o n,h.get? tp=some o/\o.data=.seq (ps.map fun (p:Nat)=>rawInt p).toArray n)/\ps.Perm (List.range es.size)/\out=ps.map fun p=>(es.getD p (0,Value.none)).2) \/
   (Cb w=false/\E1 es t=false/\Dq t/\first=rawInt (Hv t i)/\out=es.toList.map (·.2)))
theorem SIt.perm {w:World} {h:Heap} {I tp a:Addr} {es:Array (Int × Value)} {ep:Nat} {t:SetTable} {out:List Value} {i:Nat} (x:SIt w h I tp a es ep t out i):out.Perm (es.toList.map (·.2)):=by
 obtain ⟨_,_,⟨_,_,e⟩ | ⟨_,_,_,ps,_,p,e⟩ | ⟨_,_,_,_,e⟩⟩:=x
 ·rw [e];exact (IE _ _).map _
 ·rw [e];have q:=p.map fun p=>(es.getD p (0,Value.none)).2;refine q.trans (.of_eq ?_);apply ext_getElem
  ·simp
  ·intro i h1 h2;have hi:i < es.size:=by simpa using h1
   simp [Array.getD,hi]
 ·rw [e]
section
variable {prog:Program} {w:World} {A:Around} {E:Value->Shared->Prop} {s:Shared} {a:Addr} {es:Array (Int × Value)} {ep:Nat} {t:SetTable}
theorem Hj:entryFor table "set.__iter__"=some Builtin.«frozenset.__iter__» :=
 entryFor_alias (id':="frozenset.__iter__") (by kernel_rfl) (by first | rfl | decide +kernel | (unfold String.splitOn;simp +decide [String.splitOnAux])) (by decide +kernel) (by kernel_rfl)
theorem BE:Slot "set_iterator" "__next__" "set_iterator.__next__" :=
 .of (owner:="set_iterator") (n:="__next__") (by rw [typeLookup_type,builtinLookup_eq_fast];kernel_rfl) (by decide +kernel) (by decide +kernel) (by decide +kernel)
  (by first | exact .inl (by decide +kernel) | exact .inr (by decide +kernel)) (by rw [isSubtype_type];kernel_rfl)
theorem Ev:entryFor table "set_iterator.__next__"=some Builtin.«set_iterator.__next__»:=entryFor_of_tree (by kernel_rfl)
theorem EA (a:Value):argsOk "set_iterator.__next__" ⟨[a],[]⟩:=by
 unfold argsOk
 kernel_rfl
theorem Cv {Q:(Array (Int × Value) × Nat × SetTable)->Shared->Prop} (x:B6 s.heap a es ep t) (hf:t.fits es.size=true) (h:Q (es,ep,t) s):wpAny (model prog w) A (setState a) Q E s:=by
 obtain ⟨o,ho,_,hd⟩:=x;exact wpAny_setState_of ho hd hf h
theorem Pi {Q:Value->Shared->Prop} (x:B6 s.heap a es ep t) (hf:t.fits es.size=true) (hz:es.size<=sizeLine) (hw:Cb w=true\/Dq t)
 (h:∀(h':Heap) (d:Drawn) (I tp:Addr) (out:List Value),(∀b o,s.heap.get? b=some o->h'.get? b=some o)->s.heap.objs.size<=I->s.heap.objs.size<=tp->tp≠I->I < h'.objs.size->SIt w h' I tp a es ep t out 0->Q (.ref I) { s with heap:=h',drawn:=d }) :
 wpAny (model prog w) A (pyIter (.ref a)) Q E s:=by
 have hT:=x.typeIs;refine wpAny_pyIter_slot hT PySem.F.slot_set_iter (wpAny_call_entry PySem.F.slot_set_iter hT Hj ?_ (PySem.F.args_set_iter_1 _));unfold Builtin.«frozenset.__iter__»;refine wpAny_bind (m:=Builtin.Frozenset.slot0 "__iter__" ⟨[.ref a],[]⟩) (wpAny_of_eq (a:=a) rfl ?_);refine wpAny_bind ?_;unfold Builtin.Frozenset.sizeOf;refine wpAny_bind ?_;unfold setEntries;refine wpAny_bind (Cv x hf (wpAny_pure (wpAny_pure ?_)));dsimp only;refine wpAny_bind ?_;unfold setDrawn;refine wpAny_bind (Cv x hf ?_);dsimp only;refine wpAny_bind ?_;unfold setsByText;refine wpAny_bind (wpAny_askSetting (wpAny_pure ?_));refine wpAny_pure ?_;show wpAny _ _ (if (!Cb w && E1 es t)=true then _ else _) _ _ s
 have fin:∀(s1:Shared) (first:Value),(∀b o,s.heap.get? b=some o->s1.heap.get? b=some o)->s.heap.objs.size<=s1.heap.objs.size->(∃d,s1={ s with heap:=s1.heap,drawn:=d }) ->
  (∀h',(∀b o,s1.heap.get? b=some o->h'.get? b=some o)->h'.get? s1.heap.objs.size=some { cls:=.type "set_iterator",data:=.fields #[first,rawInt 0,.ref a,rawInt es.size,rawInt ep] } ->
   ∃tp out,s.heap.objs.size<=tp/\tp≠s1.heap.objs.size/\SIt w h' s1.heap.objs.size tp a es ep t out 0) ->
  wpAny (model prog w) A.in1 (setEpoch a >>= fun e=>newFields "set_iterator" [first,rawInt 0,Value.ref a,rawInt es.size,rawInt e] >>= fun v=>ret v)
   (fun fin s'=>∃v,fin=Fin.done (Flow.ret v)/\∃T' r,s'.TypeIs v T'/\typeLookup (Value.type T') (Str.ofString "__next__")=pure (some r)/\Q v s') E s1:=by
  intro s1 first k1 k2 k3 k4;obtain ⟨d,k3⟩:=k3;have x1:B6 s1.heap a es ep t:=x.at fun o e=>k1 a o e;refine wpAny_bind ?_;unfold setEpoch;refine wpAny_bind (Cv x1 hf (wpAny_pure ?_));dsimp only;refine wpAny_bind (m:=newFields "set_iterator" [first,rawInt 0,Value.ref a,rawInt es.size,rawInt ep]) ?_;unfold newFields;refine wpAny_newObj_type (wpAny_pure ⟨_,rfl,"set_iterator",_,⟨_,Heap.get?_push_size _ rfl,rfl⟩,BE.lookup,?_⟩);obtain ⟨tp,out,z1,z3,z2⟩:=k4 (s1.heap.push { cls:=.type "set_iterator",data:=.fields #[first,rawInt 0,.ref a,rawInt es.size,rawInt ep] }) (fun b o e=>Heap.get?_push_of_some _ e) (Heap.get?_push_size _ rfl);have:=h _ d s1.heap.objs.size tp out (fun b o e=>Heap.get?_push_of_some _ (k1 b o e)) k2 z1 z3 (by rw [size_push'];exact Nat.lt_succ_self _) z2;rw [k3];exact this
 cases eb:Cb w with
 | true =>
   rw [if_neg (by simp)];refine wpAny_bind (wpAny_pure ?_);refine fin s (rawInt 0) (fun b o e=>e) (Nat.le_refl _) ⟨s.drawn,rfl⟩ fun h' k e=>⟨s.heap.objs.size+1,_,Nat.le_succ _,Nat.succ_ne_self _,rawInt 0,⟨_,e,rfl,rfl⟩,.inl ⟨eb,rfl,rfl⟩⟩
 | false =>
   have wk:Dq t:=hw.resolve_left (by rw [eb];decide)
   cases ed:E1 es t with
   | false =>
     rw [if_neg (by decide)];refine wpAny_bind (wpAny_pure ?_);refine fin s (rawInt 0) (fun b o e=>e) (Nat.le_refl _) ⟨s.drawn,rfl⟩ fun h' k e=>⟨s.heap.objs.size+1,_,Nat.le_succ _,Nat.succ_ne_self _,rawInt 0,⟨_,e,rfl,rfl⟩,.inr (.inr ⟨eb,ed,wk,rfl,rfl⟩)⟩
   | true =>
     rw [if_pos (by decide)];refine wpAny_bind (Kg es.size (List.range es.size) s (by simp) fun ps d hp=>?_);refine wpAny_bind (wpAny_newTuple ?_ (by rw [length_map,hp.length_eq,length_range];exact hz));refine fin _ (.ref s.heap.objs.size) (fun b o e=>Heap.get?_push_of_some _ e) (by show s.heap.objs.size<=(s.heap.push _).objs.size;rw [size_push'];exact Nat.le_succ _) ⟨d,rfl⟩ fun h' k e=>⟨s.heap.objs.size,_,Nat.le_refl _,(by show s.heap.objs.size≠(s.heap.push _).objs.size;rw [size_push'];exact Nat.ne_of_lt (Nat.lt_succ_self _)),.ref s.heap.objs.size,⟨_,e,rfl,rfl⟩,.inr (.inl ⟨eb,ed,rfl,ps,⟨_,_,k _ _ (Heap.get?_push_size _ rfl),rfl⟩,hp,rfl⟩)⟩
theorem IA {slot i:Nat} {Q:Option (Value × Nat)->Shared->Prop} (b:Cb w=true) (x:B6 s.heap a es ep t) (hf:t.fits es.size=true)
 (h:Q (((pickOrder (w.params.setOrder a ep) es)[i]?).map fun e=>(e.2,slot)) s):wpAny (model prog w) A (setNext a slot i ep) Q E s:=by
 unfold setNext;refine wpAny_bind (Cv x hf ?_);dsimp only;refine wpAny_bind ?_;unfold setsByText;refine wpAny_bind (wpAny_askSetting (wpAny_pure ?_));refine wpAny_ite_split (fun _=>?_) (fun hab=>absurd b hab);refine wpAny_ite_split (fun hab=>absurd hab (by simp)) (fun _=>?_);refine wpAny_bind ?_;unfold setWalk;refine wpAny_bind (Cv x hf ?_);dsimp only;refine wpAny_bind ?_;unfold setsByText;refine wpAny_bind (wpAny_askSetting (wpAny_pure ?_));refine wpAny_ite_split (fun _=>?_) (fun hab=>absurd b hab);refine wpAny_bind (wpAny_askSetting (wpAny_pure (wpAny_pure ?_)));exact h
theorem Ky {slot i:Nat} {Q:Option (Value × Nat)->Shared->Prop} (b:Cb w=false) (d:E1 es t=false) (wk:Dq t) (x:B6 s.heap a es ep t) (hf:t.fits es.size=true)
 (h:Q (match es[SetTable.below t.place slot]?,t.place[SetTable.below t.place slot]? with | some (_,x),some j=>some (x,j+1) | _,_=>none) s):wpAny (model prog w) A (setNext a slot i ep) Q E s:=by
 unfold setNext;refine wpAny_bind (Cv x hf ?_);dsimp only;refine wpAny_bind ?_;unfold setsByText;refine wpAny_bind (wpAny_askSetting (wpAny_pure ?_));refine wpAny_ite_split (fun hab=>absurd (show Cb w=true from hab) (by rw [b];decide)) (fun _=>?_);refine wpAny_ite_split (fun hab=>absurd (show E1 es t=true from hab) (by rw [d];decide)) (fun _=>?_);refine wpAny_bind ?_;show wpAny _ _ (if (!t.led && !es.isEmpty)=true then _ else _) _ _ s;rw [if_neg (by rw [wk.2];simp)];refine wpAny_pure ?_;exact wpAny_pure h
theorem LH {p:Nat} {Q:Value->Shared->Prop} (x:B6 s.heap a es ep t) (hf:t.fits es.size=true) (hp:p < es.size) (h:Q (es.getD p (0,Value.none)).2 s):wpAny (model prog w) A (setNextDrawn a p ep) Q E s:=by
 unfold setNextDrawn;refine wpAny_bind (Cv x hf ?_);dsimp only;refine wpAny_ite_split (fun hab=>absurd hab (by simp)) (fun _=>?_);have e:es[p]?=some (es.getD p (0,Value.none)):=by simp [Array.getD,hp]
 rw [e];exact wpAny_pure h
theorem BP {I:Addr} {o:Obj} {xs:Array Value} {k:Nat} {g:Value} {Q:Unit->Shared->Prop} (ho:s.heap.get? I=some o) (hd:o.data=.fields xs) (hk:k < xs.size)
 (h:∀h' o',h'.get? I=some o'->o'.cls=o.cls->o'.data=.fields (xs.setIfInBounds k g)->Heap.SameBut I s.heap h'->Q () { s with heap:=h' }):wpAny (model prog w) A (setField (.ref I) k g) Q E s:=by
 refine wpAny_setField ho hd hk ?_;exact h _ _ (Heap.get?_update_self _ ho (Obj.isFreed_of_fields (Obj.data_mapFields hd _))) (Obj.cls_mapFields ..) (by rw [Obj.data_mapFields hd]) (Heap.SameBut.update ..)
theorem Pk {I tp:Addr} {out:List Value} {i:Nat} {v:Value} {Q:Option Value->Shared->Prop} (x:B6 s.heap a es ep t) (hf:t.fits es.size=true) (y:SIt w s.heap I tp a es ep t out i) (hv:out[i]?=some v) (n1:a≠I) (n2:tp≠I)
 (h:∀h',SIt w h' I tp a es ep t out (i+1)->Heap.SameBut I s.heap h'->Q (some v) { s with heap:=h' }):wpAny (model prog w) A (pyNext (.ref I)) Q E s:=by
 have hp:=y.perm;obtain ⟨first,⟨o,ho,hc,hd⟩,y⟩:=y;have hT:s.TypeIs (.ref I) "set_iterator":=⟨o,ho,hc⟩;unfold pyNext;refine wpAny_bind (wpAny_attempt (wpAny_callSpecial?_slot (name:=Str.ofString "__next__") hT BE (wpAny_call_entry BE hT Ev ?_ (EA _))));unfold Builtin.«set_iterator.__next__»;refine wpAny_bind (wpAny_of_eq (a:=(Value.ref I,[])) rfl ?_);refine wpAny_bind (wpAny_fieldsOf ho hd ?_);dsimp only [rawInt];refine wpAny_bind ?_;unfold setEntries;refine wpAny_bind (Cv x hf (wpAny_pure ?_));dsimp only;rw [if_neg (by simp)];rcases y with ⟨b1,rfl,b2⟩ | ⟨b1,b2,rfl,ps,⟨ot,nt,hot,hdt⟩,pp,b3⟩ | ⟨b1,b2,b3,rfl,b4⟩
 ·have hi:(pickOrder (w.params.setOrder a ep) es)[i]?.map (·.2)=some v:=by
   rw [b2,List.getElem?_map,Array.getElem?_toList] at hv;exact hv
  cases e:(pickOrder (w.params.setOrder a ep) es)[i]? with
  | none=>rw [e] at hi;cases hi
  | some q =>
    rw [e] at hi;have hq:q.2=v:=Option.some.inj hi;refine wpAny_bind (show wpAny _ _ (setNext a 0 i ep) _ _ s from IA b1 x hf ?_);rw [e];show wpAny _ _ (setField (Value.ref I) 0 (Value.int (0:Nat) 0) >>= fun _=>setField (Value.ref I) 1 (Value.int ((i:Int)+1) 0) >>= fun _=>ret q.2) _ _ s;refine wpAny_bind (BP ho hd (by simp) fun h1 o1 g1 g2 g3 s1=>?_);refine wpAny_bind (BP (s:={ s with heap:=h1 }) g1 g3 (by simp) fun h2 o2 k1 k2 k3 s2=>?_);rw [hq];exact wpAny_pure ⟨_,rfl,wpAny_pure (h h2 ⟨rawInt 0,⟨o2,k1,k2.trans (g2.trans hc),by rw [k3];simp [rawInt]⟩,.inl ⟨b1,rfl,b2⟩⟩ (s1.trans s2))⟩
 ·have hl:ps.length=es.size:=by rw [pp.length_eq,length_range]
  have hi:i < ps.length:=by
   rw [b3,List.getElem?_map] at hv
   cases e:ps[i]? with
   | none=>rw [e] at hv;cases hv
   | some q=>exact (List.getElem?_eq_some_iff.mp e).1
  have hv':v=(es.getD ps[i] (0,Value.none)).2:=by
   rw [b3,List.getElem?_map,List.getElem?_eq_getElem hi] at hv;exact (Option.some.inj hv).symm
  have hlt:ps[i] < es.size:=mem_range.mp (pp.mem_iff.mp (getElem_mem hi));refine wpAny_bind (m:=seqItems? (Value.ref tp)) (wpAny_seqItems hot hdt ?_);dsimp only;have e:(List.toArray (ps.map fun (p:Nat)=>rawInt (p:Int)))[(i:Int).toNat]?=some (Value.int (ps[i]:Nat) 0):=by simp [hi,rawInt]
  rw [e];refine wpAny_bind (show wpAny _ _ (setNextDrawn a ps[i] ep) _ _ s from LH x hf hlt ?_);refine wpAny_bind (BP ho hd (by simp) fun h1 o1 g1 g2 g3 s1=>?_);rw [<- hv'];refine wpAny_pure ⟨_,rfl,wpAny_pure ?_⟩;exact h h1 ⟨.ref tp,⟨o1,g1,g2.trans hc,by rw [g3];simp [rawInt]⟩,.inr (.inl ⟨b1,b2,rfl,ps,⟨ot,nt,(s1.2 tp n2).trans hot,hdt⟩,pp,b3⟩)⟩ s1
 ·have hi:i < es.size:=by
   rw [b4,List.getElem?_map] at hv
   cases e:es.toList[i]? with
   | none=>rw [e] at hv;cases hv
   | some q =>
     have:=(List.getElem?_eq_some_iff.mp e).1;simpa using this
  have hv':v=(es[i]).2:=by
   rw [b4,List.getElem?_map,List.getElem?_eq_getElem (by simpa using hi)] at hv;simpa using (Option.some.inj hv).symm
  have hpl:t.place.size=es.size:=by
   unfold SetTable.fits at hf;simp at hf;exact hf.1
  have hb:SetTable.below t.place (Hv t i)=i:=by
   cases i with
   | zero=>exact GA b3.1
   | succ i=>exact G8 b3.1 (by ext)
  refine wpAny_bind (show wpAny _ _ (setNext a (Hv t i) i ep) _ _ s from Ky b1 b2 b3 x hf ?_);rw [hb,Array.getElem?_eq_getElem hi,Array.getElem?_eq_getElem (by ext)];show wpAny _ _ (setField (Value.ref I) 0 (Value.int ((t.place[i]'(by ext)+1:Nat)) 0) >>= fun _=>setField (Value.ref I) 1 (Value.int ((i:Int)+1) 0) >>= fun _=>ret (es[i]).2) _ _ s;refine wpAny_bind (BP ho hd (by simp) fun h1 o1 g1 g2 g3 s1=>?_);refine wpAny_bind (BP (s:={ s with heap:=h1 }) g1 g3 (by simp) fun h2 o2 k1 k2 k3 s2=>?_);rw [<- hv']
  have es':Hv t (i+1)=t.place[i]'(by ext)+1:=by
   show t.place.getD i 0+1=_;rw [Array.getD_eq_getD_getElem?,Array.getElem?_eq_getElem (by ext)];rfl
  refine wpAny_pure ⟨_,rfl,wpAny_pure (h h2 ⟨rawInt (Hv t (i+1)),⟨o2,k1,k2.trans (g2.trans hc),?_⟩,.inr (.inr ⟨b1,b2,b3,rfl,b4⟩)⟩ (s1.trans s2))⟩;rw [k3,es'];simp [rawInt]
theorem F9 {Q:Option Value->Shared->Prop} {I:Addr} {h0:Heap} (hh:A.handled=none) (ex:Heap.ExtBut I h0 s.heap) (h:∀h',Heap.ExtBut I h0 h'->Q none { s with heap:=h' }) :
 wpAny (model prog w) A.in1 (newExc (.type "StopIteration") [] >>= fun e=>(raiseNew e:Sem PySem.Fin)) (fun fin s'=>∃v,fin=Fin.done (Flow.ret v)/\wpAny (model prog w) A (pure (some v)) Q E s')
  (fun e s'=>wpAny (model prog w) A (isInstance e (.type "StopIteration") >>= fun b=>if b=true then pure none else throw e) Q E s') s:=by
 refine wpAny_bind ?_;simp only [newExc,newTuple];refine wpAny_bind (wpAny_newObj_type ?_ (by size_fits));refine wpAny_bind (m:=firstArgMember _ _) (wpAny_of_eq (a:=Value.none) (by first | rfl | (simp only [firstArgMember];rfl)) ?_);refine wpAny_newObj_type ?_ (by size_fits);simp only [raiseNew];refine wpAny_bind (wpAny_handled ?_);rw [show A.in1.handled=none from hh];refine wpAny_bind (wpAny_pure (wpAny_throw ?_));refine wpAny_bind (wpAny_isInstance (T:="StopIteration") (b:=true) ⟨_,Heap.get?_push_size _ rfl,rfl⟩ isSubtype_stop ?_);exact wpAny_pure (h _ ((ex.push _).push _))
theorem Qz {I tp:Addr} {out:List Value} {Q:Option Value->Shared->Prop} (hh:A.handled=none) (x:B6 s.heap a es ep t) (hf:t.fits es.size=true) (y:SIt w s.heap I tp a es ep t out es.size)
 (h:∀h',Heap.ExtBut I s.heap h'->Q none { s with heap:=h' }):wpAny (model prog w) A (pyNext (.ref I)) Q E s:=by
 obtain ⟨first,⟨o,ho,hc,hd⟩,y⟩:=y;have hT:s.TypeIs (.ref I) "set_iterator":=⟨o,ho,hc⟩;unfold pyNext;refine wpAny_bind (wpAny_attempt (wpAny_callSpecial?_slot (name:=Str.ofString "__next__") hT BE (wpAny_call_entry BE hT Ev ?_ (EA _))));unfold Builtin.«set_iterator.__next__»;refine wpAny_bind (wpAny_of_eq (a:=(Value.ref I,[])) rfl ?_);refine wpAny_bind (wpAny_fieldsOf ho hd ?_);dsimp only [rawInt];refine wpAny_bind ?_;unfold setEntries;refine wpAny_bind (Cv x hf (wpAny_pure ?_));dsimp only;rw [if_neg (by simp)];rcases y with ⟨b1,rfl,b2⟩ | ⟨b1,b2,rfl,ps,⟨ot,nt,hot,hdt⟩,pp,b3⟩ | ⟨b1,b2,b3,rfl,b4⟩
 ·have hz:(pickOrder (w.params.setOrder a ep) es).size=es.size:=by
   have:=(IE (w.params.setOrder a ep) es).length_eq;simpa using this
  refine wpAny_bind (show wpAny _ _ (setNext a 0 es.size ep) _ _ s from IA b1 x hf ?_);rw [Array.getElem?_eq_none (by ext)];show wpAny _ _ (setField (Value.ref I) 2 Value.none >>= fun _=>newExc (.type "StopIteration") [] >>= fun e=>raiseNew e) _ _ s;refine wpAny_bind (BP ho hd (by simp) fun h1 o1 g1 g2 g3 s1=>?_);exact F9 (s:={ s with heap:=h1 }) hh s1.extBut fun h' e=>h h' e
 ·have hl:ps.length=es.size:=by rw [pp.length_eq,length_range]
  refine wpAny_bind (m:=seqItems? (Value.ref tp)) (wpAny_seqItems hot hdt ?_);dsimp only;have e:(List.toArray (ps.map fun (p:Nat)=>rawInt (p:Int)))[(es.size:Int).toNat]?=none:=by simp [hl]
  rw [e];refine wpAny_bind (BP ho hd (by simp) fun h1 o1 g1 g2 g3 s1=>?_);refine wpAny_bind (BP (s:={ s with heap:=h1 }) g1 g3 (by simp) fun h2 o2 k1 k2 k3 s2=>?_);exact F9 (s:={ s with heap:=h2 }) hh (s1.trans s2).extBut fun h' e=>h h' e
 ·have hpl:t.place.size=es.size:=by
   unfold SetTable.fits at hf;simp at hf;exact hf.1
  have hb:SetTable.below t.place (Hv t es.size)=es.size:=by
   cases e:es.size with
   | zero=>exact GA b3.1
   | succ i=>exact G8 b3.1 (by ext)
  refine wpAny_bind (show wpAny _ _ (setNext a (Hv t es.size) es.size ep) _ _ s from Ky b1 b2 b3 x hf ?_);rw [hb,Array.getElem?_eq_none (Nat.le_refl _)];show wpAny _ _ (setField (Value.ref I) 2 Value.none >>= fun _=>newExc (.type "StopIteration") [] >>= fun e=>raiseNew e) _ _ s;refine wpAny_bind (BP ho hd (by simp) fun h1 o1 g1 g2 g3 s1=>?_);exact F9 (s:={ s with heap:=h1 }) hh s1.extBut fun h' e=>h h' e
theorem SIt.at {h h':Heap} {I tp:Addr} {out:List Value} {i:Nat} (x:SIt w h I tp a es ep t out i) (e1:∀o,h.get? I=some o->h'.get? I=some o) (e2:∀o,h.get? tp=some o->h'.get? tp=some o):SIt w h' I tp a es ep t out i:=by
 obtain ⟨f,⟨o,ho,hc⟩,⟨b1,b2⟩ | ⟨b1,b2,b3,ps,⟨ot,nt,hot,hdt⟩,b4⟩ | ⟨b1,b2⟩⟩:=x
 ·exact ⟨f,⟨o,e1 o ho,hc⟩,.inl ⟨b1,b2⟩⟩
 ·exact ⟨f,⟨o,e1 o ho,hc⟩,.inr (.inl ⟨b1,b2,b3,ps,⟨ot,nt,e2 ot hot,hdt⟩,b4⟩)⟩
 ·exact ⟨f,⟨o,e1 o ho,hc⟩,.inr (.inr ⟨b1,b2⟩)⟩
theorem SIt.typeIs {s:Shared} {I tp:Addr} {out:List Value} {i:Nat} (x:SIt w s.heap I tp a es ep t out i):s.TypeIs (.ref I) "set_iterator":=by
 obtain ⟨f,⟨o,ho,hc,_⟩,_⟩:=x;exact ⟨o,ho,hc⟩
theorem Ew:Slot "set_iterator" "__iter__" "set_iterator.__iter__" :=
 .of (owner:="set_iterator") (n:="__iter__") (by rw [typeLookup_type,builtinLookup_eq_fast];kernel_rfl) (by decide +kernel) (by decide +kernel) (by decide +kernel)
  (by first | exact .inl (by decide +kernel) | exact .inr (by decide +kernel)) (by rw [isSubtype_type];kernel_rfl)
theorem Go:entryFor table "set_iterator.__iter__"=some Builtin.«dict_keyiterator.__iter__» :=
 entryFor_alias (id':="dict_keyiterator.__iter__") (by kernel_rfl) (by first | rfl | decide +kernel | (unfold String.splitOn;simp +decide [String.splitOnAux])) (by decide +kernel) (by kernel_rfl)
theorem Hk (a:Value):argsOk "set_iterator.__iter__" ⟨[a],[]⟩:=by
 unfold argsOk
 kernel_rfl
theorem NN {I tp:Addr} {out:List Value} (hh:A.handled=none) (hf:t.fits es.size=true) (n1:a≠I) (n2:tp≠I) :
 Walks prog w A I [I,a,tp] [I] es.size (fun i v=>out[i]?=some v) (fun i h=>SIt w h I tp a es ep t out i/\B6 h a es ep t) where
 sub:=fun b hb=>by simp at hb;simp [hb]
 frame:=fun _ _ _ st hk=>⟨st.1.at (fun o e=>hk I (by simp) o e) (fun o e=>hk tp (by simp) o e),st.2.at fun o e=>hk a (by simp) o e⟩
 item:=fun i s Q E hi st hQ=>by
  have hl:out.length=es.size:=by rw [st.1.perm.length_eq];simp
  refine Pk (v:=out[i]) st.2 hf st.1 (by simp [hl,hi]) n1 n2 fun h' it' hs'=>?_;exact hQ _ h' s.toks (by simp [hl,hi]) ⟨it',st.2.at fun o q=>hs'.extBut a o n1 q⟩ fun b o hb q=>hs'.extBut b o (fun h=>hb (by simp [h])) q
 done:=fun s Q E st hQ=>Qz hh st.2 hf st.1 fun h' he'=>hQ h' s.toks fun b o hb q=>he' b o (fun h=>hb (by simp [h])) q
 self:=fun i s Q E st hQ=>by
  refine wpAny_pyIter_slot st.1.typeIs Ew (wpAny_call_entry Ew st.1.typeIs Go ?_ (Hk _));show wpAny _ _ (ret (.ref I)) _ _ s;exact wpAny_pure ⟨_,rfl,"set_iterator",_,st.1.typeIs,BE.lookup,hQ⟩
theorem Ph {r:Addr} {Q:Bool->Shared->Prop} (hT:s.TypeIs (.ref r) "set") (h:Q false s):wpAny (model prog w) A (Builtin.List.listLengthHint (.ref r)) Q E s:=by
 unfold Builtin.List.listLengthHint;refine wpAny_bind (wpAny_specialOf hT PySem.F.slot_set_len.lookup ?_);generalize hid:("set.__len__":String)=id0
 wp_delta
 rw [show splitId id0=some ("set","__len__") from by subst hid;decide +kernel];subst hid;refine wpAny_bind (wpAny_isInstance (T:="set") (b:=true) hT (by rw [isSubtype_type];kernel_rfl) ?_);refine wpAny_ite_split (fun hab=>absurd hab (by decide)) (fun _=>?_);refine wpAny_ite_split (fun _=>?_) (fun hab=>absurd (by decide +kernel) hab);refine wpAny_bind (wpAny_typeOf hT ?_);exact wpAny_pure h
theorem Nw {out:List Value} {acc:Array Value} (hl:out.length=es.size) (h:ItemsOf (fun i v=>out[i]?=some v) acc es.size):acc.toList=out:=by
 obtain ⟨h1,h2⟩:=h;apply ext_getElem?;intro i;by_cases hi:i < acc.size
 ·have:=h2 i acc[i] (by simp [hi]);rw [this];simp [hi]
 ·rw [List.getElem?_eq_none (by simpa using Nat.le_of_not_lt hi),List.getElem?_eq_none (by ext)]
theorem KY {l:List Int} {R:List Value->Shared->Prop} (x:ER prog w s.heap a l) (hh:A.handled=none)
 (h:∀(h':Heap) (tk:Nat) (d:Drawn) (vs:List Value) (ms:List Int),IntsAre vs ms->ms.Perm l->(∀b o,s.heap.get? b=some o->h'.get? b=some o)->s.heap.objs.size < h'.objs.size->R vs { s with heap:=h',toks:=tk,drawn:=d }) :
 wpAny (model prog w) A (collect (.ref a)) R E s:=by
 obtain ⟨o,es,ep,t,ms,ho,hex,hd,hel,hi,hp,hb,hf,hw⟩:=x;have raw:B6 s.heap a es ep t:=⟨o,ho,hex,hd⟩;have hz:=fits_of_scanBound hb;have hlt:a < s.heap.objs.size:=Heap.lt_size ho;unfold collect;refine wpAny_bind (wpAny_runValue (codeAny_builtin entry_proto_collect' ?_));rw [Around.under_plainId PySem.F.plain_proto_collect _];show wpAny _ A.in1 (newList [] >>= fun l=>again (.builtin "list.__iadd__" ⟨[l,.ref a],[]⟩)) _ _ s;refine wpAny_bind (wpAny_newObj_type ?_);refine wpAny_pure ⟨plainId_quiet PySem.F.plain_list_iadd _,codeAny_builtin entry_list_iadd' ?_⟩;rw [Around.under_plainId PySem.F.plain_list_iadd _];have hS₁:(s.heap.push { cls:=.type "list",data:=.seq ([]:List Value).toArray }).get? s.heap.objs.size=some { cls:=.type "list",data:=.seq #[] }:=Heap.get?_push_size _ rfl;show wpAny _ A.in1 (Builtin.List.listExtendWith (.ref s.heap.objs.size) (.ref a) (.ref s.heap.objs.size)) _ _ _;have raw1:B6 (s.heap.push { cls:=.type "list",data:=.seq ([]:List Value).toArray }) a es ep t:=raw.at fun o e=>Heap.get?_push_of_some _ e;unfold Builtin.List.listExtendWith;refine wpAny_bind (wpAny_typeOf (T:="set") (B6.typeIs (s:={ s with heap:=s.heap.push { cls:=.type "list",data:=.seq ([]:List Value).toArray } }) raw1) ?_);have h1:Builtin.List.listSameRef (.ref s.heap.objs.size) (.ref a)=false:=by simp [Builtin.List.listSameRef,Nat.ne_of_gt hlt]
 simp only [h1,show (Value.type "set" == Value.type "list")=false by decide,show (Value.type "set" == Value.type "tuple")=false by decide,Bool.or_false,Bool.false_eq_true,if_false];refine wpAny_bind (Pi (s:={ s with heap:=s.heap.push { cls:=.type "list",data:=.seq ([]:List Value).toArray } }) raw1 hf hz hw fun h2 d I tp out k2 gI gtp n2 ltI it=>?_);have sz1:(s.heap.push { cls:=.type "list",data:=.seq ([]:List Value).toArray }).objs.size=s.heap.objs.size+1:=size_push' _ _;have gI':s.heap.objs.size+1<=I:=by rw [<- sz1];exact gI
 have gtp':s.heap.objs.size+1<=tp:=by rw [<- sz1];exact gtp
 have raw2:B6 h2 a es ep t:=raw1.at fun o e=>k2 a o e;have hS₂:=k2 _ _ hS₁
 have hSf:s.heap.objs.size ∉ [I,a,tp]:=by
  simp only [mem_cons,List.not_mem_nil,or_false,not_or];exact ⟨Nat.ne_of_lt (Nat.lt_of_lt_of_le (Nat.lt_succ_self _) gI'),Nat.ne_of_gt hlt,Nat.ne_of_lt (Nat.lt_of_lt_of_le (Nat.lt_succ_self _) gtp')⟩
 have n1:a≠I:=Nat.ne_of_lt (Nat.lt_of_lt_of_le (Nat.lt_succ_of_lt hlt) gI');have hl:out.length=es.size:=by rw [it.perm.length_eq];simp
 obtain ⟨ms',i',p'⟩:=Fu it.perm hi;have W:=(NN (prog:=prog) (w:=w) (A:=A.in1) (out:=out) (ep:=ep) hh hf n1 n2).toS
 have key:∀(h3:Heap) (c₁ tk:Nat),SIt w h3 I tp a es ep t out 0->B6 h3 a es ep t->(∀b o,b≠s.heap.objs.size->h2.get? b=some o->h3.get? b=some o)->h3.get? s.heap.objs.size=some { cls:=.type "list",data:=.seq #[] c₁ } ->
  codeAny (model prog w) A (.builtin "list.extend.loop" ⟨[.ref s.heap.objs.size,.ref I,.ref s.heap.objs.size],[]⟩)
   (wants (fun v s'=>v=.ref s.heap.objs.size/\∃h' tk' c',s'={ s with heap:=h',toks:=tk',drawn:=d }/\(∀b o,s.heap.get? b=some o->h'.get? b=some o)/\h'.get? s.heap.objs.size=some { cls:=.type "list",dict:=none,data:=.seq out.toArray c',slots:=#[] }) (fun _ _=>False))
   { s with heap:=h3,toks:=tk,drawn:=d }:=by
  intro h3 c₁ tk it3 raw3 k3 hS₃;refine codeAny_extend_loopS W hz _ hSf _ es.size 0 _ #[] c₁ rfl (Nat.zero_le _) ⟨it3,raw3⟩ hS₃ (ItemsOf.nil _) fun s' acc' c' hm hS' hacc=>?_;have ea:acc'=out.toArray:=by rw [<- Nw hl hacc]
  refine ⟨rfl,s'.heap,s'.toks,c',?_,fun b o e=>?_,by rw [<- ea];exact hS'⟩
  ·have:=Moved.eq_with (wr:=s.heap.objs.size :: [I]) hm;rw [this]
  ·have lb:b < s.heap.objs.size:=Heap.lt_size e;refine hm.heap b o ?_ (k3 b o (Nat.ne_of_lt lb) (k2 b o (Heap.get?_push_of_some _ e)));simp only [mem_cons,List.not_mem_nil,or_false,not_or];exact ⟨Nat.ne_of_lt lb,Nat.ne_of_lt (Nat.lt_of_lt_of_le (Nat.lt_succ_of_lt lb) gI')⟩
 refine wpAny_bind (wpAny_holding (Ph (B6.typeIs (s:={ s with heap:=h2,drawn:=d }) raw2) ?_));have oth:∀(h3:Heap) (g:Obj->Obj) b o,b≠s.heap.objs.size->h3.get? b=some o->(h3.update s.heap.objs.size g).get? b=some o:=fun h3 g b o hb e=>(Heap.get?_update_other _ _ (Ne.symm hb)).trans e;refine wpAny_ite_split (fun _=>?_) (fun _=>wpAny_pure ⟨plainId_quiet PySem.F.plain_extend_loop _,codeAny_mono (key h2 0 _ it raw2 (fun b o _ e=>e) hS₂) ?_⟩)
 ·refine wpAny_bind (wpAny_rule ?_);refine wpAny_bind ?_;show wpAny _ _ (updateSeq s.heap.objs.size (·.push .none) >>= fun _=>updateSeq s.heap.objs.size (·.pop)) _ _ _;refine wpAny_bind (wpAny_updateSeq hS₂ rfl ?_);have hS₃:=Heap.get?_update_self (Obj.mapSeq (·.push Value.none)) hS₂ rfl;refine wpAny_updateSeq (hz:=by seq_fits) hS₃ rfl ?_;have hS₄:=Heap.get?_update_self (Obj.mapSeq (·.pop)) hS₃ rfl;have k4:∀b o,b≠s.heap.objs.size->h2.get? b=some o->((h2.update s.heap.objs.size (Obj.mapSeq (·.push Value.none))).update s.heap.objs.size (Obj.mapSeq (·.pop))).get? b=some o:=fun b o hb e=>oth _ _ b o hb (oth _ _ b o hb e);have nI:I≠s.heap.objs.size:=Nat.ne_of_gt (Nat.lt_of_lt_of_le (Nat.lt_succ_self _) gI');have ntp:tp≠s.heap.objs.size:=Nat.ne_of_gt (Nat.lt_of_lt_of_le (Nat.lt_succ_self _) gtp');refine wpAny_pure ⟨plainId_quiet PySem.F.plain_extend_loop _,codeAny_mono (key _ _ _ (it.at (fun o e=>k4 I o nI e) (fun o e=>k4 tp o ntp e)) (raw2.at fun o e=>k4 a o (Nat.ne_of_lt hlt) e) k4 hS₄) ?_⟩;intro q s₂ y
  cases q with
  | error e=>exact y.elim
  | ok fl =>
    cases fl with
    | ret v =>
      obtain ⟨rfl,h',tk',c',rfl,hk,hS'⟩:=y;show wpAny _ A (load s.heap.objs.size >>= _) _ _ _;refine wpAny_bind (wpAny_load hS' ?_);exact wpAny_pure (h h' tk' d out ms' i' (p'.trans hp) hk (Heap.lt_size hS'))
    | _=>exact y.elim
 ·intro q s₂ y
  cases q with
  | error e=>exact y.elim
  | ok fl =>
    cases fl with
    | ret v =>
      obtain ⟨rfl,h',tk',c',rfl,hk,hS'⟩:=y;show wpAny _ A (load s.heap.objs.size >>= _) _ _ _;refine wpAny_bind (wpAny_load hS' ?_);exact wpAny_pure (h h' tk' d out ms' i' (p'.trans hp) hk (Heap.lt_size hS'))
    | _=>exact y.elim
theorem LU {l:List Int} {R:Value->Shared->Prop} (x:ER prog w s.heap a l) (hh:A.handled=none) (h64:l.length < 64)
 (h:∀(h':Heap) (tk:Nat) (d:Drawn) (L:Addr) (c:Nat) (out:Array Value) (ns:List Int),IntsAre out.toList ns->ns.Perm l->ns.Pairwise (·<=·)->(∀b o,s.heap.get? b=some o->h'.get? b=some o)->s.heap.objs.size<=L ->
  h'.get? L=some (seqObj "list" out c)->R (.ref L) { s with heap:=h',toks:=tk,drawn:=d }) :
 wpAny (model prog w) A (call (.builtin "sorted") [.ref a]) R E s:=by
 refine Calls.call_function_entry kind_sorted plain_sorted entry_sorted (args_sorted1 _) ?_;unfold Builtin.«sorted»;refine wpAny_bind (m:=checkCount "sorted" 1 1 _) (wpAny_pure ?_);refine wpAny_bind (KY (A:=A.in1) x hh fun h' tk d vs ms iv pm hk ge=>?_);have hl:vs.length < 64:=by rw [iv.length,pm.length_eq];exact h64
 refine wpAny_bind (wpAny_newList ?_ (by rw [sizeLine_eq];ext));have ho:(h'.push (seqObj "list" vs.toArray 0)).get? h'.objs.size=some (seqObj "list" vs.toArray 0):=Heap.get?_push_size _ rfl;refine wpAny_bind (wpAny_holding (wpAny_call_entry slot_list_sort ⟨_,ho,rfl⟩ entry_list_sort (list_sort_tree (s:={ s with heap:=h'.push (seqObj "list" vs.toArray 0),toks:=tk,drawn:=d }) ho iv hl fun out ns i1 i2 i3=>⟨_,rfl,?_⟩) (args_list_sort _)));obtain ⟨e,he⟩:=sortedHeap_at (out:=out) ho;refine wpAny_pure ⟨_,rfl,h _ tk d _ e out ns i1 (i2.trans pm) i3 (fun b o q=>?_) (Nat.le_of_lt ge) he⟩;have k1:(h'.push (seqObj "list" vs.toArray 0)).get? b=some o:=Heap.get?_push_of_some _ (hk b o q);rw [sortedHeap_old (Nat.ne_of_lt (Heap.lt_size (hk b o q))) (Heap.lt_size k1)];exact k1
end
end L2
namespace L2
open PySem PySem.W PySem.Spec PyProof.Rows
theorem GF (val:Nat->Int):∀i,(firstMet val i).Nodup
 | 0=>by rw [firstMet_zero];exact nodup_nil
 | i+1=>by
   rw [firstMet_succ];unfold step_dedup;have ih:=GF val i
   split
   ·exact ih
   ·rename_i c
    refine nodup_append.mpr ⟨ih,by simp,fun a ha b hb e=>?_⟩;have:b=val i:=by simpa using hb
    subst this;exact c (any_eq_true.mpr ⟨a,ha,by simp [e]⟩)
theorem LN (ns:List Int):(List.range ns.length).map (fun i=>ns.getD i 0)=ns:=by
 apply ext_getElem
 ·simp
 ·intro i h1 h2;simp [h2]
theorem Oz {ns:List Int} {z:Int}:z∈firstMet (fun i=>ns.getD i 0) ns.length↔z∈ns:=by
 have e:=firstMet_any (fun i=>ns.getD i 0) ns.length z;rw [LN] at e
 constructor
 ·intro h;have a:(firstMet (fun i=>ns.getD i 0) ns.length).any (· == z)=true:=any_eq_true.mpr ⟨z,h,by simp⟩;rw [e] at a;obtain ⟨y,hy,ey⟩:=any_eq_true.mp a;have:y=z:=by simpa using ey
  exact this ▸ hy
 ·intro h;have a:ns.any (· == z)=true:=any_eq_true.mpr ⟨z,h,by simp⟩;rw [<- e] at a;obtain ⟨y,hy,ey⟩:=any_eq_true.mp a;have:y=z:=by simpa using ey
  exact this ▸ hy
theorem Ed:∀{l:List Int},l.Pairwise (·<=·)->l.Nodup->l.Pairwise (· < ·)
 | [],_,_=>.nil
 | x :: l,h,n=>by
   rw [pairwise_cons] at h ⊢;rw [nodup_cons] at n
   exact ⟨fun y hy=>by
    have a:=h.1 y hy;have b:x≠y:=fun e=>n.1 (e ▸ hy);ext,Ed h.2 n.2⟩
section
variable {X:Cx} {e:Expr} {te:TE} {p p2 pos pos2:Pos}
theorem Inv.draw {pins:List (Addr × Obj)} {σ:St} {H:Hp} {s:Shared} (I:Inv X pins σ H s) (d:Drawn):Inv X pins σ H { s with drawn:=d } :=
 ⟨I.ok,I.os,I.bare,I.base,I.loc,I.cell,I.free,I.freeC,I.pin,I.hok,I.len⟩
def LW (K:PySem.W.Frag) (te:TE):TE:=fun σ H Q=>te σ H fun x H1=>∃(a:Addr) (ns:List Int),x=.ref a/\SqL K H1 a (ns.map V.int)/\ns.length < 64 /\
 ∀(l:Addr) (ms:List Int),ms.Pairwise (· < ·)->(∀z,z∈ms↔z∈ns)->H1 l=none->Q (.ref l) (upd H1 l (.lst (ms.map V.int)))
theorem J9 (hc:X.calm=true) (hg:Gl X "sorted") (hm:X.mg "sorted"=none) (hg2:Gl X "set") (hm2:X.mg "set"=none) (he:PE X e te)
 (hs:starEach [e] X.env=[(false,eval e X.env)]:=by rfl)
 (hs2:starEach [(.Call (.Name "set" p2) [e] [] pos2:Expr)] X.env=[(false,eval (.Call (.Name "set" p2) [e] [] pos2) X.env)]:=by rfl) :
 PE X (.Call (.Name "sorted" p) [.Call (.Name "set" p2) [e] [] pos2] [] pos) (LW X.K te):=by
 intro pins s σ H Q I h;refine wpAny_Call_Name_kw (BX I hg hm boot_sorted ?_ (by decide) (by decide));refine callWith_builtin1 ?_ hs2 rfl;rw [hs2];refine Calls.spliced_cons ?_;refine wpAny_Call_Name_kw (BX I hg2 hm2 boot_set ?_ (by decide) (by decide));refine callWith_type1 ?_ hs rfl;rw [hs];refine Calls.spliced_cons (thn (he pins s σ H _ I h) fun u s1 ⟨x,H1,I1,r1,a,ns,hx,hq,h64,q⟩=>?_);subst hx
 cases r1
 refine Calls.spliced_nil ?_;obtain ⟨its,rv,pl,hz⟩:=I1.list hq;have hi:=BJ rv;have hlen:its.length=ns.length:=hi.length;refine Ga (items:=its.toArray) (ns:=ns) (I1.ok.hd hc) pl.isList (by simpa using hi) (by rw [size_toArray,hlen];unfold scanBound;ext) fun h2 tk2 hS k2=>?_;refine Calls.spliced_nil ?_;have ez:its.toArray.size=ns.length:=by rw [size_toArray];exact hlen
 rw [ez] at hS
 have l64:(firstMet (fun i=>ns.getD i 0) ns.length).length < 64:=by
  have:=firstMet_length_le (fun i=>ns.getD i 0) ns.length;ext
 have lt2:s1.heap.objs.size < h2.objs.size:=by
  obtain ⟨o,_,_,_,_,ho,_⟩:=hS;exact Heap.lt_size ho
 refine LU (s:={ s1 with heap:=h2,toks:=tk2 }) hS (I1.ok.hd hc) l64 fun h3 tk3 d L c out ms i1 i2 i3 k3 gL hL=>?_;have kp:∀b o,s1.heap.get? b=some o->h3.get? b=some o:=fun b o q=>k3 b o (k2 b o (Heap.lt_size q) q);have ge:s1.heap.objs.size<=L:=Nat.le_trans (Nat.le_of_lt lt2) gL;refine ⟨.ref L,_,(I1.laid (t':=tk3) kp ge (show Bl X.prog X.w _ h3 _ (.lst (ms.map V.int)) from ⟨?_,out.toList,c,E3 i1,hL⟩)).draw d,rfl,q L ms (Ed i3 (i2.nodup_iff.mpr (GF _ _))) (fun z=>i2.mem_iff.trans Oz) (I1.hok.fresh ge)⟩;rw [length_map,i2.length_eq,sizeLine_eq];ext
end
end L2
namespace L2
open PySem PySem.Spec PyProof.Rows
section
variable {X:Cx} {pins:List (Addr × Obj)} {σ:St} {H:Hp} {s:Shared} {h':Heap}
theorem Inv.turnedAll {t':Nat} {fp:List Addr} (I:Inv X pins σ H s) (k:∀b o,b ∉ fp->s.heap.get? b=some o->h'.get? b=some o) (hf:∀b∈fp,Gg X pins H b):Inv X pins σ H { s with heap:=h',toks:=t' }:=by
 have nin:∀b u,H b=some u->b ∉ fp:=fun b u e z=>by rw [(hf b z).1] at e;cases e
 refine I.step (g':=s.gens) (d':=s.drawn) (ch:=fp) (fun b hb=>?_) (fun b o _ _ hc e _=>k b o hc e) (fun b o _ _ hc e _=>⟨o.slots,k b o hc e⟩) (fun _ _ _ _ n=>n)
  (fun b o hc e=>⟨o,k b o hc e⟩) (fun _ _ e=>e) (fun _ _ _ e=>e) (fun b ps e=>⟨#[],by rw [e];simp⟩) (fun m hm=>?_) (fun b u e=>?_) I.bare
 ·obtain ⟨_,f1,_,f3,f4,f5⟩:=hf b hb;exact ⟨f3,f1,f4,f5⟩
 ·obtain ⟨o,es,ep,ho,r⟩:=hm;exact ⟨o,es,ep,k _ o (fun z=>(hf _ z).2.1 rfl) ho,r⟩
 ·refine (I.hok b u e).stay (fun c v hc q=>k c v ?_ q) (fun _ q=>q) fun _ _ q=>q;rcases hc with z | z
  ·rw [z];exact nin b u e
  ·exact nin c _ z
theorem Inv.laidTurned {t':Nat} {fp:List Addr} {a:Addr} {o:HO} (I:Inv X pins σ H s) (k:∀b u,b ∉ fp->s.heap.get? b=some u->h'.get? b=some u) (hf:∀b∈fp,Gg X pins H b) (hp:s.heap.objs.size<=a)
 (new:Bl X.prog X.w (upd H a o) h' a o):Inv X pins σ (upd H a o) { s with heap:=h',toks:=t' }:=by
 have nin:∀b u,H b=some u->b ∉ fp:=fun b u e z=>by rw [(hf b z).1] at e;cases e
 have hn:H a=none:=I.hok.fresh hp
 refine I.step (g':=s.gens) (d':=s.drawn) (ch:=fp) (fun b hb=>?_) (fun b o _ _ hc e _=>k b o hc e) (fun b o _ _ hc e _=>⟨o.slots,k b o hc e⟩)
  (fun b u _ q n=>by rw [Aj (Nat.ne_of_lt (Nat.lt_of_lt_of_le (Heap.lt_size q) hp))];exact n)
  (fun b o hc e=>⟨o,k b o hc e⟩) (fun b xs q=>by rw [Aj (At q hn)];exact q) (fun b u xs q=>by rw [Aj (At q hn)];exact q) (fun b ps q=>⟨#[],by rw [Aj (At q hn),q];simp⟩) (fun m hm=>?_) (fun b u e=>?_) I.bare
 ·obtain ⟨_,f1,_,f3,f4,f5⟩:=hf b hb;exact ⟨f3,f1,f4,f5⟩
 ·obtain ⟨o,es,ep,ho,r⟩:=hm;exact ⟨o,es,ep,k _ o (fun z=>(hf _ z).2.1 rfl) ho,r⟩
 ·by_cases hb:b=a
  ·subst hb;rw [Ac] at e;cases e;exact new
  ·rw [Aj hb] at e;refine (I.hok b u e).stay (fun c v hc q=>k c v ?_ q) (fun c q=>by rw [Aj (At q hn)];exact q) fun c xs q=>by rw [Aj (At q hn)];exact q
   rcases hc with z | z
   ·rw [z];exact nin b u e
   ·exact nin c _ z
end
def Ite (K:PySem.W.Frag) (a:Addr):It :=
 ⟨fun i H=>∃xs x,SqL K H a xs/\xs[i]?=some x,fun i H x H'=>∃T y,x=.ref T/\H T=none/\H'=upd H T (.tup [.int (i:Int),y])/\∀xs,SqL K H a xs->xs[i]?=some y,fun i H=>∃xs,SqL K H a xs/\xs.length<=i⟩
theorem NR {P:Program} {w:World} {K:PySem.W.Frag} {es:List Expr} {k:Nat} {pos:Pos} (a e it:Addr) (hne:e≠it) :
 JU P w K (.Tuple es k pos) (Ite K a) [e,it] e (fun i h=>(∃old,IsEnum h e it (i:Nat) old)/\h.IsListIter it a i) where
 mem:=by simp
 obj:=fun i h st b hb=>by
  obtain ⟨⟨old,he⟩,o,e1,c,d⟩:=st;rcases mem_cons.mp hb with z | z
  ·subst z;exact ⟨_,he,fun v z=>by cases (show Data.fields _=Data.cell v from z)⟩
  ·have z':b=it:=by simpa using z
   subst z';exact ⟨o,e1,fun v z=>by rw [d] at z;cases z⟩
 keep:=fun i h h' st kk=>by
  obtain ⟨⟨old,he⟩,st⟩:=st;exact ⟨⟨old,kk e (by simp) _ he⟩,st.at fun o q=>kk it (by simp) o q⟩
 item:=by
  intro X hP hw hK hc i pins s σ H E I hf st hg;subst hP hw hK;obtain ⟨xs,x,hq,hx⟩:=hg;obtain ⟨its,rv,p,hz⟩:=I.list hq;obtain ⟨u,hu,ru⟩:=rv.get hx;obtain ⟨⟨old,he⟩,hit⟩:=st;refine wpAny_pyNext_enum_item he hit p.isList (x:=u) (by simpa using hu) hne fun h1 ho hit1 hT hsz hk=>⟨_,rfl,?_⟩;refine wpAny_letOwnedTupleGo_enum ho fun h2 he2 sb=>?_;have fr:H s.heap.objs.size=none:=I.hok.fresh (Nat.le_refl _);have lte:e < s.heap.objs.size:=Heap.lt_size he;have lti:it < s.heap.objs.size:=by obtain ⟨o,q,_⟩:=id hit;exact Heap.lt_size q
  refine ⟨.ref s.heap.objs.size,upd H s.heap.objs.size (.tup [.int (i:Int),x]),?_,rfl,⟨_,x,rfl,fr,rfl,fun ys hy=>by rw [I.list_inj hy hq];exact hx⟩,⟨⟨_,by simpa using he2⟩,hit1.at fun o q=>(sb.2 it (Ne.symm hne)).trans q⟩,fun b hb=>?_⟩
  ·refine I.laidTurned (fp:=[e,it]) (t':=s.toks+1) (fun b o hb q=>(sb.2 b (fun z=>hb (by simp [z]))).trans (hk b o (fun z=>hb (by simp [z])) (fun z=>hb (by simp [z])) q)) hf (Nat.le_refl _) ?_;refine ⟨by show 2<=sizeLine;decide,[.int i s.toks,u],.cons ⟨_,rfl⟩ (.cons ru .nil),⟨_,(sb.2 _ (Nat.ne_of_gt lte)).trans hT,rfl,_,rfl⟩⟩
  ·rw [Aj (fun z=>?_)]
   ·exact (hf b hb).1
   ·rcases mem_cons.mp hb with q | q
    ·rw [q] at z;exact absurd lte (by rw [z];exact Nat.lt_irrefl _)
    ·have q':b=it:=by simpa using q
     rw [q'] at z;exact absurd lti (by rw [z];exact Nat.lt_irrefl _)
 done:=by
  intro X hP hw hK hc i pins s σ H E I hf st hg;subst hP hw hK;obtain ⟨xs,hq,hx⟩:=hg;obtain ⟨its,rv,p,hz⟩:=I.list hq;obtain ⟨f0,f1,f2,f3,f4,f5⟩:=hf it (by simp);obtain ⟨⟨old,he⟩,hit⟩:=st;have hl:=rv.length;exact wpAny_pyNext_enum_end (I.ok.hd hc) he hit p.isList (by simp;ext) fun h' eb=>⟨rfl,I.turned (t':=s.toks) (fun b o hb e=>eb b o hb e) f0 f1 f3 f4 f5⟩
 self:=fun _ _ _ _ _ st h=>by
  obtain ⟨⟨old,he⟩,_⟩:=st;exact wpAny_pyIter_enum he h
section
variable {X:Cx}
def Sf (K:PySem.W.Frag) (ta:TA):TI:=fun σ H R=>ta σ H fun vs H1=>∃a,vs=[.ref a]/\(∃xs,SqL K H1 a xs)/\R (Ite K a) H1
theorem Qn {l:Expr} {ta:TA} {p pos pt:Pos} {es:List Expr} {k:Nat} (hg:Gl X "enumerate") (hm:X.mg "enumerate"=none) (ha:PA X [l] ta) (hs:starEach [l] X.env=[(false,eval l X.env)]:=by rfl) :
 PI X (.Tuple es k pt) (.Call (.Name "enumerate" p) [l] [] pos) (Sf X.K ta):=by
 intro pins s σ H R I h;refine Call_ (BX I hg hm boot_enumerate (PyProof.Rows.callWith_type1 (thn (ha pos pins s σ H _ I h) fun us s1 ⟨vs,H1,I1,r1,q1⟩=>?_) hs rfl));obtain ⟨a,e,⟨xs,hq⟩,q⟩:=q1;subst e
 cases r1 with
 | cons r rr =>
   cases rr
   cases r
   obtain ⟨its,rv,pl,hz⟩:=I1.list hq;refine call_enumerate_list pl.isList fun h' he hit hsz hk=>?_;refine wpAny_pyIter_enum (s:={ s1 with heap:=h' }) he ?_;refine ⟨s1.heap.objs.size+1,[s1.heap.objs.size+1,s1.heap.objs.size],_,_,H1,rfl,I1.kept (t':=s1.toks) hk,NR a _ _ (Nat.succ_ne_self _),⟨⟨_,he⟩,hit⟩,fun b hb=>?_,q⟩
   have ge:s1.heap.objs.size<=b:=by
    rcases mem_cons.mp hb with z | z
    ·rw [z];exact Nat.le_succ _
    ·have z':b=s1.heap.objs.size:=by simpa using z
     rw [z'];exact Nat.le_refl _
   exact I1.fpOk ge (I1.hok.fresh ge)
end
theorem O1 {K:PySem.W.Frag} {a:Addr} {xs:List V} {g:TG} {tb:TS} {D:EO} {σ:St} {H:Hp} (Pv:Nat->St->Hp->Prop) (h0:Pv 0 σ H) (hl:∀i σ H,i<=xs.length->Pv i σ H->SqL K H a xs)
 (hs:∀i x T σ H,xs[i]?=some x->Pv i σ H->H T=none->g (.ref T) σ (upd H T (.tup [.int (i:Int),x])) fun σ2 H2=>tb { D with nx:=Pv (i+1),ct:=Pv (i+1),bk:=D.nx } σ2 H2) (hd:∀σ H,Pv xs.length σ H->D.nx σ H) :
 ∃W:Nat->Nat->St->Hp->Prop,(∃m,W 0 m σ H)/\∀i m σ H,W i m σ H ->
  ((Ite K a).stop i H/\D.nx σ H)\/((Ite K a).go i H/\∃N:St->Hp->Prop,(∀σ' H',N σ' H'->∃m',m' < m/\W (i+1) m' σ' H')/\∀x H',(Ite K a).yld i H x H'->g x σ H' fun σ2 H2=>tb { D with nx:=N,ct:=N,bk:=D.nx } σ2 H2):=by
 refine ⟨fun i m σ H=>m=xs.length - i/\i<=xs.length/\Pv i σ H,⟨xs.length,by simp,Nat.zero_le _,h0⟩,?_⟩;rintro i m σ H ⟨rfl,hi,p⟩;have q:=hl i σ H hi p;by_cases hlt:i < xs.length
 ·refine .inr ⟨⟨xs,xs[i],q,by simp [hlt]⟩,Pv (i+1),fun σ' H' p'=>⟨xs.length - (i+1),by ext,rfl,hlt,p'⟩,fun x H' y=>?_⟩;obtain ⟨T,y,rfl,hT,rfl,hy⟩:=y;exact hs i y T σ H (hy xs q) p hT
 ·have e:i=xs.length:=by ext
  subst e;exact .inl ⟨⟨xs,q,Nat.le_refl _⟩,hd σ H p⟩
section
variable {X:Cx}
theorem EM:∀{bs:List Bool} {us:List Value},AE (bs.map V.bl) us->us=bs.map Value.bool
 | [],_,.nil=>rfl
 | _ :: _,_,.cons r rr=>by
   cases r
   rw [EM rr];rfl
theorem MU (bs:List Bool):(List.range bs.length).all (fun i=>bs.getD i false)=bs.all id:=by
 rw [Bool.eq_iff_iff,all_eq_true,all_eq_true]
 constructor
 ·intro h b hb;obtain ⟨i,hi,rfl⟩:=mem_iff_getElem.mp hb;have:=h i (mem_range.mpr hi);simpa [getD_eq_getElem?_getD,hi] using this
 ·intro h i hi;have hi':=mem_range.mp hi;have:=h _ (getElem_mem hi');simpa [getD_eq_getElem?_getD,hi'] using this
theorem MX (bs:List Bool):(List.range bs.length).any (fun i=>bs.getD i false)=bs.any id:=by
 rw [Bool.eq_iff_iff,any_eq_true,any_eq_true]
 constructor
 ·rintro ⟨i,hi,h⟩;have hi':=mem_range.mp hi;exact ⟨_,getElem_mem hi',by simpa [getD_eq_getElem?_getD,hi'] using h⟩
 ·rintro ⟨b,hb,h⟩;obtain ⟨i,hi,rfl⟩:=mem_iff_getElem.mp hb;exact ⟨i,mem_range.mpr hi,by simpa [getD_eq_getElem?_getD,hi] using h⟩
theorem Gd {P:Program} {w:World} {A:Around} {bs:List Bool}:TruthOf P w A (fun i v=>(bs.map Value.bool).toArray[i]?=some v) (fun i=>bs.getD i false):=by
 intro i v s Q E hP hQ;have hP':(bs.map Value.bool)[i]?=some v:=by simpa using hP
 rw [List.getElem?_map] at hP'
 cases e:bs[i]? with
 | none=>rw [e] at hP';cases hP'
 | some b =>
   rw [e] at hP';have:Value.bool b=v:=Option.some.inj hP';subst this;refine wpAny_truthy_bool ?_;have e2:bs.getD i false=b:=by rw [getD_eq_getElem?_getD,e];rfl
   dsimp only at hQ;rw [e2] at hQ;exact hQ
theorem GB (hc:X.calm=true) {K:PySem.W.Frag} (hK:X.K=K:=by rfl):Cc X (.builtin "all") (fun xs H Q=>∃(a:Addr) (bs:List Bool),xs=[.ref a]/\SqL K H a (bs.map V.bl)/\Q (.bl (bs.all id)) H):=by
 subst hK;intro pins s σ H xs us Q I r h;obtain ⟨a,bs,rfl,hq,q⟩:=h;obtain ⟨u,rfl,rx⟩:=DE r
 cases rx
 obtain ⟨its,rv,pl,hz⟩:=I.list hq;have ei:=EM rv;subst ei;have lt:a < s.heap.objs.size:=by obtain ⟨o,q,_⟩:=pl.isList;exact Heap.lt_size q
 refine call_all_walk (wpAny_pyIter_list pl.isList ?_);refine ⟨_,_,_,_,_,_,_,rfl,Walks.list (A:=X.A.in1) (I.ok.hd hc) s.heap.objs.size a (Nat.ne_of_lt lt) (bs.map Value.bool).toArray,⟨⟨_,Heap.get?_push_size _ rfl,rfl,rfl⟩,pl.isList.at fun o q=>Heap.get?_push_of_some _ q⟩,Gd,fun h' tk hk=>?_⟩;rw [size_toArray,length_map,MU];exact ⟨.bl _,H,I.kept (t':=tk) fun b o q=>hk b o (by simpa using Nat.ne_of_lt (Heap.lt_size q)) (Heap.get?_push_of_some _ q),rfl,q⟩
theorem Oh (hc:X.calm=true) {K:PySem.W.Frag} (hK:X.K=K:=by rfl):Cc X (.builtin "any") (fun xs H Q=>∃(a:Addr) (bs:List Bool),xs=[.ref a]/\SqL K H a (bs.map V.bl)/\Q (.bl (bs.any id)) H):=by
 subst hK;intro pins s σ H xs us Q I r h;obtain ⟨a,bs,rfl,hq,q⟩:=h;obtain ⟨u,rfl,rx⟩:=DE r
 cases rx
 obtain ⟨its,rv,pl,hz⟩:=I.list hq;have ei:=EM rv;subst ei;have lt:a < s.heap.objs.size:=by obtain ⟨o,q,_⟩:=pl.isList;exact Heap.lt_size q
 refine call_any_walk (wpAny_pyIter_list pl.isList ?_);refine ⟨_,_,_,_,_,_,_,rfl,Walks.list (A:=X.A.in1) (I.ok.hd hc) s.heap.objs.size a (Nat.ne_of_lt lt) (bs.map Value.bool).toArray,⟨⟨_,Heap.get?_push_size _ rfl,rfl,rfl⟩,pl.isList.at fun o q=>Heap.get?_push_of_some _ q⟩,Gd,fun h' tk hk=>?_⟩;rw [size_toArray,length_map,MX];exact ⟨.bl _,H,I.kept (t':=tk) fun b o q=>hk b o (by simpa using Nat.ne_of_lt (Heap.lt_size q)) (Heap.get?_push_of_some _ q),rfl,q⟩
end
end L2
namespace L2
open PySem PySem.Spec PyProof.Rows
def Ps (n:Nat) (wi:TI) (g:TG) (tt:TT) (te:TE):TE:=fun σ H Q=>wi σ H fun J H1=>∀D,H1 D=none->∃W:Nat->Nat->List V->Hp->Prop,(∃m,W 0 m [] (upd H1 D (.lst [])))/\∀i m ys H2,W i m ys H2 ->
 H2 D=some (.lst ys)/\((J.stop i H2/\Q (.ref D) H2)\/(J.go i H2/\ys.length < sizeLine/\∀x H3,J.yld i H2 x H3->∀os:St,os.length=n->g x (σ++os) H3 fun σ4 H4=>(∃os':St,σ4=σ++os'/\os'.length=n)/\tt σ4 H4 fun b H5=>if b=true then te σ4 H5 fun y H6=>H6 D=some (.lst ys)/\∃m',m' < m/\W (i+1) m' (ys++[y]) (upd H6 D (.lst (ys++[y])))
  else ∃m',m' < m/\W (i+1) m' ys H5))
structure Eb (N Nc:List Str) (xs:List Str) (sc fsc:Scope):Prop where
 kind:sc.kind=.function
 cell:∀y∈sc.names,y.2≠.cell
 nm:∀y∈sc.names,y.2=.local->sc.names.lookup y.1=some .local
 own:∀x∈xs,sc.names.lookup x=some .local
 fr:∀y∈sc.names,y.2=.free->fsc.names.lookup y.1=some .cell\/fsc.names.lookup y.1=some .free
 len:Nc.length=N.length+xs.length
 nd:Nc.Nodup
 last:Nc.drop N.length=xs
 slot:((List.range N.length).all fun i=>match Nc[i]? with
  | some y=>(match sc.names.lookup y with | some .free=>N[i]? == some y | some .local=>false | some .cell=>false | _=>true)
  | none=>true)=true
theorem Eb.at {N Nc:List Str} {xs:List Str} {sc fsc:Scope} (C:Eb N Nc xs sc fsc) {i:Nat} {y:Str} (hi:i < N.length) (h:Nc[i]?=some y):sc.names.lookup y≠some .local/\sc.names.lookup y≠some .cell/\(sc.names.lookup y=some .free->N[i]?=some y):=by
 have q:=all_eq_true.mp C.slot i (mem_range.mpr hi);rw [h] at q;dsimp only at q
 cases e:sc.names.lookup y with
 | none=>exact ⟨fun z=>(nomatch z),fun z=>(nomatch z),fun z=>(nomatch z)⟩
 | some k =>
   rw [e] at q
   cases k with
   | «local»=>exact absurd (show false=true from q) Bool.false_ne_true
   | cell=>exact absurd (show false=true from q) Bool.false_ne_true
   | free=>exact ⟨fun z=>(nomatch z),fun z=>(nomatch z),fun _=>by simpa using q⟩
   | _=>exact ⟨fun z=>(nomatch z),fun z=>(nomatch z),fun z=>(nomatch z)⟩
theorem Fk {X:Cx} {N Nc xs:List Str} {sc fsc:Scope} {cl:List (Str × Addr)} {s:Shared} {H:Hp} {ex:List Addr} {x:Str} {px:Pos} {j n:Nat} (cn:Eb N Nc xs sc fsc) (hj:xs[j]?=some x) (hn:n=N.length+j):PG (X.inComp Nc sc cl s H ex) (.Name x px) (DT n):=by
 have own:(relabel sc X.env).names.lookup x=some .local:=by
  have e:=Ci X.env sc.names x;rw [cn.own x (mem_of_getElem? hj)] at e;exact e
 refine Ar (X:=X.inComp Nc sc cl s H ex) cn.nd ?_ (.inl own) (.inr own);show Nc[n]?=some x;rw [hn,<- List.getElem?_drop,cn.last];exact hj
theorem Sn {prog:Program} {w:World} {A:Around} {R:Result->Shared->Prop} {s:Shared} {elt tg iter:Expr} {ifs:List Expr} {scope:Scope} {pos:Pos} {it acc:Value} {env:Env} (I:Nat->Shared->Prop)
 (turn:∀n s,I n s->wpAny (model prog w) A (pyNext it) (fun r s₁=>match r with
  | none=>R (.ok .next) s₁
  | some v=>wpAny (model prog w) A (letOwnedTupleGo tg it v) (fun _ z=>wpAny (model prog w) A (assign tg env v) (fun _ s₂ =>
   wpAny (model prog w) A (forIn ifs true fun c r=>if r=true then do let ok <- isTrue c env (eval c env);pure (ForInStep.yield ok) else pure (ForInStep.yield r)) (fun ok s₃ =>
    if ok=true then wpAny (model prog w) A (eval elt env) (fun x s₄=>wpAny (model prog w) A (call (.builtin "list.append") [acc,x]) (fun _ s₅=>∃m,m < n/\I m s₅) (fun _ _=>False) s₄) (fun _ _=>False) s₃
    else ∃m,m < n/\I m s₃) (fun _ _=>False) s₂) (fun _ _=>False) z) (fun _ _=>False) s₁) (fun _ _=>False) s)
 (n:Nat) (h:I n s):codeAny (model prog w) A (.compLoop (.ListComp elt [⟨tg,iter,ifs,0⟩] scope pos) 0 it acc env) R s:=by
 refine codeAny_loop rfl I (fun k z y=>?_) n h;show wpAny _ A ((compTurn (.ListComp elt [⟨tg,iter,ifs,0⟩] scope pos) 0 it acc env).onRaise fun x=>do noteFrame x env;theTreesLotGoes x) _ _ z;refine wpAny_noted ?_;rw [compTurn_list];refine wpAny_bind (wpAny_standAt (wpAny_bind (EL (turn k z y) fun r s₁ q1=>?_)))
 cases r with
 | none=>exact wpAny_pure q1
 | some v =>
   refine wpAny_bind (EL q1 fun _ z q2=>wpAny_bind (EL q2 fun _ s₂ q3=>wpAny_bind (EL q3 fun ok s₃ q4=>?_)))
   cases ok with
   | false=>exact wpAny_pure ⟨rfl,q4⟩
   | true=>exact wpAny_bind (wpAny_bind (EL q4 fun x s₄ q5=>wpAny_bind (EL q5 fun _ s₅ q6=>wpAny_pure (wpAny_pure ⟨rfl,q6⟩))))
section
variable {X:Cx} {elt iter:Expr} {xs:List Str} {tg:Expr} {g:TG} {pos:Pos} {ifs:List Expr} {sc fsc:Scope} {N Nc:List Str} {wi:TI} {tt:TT} {te:TE}
theorem ED (hE:X.env.scope=fsc) (hXN:X.N=N) (cn:Eb N Nc xs sc fsc) (hc:X.calm=true)
 (hg:∀cl s H ex,PG (X.inComp Nc sc cl s H ex) tg g) (ht:∀cl s H ex,G5 (X.inComp Nc sc cl s H ex) ifs tt) (he:∀cl s H ex,PE (X.inComp Nc sc cl s H ex) elt te)
 {cl:List (Str × Addr)} (clS:∀y c,cl.lookup y=some c->X.env.cells.lookup y=some c) (clH:∀y∈sc.names,y.2=.free->∃c,cl.lookup y.1=some c)
 {pins:List (Addr × Obj)} {σ:St} {H2:Hp} {s2:Shared} {it:Addr} {fp:List Addr} {tn:Nat->Heap->Prop} {J:It} {Q:VK} {E:Value->Shared->Prop}
 (I2:Inv X pins σ H2 s2) (T:JU X.prog X.w X.K tg J fp it tn) (st2:tn 0 s2.heap) (f2:∀b∈fp,Gg X pins H2 b)
 (h2:∀D,H2 D=none->∃W:Nat->Nat->List V->Hp->Prop,(∃m,W 0 m [] (upd H2 D (.lst [])))/\∀i m ys H2,W i m ys H2 ->
  H2 D=some (.lst ys)/\((J.stop i H2/\Q (.ref D) H2)\/(J.go i H2/\ys.length < sizeLine/\∀x H3,J.yld i H2 x H3->∀os:St,os.length=xs.length->g x (σ++os) H3 fun σ4 H4=>(∃os':St,σ4=σ++os'/\os'.length=xs.length)/\tt σ4 H4 fun b H5=>if b=true then te σ4 H5 fun y H6=>H6 D=some (.lst ys)/\∃m',m' < m/\W (i+1) m' (ys++[y]) (upd H6 D (.lst (ys++[y])))
   else ∃m',m' < m/\W (i+1) m' ys H5))) :
 wpAny (model X.prog X.w) X.A (newList []) (fun acc s₃=>wpAny (model X.prog X.w) X.A (newFunctionEnv sc X.env.globals cl [] X.env.qual none .none (some X.env)) (fun cenv s₄ =>
  codeAny (model X.prog X.w) X.A (.compStart (.ListComp elt [⟨tg,iter,ifs,0⟩] sc pos) 0 (.ref it) acc { cenv with scope:=relabel sc X.env })
   (fun r s'=>r=.ok .next/\∃D H',acc=.ref D/\Inv X pins σ H' s'/\Q (.ref D) H'/\DY X pins H' cenv.locals/\∃m,s'.heap.Ns cenv.locals m) s₄) E s₃) E s2:=by
 refine wpAny_newObj_type (wpAny_newFunctionEnv cn.cell (by intro y hy;simp at hy) (fun h₁ hns₁ hsb₁=>?_) cn.kind);dsimp only at hns₁ hsb₁ ⊢;have hD:H2 s2.heap.objs.size=none:=I2.hok.fresh (Nat.le_refl _);obtain ⟨W,⟨m0,w0⟩,turn⟩:=h2 s2.heap.objs.size hD
 have I3:Inv X pins σ (upd H2 s2.heap.objs.size (.lst [])) { s2 with heap:=s2.heap.push { cls:=.type "list",dict:=none,data:=.seq ([]:List Value).toArray } } :=
  I2.laid (t':=s2.toks) (fun b u e=>Heap.get?_push_of_some _ e) (Nat.le_refl _) ⟨Nat.zero_le _,[],0,.nil,Heap.get?_push_size _ rfl⟩
 generalize hs3:({ s2 with heap:=s2.heap.push { cls:=.type "list",dict:=none,data:=.seq ([]:List Value).toArray } }:Shared)=s3 at I3;have eh:s3.heap=s2.heap.push { cls:=.type "list",dict:=none,data:=.seq ([]:List Value).toArray }:=by rw [<- hs3]
 have e2:({ s2 with heap:=h₁,toks:=s2.toks+([]:List (Str × Value)).length }:Shared)={ s3 with heap:=h₁,toks:=s3.toks }:=by rw [<- hs3];rfl
 generalize hH3:upd H2 s2.heap.objs.size (.lst [])=H3 at I3 w0;rw [<- eh] at hns₁ hsb₁ ⊢;rw [e2]
 have below2:∀b,b∈fp->b < s3.heap.objs.size:=fun b hb=>by
  obtain ⟨o,e,_⟩:=T.obj _ _ st2 b hb;have:s2.heap.objs.size<=s3.heap.objs.size:=by rw [eh,Heap.size_push];exact Nat.le_succ _
  exact Nat.lt_of_lt_of_le (Heap.lt_size e) this
 have old:∀b o,s3.heap.get? b=some o->h₁.get? b=some o:=fun b o e=>(hsb₁.2 b (Nat.ne_of_lt (Heap.lt_size e))).trans (Heap.get?_push_of_some _ e);have old2:∀b o,s2.heap.get? b=some o->s3.heap.get? b=some o:=fun b o e=>by rw [eh];exact Heap.get?_push_of_some _ e
 have hsz3:s2.heap.objs.size < s3.heap.objs.size:=by rw [eh,Heap.size_push];exact Nat.lt_succ_self _
 have fpFree:∀b∈fp,H3 b=none:=fun b hb=>by
  rw [<- hH3,Aj (fun z=>?_)]
  ·exact (f2 b hb).1
  ·obtain ⟨o,e,_⟩:=T.obj _ _ st2 b hb;have:=Heap.lt_size e;rw [z] at this;exact Nat.lt_irrefl _ this
 have rl:∀y,(relabel sc X.env).names.lookup y=(sc.names.lookup y).map fun k=>if (k == NameKind.free && X.env.scope.kind == .function && X.env.kindOf y == some .cell) then NameKind.cell else k:=fun y=>Ci X.env sc.names y;have freeOf:∀y,sc.names.lookup y=some .free->∃c,cl.lookup y=some c:=fun y e=>clH (y,.free) (PySem.mem_of_lookup e) rfl;have noCell:∀y,sc.names.lookup y≠some .cell:=fun y e=>cn.cell (y,.cell) (PySem.mem_of_lookup e) rfl
 have isFree:∀y,((relabel sc X.env).names.lookup y=some .cell\/(relabel sc X.env).names.lookup y=some .free)->sc.names.lookup y=some .free:=fun y h=>by
  rw [rl y] at h
  cases e:sc.names.lookup y with
  | none=>rw [e] at h;rcases h with z | z <;> exact absurd z (by simp)
  | some k =>
    rw [e] at h
    cases k with
    | free=>rfl
    | cell=>exact absurd e (noCell y)
    | «local»=>rcases h with z | z <;> exact absurd z (by simp)
    | _=>rcases h with z | z <;> exact absurd z (by simp)
 have exOk:∀b∈fp,b≠s3.heap.objs.size/\(∀y c,X.env.cells.lookup y=some c->c≠b)/\b ∉ frs X.stack:=fun b hb=>by
  obtain ⟨g0,g1,g2,g3,g4,g5⟩:=f2 b hb;refine ⟨Nat.ne_of_lt (below2 b hb),g4,fun z=>?_⟩;rcases mem_cons.mp (I2.stkSub b z) with z | z
  ·exact g1 z
  ·exact g2 z
 have hCnew:X.s₀.heap.objs.size<=s3.heap.objs.size:=I3.sz
 have hCcell:∀y c,X.env.cells.lookup y=some c->c≠s3.heap.objs.size:=fun y c e z=>by
  obtain ⟨v,q⟩:=I3.cell y c e;have:=q.lt;rw [z] at this;exact Nat.lt_irrefl _ this
 have hCpin:∀p∈X.pn++pins,p.1≠s3.heap.objs.size:=fun p hp z=>by
  have:=Heap.lt_size (I3.pin p hp).1;rw [z] at this;exact Nat.lt_irrefl _ this
 have okc:(X.inComp Nc sc cl s3 H3 fp).Ok:=by
  refine ⟨I3.ok.mod,cn.kind,I3.ok.glob,I3.ok.blt,Nat.le_refl _,fun y z c h1 h2=>I3.ok.inj y z c (clS y c h1) (clS z c h2),fun y hy=>freeOf y (isFree y hy),fun y c hf=>absurd (show false=true from hf) Bool.false_ne_true,I3.ok.hd,I3.ok.frames,.inl rfl,
   fun b hb=>⟨(exOk b hb).1,fun y c e=>(exOk b hb).2.1 y c (clS y c e)⟩,fun b o e=>I3.bs b o e,Nat.le_trans I3.ok.bsz I3.sz,fun b o e hb=>?_,fun b hb=>(exOk b hb).2.2,I3.stack,I3.stkFree⟩
  obtain ⟨g0,g1,g2,g3,g4,g5⟩:=f2 b hb;rcases g3 with z | z
  ·exact I3.ok.noex b o e z
  ·exact absurd (Heap.lt_size (I3.ok.bs b o e).1) (Nat.not_lt.mpr z)
 have hlen:σ.length=N.length:=by rw [I3.len,hXN]
 have Ic:Inv (X.inComp Nc sc cl s3 H3 fp) [] (σ++List.replicate xs.length none) H3 { s3 with heap:=h₁,toks:=s3.toks }:=by
  refine ⟨okc,rfl,I3.bare,Un.kept old,⟨_,hns₁,fun i y v h1 h2 h3=>?_⟩,fun y c e=>?_,I3.hok.fresh (Nat.le_refl _),fun y c e=>I3.freeC y c (clS y c e),fun p hp=>absurd (show p∈([]:List (Addr × Obj)) from hp) (by simp),I3.hok.kept old,?_⟩
  ·have hi:i < σ.length:=by
    by_cases hi:i < σ.length
    ·exact hi
    ·rw [List.getElem?_append_right (Nat.not_lt.mp hi)] at h2;rw [List.getElem?_replicate] at h2
     split at h2 <;> cases h2
   rw [List.getElem?_append_left hi] at h2;have hi':i < N.length:=by rw [<- hlen];exact hi
   obtain ⟨n1,n2,n3⟩:=cn.at hi' h1
   have hf:sc.names.lookup y=some .free:=by
    rcases h3 with z | z
    ·exfalso;have z':(relabel sc X.env).names.lookup y=some .local:=z;rw [rl y] at z'
     cases e:sc.names.lookup y with
     | none=>rw [e] at z';simp at z'
     | some k =>
       rw [e] at z'
       cases k with
       | «local»=>exact n1 e
       | cell=>exact n2 e
       | free =>
         simp only [Option.map_some,Option.some.injEq] at z'
         split at z' <;> cases z'
       | _=>simp at z'
    ·exact isFree y z
   have hN:X.N[i]?=some y:=by rw [hXN];exact n3 hf
   obtain ⟨m,hn,hl⟩:=I3.loc;have hv:fsc.names.lookup y=some .cell\/fsc.names.lookup y=some .free:=cn.fr (y,.free) (PySem.mem_of_lookup hf) rfl;have hv':X.env.scope.names.lookup y=some .cell\/X.env.scope.names.lookup y=some .free:=by rw [hE];exact hv
   obtain ⟨u,ru,lk⟩:=hl i y v hN h2 (.inr hv');refine ⟨u,ru,.inr ⟨?_,?_⟩⟩
   ·show (relabel sc X.env).names.lookup y=some .cell\/(relabel sc X.env).names.lookup y=some .free;rw [rl y,hf];simp only [Option.map_some,Option.some.injEq]
    split
    ·exact .inl rfl
    ·exact .inr rfl
   ·rcases lk with ⟨kl,_⟩ | ⟨_,c,hc,hcell⟩
    ·exfalso;have kl':X.env.scope.names.lookup y=some .local:=kl;rw [kl'] at hv';rcases hv' with z | z <;> cases z
    ·obtain ⟨d,hd⟩:=freeOf y hf;have ed:=clS y d hd;rw [hc] at ed
     cases ed
     exact ⟨c,hd,hcell.keeps old⟩
  ·obtain ⟨v,q⟩:=I3.cell y c (clS y c e);exact ⟨v,q.keeps old⟩
  ·show (σ++List.replicate xs.length none).length=Nc.length;rw [length_append,hlen,cn.len,length_replicate]
 have stc:tn 0 ({ s3 with heap:=h₁,toks:=s3.toks }:Shared).heap:=T.keep _ _ _ st2 fun b _ o e=>old b o (old2 b o e)
 have hDf:s2.heap.objs.size ∉ fp:=fun hm=>by
  obtain ⟨o,e,_⟩:=T.obj _ _ st2 _ hm;exact Nat.lt_irrefl _ (Heap.lt_size e)
 have fpc:∀{pins':List (Addr × Obj)} {H':Hp},pins'=[]->(∀b∈fp,H' b=none)->∀b∈fp,Gg (X.inComp Nc sc cl s3 H3 fp) pins' H' b:=fun {pins' H'} hp hn b hb=>by
  subst hp;exact ⟨hn b hb,(exOk b hb).1,(exOk b hb).2.2,.inl hb,fun y c e=>(exOk b hb).2.1 y c (clS y c e),fun p hp=>absurd (show p∈([]:List (Addr × Obj)) from hp) (by simp)⟩
 have loop:∀s₄:Shared,s₄={ s3 with heap:=h₁,toks:=s3.toks } ->
  codeAny (model X.prog X.w) X.A (.compLoop (.ListComp elt [⟨tg,iter,ifs,0⟩] sc pos) 0 (.ref it) (.ref s2.heap.objs.size) (compEnvC sc cl s3.heap.objs.size X.env))
   (fun r s'=>r=.ok .next/\∃D H',(Value.ref s2.heap.objs.size)=.ref D/\Inv X pins σ H' s'/\Q (.ref D) H'/\DY X pins H' s3.heap.objs.size/\∃m,s'.heap.Ns s3.heap.objs.size m) s₄:=by
  rintro s₄ rfl;refine Sn (fun n s'=>∃(i:Nat) (o:St) (H':Hp) (ys:List V),o.length=xs.length/\Inv (X.inComp Nc sc cl s3 H3 fp) [] (σ++o) H' s'/\tn i s'.heap/\(∀b∈fp,H' b=none)/\W i n ys H') ?_ m0 ⟨0,_,H3,[],length_replicate ..,Ic,stc,fpFree,w0⟩;rintro n s' ⟨i,o,H',ys,lo,I',st',fr',w'⟩;obtain ⟨hDl,tw⟩:=turn i n ys H' w';rcases tw with ⟨stop,q⟩ | ⟨go,hz,step⟩
  ·
   refine thn (T.done (X.inComp Nc sc cl s3 H3 fp) rfl rfl rfl hc i [] s' _ H' _ I' (fpc rfl fr') st' stop) fun r s5 ⟨hr,I5⟩=>?_;subst hr
   have Ix:Inv X pins σ H' s5:=I3.call' (ch:=fp) I5.os I5.base I5.hok I5.bare fun b hb=>by
    obtain ⟨g0,g1,g2,g3,g4,g5⟩:=f2 b hb;exact ⟨g3,g1,g4,g5⟩
   have hCf:H' s3.heap.objs.size=none:=I5.free;obtain ⟨m,hn,_⟩:=I5.loc;exact ⟨rfl,s2.heap.objs.size,H',rfl,Ix,q,⟨hCf,fun z=>Nat.lt_irrefl _ (by have:=I3.lt;rw [<- z] at this;exact this),hCnew,hCcell,hCpin⟩,m,hn⟩
  ·
   refine thn (T.item (X.inComp Nc sc cl s3 H3 fp) rfl rfl rfl hc i [] s' _ H' _ I' (fpc rfl fr') st' go) fun r s5 ⟨u,hr,h4⟩=>?_;subst hr;dsimp only;refine EL h4 fun _ s6 ⟨xv,H5,I5,r5,y5,st5,fr5⟩=>?_;have I5':=I5.pinned (fpc rfl fr5) (T.obj _ _ st5)
   have again:∀{o':St} {H7:Hp} {s7:Shared} {m':Nat} {ys':List V},o'.length=xs.length->Inv (X.inComp Nc sc cl s3 H3 fp) ([]++F5 fp s6.heap) (σ++o') H7 s7->m' < n->W (i+1) m' ys' H7 ->
    ∃m,m < n/\∃(i:Nat) (o:St) (H':Hp) (ys:List V),o.length=xs.length/\Inv (X.inComp Nc sc cl s3 H3 fp) [] (σ++o) H' s7/\tn i s7.heap/\(∀b∈fp,H' b=none)/\W i m ys H':=fun {o' H7 s7 m' ys'} lo' I7 hm w7=>by
    refine ⟨m',hm,i+1,o',H7,ys',lo',I7.unpinned,T.keep _ _ _ st5 fun b hb o e=>(I7.pin (b,o) (mem_append_right _ (mem_append_right _ (C4 hb e)))).1,fun b hb=>?_,w7⟩;obtain ⟨o',e,d⟩:=T.obj _ _ st5 b hb;exact (I7.pin (b,o') (mem_append_right _ (mem_append_right _ (C4 hb e)))).2.1
   refine EL (hg cl s3 H3 fp _ s6 _ H5 xv u _ I5' r5 (step xv _ y5 o lo)) fun _ s7 ⟨σ7,H7,I7,⟨o7,e7,lo7⟩,q7⟩=>?_;subst e7;refine EL (ht cl s3 H3 fp _ s7 _ _ _ I7 q7) fun b s8 ⟨H8,I8,q8⟩=>?_
   cases b with
   | false =>
     rw [if_neg Bool.false_ne_true] at q8 ⊢;obtain ⟨m',hm,w8⟩:=q8;exact again lo7 I8 hm w8
   | true =>
     rw [if_pos rfl] at q8 ⊢;refine EL (he cl s3 H3 fp _ s8 _ H8 _ I8 q8) fun y s9 ⟨yv,H9,I9,r9,hD9,m',hm,w9⟩=>?_;refine EL (Bn _ s9 _ H9 (.ref s2.heap.objs.size) [yv] (.ref s2.heap.objs.size) [y] (fun v H=>v=.non/\H=upd H9 s2.heap.objs.size (.lst (ys++[yv]))) I9 rfl (.cons r9 .nil) ⟨_,ys,yv,rfl,rfl,hD9,hz,rfl,rfl⟩) fun _ s10 ⟨v10,H10,I10,r10,e10,e11⟩=>?_;subst e11;exact again lo7 I10 hm w9
 exact codeAny_compStart_list (loop _ rfl) (T.self _ 0 _ _ _ stc (loop _ rfl))
theorem Fr (I:∀y,(X.env.kindOf y=some .cell\/X.env.kindOf y=some .free)->∃c,X.env.cells.lookup y=some c) (hE:X.env.scope=fsc) (cn:Eb N Nc xs sc fsc):∀y∈sc.names,y.2=.free->∃c,X.env.cells.lookup y.1=some c:=fun y hy hf=>by
 refine I y.1 ?_;show X.env.scope.names.lookup y.1=some .cell\/X.env.scope.names.lookup y.1=some .free;rw [hE];exact cn.fr y hy hf
theorem OO (hE:X.env.scope=fsc) (hXN:X.N=N) (cn:Eb N Nc xs sc fsc) (hc:X.calm=true) (hi:PI X tg iter wi)
 (hg:∀cl s H ex,PG (X.inComp Nc sc cl s H ex) tg g) (ht:∀cl s H ex,G5 (X.inComp Nc sc cl s H ex) ifs tt) (he:∀cl s H ex,PE (X.inComp Nc sc cl s H ex) elt te)
 (hs:∀v,foldedSetIterable iter X.env v=pure v:=by intro _;rfl):PE X (.ListComp elt [⟨tg,iter,ifs,0⟩] sc pos) (Ps xs.length wi g tt te):=by
 intro pins s σ H Q I h;obtain ⟨cl,hcl,clS,clH⟩:=Da (env:=X.env) (sc:=sc) (Fr I.ok.has hE cn);rw [eval_ListComp];refine wpAny_comprehension_free (use:=none) rfl hs hcl cn.kind cn.nm (thn (hi pins s σ H _ I h) fun v s1 h1=>thn h1 fun itv s2 h2=>?_);obtain ⟨it,fp,tn,J,H2,rfl,I2,T,st2,f2,h2⟩:=h2;refine thn (ED (pos:=pos) (iter:=iter) hE hXN cn hc hg ht he clS clH I2 T st2 f2 h2) fun acc s3 h3=>thn h3 fun cenv s4 h4=>codeAny_mono h4 fun r s' h5=>?_;obtain ⟨rfl,D,H',rfl,I',q,cloc,m,hn⟩:=h5;exact ⟨m,hn,fun h' k=>⟨.ref D,H',I'.sameBut cloc k,rfl,q⟩⟩
end
section
variable {X:Cx} {elt iter:Expr} {x1 x2 x3:Str} {p1 p2 p3 pt pos:Pos} {k:Nat} {ifs:List Expr} {sc fsc:Scope} {N Nc:List Str} {wi:TI} {tt:TT} {te:TE}
theorem ON (hE:X.env.scope=fsc) (hXN:X.N=N) (cn:Eb N Nc [x1,x2] sc fsc) (hc:X.calm=true) (hi:PI X (.Tuple [.Name x1 p1,.Name x2 p2] k pt) iter wi)
 (ht:∀cl s H ex,G5 (X.inComp Nc sc cl s H ex) ifs tt) (he:∀cl s H ex,PE (X.inComp Nc sc cl s H ex) elt te) (hs:∀v,foldedSetIterable iter X.env v=pure v:=by intro _;rfl) :
 PE X (.ListComp elt [⟨.Tuple [.Name x1 p1,.Name x2 p2] k pt,iter,ifs,0⟩] sc pos) (Ps 2 wi (Ri X.K 2 (Kk (DT N.length) (Kk (DT (N.length+1)) Rh))) tt te) :=
 OO hE hXN cn hc hi (fun cl s H ex=>Ds (X:=X.inComp Nc sc cl s H ex) hc (A6 (Fk (j:=0) cn rfl rfl) (A6 (Fk (j:=1) cn rfl rfl) Cl))) ht he hs
end
end L2
namespace L2
open PySem PySem.Spec PyProof.Rows
theorem DR.ns {N Nc:List Str} {x:Str} {sc fsc:Scope} (c:DR N Nc x sc fsc):Eb N Nc [x] sc fsc:=⟨c.kind,c.cell,c.nm,fun y m=>by rw [mem_singleton.mp m];exact c.own,c.fr,c.len,c.nd,by
 have l:=c.len;refine ext_getElem? fun i=>?_;rw [List.getElem?_drop]
 cases i with
 | zero=>exact c.last
 | succ i=>rw [List.getElem?_eq_none (by ext),List.getElem?_eq_none (by show 1<=i+1;ext)],c.slot⟩
section
variable {X:Cx} {elt iter:Expr} {x:Str} {px pos:Pos} {ifs:List Expr} {sc fsc:Scope} {N Nc:List Str} {wi:TI} {tt:TT} {te:TE}
theorem Ih {J:It} {σ:St} {H1:Hp} {Q:VK} {n:Nat} (hn:n=σ.length) (h:∀D,H1 D=none->∃W:Nat->Nat->List V->Hp->Prop,(∃m,W 0 m [] (upd H1 D (.lst [])))/\∀i m ys H2,W i m ys H2 ->
 H2 D=some (.lst ys)/\((J.stop i H2/\Q (.ref D) H2)\/(J.go i H2/\ys.length < sizeLine/\∀x H3,J.yld i H2 x H3->tt (σ++[some x]) H3 fun b H4=>if b=true then te (σ++[some x]) H4 fun y H5=>H5 D=some (.lst ys)/\∃m',m' < m/\W (i+1) m' (ys++[y]) (upd H5 D (.lst (ys++[y])))
  else ∃m',m' < m/\W (i+1) m' ys H4))) :
 ∀D,H1 D=none->∃W:Nat->Nat->List V->Hp->Prop,(∃m,W 0 m [] (upd H1 D (.lst [])))/\∀i m ys H2,W i m ys H2 ->
  H2 D=some (.lst ys)/\((J.stop i H2/\Q (.ref D) H2)\/(J.go i H2/\ys.length < sizeLine/\∀x H3,J.yld i H2 x H3->∀os:St,os.length=1->DT n x (σ++os) H3 fun σ4 H4=>(∃os':St,σ4=σ++os'/\os'.length=1)/\tt σ4 H4 fun b H5=>if b=true then te σ4 H5 fun y H6=>H6 D=some (.lst ys)/\∃m',m' < m/\W (i+1) m' (ys++[y]) (upd H6 D (.lst (ys++[y])))
   else ∃m',m' < m/\W (i+1) m' ys H5)):=by
 intro D hD;obtain ⟨W,w0,w1⟩:=h D hD;refine ⟨W,w0,fun i m ys H2 w=>?_⟩;obtain ⟨a,b⟩:=w1 i m ys H2 w;refine ⟨a,b.imp id fun ⟨c,d,e⟩=>⟨c,d,fun x H3 y os ho=>?_⟩⟩
 match os,ho with
 | [o],_ =>
   have e2:(σ++[o]).set n (some x)=σ++[some x]:=by rw [hn];exact KZ
   show (∃os':St,(σ++[o]).set n (some x)=σ++os'/\os'.length=1)/\_;rw [e2];exact ⟨⟨[some x],rfl,rfl⟩,e x H3 y⟩
theorem Be (hE:X.env.scope=fsc) (hXN:X.N=N) (cn:DR N Nc x sc fsc) (hc:X.calm=true) (hi:PI X (.Name x px) iter wi)
 (ht:∀cl s H ex,G5 (X.inComp Nc sc cl s H ex) ifs tt) (he:∀cl s H ex,PE (X.inComp Nc sc cl s H ex) elt te)
 (hs:∀v,foldedSetIterable iter X.env v=pure v:=by intro _;rfl):PE X (.ListComp elt [⟨.Name x px,iter,ifs,0⟩] sc pos) (Lj wi tt te):=by
 intro pins s σ H Q I h;obtain ⟨cl,hcl,clS,clH⟩:=Da (env:=X.env) (sc:=sc) (Fr I.ok.has hE cn.ns);rw [eval_ListComp];refine wpAny_comprehension_free (use:=none) rfl hs hcl cn.kind cn.nm (thn (hi pins s σ H _ I h) fun v s1 h1=>thn h1 fun itv s2 h2=>?_);obtain ⟨it,fp,tn,J,H2,rfl,I2,T,st2,f2,h2⟩:=h2;refine thn (ED (pos:=pos) (iter:=iter) hE hXN cn.ns hc (fun cl s H ex=>Fk (j:=0) cn.ns rfl rfl) ht he clS clH I2 T st2 f2 (Ih (by rw [I2.len,hXN];rfl) h2)) fun acc s3 h3=>thn h3 fun cenv s4 h4=>codeAny_mono h4 fun r s' h5=>?_;obtain ⟨rfl,D,H',rfl,I',q,cloc,m,hn⟩:=h5;exact ⟨m,hn,fun h' k=>⟨.ref D,H',I'.sameBut cloc k,rfl,q⟩⟩
theorem DL {j:Nat} {y:Str} {py spos:Pos} (hE:X.env.scope=fsc) (hXN:X.N=N) (cn:DR N Nc x sc fsc) (hc:X.calm=true) (hnd:X.N.Nodup) (hj:X.N[j]?=some y) (hy:X.env.scope.names.lookup y=some .local) (hi:PI X (.Name x px) iter wi)
 (ht:∀cl s H ex,G5 (X.inComp Nc sc cl s H ex) ifs tt) (he:∀cl s H ex,PE (X.inComp Nc sc cl s H ex) elt te)
 (hsw:swapsWith (.ListComp elt [⟨.Name x px,iter,ifs,0⟩] sc pos) (some (.Name y py)) spos.line X.env=pure true)
 (hs:∀v,foldedSetIterable iter X.env v=pure v:=by intro _;rfl):PS X (.Assign [.Name y py] (.ListComp elt [⟨.Name x px,iter,ifs,0⟩] sc pos) spos) (RE (Lj wi tt te) (DT j)):=by
 intro pins s σ H D I h;obtain ⟨cl,hcl,clS,clH⟩:=Da (env:=X.env) (sc:=sc) (Fr I.ok.has hE cn.ns);rw [exec_Assign_Name_used _ _ _ _ hsw];refine wpAny_bind (wpAny_standAt (wpAny_bind ?_));show wpAny _ X.A (do let _ <- comprehension (.ListComp elt [⟨.Name x px,iter,ifs,0⟩] sc pos) sc X.env _ (newList []) false (eval iter X.env) (some (assign (.Name y py) X.env))) _ _ s;refine wpAny_bind (thn (wpAny_comprehension_free (Q:=fun _ s'=>SP X pins D .next s') rfl hs hcl cn.kind cn.nm (thn (hi pins s σ H _ I h) fun v s1 h1=>thn h1 fun itv s2 h2=>?_)) fun _ s' hq=>wpAny_pure (wpAny_pure hq));obtain ⟨it,fp,tn,J,H2,rfl,I2,T,st2,f2,h2⟩:=h2;refine thn (ED (pos:=pos) (iter:=iter) (Q:=fun x H1=>DT j x σ H1 D.nx) hE hXN cn.ns hc (fun cl s H ex=>Fk (j:=0) cn.ns rfl rfl) ht he clS clH I2 T st2 f2 (Ih (Q:=fun x H1=>DT j x σ H1 D.nx) (by rw [I2.len,hXN];rfl) h2)) fun acc s3 h3=>thn h3 fun cenv s4 h4=>codeAny_mono h4 fun r s' h5=>?_;obtain ⟨rfl,D',H',rfl,I',q,cloc,m,hn⟩:=h5;refine wpAny_assign_Name (Jb (v:=.ref D') I' hnd hj (.inl hy) rfl (fun s6 I6 sb=>?_) (.inr hy));obtain ⟨a,k,ha⟩:=sb;refine ⟨m,hn.sameBut k (fun z=>?_),fun h' k'=>⟨_,H',I6.sameBut cloc k',q⟩⟩;rcases ha with ha | ha
 ·exact cloc.ne (z.trans ha)
 ·exact cloc.cells _ _ ha z.symm
end
end L2
namespace L2
open PySem PySem.Spec PyProof.Rows
def Itz (K:PySem.W.Frag) (a b:Addr):It :=
 ⟨fun i H=>∃xs ys x y,SqL K H a xs/\SqL K H b ys/\xs[i]?=some x/\ys[i]?=some y,fun i H x H'=>∃T y z,x=.ref T/\H T=none/\H'=upd H T (.tup [y,z])/\(∀xs,SqL K H a xs->xs[i]?=some y)/\∀xs,SqL K H b xs->xs[i]?=some z,
  fun i H=>∃xs ys,SqL K H a xs/\SqL K H b ys/\(xs.length<=i\/ys.length<=i)⟩
theorem NU {n a b:Nat} (ha:a < n) (hb:b < n):ZipApart (n+4) (n+2) (n+3) n (n+1) a b:=by
 constructor <;> (show @Ne Nat _ _) <;> ext
theorem P7 {z TO i1 i2 TI c:Addr} (h:c ∉ [z,TI,TO,i1,i2]):c≠z/\c≠TO/\c≠i1/\c≠i2 :=
 ⟨fun e=>h (by simp [e]),fun e=>h (by simp [e]),fun e=>h (by simp [e]),fun e=>h (by simp [e])⟩
theorem Pw {P:Program} {w:World} {K:PySem.W.Frag} {es:List Expr} {k:Nat} {pos:Pos} (a b z TI TO i1 i2:Addr) (D:ZipApart z TI TO i1 i2 a b) :
 JU P w K (.Tuple es k pos) (Itz K a b) [z,TI,TO,i1,i2] z (fun i h=>IsZip h z TI TO .none/\IsPair h TI (.ref i1) (.ref i2)/\(∃u v,IsPair h TO u v)/\h.IsListIter i1 a i/\h.IsListIter i2 b i) where
 mem:=by simp
 obj:=fun i h st c hc=>by
  obtain ⟨hz,hTI,⟨u,v,hTO⟩,⟨o1,e1,c1,d1⟩,o2,e2,c2,d2⟩:=st;simp only [mem_cons,List.not_mem_nil,or_false] at hc;rcases hc with q | q | q | q | q <;> subst q
  ·exact ⟨_,hz,fun v z=>by cases (show Data.fields _=Data.cell v from z)⟩
  ·exact ⟨_,hTI,fun v z=>by cases (show Data.seq _ _=Data.cell v from z)⟩
  ·exact ⟨_,hTO,fun v z=>by cases (show Data.seq _ _=Data.cell v from z)⟩
  ·exact ⟨o1,e1,fun v z=>by rw [d1] at z;cases z⟩
  ·exact ⟨o2,e2,fun v z=>by rw [d2] at z;cases z⟩
 keep:=fun i h h' st kk=>by
  obtain ⟨hz,hTI,⟨u,v,hTO⟩,h1,h2⟩:=st;exact ⟨kk z (by simp) _ hz,kk TI (by simp) _ hTI,⟨u,v,kk TO (by simp) _ hTO⟩,h1.at fun o q=>kk i1 (by simp) o q,h2.at fun o q=>kk i2 (by simp) o q⟩
 item:=by
  intro X hP hw hK hc i pins s σ H E I hf st hg;subst hP hw hK;obtain ⟨xs,ys,x,y,hx,hy,ex,ey⟩:=hg;obtain ⟨its,rv,p,_⟩:=I.list hx;obtain ⟨jts,rw',p',_⟩:=I.list hy;obtain ⟨u,hu,ru⟩:=rv.get ex;obtain ⟨v,hv,rv'⟩:=rw'.get ey;obtain ⟨hz,hTI,⟨c,d,hTO⟩,h1,h2⟩:=st;refine wpAny_pyNext_zip_item D hz hTI hTO h1 h2 p.isList p'.isList (x:=u) (y:=v) (by simpa using hu) (by simpa using hv) fun g1 z1 t1 a1 a2 nT hsz hk=>⟨_,rfl,?_⟩;refine wpAny_letOwnedTupleGo_zip z1 fun g2 z2 sb=>?_;have fr:H s.heap.objs.size=none:=I.hok.fresh (Nat.le_refl _)
  have lt:∀b∈[z,TI,TO,i1,i2],b < s.heap.objs.size:=fun b hb=>by
   obtain ⟨o1,e1,_⟩:=id h1;obtain ⟨o2,e2,_⟩:=id h2;simp only [mem_cons,List.not_mem_nil,or_false] at hb;rcases hb with q | q | q | q | q <;> subst q
   ·exact Heap.lt_size hz
   ·exact Heap.lt_size hTI
   ·exact Heap.lt_size hTO
   ·exact Heap.lt_size e1
   ·exact Heap.lt_size e2
  refine ⟨.ref s.heap.objs.size,upd H s.heap.objs.size (.tup [x,y]),?_,rfl,⟨_,x,y,rfl,fr,rfl,fun l hl=>by rw [I.list_inj hl hx];exact ex,fun l hl=>by rw [I.list_inj hl hy];exact ey⟩,
   ⟨z2,(sb.2 TI D.TIz).trans (hk TI _ D.TIz D.TITO D.TIi1 D.TIi2 hTI),⟨u,v,(sb.2 TO D.TOz).trans t1⟩,a1.at fun o q=>(sb.2 i1 D.i1z).trans q,a2.at fun o q=>(sb.2 i2 D.i2z).trans q⟩,fun b hb=>?_⟩
  ·refine I.laidTurned (fp:=[z,TI,TO,i1,i2]) (t':=s.toks) (fun c o hc q=>?_) hf (Nat.le_refl _) ?_
   ·obtain ⟨n1,n2,n3,n4⟩:=P7 hc;exact (sb.2 c n1).trans (hk c o n1 n2 n3 n4 q)
   ·exact ⟨by show 2<=sizeLine;decide,[u,v],.cons ru (.cons rv' .nil),⟨_,(sb.2 _ (Nat.ne_of_gt (lt z (by simp)))).trans nT,rfl,_,rfl⟩⟩
  ·rw [Aj (Nat.ne_of_lt (lt b hb))];exact (hf b hb).1
 done:=by
  intro X hP hw hK hc i pins s σ H E I hf st hg;subst hP hw hK;obtain ⟨xs,ys,hx,hy,en⟩:=hg;obtain ⟨its,rv,p,_⟩:=I.list hx;obtain ⟨jts,rw',p',_⟩:=I.list hy;obtain ⟨hz,hTI,⟨c,d,hTO⟩,h1,h2⟩:=st;have l1:=rv.length;have l2:=rw'.length;refine wpAny_pyNext_zip_end (I.ok.hd hc) D hz hTI hTO h1 h2 p.isList p'.isList ?_ fun h' hk=>⟨rfl,I.turnedAll (fp:=[z,TI,TO,i1,i2]) (t':=s.toks) (fun c o hc q=>?_) hf⟩
  ·rcases en with q | q
   ·exact .inl (by simp;ext)
   ·exact .inr (by simp;ext)
  ·obtain ⟨n1,n2,n3,n4⟩:=P7 hc;exact hk c o n1 n2 n3 n4 q
 self:=fun _ _ _ _ _ st h=>wpAny_pyIter_zip st.1 h
section
variable {X:Cx}
def SM (K:PySem.W.Frag) (ta:TA):TI:=fun σ H R=>ta σ H fun vs H1=>∃a b,vs=[.ref a,.ref b]/\(∃xs,SqL K H1 a xs)/\(∃ys,SqL K H1 b ys)/\R (Itz K a b) H1
theorem R5 {l m:Expr} {ta:TA} {p pos pt:Pos} {es:List Expr} {k:Nat} (hg:Gl X "zip") (hm:X.mg "zip"=none) (ha:PA X [l,m] ta) (hs:starEach [l,m] X.env=[(false,eval l X.env),(false,eval m X.env)]:=by rfl) (hs2:starEach [m] X.env=[(false,eval m X.env)]:=by rfl) :
 PI X (.Tuple es k pt) (.Call (.Name "zip" p) [l,m] [] pos) (SM X.K ta):=by
 intro pins s σ H R I h;refine Call_ (BX I hg hm boot_zip (PyProof.Rows.callWith_type1 (thn (ha pos pins s σ H _ I h) fun us s1 ⟨vs,H1,I1,r1,q1⟩=>?_) (by rw [hs,hs2]) (by rw [hs2];rfl)));obtain ⟨a,b,e,⟨xs,hx⟩,⟨ys,hy⟩,q⟩:=q1;subst e
 cases r1 with
 | cons r rr =>
   cases rr with
   | cons r' rr =>
     cases rr
     cases r
     cases r'
     obtain ⟨its,rv,p1,_⟩:=I1.list hx;obtain ⟨jts,rw',p2,_⟩:=I1.list hy;have lta:a < s1.heap.objs.size:=by obtain ⟨o,q,_⟩:=p1.isList;exact Heap.lt_size q
     have ltb:b < s1.heap.objs.size:=by obtain ⟨o,q,_⟩:=p2.isList;exact Heap.lt_size q
     refine call_zip_2 p1.isList p2.isList fun h' hz hTI hTO h1 h2 hsz hk=>?_;refine wpAny_pyIter_zip (s:={ s1 with heap:=h' }) hz ?_;have D:ZipApart (s1.heap.objs.size+4) (s1.heap.objs.size+2) (s1.heap.objs.size+3) s1.heap.objs.size (s1.heap.objs.size+1) a b:=NU lta ltb;refine ⟨s1.heap.objs.size+4,[s1.heap.objs.size+4,s1.heap.objs.size+2,s1.heap.objs.size+3,s1.heap.objs.size,s1.heap.objs.size+1],_,_,H1,rfl,I1.kept (t':=s1.toks) hk,Pw a b _ _ _ _ _ D,⟨hz,hTI,⟨_,_,hTO⟩,h1,h2⟩,fun c hc=>?_,q⟩
     have ge:s1.heap.objs.size<=c:=by
      simp only [mem_cons,List.not_mem_nil,or_false] at hc;rcases hc with q | q | q | q | q <;> rw [q] <;> first | exact Nat.le_refl _ | exact Nat.le_add_right _ _
     exact I1.fpOk ge (I1.hok.fresh ge)
end
section
variable {X:Cx}
end
theorem CD:∀ns ms:List Int,PyData.eqvAll (ns.map .int) (ms.map .int)=decide (ns=ms)
 | [],[]=>rfl
 | [],_ :: _=>rfl
 | _ :: _,[]=>rfl
 | n :: ns,m :: ms=>by
   show ((n == m) && PyData.eqvAll (ns.map .int) (ms.map .int))=_;rw [CD ns ms];by_cases h:n=m
   ·by_cases k:ns=ms
    ·subst h;subst k;simp
    ·simp [h,k]
   ·simp [h]
theorem GJ:∀ns:List Int,PyData.canLayAll0 (ns.map .int)=true/\PyData.depthAll (ns.map .int)<=0
 | []=>⟨rfl,Nat.le_refl _⟩
 | n :: ns=>by
   obtain ⟨h1,h2⟩:=GJ ns;refine ⟨?_,?_⟩
   ·show (true && PyData.canLayAll0 (ns.map .int))=true;rw [h1];rfl
   ·show max 0 (PyData.depthAll (ns.map .int))<=0;ext
theorem Bq (ns:List Int):SeqAt.shaped (.tuple (ns.map .int))=true/\SeqAt.shaped (.list (ns.map .int))=true:=by
 obtain ⟨h1,h2⟩:=GJ ns
 constructor
 ·unfold SeqAt.shaped;rw [Bool.and_eq_true];refine ⟨h1,decide_eq_true ?_⟩;show PyData.depthAll (ns.map .int)+1<=64;ext
 ·unfold SeqAt.shaped;rw [Bool.and_eq_true];refine ⟨h1,decide_eq_true ?_⟩;show PyData.depthAll (ns.map .int)+1<=64;ext
section
variable {X:Cx}
end
end L2
namespace L2
open PySem PySem.Spec PyProof.Rows
namespace CutT
open HT
section
variable {prog:Program} {w:World} {A:Around} {E:Value->Shared->Prop} {s:Shared}
end
end CutT
end L2
namespace L2
open PySem PySem.Spec PyProof.Rows
section
variable {prog:Program} {w:World} {A:Around} {E:Value->Shared->Prop} {s:Shared}
end
section
variable {M:Model} {A:Around} {E:Value->Shared->Prop} {s:Shared} {env:Env}
end
section
variable {X:Cx}
end
end L2
namespace L2
open PySem PySem.Spec PyProof.Rows
theorem map_erase {α β:Type} (f:α->β):∀(xs:List α) (j:Nat),(xs.map f).eraseIdx j=(xs.eraseIdx j).map f
 | [],_=>rfl
 | _ :: _,0=>rfl
 | x :: xs,j+1=>congrArg (f x :: ·) (map_erase f xs j)
section
variable {X:Cx}
def Qv:V->List V->Hp->VK->Prop:=fun x vs H Q=>∃(l:Addr) (ns:List Int) (k:Int),x=.ref l/\vs=[.int k]/\H l=some (.lst (ns.map V.int))/\k∈ns/\Q .non (upd H l (.lst ((ns.eraseIdx (ns.idxOf k)).map V.int)))
theorem Iw:MtM X "list.remove" Qv:=by
 intro pins s σ H x vs v us Q I rx rv h;obtain ⟨l,ns,k,rfl,rfl,hH,hk,q⟩:=h
 cases rx
 obtain ⟨u,rfl,ru⟩:=rv.one;obtain ⟨t,rfl⟩:=ru;obtain ⟨z,its,n,r,hl,e⟩:=I.lstM hH;have hi:=BJ r;have hn:=hi.length;have hj:ns.idxOf k < ns.length:=idxOf_lt_length_iff.mpr hk;have ml:(ns.map V.int).length=ns.length:=length_map ..;refine call_meets PySem.F.slot_list_remove ⟨_,e,rfl⟩ PySem.F.entry_list_remove (PySem.F.args_list_remove_2 _ _) (MeetsSeq.list_remove l its.toArray n (.int k t) (isInt k) (fun y hy=>eq_isInt k t hi y (by simpa using hy)) (ns.idxOf k) (by rw [size_toArray];ext) ?_ ?_ (by rw [size_toArray];ext)) ⟨e,?_⟩
 ·have:isInt k its[ns.idxOf k]=true:=by rw [isInt_at k hi _ (by ext) hj];simpa using getElem_idxOf hj
  exact this
 ·intro j hjs hlt;have:isInt k its[j]=false:=by rw [isInt_at k hi j (by simpa using hjs) (by ext)];exact ne_of_lt_idxOf hlt _
  exact this
 ·rw [<- map_erase] at q;refine ⟨.non,_,I.lset (its':=its.eraseIdx (ns.idxOf k)) hH e ?_ (r.eraseIdx (ns.idxOf k)) ?_,rfl,q⟩
  ·show its.toArray.eraseIdxIfInBounds (ns.idxOf k)=(its.eraseIdx (ns.idxOf k)).toArray;rw [eraseIdxIfInBounds_toArray]
  ·have:=Fx (ns.map V.int) (ns.idxOf k);ext
end
theorem Ln:∀{xs:List V} {us:List Value},xs.length=us.length->(∀(i:Nat) x u,xs[i]?=some x->us[i]?=some u->AF x u)->AE xs us
 | [],[],_,_=>.nil
 | [],_ :: _,h,_=>by cases h
 | _ :: _,[],h,_=>by cases h
 | x :: xs,u :: us,h,k=>.cons (k 0 x u rfl rfl) (Ln (Nat.succ.inj h) fun i y v h1 h2=>k (i+1) y v h1 h2)
section
variable {X:Cx} {e:Expr} {te:TE} {p p2 pos pos2:Pos}
def Q8 (te:TE):TE:=fun σ H Q=>te σ H fun x H1=>∃n:Nat,x=.int (n:Int)/\n < 1000/\∀l,H1 l=none->Q (.ref l) (upd H1 l (.lst ((List.range n).map fun i:Nat=>V.int (i:Int))))
theorem Ck (hc:X.calm=true) (hg:Gl X "list") (hm:X.mg "list"=none) (hg2:Gl X "range") (hm2:X.mg "range"=none) (he:PE X e te)
 (hs:starEach [e] X.env=[(false,eval e X.env)]:=by rfl)
 (hs2:starEach [(.Call (.Name "range" p2) [e] [] pos2:Expr)] X.env=[(false,eval (.Call (.Name "range" p2) [e] [] pos2) X.env)]:=by rfl) :
 PE X (.Call (.Name "list" p) [.Call (.Name "range" p2) [e] [] pos2] [] pos) (Q8 te):=by
 intro pins s σ H Q I h;refine wpAny_Call_Name_kw (BX I hg hm boot_list ?_ (by decide) (by decide));refine callWith_type1 ?_ hs2 rfl;rw [hs2];refine Calls.spliced_cons ?_;refine wpAny_Call_Name_kw (BX I hg2 hm2 boot_range ?_ (by decide) (by decide));refine callWith_type1 ?_ hs rfl;rw [hs];refine Calls.spliced_cons (thn (he pins s σ H _ I h) fun u s1 ⟨x,H1,I1,r1,n,hx,hn,q⟩=>?_);subst hx;obtain ⟨t,rfl⟩:=r1;refine Calls.spliced_nil ?_;refine call_range_1 ?_;refine Calls.spliced_nil ?_;refine call_list_range (n:=n) (I1.ok.hd hc) (IsRange.new ..) (small_one (by ext) (by ext) (by ext) (by ext)) (by rw [rangeSize_one];split <;> ext) (by ext) fun h' tk acc c' kp eS it=>?_;have kp':∀b o,s1.heap.get? b=some o->h'.get? b=some o:=fun b o e=>kp b o (Heap.get?_push_of_some _ e);have hp:s1.heap.objs.size<=(s1.heap.push { cls:=.type "range",data:=.fields #[.int 0 s1.toks,.int (n:Int) t,.int 1 (s1.toks+1)] }).objs.size:=by simp [Heap.push]
 have rv:AE ((List.range n).map fun i:Nat=>V.int (i:Int)) acc.toList:=by
  refine Ln (by simp [it.1]) fun i x u hx hu=>?_;rw [List.getElem?_map] at hx;obtain ⟨t',e⟩:=it.2 i u (by simpa using hu)
  have hi:i < n:=by
   have:=(List.getElem?_eq_some_iff.mp hu).1;rw [Array.length_toList,it.1] at this;exact this
  rw [List.getElem?_range hi] at hx;have hx':x=V.int (i:Int):=(Option.some.inj hx).symm;subst hx';exact ⟨t',by rw [e];simp⟩
 have hz:((List.range n).map fun i:Nat=>V.int (i:Int)).length<=sizeLine:=by rw [length_map,length_range];exact Nat.le_of_lt (AU (by ext))
 exact ⟨.ref _,_,I1.laid (t':=tk) kp' hp (show Bl X.prog X.w _ h' _ (.lst ((List.range n).map fun i:Nat=>V.int (i:Int))) from ⟨hz,acc.toList,c',rv,by simpa using eS⟩),rfl,q _ (I1.hok.fresh hp)⟩
end
section
variable {prog:Program} {w:World} {A:Around} {E:Value->Shared->Prop} {s:Shared}
end
section
variable {X:Cx}
end
end L2
namespace L2
open PySem PySem.Spec PyProof.Rows
section
variable {P:Program} {w:World} {K:PySem.W.Frag} {mg:Str->Option Value} {base:Heap}
end
section
variable {X:Cx} {k:Nat} {f:Addr} {fd:FuncData} {ps:List Str} {sp:Sp} {x:Str} {p pos:Pos} {e:Expr} {es:List Expr} {t:TA}
end
section
variable {X:Cx}
end
end L2
namespace L2
open PySem PySem.Spec PyProof.Rows
section
variable {prog:Program} {w:World} {A:Around} {E:Value->Shared->Prop} {s:Shared}
end
section
variable {X:Cx} {pins:List (Addr × Obj)} {σ:St} {H:Hp}
end
end L2
namespace L2
open PySem PySem.Spec PyProof.Rows
section
variable {prog:Program} {w:World} {A:Around} {E:Value->Shared->Prop} {s:Shared}
end
section
variable {X:Cx}
end
end L2
namespace L2
open PySem PySem.Spec PyProof.Rows
structure P8 (K:PySem.W.Frag) (x qual:Str) (st:Stmt) (f:Addr) (fd:FuncData):Prop where
 ex:∃(oc:Value) (od:Option Addr) (dV kV doc pm:Value) (an:Option Addr) (cdv ct:Value) (osl:Array (Option Value)),
  fd=PySem.W.fnOf x qual (Ez st) (CQ st) (Af st) dV kV doc pm an cdv ct/\K.lookup f=some ⟨oc,od,.func fd,osl⟩/\PySem.W.codeIn K cdv qual=true
 kp:PySem.W.keepIn K (.ref f)=true
section
variable {P:Program} {w:World} {K:PySem.W.Frag} {mg:Str->Option Value} {base:Heap}
theorem P8.ok {x qual:Str} {st:Stmt} {f:Addr} {fd:FuncData} {N ps:List Str} {k:Nat} {sp:Sp} (F:P8 K x qual st f fd) (S:Ap N ps (Af st)) (len:∀vs H Q E,sp vs H Q E->vs.length=ps.length)
 (hbody:∀(cdv:Value) (A:Around) (outer:List Env) (s:Shared) (H:Hp) (vs:List V) (Q:VK) (E:XK),CB k (A.deeper (envOfC qual (Af st) s.heap.objs.size f cdv))->sp vs H Q E ->
  ∃t,PSs (Kd CX0 P w K mg base N qual (Af st) f cdv A outer s H E).nox (CQ st) t/\t { nx:=fun _ H'=>Q .non H',rt:=Q } (start N vs) H):AZ P w K mg base CX0 (k+1) f fd ps sp:=by
 obtain ⟨oc,od,dV,kV,doc,pm,an,cdv,ct,osl,rfl,lk,hcd⟩:=F.ex;refine O0 lk hcd S len fun A outer s H vs Q E hr hsp=>?_;obtain ⟨t,h,q⟩:=hbody cdv A outer s H vs Q E hr hsp;exact ⟨t,h.nox,q⟩
theorem fund_mk {x qual:Str} {st:Stmt} {f:Addr} {oc:Value} {od an:Option Addr} {osl:Array (Option Value)} {dV kV doc pm cdv ct:Value} (l:K.lookup f=some ⟨oc,od,.func (PySem.W.fnOf x qual (Ez st) (CQ st) (Af st) dV kV doc pm an cdv ct),osl⟩)
 (c:PySem.W.codeIn K cdv qual=true) (k:PySem.W.keepIn K (.ref f)=true):P8 K x qual st f (PySem.W.fnOf x qual (Ez st) (CQ st) (Af st) dV kV doc pm an cdv ct):=⟨⟨oc,od,dV,kV,doc,pm,an,cdv,ct,osl,rfl,l,c⟩,k⟩
end
section
variable {X:Cx} {CX:CXT} {W:St->XK} {k:Nat} {f C:Addr} {fd:FuncData} {ps:List Str} {sp:Sp} {dvs:List V} {ds:List Value} {E:XK} {x m:Str} {p pos apos:Pos} {e o:Expr} {es:List Expr} {ta:TE} {t:TA}
end
end L2
namespace L2
open PySem PySem.Spec PyProof.Rows
def Cx.inCompC (X:Cx) (Nc:List Str) (sc:Scope) (x:Str) (cl:List (Str × Addr)) (s:Shared) (H:Hp) (ex:List Addr):Cx :=
 { X with N:=Nc,s₀:=s,H₀:=H,env:=compEnvC sc ((x,s.heap.objs.size+1) :: cl) s.heap.objs.size X.env,outer:=X.stack,stack:=X.stack,ex:=ex,fn:=fun y=>decide (y=x),pn:=[],xe:=fun _ _=>False }
structure Gy (N Nc:List Str) (x:Str) (sc fsc:Scope):Prop where
 kind:sc.kind=.function
 one:(sc.names.filter fun y=>y.2 == .cell)=[(x,.cell)]
 nm:∀y∈sc.names,y.2=.local->sc.names.lookup y.1=some .local
 own:sc.names.lookup x=some .cell
 fr:∀y∈sc.names,y.2=.free->fsc.names.lookup y.1=some .cell\/fsc.names.lookup y.1=some .free
 len:Nc.length=N.length+1
 nd:Nc.Nodup
 last:Nc[N.length]?=some x
 slot:((List.range N.length).all fun i=>match Nc[i]? with
  | some y=>(match sc.names.lookup y with | some .free=>N[i]? == some y | some .local=>false | some .cell=>false | _=>true)
  | none=>true)=true
theorem Gy.at {N Nc:List Str} {x:Str} {sc fsc:Scope} (C:Gy N Nc x sc fsc) {i:Nat} {y:Str} (hi:i < N.length) (h:Nc[i]?=some y):sc.names.lookup y≠some .local/\sc.names.lookup y≠some .cell/\(sc.names.lookup y=some .free->N[i]?=some y):=by
 have q:=all_eq_true.mp C.slot i (mem_range.mpr hi);rw [h] at q;dsimp only at q
 cases e:sc.names.lookup y with
 | none=>exact ⟨fun z=>(nomatch z),fun z=>(nomatch z),fun z=>(nomatch z)⟩
 | some k =>
   rw [e] at q
   cases k with
   | «local»=>exact absurd (show false=true from q) Bool.false_ne_true
   | cell=>exact absurd (show false=true from q) Bool.false_ne_true
   | free=>exact ⟨fun z=>(nomatch z),fun z=>(nomatch z),fun _=>by simpa using q⟩
   | _=>exact ⟨fun z=>(nomatch z),fun z=>(nomatch z),fun z=>(nomatch z)⟩
theorem C0:∀(names:List (Str × NameKind)) (n:Nat) (acc:List (Str × Addr)),cellsFrom n names acc=cellsFrom n (names.filter fun y=>y.2 == .cell) acc
 | [],_,_=>rfl
 | (y,k) :: r,n,acc=>by
   rw [filter_cons]
   cases e:k == NameKind.cell with
   | true=>simp only [if_true,cellsFrom,e];exact C0 r _ _
   | false=>simp only [Bool.false_eq_true,if_false,cellsFrom,e];exact C0 r _ _
theorem C6:∀(names:List (Str × NameKind)) (h:Heap),pushCells h names=pushCells h (names.filter fun y=>y.2 == .cell)
 | [],_=>rfl
 | (y,k) :: r,h=>by
   rw [filter_cons]
   cases e:k == NameKind.cell with
   | true=>simp only [if_true,pushCells,e];exact C6 r _
   | false=>simp only [Bool.false_eq_true,if_false,pushCells,e];exact C6 r _
theorem HV {M:Model} {A:Around} {E:Value->Shared->Prop} {s:Shared} {scope:Scope} {globals:Addr} {closure:List (Str × Addr)} {qual:Str} {outer:Env} {x:Str} {Q:Env->Shared->Prop}
 (one:(scope.names.filter fun y=>y.2 == .cell)=[(x,.cell)])
 (hQ:Q (newEnv scope s.heap.objs.size globals ((x,s.heap.objs.size+1) :: closure) qual none .none (some outer) builtinsNs) { s with heap:=(s.heap.push { cls:=.type "dict",data:=.dict #[] }).push { cls:=.type "cell",data:=.cell none } }) :
 wpAny M A (newFunctionEnv scope globals closure [] qual none .none (some outer)) Q E s:=by
 simp only [newFunctionEnv,Option.isSome_some,if_true];refine wpAny_bind (wpAny_alloc ?_);refine wpAny_bind (wpAny_layCells _ (fun name kind cells=>by cases hkc:kind == NameKind.cell <;> simp [hkc]) _ _ _ _ ?_);rw [C0,C6,one];rw [show ({ s with heap:=s.heap.push { cls:=.type "dict",data:=.dict #[] } }:Shared).heap.objs.size=s.heap.objs.size+1 from Heap.size_push ..];rw [forIn_nil];exact wpAny_bind (wpAny_pure (wpAny_pure hQ))
section
variable {X:Cx} {elt iter:Expr} {x:Str} {px pos:Pos} {ifs:List Expr} {sc fsc:Scope} {N Nc:List Str} {wi:TI} {tt:TT} {te:TE}
theorem Lz (hE:X.env.scope=fsc) (hXN:X.N=N) (cn:Gy N Nc x sc fsc) (hc:X.calm=true)
 (ht:∀cl s H ex,G5 (X.inCompC Nc sc x cl s H ex) ifs tt) (he:∀cl s H ex,PE (X.inCompC Nc sc x cl s H ex) elt te)
 {cl:List (Str × Addr)} (clS:∀y c,cl.lookup y=some c->X.env.cells.lookup y=some c) (clH:∀y∈sc.names,y.2=.free->∃c,cl.lookup y.1=some c)
 {pins:List (Addr × Obj)} {σ:St} {H2:Hp} {s2:Shared} {it:Addr} {fp:List Addr} {tn:Nat->Heap->Prop} {J:It} {Q:VK} {E:Value->Shared->Prop}
 (I2:Inv X pins σ H2 s2) (T:JU X.prog X.w X.K (.Name x px) J fp it tn) (st2:tn 0 s2.heap) (f2:∀b∈fp,Gg X pins H2 b)
 (h2:∀D,H2 D=none->∃W:Nat->Nat->List V->Hp->Prop,(∃m,W 0 m [] (upd H2 D (.lst [])))/\∀i m ys H2,W i m ys H2 ->
  H2 D=some (.lst ys)/\((J.stop i H2/\Q (.ref D) H2)\/(J.go i H2/\ys.length < sizeLine/\∀x H3,J.yld i H2 x H3->tt (σ++[some x]) H3 fun b H4=>if b=true then te (σ++[some x]) H4 fun y H5=>H5 D=some (.lst ys)/\∃m',m' < m/\W (i+1) m' (ys++[y]) (upd H5 D (.lst (ys++[y])))
   else ∃m',m' < m/\W (i+1) m' ys H4))) :
 wpAny (model X.prog X.w) X.A (newList []) (fun acc s₃=>wpAny (model X.prog X.w) X.A (newFunctionEnv sc X.env.globals cl [] X.env.qual none .none (some X.env)) (fun cenv s₄ =>
  codeAny (model X.prog X.w) X.A (.compStart (.ListComp elt [⟨.Name x px,iter,ifs,0⟩] sc pos) 0 (.ref it) acc { cenv with scope:=relabel sc X.env })
   (fun r s'=>r=.ok .next/\∃D H',acc=.ref D/\Inv X pins σ H' s'/\Q (.ref D) H'/\DY X pins H' cenv.locals/\∃m,s'.heap.Ns cenv.locals m) s₄) E s₃) E s2:=by
 refine wpAny_newObj_type (HV cn.one ?_);dsimp only;have hD:H2 s2.heap.objs.size=none:=I2.hok.fresh (Nat.le_refl _);obtain ⟨W,⟨m0,w0⟩,turn⟩:=h2 s2.heap.objs.size hD
 have I3:Inv X pins σ (upd H2 s2.heap.objs.size (.lst [])) { s2 with heap:=s2.heap.push { cls:=.type "list",dict:=none,data:=.seq ([]:List Value).toArray } } :=
  I2.laid (t':=s2.toks) (fun b u e=>Heap.get?_push_of_some _ e) (Nat.le_refl _) ⟨Nat.zero_le _,[],0,.nil,Heap.get?_push_size _ rfl⟩
 generalize hs3:({ s2 with heap:=s2.heap.push { cls:=.type "list",dict:=none,data:=.seq ([]:List Value).toArray } }:Shared)=s3 at I3;have eh:s3.heap=s2.heap.push { cls:=.type "list",dict:=none,data:=.seq ([]:List Value).toArray }:=by rw [<- hs3]
 generalize hH3:upd H2 s2.heap.objs.size (.lst [])=H3 at I3 w0;rw [<- eh];have hns₁:((s3.heap.push { cls:=.type "dict",data:=.dict #[] }).push { cls:=.type "cell",data:=.cell none }).Ns s3.heap.objs.size (fun _=>none):=(Heap.Ns.new s3.heap (.type "dict")).keeps fun b o e=>Heap.get?_push_of_some _ e
 have hcell₁:((s3.heap.push { cls:=.type "dict",data:=.dict #[] }).push { cls:=.type "cell",data:=.cell none }).IsCell (s3.heap.objs.size+1) none:=by
  refine ⟨{ cls:=.type "cell",data:=.cell none },?_,rfl⟩;have:=Heap.get?_push_size (s3.heap.push { cls:=.type "dict",data:=.dict #[] }) (o:={ cls:=.type "cell",data:=.cell none }) rfl;rw [Heap.size_push] at this;exact this
 have old:∀b o,s3.heap.get? b=some o->((s3.heap.push { cls:=.type "dict",data:=.dict #[] }).push { cls:=.type "cell",data:=.cell none }).get? b=some o:=fun b o e=>Heap.get?_push_of_some _ (Heap.get?_push_of_some _ e);have e2:({ s2 with heap:=(s3.heap.push { cls:=.type "dict",data:=.dict #[] }).push { cls:=.type "cell",data:=.cell none } }:Shared)={ s3 with heap:=(s3.heap.push { cls:=.type "dict",data:=.dict #[] }).push { cls:=.type "cell",data:=.cell none },toks:=s3.toks }:=by rw [<- hs3]
 rw [e2];generalize (s3.heap.push { cls:=.type "dict",data:=.dict #[] }).push { cls:=.type "cell",data:=.cell none }=h₁ at hns₁ hcell₁ old ⊢
 have below2:∀b,b∈fp->b < s3.heap.objs.size:=fun b hb=>by
  obtain ⟨o,e,_⟩:=T.obj _ _ st2 b hb;have:s2.heap.objs.size<=s3.heap.objs.size:=by rw [eh,Heap.size_push];exact Nat.le_succ _
  exact Nat.lt_of_lt_of_le (Heap.lt_size e) this
 have old2:∀b o,s2.heap.get? b=some o->s3.heap.get? b=some o:=fun b o e=>by rw [eh];exact Heap.get?_push_of_some _ e
 have hsz3:s2.heap.objs.size < s3.heap.objs.size:=by rw [eh,Heap.size_push];exact Nat.lt_succ_self _
 have fpFree:∀b∈fp,H3 b=none:=fun b hb=>by
  rw [<- hH3,Aj (fun z=>?_)]
  ·exact (f2 b hb).1
  ·obtain ⟨o,e,_⟩:=T.obj _ _ st2 b hb;have:=Heap.lt_size e;rw [z] at this;exact Nat.lt_irrefl _ this
 have rl:∀y,(relabel sc X.env).names.lookup y=(sc.names.lookup y).map fun k=>if (k == NameKind.free && X.env.scope.kind == .function && X.env.kindOf y == some .cell) then NameKind.cell else k:=fun y=>Ci X.env sc.names y;have freeOf:∀y,sc.names.lookup y=some .free->∃c,cl.lookup y=some c:=fun y e=>clH (y,.free) (PySem.mem_of_lookup e) rfl
 have onlyX:∀y,sc.names.lookup y=some .cell->y=x:=fun y e=>by
  have m:(y,NameKind.cell)∈sc.names.filter fun y=>y.2 == .cell:=mem_filter.mpr ⟨PySem.mem_of_lookup e,rfl⟩;rw [cn.one] at m;exact (Prod.mk.inj (mem_singleton.mp m)).1
 have clD:∀y c,((x,s3.heap.objs.size+1) :: cl).lookup y=some c->(y=x/\c=s3.heap.objs.size+1)\/(y≠x/\cl.lookup y=some c):=fun y c e=>by
  rw [lookup_cons] at e
  cases hb:y == x with
  | true=>rw [hb] at e;exact .inl ⟨by simpa using hb,(Option.some.inj e).symm⟩
  | false=>rw [hb] at e;exact .inr ⟨by simpa using hb,e⟩
 have clN:∀y c,y≠x->cl.lookup y=some c->((x,s3.heap.objs.size+1) :: cl).lookup y=some c:=fun y c n e=>by
  rw [lookup_cons,show (y == x)=false by simpa using n];exact e
 have clX:((x,s3.heap.objs.size+1) :: cl).lookup x=some (s3.heap.objs.size+1):=by rw [lookup_cons,show (x == x)=true by simp]
 have isFree:∀y,((relabel sc X.env).names.lookup y=some .cell\/(relabel sc X.env).names.lookup y=some .free)->(sc.names.lookup y=some .free\/y=x):=fun y h=>by
  rw [rl y] at h
  cases e:sc.names.lookup y with
  | none=>rw [e] at h;rcases h with z | z <;> exact absurd z (by simp)
  | some k =>
    rw [e] at h
    cases k with
    | free=>exact .inl rfl
    | cell=>exact .inr (onlyX y e)
    | «local»=>rcases h with z | z <;> exact absurd z (by simp)
    | _=>rcases h with z | z <;> exact absurd z (by simp)
 have ownC:(relabel sc X.env).names.lookup x=some .cell:=by rw [rl x,cn.own];rfl
 have exOk:∀b∈fp,b≠s3.heap.objs.size/\(∀y c,X.env.cells.lookup y=some c->c≠b)/\b ∉ frs X.stack:=fun b hb=>by
  obtain ⟨g0,g1,g2,g3,g4,g5⟩:=f2 b hb;refine ⟨Nat.ne_of_lt (below2 b hb),g4,fun z=>?_⟩;rcases mem_cons.mp (I2.stkSub b z) with z | z
  ·exact g1 z
  ·exact g2 z
 have hCnew:X.s₀.heap.objs.size<=s3.heap.objs.size:=I3.sz
 have hCcell:∀y c,X.env.cells.lookup y=some c->c≠s3.heap.objs.size:=fun y c e z=>by
  obtain ⟨v,q⟩:=I3.cell y c e;have:=q.lt;rw [z] at this;exact Nat.lt_irrefl _ this
 have hCpin:∀p∈X.pn++pins,p.1≠s3.heap.objs.size:=fun p hp z=>by
  have:=Heap.lt_size (I3.pin p hp).1;rw [z] at this;exact Nat.lt_irrefl _ this
 have ltC:∀y c,X.env.cells.lookup y=some c->c < s3.heap.objs.size:=fun y c e=>by
  obtain ⟨v,q⟩:=I3.cell y c e;exact q.lt
 have injC:∀y z c,((x,s3.heap.objs.size+1) :: cl).lookup y=some c->((x,s3.heap.objs.size+1) :: cl).lookup z=some c->y=z:=fun y z c h1 h2=>by
  rcases clD y c h1 with ⟨e1,e2⟩ | ⟨_,e2⟩ <;> rcases clD z c h2 with ⟨f1,f2'⟩ | ⟨_,f2'⟩
  ·rw [e1,f1]
  ·exact absurd (ltC z c (clS z c f2')) (by rw [e2];exact Nat.not_lt.mpr (Nat.le_succ _))
  ·exact absurd (ltC y c (clS y c e2)) (by rw [f2'];exact Nat.not_lt.mpr (Nat.le_succ _))
  ·exact I3.ok.inj y z c (clS y c e2) (clS z c f2')
 have hasC:∀y,((relabel sc X.env).names.lookup y=some .cell\/(relabel sc X.env).names.lookup y=some .free)->∃c,((x,s3.heap.objs.size+1) :: cl).lookup y=some c:=fun y hy=>by
  by_cases e:y=x
  ·exact ⟨_,by rw [e];exact clX⟩
  ·rcases isFree y hy with f | f
   ·obtain ⟨c,hc⟩:=freeOf y f;exact ⟨c,clN y c e hc⟩
   ·exact absurd f e
 have exC:∀b∈fp,∀y c,((x,s3.heap.objs.size+1) :: cl).lookup y=some c->c≠b:=fun b hb y c h=>by
  rcases clD y c h with ⟨_,e2⟩ | ⟨_,e2⟩
  ·exact fun z=>absurd (below2 b hb) (by rw [<- z,e2];exact Nat.not_lt.mpr (Nat.le_succ _))
  ·exact (exOk b hb).2.1 y c (clS y c e2)
 have okc:(X.inCompC Nc sc x cl s3 H3 fp).Ok:=by
  refine ⟨I3.ok.mod,cn.kind,I3.ok.glob,I3.ok.blt,Nat.le_refl _,injC,hasC,fun y c hf e=>?_,I3.ok.hd,I3.ok.frames,.inl rfl,
   fun b hb=>⟨(exOk b hb).1,exC b hb⟩,fun b o e=>I3.bs b o e,Nat.le_trans I3.ok.bsz I3.sz,fun b o e hb=>?_,fun b hb=>(exOk b hb).2.2,I3.stack,I3.stkFree⟩
  ·have ey:y=x:=of_decide_eq_true hf;rcases clD y c e with ⟨_,e2⟩ | ⟨n,_⟩
   ·show s3.heap.objs.size<=c;ext
   ·exact absurd ey n
  obtain ⟨g0,g1,g2,g3,g4,g5⟩:=f2 b hb;rcases g3 with z | z
  ·exact I3.ok.noex b o e z
  ·exact absurd (Heap.lt_size (I3.ok.bs b o e).1) (Nat.not_lt.mpr z)
 have hlen:σ.length=N.length:=by rw [I3.len,hXN]
 have Ic:Inv (X.inCompC Nc sc x cl s3 H3 fp) [] (σ++[none]) H3 { s3 with heap:=h₁,toks:=s3.toks }:=by
  refine ⟨okc,rfl,I3.bare,Un.kept old,⟨_,hns₁,fun i y v h1 h2 h3=>?_⟩,fun y c e=>?_,I3.hok.fresh (Nat.le_refl _),fun y c e=>?_,fun p hp=>absurd (show p∈([]:List (Addr × Obj)) from hp) (by simp),I3.hok.kept old,?_⟩
  ·have hi:i < σ.length:=by
    by_cases hi:i < σ.length
    ·exact hi
    ·rw [List.getElem?_append_right (Nat.not_lt.mp hi)] at h2
     cases e:i - σ.length with
     | zero=>rw [e] at h2;cases h2
     | succ k=>rw [e] at h2;simp at h2
   rw [List.getElem?_append_left hi] at h2;have hi':i < N.length:=by rw [<- hlen];exact hi
   obtain ⟨n1,n2,n3⟩:=cn.at hi' h1
   have hf:sc.names.lookup y=some .free:=by
    rcases h3 with z | z
    ·exfalso;have z':(relabel sc X.env).names.lookup y=some .local:=z;rw [rl y] at z'
     cases e:sc.names.lookup y with
     | none=>rw [e] at z';simp at z'
     | some k =>
       rw [e] at z'
       cases k with
       | «local»=>exact n1 e
       | cell=>exact n2 e
       | free =>
         simp only [Option.map_some,Option.some.injEq] at z'
         split at z' <;> cases z'
       | _=>simp at z'
    ·rcases isFree y z with f | f
     ·exact f
     ·exact absurd (by rw [f];exact cn.own) n2
   have hN:X.N[i]?=some y:=by rw [hXN];exact n3 hf
   obtain ⟨m,hn,hl⟩:=I3.loc;have hv:fsc.names.lookup y=some .cell\/fsc.names.lookup y=some .free:=cn.fr (y,.free) (PySem.mem_of_lookup hf) rfl;have hv':X.env.scope.names.lookup y=some .cell\/X.env.scope.names.lookup y=some .free:=by rw [hE];exact hv
   obtain ⟨u,ru,lk⟩:=hl i y v hN h2 (.inr hv');refine ⟨u,ru,.inr ⟨?_,?_⟩⟩
   ·show (relabel sc X.env).names.lookup y=some .cell\/(relabel sc X.env).names.lookup y=some .free;rw [rl y,hf];simp only [Option.map_some,Option.some.injEq]
    split
    ·exact .inl rfl
    ·exact .inr rfl
   ·rcases lk with ⟨kl,_⟩ | ⟨_,c,hc,hcell⟩
    ·exfalso;have kl':X.env.scope.names.lookup y=some .local:=kl;rw [kl'] at hv';rcases hv' with z | z <;> cases z
    ·obtain ⟨d,hd⟩:=freeOf y hf;have ed:=clS y d hd;rw [hc] at ed
     cases ed
     exact ⟨c,clN y c (fun z=>n2 (by rw [z];exact cn.own)) hd,hcell.keeps old⟩
  ·rcases clD y c e with ⟨_,e2⟩ | ⟨_,e2⟩
   ·exact ⟨none,by rw [e2];exact hcell₁⟩
   ·obtain ⟨v,q⟩:=I3.cell y c (clS y c e2);exact ⟨v,q.keeps old⟩
  ·rcases clD y c e with ⟨_,e2⟩ | ⟨_,e2⟩
   ·exact I3.hok.fresh (by ext)
   ·exact I3.freeC y c (clS y c e2)
  ·show (σ++[none]).length=Nc.length;rw [length_append,hlen,cn.len];rfl
 have stc:tn 0 ({ s3 with heap:=h₁,toks:=s3.toks }:Shared).heap:=T.keep _ _ _ st2 fun b _ o e=>old b o (old2 b o e)
 have hDf:s2.heap.objs.size ∉ fp:=fun hm=>by
  obtain ⟨o,e,_⟩:=T.obj _ _ st2 _ hm;exact Nat.lt_irrefl _ (Heap.lt_size e)
 have fpc:∀{pins':List (Addr × Obj)} {H':Hp},pins'=[]->(∀b∈fp,H' b=none)->∀b∈fp,Gg (X.inCompC Nc sc x cl s3 H3 fp) pins' H' b:=fun {pins' H'} hp hn b hb=>by
  subst hp;exact ⟨hn b hb,(exOk b hb).1,(exOk b hb).2.2,.inl hb,exC b hb,fun p hp=>absurd (show p∈([]:List (Addr × Obj)) from hp) (by simp)⟩
 have hg:PG (X.inCompC Nc sc x cl s3 H3 fp) (.Name x px) (DT σ.length):=Ar (X:=X.inCompC Nc sc x cl s3 H3 fp) cn.nd (by show Nc[σ.length]?=some x;rw [hlen];exact cn.last) (.inr ownC) (.inl (decide_eq_true rfl))
 have loop:∀s₄:Shared,s₄={ s3 with heap:=h₁,toks:=s3.toks } ->
  codeAny (model X.prog X.w) X.A (.compLoop (.ListComp elt [⟨.Name x px,iter,ifs,0⟩] sc pos) 0 (.ref it) (.ref s2.heap.objs.size) (compEnvC sc ((x,s3.heap.objs.size+1) :: cl) s3.heap.objs.size X.env))
   (fun r s'=>r=.ok .next/\∃D H',(Value.ref s2.heap.objs.size)=.ref D/\Inv X pins σ H' s'/\Q (.ref D) H'/\DY X pins H' s3.heap.objs.size/\∃m,s'.heap.Ns s3.heap.objs.size m) s₄:=by
  rintro s₄ rfl;refine codeAny_compLoop_tests (fun n s'=>∃(i:Nat) (o:Option V) (H':Hp) (ys:List V),Inv (X.inCompC Nc sc x cl s3 H3 fp) [] (σ++[o]) H' s'/\tn i s'.heap/\(∀b∈fp,H' b=none)/\W i n ys H') ?_ m0 ⟨0,none,H3,[],Ic,stc,fpFree,w0⟩;rintro n s' ⟨i,o,H',ys,I',st',fr',w'⟩;obtain ⟨hDl,tw⟩:=turn i n ys H' w';rcases tw with ⟨stop,q⟩ | ⟨go,hz,step⟩
  ·
   refine thn (T.done (X.inCompC Nc sc x cl s3 H3 fp) rfl rfl rfl hc i [] s' _ H' _ I' (fpc rfl fr') st' stop) fun r s5 ⟨hr,I5⟩=>?_;subst hr
   have Ix:Inv X pins σ H' s5:=I3.call' (ch:=fp) I5.os I5.base I5.hok I5.bare fun b hb=>by
    obtain ⟨g0,g1,g2,g3,g4,g5⟩:=f2 b hb;exact ⟨g3,g1,g4,g5⟩
   have hCf:H' s3.heap.objs.size=none:=I5.free;obtain ⟨m,hn,_⟩:=I5.loc;exact ⟨rfl,s2.heap.objs.size,H',rfl,Ix,q,⟨hCf,fun z=>Nat.lt_irrefl _ (by have:=I3.lt;rw [<- z] at this;exact this),hCnew,hCcell,hCpin⟩,m,hn⟩
  ·
   refine thn (T.item (X.inCompC Nc sc x cl s3 H3 fp) rfl rfl rfl hc i [] s' _ H' _ I' (fpc rfl fr') st' go) fun r s5 ⟨u,hr,h4⟩=>?_;subst hr;dsimp only;have e0:letOwnedTupleGo (.Name x px) (.ref it) u=pure ():=rfl;have e1:(letOwnedTupleGo (.Name x px) (.ref it) u >>= fun _=>assign (.Name x px) (compEnvC sc ((x,s3.heap.objs.size+1) :: cl) s3.heap.objs.size X.env) u)=assign (.Name x px) (compEnvC sc ((x,s3.heap.objs.size+1) :: cl) s3.heap.objs.size X.env) u:=by rw [e0,pure_bind]
   rw [<- e1];refine wpAny_bind (thn h4 fun _ s6 ⟨xv,H5,I5,r5,y5,st5,fr5⟩=>?_);have I5':=I5.pinned (fpc rfl fr5) (T.obj _ _ st5)
   have again:∀{H7:Hp} {s7:Shared} {m':Nat} {ys':List V},Inv (X.inCompC Nc sc x cl s3 H3 fp) ([]++F5 fp s6.heap) (σ++[some xv]) H7 s7->m' < n->W (i+1) m' ys' H7 ->
    ∃m,m < n/\∃(i:Nat) (o:Option V) (H':Hp) (ys:List V),Inv (X.inCompC Nc sc x cl s3 H3 fp) [] (σ++[o]) H' s7/\tn i s7.heap/\(∀b∈fp,H' b=none)/\W i m ys H':=fun {H7 s7 m' ys'} I7 hm w7=>by
    refine ⟨m',hm,i+1,some xv,H7,ys',I7.unpinned,T.keep _ _ _ st5 fun b hb o e=>(I7.pin (b,o) (mem_append_right _ (mem_append_right _ (C4 hb e)))).1,fun b hb=>?_,w7⟩;obtain ⟨o',e,d⟩:=T.obj _ _ st5 b hb;exact (I7.pin (b,o') (mem_append_right _ (mem_append_right _ (C4 hb e)))).2.1
   refine EL (hg _ s6 _ H5 xv u (fun σ' H''=>σ'=σ++[some xv]/\H''=H5) I5' r5 ⟨KZ,rfl⟩) fun _ s7 ⟨σ7,H7,I7,e7,e7'⟩=>?_;subst e7;subst e7';refine EL (ht cl s3 H3 fp _ s7 _ _ _ I7 (step xv _ y5)) fun b s8 ⟨H8,I8,q8⟩=>?_
   cases b with
   | false =>
     rw [if_neg Bool.false_ne_true] at q8 ⊢;obtain ⟨m',hm,w8⟩:=q8;exact again I8 hm w8
   | true =>
     rw [if_pos rfl] at q8 ⊢;refine EL (he cl s3 H3 fp _ s8 _ H8 _ I8 q8) fun y s9 ⟨yv,H9,I9,r9,hD9,m',hm,w9⟩=>?_;refine EL (Bn _ s9 _ H9 (.ref s2.heap.objs.size) [yv] (.ref s2.heap.objs.size) [y] (fun v H=>v=.non/\H=upd H9 s2.heap.objs.size (.lst (ys++[yv]))) I9 rfl (.cons r9 .nil) ⟨_,ys,yv,rfl,rfl,hD9,hz,rfl,rfl⟩) fun _ s10 ⟨v10,H10,I10,r10,e10,e11⟩=>?_;subst e11;exact again I10 hm w9
 exact codeAny_compStart_list (loop _ rfl) (T.self _ 0 _ _ _ stc (loop _ rfl))
theorem Nh (I:∀y,(X.env.kindOf y=some .cell\/X.env.kindOf y=some .free)->∃c,X.env.cells.lookup y=some c) (hE:X.env.scope=fsc) (cn:Gy N Nc x sc fsc):∀y∈sc.names,y.2=.free->∃c,X.env.cells.lookup y.1=some c:=fun y hy hf=>by
 refine I y.1 ?_;show X.env.scope.names.lookup y.1=some .cell\/X.env.scope.names.lookup y.1=some .free;rw [hE];exact cn.fr y hy hf
theorem Fj (hE:X.env.scope=fsc) (hXN:X.N=N) (cn:Gy N Nc x sc fsc) (hc:X.calm=true) (hi:PI X (.Name x px) iter wi)
 (ht:∀cl s H ex,G5 (X.inCompC Nc sc x cl s H ex) ifs tt) (he:∀cl s H ex,PE (X.inCompC Nc sc x cl s H ex) elt te)
 (hs:∀v,foldedSetIterable iter X.env v=pure v:=by intro _;rfl):PE X (.ListComp elt [⟨.Name x px,iter,ifs,0⟩] sc pos) (Lj wi tt te):=by
 intro pins s σ H Q I h;obtain ⟨cl,hcl,clS,clH⟩:=Da (env:=X.env) (sc:=sc) (Nh I.ok.has hE cn);rw [eval_ListComp];refine wpAny_comprehension_free (use:=none) rfl hs hcl cn.kind cn.nm (thn (hi pins s σ H _ I h) fun v s1 h1=>thn h1 fun itv s2 h2=>?_);obtain ⟨it,fp,tn,J,H2,rfl,I2,T,st2,f2,h2⟩:=h2;refine thn (Lz (pos:=pos) (iter:=iter) hE hXN cn hc ht he clS clH I2 T st2 f2 h2) fun acc s3 h3=>thn h3 fun cenv s4 h4=>codeAny_mono h4 fun r s' h5=>?_;obtain ⟨rfl,D,H',rfl,I',q,cloc,m,hn⟩:=h5;exact ⟨m,hn,fun h' k=>⟨.ref D,H',I'.sameBut cloc k,rfl,q⟩⟩
end
def KG (sc fsc:Scope):Scope:={ sc with names:=sc.names.map fun (n,k)=>if (k == .free && fsc.kind == .function && fsc.names.lookup n == some .cell) then (n,.cell) else (n,k) }
theorem KH {X:Cx} {sc fsc:Scope} (h:X.env.scope=fsc):relabel sc X.env=KG sc fsc:=by
 subst h;rfl
section
variable {X:Cx} {elt iter:Expr} {x y:Str} {py pos:Pos} {ifs:List Expr} {sc sc2 fsc:Scope} {Nc Nd:List Str} {wi:TI} {tt:TT} {te:TE} {cl:List (Str × Addr)} {s:Shared} {H:Hp} {ex:List Addr}
theorem E2 (hE:X.env.scope=fsc) (cn:DR Nc Nd y sc2 (KG sc fsc)) (hc:X.calm=true) (hi:PI (X.inCompC Nc sc x cl s H ex) (.Name y py) iter wi)
 (ht:∀cl' s' H' ex',G5 ((X.inCompC Nc sc x cl s H ex).inComp Nd sc2 cl' s' H' ex') ifs tt) (he:∀cl' s' H' ex',PE ((X.inCompC Nc sc x cl s H ex).inComp Nd sc2 cl' s' H' ex') elt te)
 (hs:∀v,foldedSetIterable iter (X.inCompC Nc sc x cl s H ex).env v=pure v:=by intro _;rfl):PE (X.inCompC Nc sc x cl s H ex) (.ListComp elt [⟨.Name y py,iter,ifs,0⟩] sc2 pos) (Lj wi tt te) :=
 Be (X:=X.inCompC Nc sc x cl s H ex) (fsc:=KG sc fsc) (N:=Nc) (KH hE) rfl cn hc hi ht he hs
theorem GU (hE:X.env.scope=fsc) (cn:DR Nc Nd y sc2 (KG sc fsc)) (hc:X.calm=true) (hi:PI (X.inComp Nc sc cl s H ex) (.Name y py) iter wi)
 (ht:∀cl' s' H' ex',G5 ((X.inComp Nc sc cl s H ex).inComp Nd sc2 cl' s' H' ex') ifs tt) (he:∀cl' s' H' ex',PE ((X.inComp Nc sc cl s H ex).inComp Nd sc2 cl' s' H' ex') elt te)
 (hs:∀v,foldedSetIterable iter (X.inComp Nc sc cl s H ex).env v=pure v:=by intro _;rfl):PE (X.inComp Nc sc cl s H ex) (.ListComp elt [⟨.Name y py,iter,ifs,0⟩] sc2 pos) (Lj wi tt te) :=
 Be (X:=X.inComp Nc sc cl s H ex) (fsc:=KG sc fsc) (N:=Nc) (KH hE) rfl cn hc hi ht he hs
end
theorem GV {X:Cx} {tg e:Expr} {te:TE} (K:PySem.W.Frag) (he:PE X e te) (h:X.K=K:=by rfl):PI X tg e (QJ K te):=by
 subst h;exact A9 he
end L2
namespace L2
open PySem PySem.W PySem.Spec PyProof.Rows
noncomputable def Gx (c:Addr) (q:Str):HO:=.ext fun h=>h.CodeRec (.ref c) q
structure Gz (base:Heap) (mg:Str->Option Value) (c P:Addr):Prop where
 hd:CodeHd base c P
 bm:∃bm ob,mg "__builtins__"=some (.ref bm)/\bm≠builtinsNs/\base.get? bm=some ob/\ob.cls=.type "module"/\ob.dict=some builtinsNs/\ob.data=.plain
 out:base.get? P=none
def E4 (P:Addr) (pos:Pos) (q:Str) (H:Hp):Prop:=∃c,H P=some (.tbl #[rawInt pos.line,rawInt pos.col,.ref c])/\H c=some (Gx c q)
def G0 (P:Addr) (pos:Pos) (q:Str) (H:Hp):Prop:=H P=some (.tbl #[])\/E4 P pos q H
def SmL (P:Addr) (H H':Hp):Prop:=∀b u,b≠P->H b=some u->H' b=some u
theorem E4.same {P:Addr} {pos:Pos} {q:Str} {H H':Hp} (x:E4 P pos q H) (e:Al H H'):E4 P pos q H':=let ⟨c,h1,h2⟩:=x;⟨c,e _ _ h1,e _ _ h2⟩
theorem E4.put {P l:Addr} {pos:Pos} {q:Str} {H:Hp} {xs:List V} {o:HO} (t:E4 P pos q H) (e:H l=some (.lst xs)):E4 P pos q (upd H l o):=by
 obtain ⟨c,h1,h2⟩:=t;exact ⟨c,by rw [Aj (fun z=>by rw [z,e] at h1;cases h1)];exact h1,by rw [Aj (fun z=>by rw [z,e] at h2;cases h2)];exact h2⟩
theorem G0.put {P l:Addr} {pos:Pos} {q:Str} {H:Hp} {xs:List V} {o:HO} (t:G0 P pos q H) (e:H l=some (.lst xs)):G0 P pos q (upd H l o):=by
 rcases t with t | t
 ·exact .inl (by rw [Aj (fun z=>by rw [z,e] at t;cases t)];exact t)
 ·exact .inr (t.put e)
theorem G0.same {P:Addr} {pos:Pos} {q:Str} {H H':Hp} (t:G0 P pos q H) (s:Al H H'):G0 P pos q H':=t.elim (fun t=>.inl (s _ _ t)) fun t=>.inr (t.same s)
theorem MV (pos:Pos):codeAmong pos (#[]:Array Value).toList=none:=rfl
theorem MW (pos:Pos) (c:Addr):codeAmong pos (#[rawInt pos.line,rawInt pos.col,.ref c]:Array Value).toList=some (.ref c):=by
 simp [codeAmong,rawInt]
theorem Ol {P:Program} {w:World} {H:Hp} {h:Heap} {c:Addr} {q:Str} (x:h.CodeRec (.ref c) q):Bl P w H h c (Gx c q):=by
 refine ⟨x,?_,fun h1 h2 y k=>?_⟩
 ·obtain ⟨c',o,vs,t,e,g,_⟩:=x
  cases e
  exact ⟨o,g⟩
 ·obtain ⟨c',o,vs,t,e,g,r⟩:=y
  cases e
  exact ⟨c,o,vs,t,rfl,k o g,r⟩
theorem Ng {P:Program} {w:World} {H:Hp} {h:Heap} {c:Addr} {q:Str} (x:Bl P w H h c (Gx c q)):h.CodeRec (.ref c) q:=x.1
section
variable {X:Cx} {pins:List (Addr × Obj)} {σ:St} {H:Hp} {s:Shared} {c P:Addr} {pos:Pos} {params:Arguments} {body:Expr} {sc:Scope} {cl:List (Str × Addr)} {q:Str} {M:Model} {A:Around} {E:Value->Shared->Prop} {Q:Value->Shared->Prop}
theorem Gz.at (LB:Gz X.base X.mg c P) (I:Inv X pins σ H s) (hp:∃ps,H P=some (.tbl ps)):s.heap.Ns mainGlobals X.mg/\CodeHd s.heap c P/\mainGlobals≠P/\s.heap.BuiltinsAt X.mg P:=by
 have G:s.heap.Ns mainGlobals X.mg:=I.mod.glob.keeps I.bk
 have gP:mainGlobals≠P:=fun z=>by
  obtain ⟨o,_,_,e,_⟩:=I.mod.glob;rw [z,LB.out] at e;cases e
 obtain ⟨bm,ob,b1,b2,b3,b4,b5,b6⟩:=LB.bm;refine ⟨G,LB.hd.keeps I.bk,gP,bm,ob,b1,b2,fun z=>?_,fun z=>?_,I.bk _ _ b3,b4,b5,b6⟩
 ·obtain ⟨o,es,ep,e,hd,_⟩:=I.mod.glob;rw [<- z,b3] at e;cases e;rw [b6] at hd;cases hd
 ·rw [z,LB.out] at b3;cases b3
theorem Inv.pin1 {f:Addr} {o:Obj} (I:Inv X pins σ H s) (c:DY X pins H f) (e:s.heap.get? f=some o) (hf:f ∉ X.fs) (d:∀v,o.data≠.cell v):Inv X ((f,o) :: pins) σ H s :=
 I.pins_of fun p hp=>by
  rcases mem_cons.mp hp with rfl | hp
  ·exact ⟨e,c.free,c.ne,hf,d⟩
  ·exact I.pin p (mem_append_right _ hp)
theorem Inv.cloc {f:Addr} (I:Inv X pins σ H s) (h:s.heap.objs.size<=f):DY X pins H f:=by
 obtain ⟨g0,g1,g2,g3,g4,g5⟩:=I.fpOk h (I.hok.fresh h);exact ⟨g0,g1,Nat.le_trans I.sz h,g4,g5⟩
theorem OB (LB:Gz X.base X.mg c P) (hcode:X.env.code=.ref c) (hcl:closureFor sc X.env=pure cl) (I:Inv X pins σ H s) (t:G0 P pos q H)
 (h:∀(f c':Addr) (pm ctv:Value) (H':Hp) (s':Shared),Inv X ((f,kla_obj "<lambda>" q params body sc cl pm c' ctv) :: pins) σ H' s'->H' c'=some (Gx c' q)->DY X pins H' f->E4 P pos q H'->SmL P H H'->(E4 P pos q H->H=H')->(∀b,H' b=none->H b=none)->Q (.ref f) s') :
 wpAny M A (makeFunction "<lambda>" q params (.expr body) sc X.env [] [] [] pos pos.line) Q E s:=by
 rcases t with t | ⟨c',t1,t2⟩
 ·obtain ⟨G,C,gP,B⟩:=LB.at I ⟨_,t⟩;have hP:s.heap.get? P=some (tabObj #[]):=I.hok P _ t;refine kla_makeFunction (mg:=X.mg) hcl I.ok.glob G hcode C hP trivial (MV pos) gP B fun c' ctv h' tk hx hge hlt hrec htb=>?_;have hc':H c'=none:=I.hok.fresh hge;have cP:c'≠P:=fun z=>by rw [z,t] at hc';cases hc'
  have nP:∀{b:Addr},H b=none->b≠P:=fun e z=>by rw [z,t] at e;cases e
  have htb':h'.get? P=some (tabObj (#[]++#[rawInt pos.line,rawInt pos.col,.ref c'])):=htb;have ht0:((#[]:Array Value)++#[rawInt pos.line,rawInt pos.col,.ref c'])=#[rawInt pos.line,rawInt pos.col,.ref c']:=rfl;generalize eH:upd (upd H P (.tbl #[rawInt pos.line,rawInt pos.col,.ref c'])) c' (Gx c' q)=H';have hb:∀{b:Addr},b≠P->b≠c'->H' b=H b:=fun n1 n2=>by rw [<- eH,Aj n2,Aj n1]
  have hPH:H' P=some (.tbl #[rawInt pos.line,rawInt pos.col,.ref c']):=by rw [<- eH,Aj (Ne.symm cP),Ac]
  have hcH:H' c'=some (Gx c' q):=by rw [<- eH,Ac]
  have ne':∀{b:Addr} {o:Obj},s.heap.get? b=some o->b≠c':=fun e=>Nat.ne_of_lt (Nat.lt_of_lt_of_le (Heap.lt_size e) hge);have neH:∀{b:Addr} {u:HO},H b=some u->b≠c':=fun e z=>by rw [z,hc'] at e;cases e
  have U:Un X.fs [] H H' s.heap h':=⟨fun b o e n _ _=>hx b o (nP n) e,fun b o e n _ _=>⟨o.slots,hx b o (nP n) e⟩,fun b o e n _=>by rw [hb (nP n) (ne' e)];exact n,fun b o e _=>by
   by_cases z:b=P
   ·rw [z];exact ⟨_,htb⟩
   ·exact ⟨o,hx b o z e⟩,fun b xs e=>by
   rw [hb (fun z=>by rw [z,t] at e;cases e) (neH e)];exact e,fun b o u e=>by
   rw [hb (fun z=>by rw [z,t] at e;cases e) (neH e)];exact e,fun b ps e=>by
   by_cases z:b=P
   ·rw [z,t] at e
    cases e
    exact ⟨#[rawInt pos.line,rawInt pos.col,.ref c'],by rw [z,hPH];rfl⟩
   ·exact ⟨#[],by rw [hb z (neH e),e];simp⟩⟩
  have hok:HOk X.prog X.w H' h':=fun a o e=>by
   by_cases z:a=P
   ·subst z;rw [hPH] at e
    cases e
    exact htb
   ·by_cases z2:a=c'
    ·subst z2;rw [hcH] at e
     cases e
     exact Ol hrec
    ·rw [hb z z2] at e;refine (I.hok a o e).stay (fun b u hbu g=>?_) (fun b g=>?_) fun b xs g=>?_
     ·refine hx b u (fun y=>?_) g;rcases hbu with rfl | hbu
      ·exact z y
      ·rw [y,t] at hbu;cases hbu
     ·rw [hb (fun y=>by rw [y,t] at g;cases g) (neH g)];exact g
     ·rw [hb (fun y=>by rw [y,t] at g;cases g) (neH g)];exact g
  have I1:Inv X pins σ H' { s with heap:=h',toks:=tk }:=I.un U hok;have I2:=I1.kept (t':=tk) (h':=h'.push (kla_obj "<lambda>" q params body sc cl ((X.mg "__name__").getD .none) c' ctv)) fun b u e=>Heap.get?_push_of_some _ e;have cf:DY X pins H' h'.objs.size:=I1.cloc (Nat.le_refl _);refine h _ c' _ ctv H' _ (I2.pin1 cf (Heap.get?_push_size _ rfl) (I1.nofs (Nat.le_refl _)) (fun v z=>by cases z)) hcH cf ⟨c',hPH,hcH⟩ (fun b u n e=>by rw [hb n (neH e)];exact e) (fun ⟨_,y,_⟩=>by rw [t] at y;cases y) fun b e=>?_;rw [hb (fun z=>by rw [z,hPH] at e;cases e) (fun z=>by rw [z,hcH] at e;cases e)] at e;exact e
 ·obtain ⟨G,C,gP,B⟩:=LB.at I ⟨_,t1⟩;have hP:s.heap.get? P=some (tabObj #[rawInt pos.line,rawInt pos.col,.ref c']):=I.hok P _ t1;refine kla_makeFunctionHit (mg:=X.mg) hcl I.ok.glob G hcode C hP trivial (MW pos c') B fun ctv h' tk hk hsz=>?_;have I1:Inv X pins σ H { s with heap:=h',toks:=tk }:=I.kept hk;have I2:=I1.kept (t':=tk) (h':=h'.push (kla_obj "<lambda>" q params body sc cl ((X.mg "__name__").getD .none) c' ctv)) fun b u e=>Heap.get?_push_of_some _ e;have cf:DY X pins H h'.objs.size:=I1.cloc (Nat.le_refl _);exact h _ c' _ ctv H _ (I2.pin1 cf (Heap.get?_push_size _ rfl) (I1.nofs (Nat.le_refl _)) (fun v z=>by cases z)) t2 cf ⟨c',t1,t2⟩ (fun _ _ _ e=>e) (fun _=>rfl) fun _ e=>e
end
noncomputable def Cx.inLam (X:Cx) (A:Around) (Nc:List Str) (q:Str) (sc:Scope) (cl:List (Str × Addr)) (f c':Addr) (s:Shared) (H:Hp):Cx :=
 { X with A:=A.deeper (envX q sc s.heap.objs.size f (.ref c') cl),N:=Nc,s₀:=s,H₀:=H,env:=envX q sc s.heap.objs.size f (.ref c') cl,outer:=X.stack,stack:=envX q sc s.heap.objs.size f (.ref c') cl :: X.stack,ex:=[],fn:=fun _=>false,calm:=true,pn:=[],xe:=fun _ _=>False }
section
variable {X:Cx} {pins:List (Addr × Obj)} {σ:St} {H:Hp} {s:Shared} {params:Arguments} {body:Expr} {sc fsc:Scope} {cl:List (Str × Addr)} {q x:Str} {A:Around} {N Nc:List Str} {f c':Addr} {te:TE} {E:Value->Shared->Prop}
theorem PU (hE:X.env.scope=fsc) (hXN:X.N=N) (cn:DR N Nc x sc fsc)
 (clS:∀y c,cl.lookup y=some c->X.env.cells.lookup y=some c) (clH:∀y∈sc.names,y.2=.free->∃c,cl.lookup y.1=some c) (hA:A.frames=X.A.frames) (hh:A.handled=none)
 (I:Inv X pins σ H s) {v:V} {u:Value} (rv:AF v u) {h₁:Heap} {tk:Nat} (hns:h₁.Ns s.heap.objs.size fun y=>[(x,u)].reverse.lookup y) (old:∀b o,s.heap.get? b=some o->h₁.get? b=some o) :
 Inv (X.inLam A Nc q sc cl f c' s H) [] (σ++[some v]) H { s with heap:=h₁,toks:=tk }:=by
 have hlen:σ.length=N.length:=by rw [I.len,hXN]
 have noE:∀b:Addr,b ∉ (X.inLam A Nc q sc cl f c' s H).ex:=fun b z=>absurd (show b∈([]:List Addr) from z) (by simp);have freeOf:∀y,sc.names.lookup y=some .free->∃c,cl.lookup y=some c:=fun y e=>clH (y,.free) (PySem.mem_of_lookup e) rfl;have noCell:∀y,sc.names.lookup y≠some .cell:=fun y e=>cn.cell (y,.cell) (PySem.mem_of_lookup e) rfl
 refine ⟨⟨I.ok.mod,cn.kind,rfl,rfl,Nat.le_refl _,fun y z c e1 e2=>I.ok.inj y z c (clS _ _ e1) (clS _ _ e2),fun y hy=>?_,fun y c z=>absurd (show false=true from z) Bool.false_ne_true,fun _=>hh,Around.frames_deeper (hA.trans I.ok.frames),.inr ⟨rfl,rfl⟩,fun b z=>absurd z (noE b),I.bs,Nat.le_trans I.ok.bsz I.sz,fun b _ _=>noE b,fun b z=>absurd z (noE b),I.stack,I.stkFree⟩,
  rfl,I.bare,Un.kept old,⟨_,hns,fun i y v' h1 h2 h3=>?_⟩,fun y c e=>?_,I.hok.fresh (Nat.le_refl _),fun y c e=>I.freeC y c (clS y c e),fun p hp=>absurd (show p∈([]:List (Addr × Obj)) from hp) (by simp),I.hok.kept old,?_⟩
 ·have hy:sc.names.lookup y=some .cell\/sc.names.lookup y=some .free:=hy;rcases hy with hy | hy
  ·exact absurd hy (noCell y)
  ·exact freeOf y hy
 ·have h1:Nc[i]?=some y:=h1;have h3:sc.names.lookup y=some .local\/sc.names.lookup y=some .cell\/sc.names.lookup y=some .free:=h3;by_cases hi:i < N.length
  ·obtain ⟨n1,n2,n3⟩:=cn.at hi h1
   have hf:sc.names.lookup y=some .free:=by
    rcases h3 with z | z | z
    ·exact absurd z n1
    ·exact absurd z n2
    ·exact z
   rw [List.getElem?_append_left (by ext)] at h2;have hN:X.N[i]?=some y:=by rw [hXN];exact n3 hf
   obtain ⟨m,hn,hl⟩:=I.loc;have hv:fsc.names.lookup y=some .cell\/fsc.names.lookup y=some .free:=cn.fr (y,.free) (PySem.mem_of_lookup hf) rfl;have hv':X.env.scope.names.lookup y=some .cell\/X.env.scope.names.lookup y=some .free:=by rw [hE];exact hv
   obtain ⟨u',ru,lk⟩:=hl i y v' hN h2 (.inr hv');refine ⟨u',ru,.inr ⟨.inr hf,?_⟩⟩;rcases lk with ⟨kl,_⟩ | ⟨_,c,hc,hcell⟩
   ·exfalso;have kl':X.env.scope.names.lookup y=some .local:=kl;rw [kl'] at hv';rcases hv' with z | z <;> cases z
   ·obtain ⟨d,hd⟩:=freeOf y hf;have ed:=clS y d hd;rw [hc] at ed
    cases ed
    exact ⟨c,hd,hcell.keeps old⟩
  ·have hi':i < (σ++[some v]).length:=(List.getElem?_eq_some_iff.mp h2).1;rw [length_append,length_singleton] at hi';have ei:i=N.length:=by ext
   subst ei;rw [cn.last] at h1
   cases h1
   rw [List.getElem?_append_right (by ext),hlen,Nat.sub_self] at h2
   cases h2
   exact ⟨u,rv,.inl ⟨cn.own,by simp⟩⟩
 ·obtain ⟨w,z⟩:=I.cell y c (clS y c e);exact ⟨w,z.keeps old⟩
 ·show (σ++[some v]).length=Nc.length;rw [length_append,hlen,cn.len];rfl
theorem OA (hE:X.env.scope=fsc) (hXN:X.N=N) (cn:DR N Nc x sc fsc) (hco:sc.isCoroutine=false) (hgen:sc.isGenerator=false)
 (clS:∀y c,cl.lookup y=some c->X.env.cells.lookup y=some c) (clH:∀y∈sc.names,y.2=.free->∃c,cl.lookup y.1=some c) (hA:A.frames=X.A.frames) (hh:A.handled=none) (hroom:A.depth < recursionLimit)
 (he:∀s H,PE (X.inLam A Nc q sc cl f c' s H) body te)
 (hbind:∀pm ctv u,bindArgs (kla_fn "<lambda>" q params body sc cl pm (.ref c') ctv) ⟨[u],[]⟩=pure [(x,u)])
 (I:Inv X pins σ H s) {pm ctv:Value} (hf:(f,kla_obj "<lambda>" q params body sc cl pm c' ctv)∈pins) (hc:H c'=some (Gx c' q)) {v:V} {u:Value} (rv:AF v u) {R:VK} (h:te (σ++[some v]) H R) :
 wpAny (model X.prog X.w) A (call (.ref f) [u]) (fun u' s'=>∃y H',Inv X pins σ H' s'/\AF y u'/\R y H') E s:=by
 have lim:s.heap.NoLimit:=I.nolimit;refine wpAny_call (kla_callFunE hroom (I.pin _ (mem_append_right _ hf)).1 rfl hco hgen rfl (Ng (I.hok _ _ hc)) ?_);rw [hbind];refine wpAny_pure (wpAny_newFunctionEnv cn.cell (fun y hy=>?_) (fun h₁ hns hsb=>⟨lim.fresh _ hsb,?_⟩) cn.kind)
 ·rw [mem_singleton.mp hy];exact cn.own
 ·show codeAny _ _ (.expr body (envX q sc s.heap.objs.size f (.ref c') cl)) _ _;have old:∀b o,s.heap.get? b=some o->h₁.get? b=some o:=fun b o e=>hsb.extBut b o (Nat.ne_of_lt (Heap.lt_size e)) (Heap.get?_push_of_some _ e);have Ic:=PU (q:=q) (f:=f) (c':=c') (tk:=s.toks+[(x,u)].length) hE hXN cn clS clH hA hh I rv hns old;refine kla_codeExpr (wpAny_mono (he s H [] _ (σ++[some v]) H R Ic h) (fun u' s' ⟨y,H',I',r',q'⟩=>?_) fun _ _ z=>z.elim);exact ⟨y,H',I.call' (ch:=[]) I'.os I'.base I'.hok I'.bare (fun b hb=>absurd hb (by simp)),r',q'⟩
end
section
variable {X:Cx} {pins:List (Addr × Obj)} {σ:St} {H:Hp}
theorem Inv.sub {ps:List (Addr × Obj)} {s:Shared} (I:Inv X pins σ H s) (h:∀p∈ps,p∈pins):Inv X ps σ H s:=I.pins_of fun p hp=>I.pin p (mem_append_right _ (h p hp))
theorem DY.cons {C S:Addr} {o:Obj} (c:DY X pins H C) (n:S≠C):DY X ((S,o) :: pins) H C:=⟨c.free,c.ne,c.new,c.cells,fun p hp=>by
 rcases mem_append.mp hp with hp | hp
 ·exact c.pins p (mem_append_left _ hp)
 ·rcases mem_cons.mp hp with rfl | hp
  ·exact n
  ·exact c.pins p (mem_append_right _ hp)⟩
theorem Inv.repin {s:Shared} {C:Addr} {o o':Obj} {h':Heap} {t':Nat} (I:Inv X ((C,o) :: pins) σ H s) (c:DY X pins H C) (k:∀b u,b≠C->s.heap.get? b=some u->h'.get? b=some u) (e:h'.get? C=some o') (d:∀v,o'.data≠.cell v) :
 Inv X ((C,o') :: pins) σ H { s with heap:=h',toks:=t' }:=by
 obtain ⟨_,_,_,nf,_⟩:=I.pin (C,o) (mem_append_right _ (mem_cons_self ..));have I0:Inv X pins σ H s:=I.sub fun p hp=>mem_cons_of_mem _ hp;exact (I0.turned (t':=t') k c.free c.ne (.inr c.new) c.cells c.pins).pin1 c e nf d
variable {xs:List V} {l f I S:Addr}
theorem OI (hc:X.calm=true) (kf:Nat->Int) {R:Result->Shared->Prop} (hq:SqL X.K H l xs) (hlI:l≠I) (hSI:S≠I) (cI:DY X pins H I) (cS:DY X pins H S)
 (turn:∀(i:Nat) (x:V) (u:Value) (ps:List (Addr × Obj)) (s:Shared),xs[i]?=some x->AF x u->(∀p∈pins,p∈ps)->Inv X ps σ H s->wpAny (model X.prog X.w) X.A.in1 (call (.ref f) [u]) (fun v s'=>Inv X ps σ H s'/\∃t,v=.int (kf i) t) (fun _ _=>False) s)
 (hR:∀(i:Nat) (x:V) (v:Value) (s:Shared),xs[i]?=some x->AF x v->(∀j,j < xs.length->kf j<=kf i/\(j < i->kf j < kf i))->Inv X pins σ H s->R (.ok (.ret v)) s) :
 ∀(r j i:Nat) (s:Shared) (vb:Value) (x:V) (tb:Tok) (c:Nat) (oI:Obj),xs.length - (j+1)=r->j+1<=xs.length->Inv X ((S,seqObj "list" #[vb,.int (kf i) tb] c) :: (I,oI) :: pins) σ H s->s.heap.IsListIter I l (j+1)->xs[i]?=some x->AF x vb->i<=j ->
  (∀j',j'<=j->kf j'<=kf i/\(j' < i->kf j' < kf i))->codeAny (model X.prog X.w) X.A (.builtin "max.loop" ⟨[.ref I,.ref f,.ref S],[]⟩) R s:=by
 have hname:(toString "max"++toString ".loop":String)="max.loop":=by decide
 intro r
 induction r with
 | zero =>
   intro j i s vb x tb c oI hr hj Iv hit hx rx hij hbest;obtain ⟨its,rv,pl,hz⟩:=Iv.list hq;have hlen:xs.length=its.length:=rv.length;have W:=Walks.list (prog:=X.prog) (w:=X.w) (A:=X.A.in1) (Iv.ok.hd hc) I l hlI its.toArray;have hsz:its.toArray.size=its.length:=size_toArray ..;have hin:j+1=its.length:=by ext
   have gS:=(Iv.pin _ (mem_append_right _ (mem_cons_self ..))).1;refine codeAny_builtin PySem.F.entry_max_loop ?_;rw [Around.under_plainId PySem.F.plain_max_loop _];show wpAny _ X.A.in1 (seqItems? (.ref S) >>= _) _ _ _;refine wpAny_bind (wpAny_seqItems gS rfl ?_);show wpAny _ X.A.in1 (tryCatch (pyNext (.ref I)) _ >>= _) _ _ _;refine wpAny_bind (wpAny_tryCatch (W.done _ _ _ ⟨by rw [hsz,<- hin];exact hit,pl.isList⟩ fun h' tk' hk'=>?_));have I0:Inv X pins σ H s:=Iv.sub fun p hp=>mem_cons_of_mem _ (mem_cons_of_mem _ hp);have I1:=I0.turned (t':=tk') (it:=I) (h':=h') (fun b o n e=>hk' b o (by simpa using n) e) cI.free cI.ne (.inr cI.new) cI.cells cI.pins;have hS':=hk' S _ (by simpa using hSI) gS;have s1:=Heap.SameBut.update h' S (Obj.mapSeq fun _=>(#[]:Array Value));show wpAny _ X.A.in1 (updateSeq S (fun _=>#[]) >>= _) _ _ _;refine wpAny_bind ?_;refine wpAny_updateSeq hS' rfl (wpAny_bind (wpAny_letGo (wpAny_pure ?_)));exact hR i x vb _ hx rx (fun j' hj'=>hbest j' (by ext)) (I1.turned (t':=tk') (it:=S) (fun b o n e=>(s1.2 b n).trans e) cS.free cS.ne (.inr cS.new) cS.cells cS.pins)
 | succ r ih =>
   intro j i s vb x tb c oI hr hj Iv hit hx rx hij hbest;obtain ⟨its,rv,pl,hz⟩:=Iv.list hq;have hlen:xs.length=its.length:=rv.length;have W:=Walks.list (prog:=X.prog) (w:=X.w) (A:=X.A.in1) (Iv.ok.hd hc) I l hlI its.toArray;have hsz:its.toArray.size=its.length:=size_toArray ..;have hlt:j+1 < its.length:=by ext
   have gS:=(Iv.pin _ (mem_append_right _ (mem_cons_self ..))).1;refine codeAny_builtin PySem.F.entry_max_loop ?_;rw [Around.under_plainId PySem.F.plain_max_loop _];show wpAny _ X.A.in1 (seqItems? (.ref S) >>= _) _ _ _;refine wpAny_bind (wpAny_seqItems gS rfl ?_);show wpAny _ X.A.in1 (tryCatch (pyNext (.ref I)) _ >>= _) _ _ _;refine wpAny_bind (wpAny_tryCatch (W.item (j+1) _ _ _ (by rw [hsz];exact hlt) ⟨hit,pl.isList⟩ fun v h' tk' hP hst' hk'=>?_));have hv:its[j+1]?=some v:=by simpa using hP
   obtain ⟨oI',hoI',hoc,hod⟩:=id hst'.1;obtain ⟨x2,hx2⟩:∃x2,xs[j+1]?=some x2:=⟨_,List.getElem?_eq_getElem (by ext)⟩;obtain ⟨v2,hv2,rx2⟩:=rv.get hx2;rw [hv] at hv2
   cases hv2
   have Ia:Inv X ((I,oI) :: (S,seqObj "list" #[vb,.int (kf i) tb] c) :: pins) σ H s:=Iv.sub fun p hp=>by
    rcases mem_cons.mp hp with rfl | hp
    ·exact mem_cons_of_mem _ (mem_cons_self ..)
    ·rcases mem_cons.mp hp with rfl | hp
     ·exact mem_cons_self ..
     ·exact mem_cons_of_mem _ (mem_cons_of_mem _ hp)
   have I1:=Ia.repin (t':=tk') (h':=h') (o':=oI') (cI.cons hSI) (fun b o n e=>hk' b o (by simpa using n) e) hoI' (fun z y=>by rw [hod] at y;cases y);show wpAny _ X.A.in1 (tryCatch (holding [v] (call (.ref f) [v])) _ >>= _) _ _ _;refine wpAny_bind (wpAny_tryCatch (wpAny_holding (wpAny_mono (turn (j+1) x2 v _ _ hx2 rx2 (fun p hp=>mem_cons_of_mem _ (mem_cons_of_mem _ hp)) I1) (fun y s2 he=>?_) fun _ _ hF=>hF.elim)));obtain ⟨I2,t2,rfl⟩:=he;have gI2:=(I2.pin _ (mem_append_right _ (mem_cons_self ..))).1;have gS2:=(I2.pin _ (mem_append_right _ (mem_cons_of_mem _ (mem_cons_self ..)))).1;have hit2:s2.heap.IsListIter I l (j+1+1):=⟨oI',gI2,hoc,hod⟩
   have I2':Inv X ((S,seqObj "list" #[vb,.int (kf i) tb] c) :: (I,oI') :: pins) σ H s2:=I2.sub fun p hp=>by
    rcases mem_cons.mp hp with rfl | hp
    ·exact mem_cons_of_mem _ (mem_cons_self ..)
    ·rcases mem_cons.mp hp with rfl | hp
     ·exact mem_cons_self ..
     ·exact mem_cons_of_mem _ (mem_cons_of_mem _ hp)
   show wpAny _ X.A.in1 (tryCatch (holding [v,.int (kf (j+1)) t2] (richCompare .Gt (.int (kf (j+1)) t2) (.int (kf i) tb) >>= _)) _ >>= _) _ _ _;refine wpAny_bind (wpAny_tryCatch (wpAny_holding (wpAny_bind (CmpOf.ints_gt (prog:=X.prog) (w:=X.w) (A:=X.A.in1) (P:=fun i v=>∃t,v=.int (kf i) t) kf (fun i v h=>h) (j+1) i _ _ _ _ _ ⟨t2,rfl⟩ ⟨tb,rfl⟩ ?_))));refine wpAny_bind (wpAny_holding (wpAny_truthy_bool ?_));refine wpAny_bind (wpAny_letGo (wpAny_pure ?_));by_cases hb':kf (j+1) > kf i
   ·have s1:=Heap.SameBut.update s2.heap S (Obj.mapSeq fun _=>#[v,.int (kf (j+1)) t2]);obtain ⟨c2,hc2⟩:∃c2,(s2.heap.update S (Obj.mapSeq fun _=>#[v,.int (kf (j+1)) t2])).get? S=some (seqObj "list" #[v,.int (kf (j+1)) t2] c2):=⟨_,get?_update_seq gS2 fun _=>#[v,.int (kf (j+1)) t2]⟩;simp only [hb',decide_true,if_true];refine wpAny_bind ?_;refine wpAny_updateSeq gS2 rfl (wpAny_bind (wpAny_letGo ?_));rw [hname];have I3:=I2'.repin (t':=s2.toks) (o':=seqObj "list" #[v,.int (kf (j+1)) t2] c2) (cS.cons (Ne.symm hSI)) (fun b o n e=>(s1.2 b n).trans e) hc2 (fun z y=>by cases y);refine wpAny_pure ⟨plainId_quiet PySem.F.plain_max_loop _,ih (j+1) (j+1) _ v x2 t2 c2 oI' (by ext) (by ext) I3 ⟨oI',(s1.2 I hSI.symm).trans gI2,hoc,hod⟩ hx2 rx2 (Nat.le_refl _) fun j' hj'=>?_⟩;by_cases e:j'=j+1
    ·subst e;exact ⟨by ext,fun z=>by ext⟩
    ·have hb1:=(hbest j' (by ext)).1;exact ⟨by ext,fun _=>by ext⟩
   ·simp only [hb',decide_false,Bool.false_eq_true,if_false];refine wpAny_bind (wpAny_letGo ?_);rw [hname];refine wpAny_pure ⟨plainId_quiet PySem.F.plain_max_loop _,ih (j+1) i _ vb x tb c oI' (by ext) (by ext) I2' hit2 hx rx (by ext) fun j' hj'=>?_⟩;by_cases e:j'=j+1
    ·subst e;exact ⟨by ext,fun z=>by ext⟩
    ·exact hbest j' (by ext)
theorem Qd (hc:X.calm=true) (kf:Nat->Int) {s:Shared} {Q:Value->Shared->Prop} {E:Value->Shared->Prop} (hq:SqL X.K H l xs) (hne:0 < xs.length) (Iv:Inv X pins σ H s)
 (turn:∀(i:Nat) (x:V) (u:Value) (ps:List (Addr × Obj)) (s:Shared),xs[i]?=some x->AF x u->(∀p∈pins,p∈ps)->Inv X ps σ H s->wpAny (model X.prog X.w) X.A.in1 (call (.ref f) [u]) (fun v s'=>Inv X ps σ H s'/\∃t,v=.int (kf i) t) (fun _ _=>False) s)
 (hQ:∀(i:Nat) (x:V) (v:Value) (s:Shared),xs[i]?=some x->AF x v->(∀j,j < xs.length->kf j<=kf i/\(j < i->kf j < kf i))->Inv X pins σ H s->Q v s) :
 wpAny (model X.prog X.w) X.A (call (.builtin "max") [.ref l] [(Str.ofString "key",.ref f)]) Q E s:=by
 have hname:(toString "max"++toString ".loop":String)="max.loop":=by decide
 obtain ⟨its,rv,pl,hz⟩:=Iv.list hq;have hlen:xs.length=its.length:=rv.length;have hls:=pl.isList;obtain ⟨ol,hol,_⟩:=id hls;have hll:l < s.heap.objs.size:=Heap.lt_size hol;refine kmk_tree PySem.F.kind_max PySem.F.plain_max PySem.F.entry_max (kmk_max_key _ _) ?_;show wpAny _ X.A.in1 (Builtin.Builtins.bindParams "max" ["key","default"] 0 ⟨[],[(Str.ofString "key",.ref f)]⟩ >>= _) _ _ s;refine wpAny_bind (wpAny_of_eq (show Builtin.Builtins.bindParams "max" ["key","default"] 0 ⟨[],[(Str.ofString "key",.ref f)]⟩=pure [some (.ref f),none] from rfl) ?_);refine wpAny_bind (wpAny_pure ?_);refine wpAny_bind (wpAny_pyIter_list hls ?_);refine wpAny_bind (wpAny_newList ?_ (Nat.zero_le _));rw [hname];have hS:(s.heap.push { cls:=.type "list_iterator",data:=.fields #[.ref l,.int 0 0] }).objs.size=s.heap.objs.size+1:=size_push' ..;have hlI:l≠s.heap.objs.size:=Nat.ne_of_lt hll;have hSI:(s.heap.push { cls:=.type "list_iterator",data:=.fields #[.ref l,.int 0 0] }).objs.size≠s.heap.objs.size:=by rw [hS];exact Nat.ne_of_gt (Nat.lt_succ_self _)
 have I1:=Iv.kept (t':=s.toks) (h':=s.heap.push { cls:=.type "list_iterator",data:=.fields #[.ref l,.int 0 0] }) fun b u e=>Heap.get?_push_of_some _ e;have cI:DY X pins H s.heap.objs.size:=Iv.cloc (Nat.le_refl _);have cS:DY X pins H (s.heap.push { cls:=.type "list_iterator",data:=.fields #[.ref l,.int 0 0] }).objs.size:=I1.cloc (Nat.le_refl _);have nfI:=Iv.nofs (Nat.le_refl _);have nfS:=I1.nofs (Nat.le_refl _);have I2:=I1.kept (t':=s.toks) (h':=(s.heap.push { cls:=.type "list_iterator",data:=.fields #[.ref l,.int 0 0] }).push (seqObj "list" #[] 0)) fun b u e=>Heap.get?_push_of_some _ e
 have gI:((s.heap.push { cls:=.type "list_iterator",data:=.fields #[.ref l,.int 0 0] }).push (seqObj "list" #[] 0)).get? s.heap.objs.size=some { cls:=.type "list_iterator",data:=.fields #[.ref l,.int 0 0] } :=
  Heap.get?_push_of_some _ (Heap.get?_push_size _ rfl)
 have gS:((s.heap.push { cls:=.type "list_iterator",data:=.fields #[.ref l,.int 0 0] }).push (seqObj "list" #[] 0)).get? (s.heap.push { cls:=.type "list_iterator",data:=.fields #[.ref l,.int 0 0] }).objs.size=some (seqObj "list" #[] 0):=Heap.get?_push_size _ rfl;generalize (s.heap.push { cls:=.type "list_iterator",data:=.fields #[.ref l,.int 0 0] }).objs.size=S at hSI cS nfS gS ⊢;generalize hI:s.heap.objs.size=I at hSI cI nfI gI hlI ⊢;have I3:=(I2.pin1 cS gS nfS (fun z y=>by cases y)).pin1 (cI.cons hSI) gI nfI (fun z y=>by cases y);refine wpAny_pure ⟨plainId_quiet PySem.F.plain_max_loop _,?_⟩;obtain ⟨its,rv,pl,hz⟩:=I3.list hq;have hlen:xs.length=its.length:=rv.length;have W:=Walks.list (prog:=X.prog) (w:=X.w) (A:=X.A.in1) (I3.ok.hd hc) I l hlI its.toArray;have hsz:its.toArray.size=its.length:=size_toArray ..;refine codeAny_builtin PySem.F.entry_max_loop ?_;rw [Around.under_plainId PySem.F.plain_max_loop _];show wpAny _ X.A.in1 (seqItems? (.ref _) >>= _) _ _ _;refine wpAny_bind (wpAny_seqItems gS rfl ?_);show wpAny _ X.A.in1 (tryCatch (pyNext (.ref I)) _ >>= _) _ _ _;refine wpAny_bind (wpAny_tryCatch (W.item 0 _ _ _ (by rw [hsz,<- hlen];exact hne) ⟨⟨_,gI,rfl,rfl⟩,pl.isList⟩ fun v h' tk' hP hst' hk'=>?_));have hv:its[0]?=some v:=by simpa using hP
 obtain ⟨oI',hoI',hoc,hod⟩:=id hst'.1;obtain ⟨x2,hx2⟩:∃x2,xs[0]?=some x2:=⟨_,List.getElem?_eq_getElem hne⟩;obtain ⟨v2,hv2,rx2⟩:=rv.get hx2;rw [hv] at hv2
 cases hv2
 have I4:=I3.repin (t':=tk') (h':=h') (o':=oI') (cI.cons hSI) (fun b o n e=>hk' b o (by simpa using n) e) hoI' (fun z y=>by rw [hod] at y;cases y);show wpAny _ X.A.in1 (tryCatch (holding [v] (call (.ref f) [v])) _ >>= _) _ _ _;refine wpAny_bind (wpAny_tryCatch (wpAny_holding (wpAny_mono (turn 0 x2 v _ _ hx2 rx2 (fun p hp=>mem_cons_of_mem _ (mem_cons_of_mem _ hp)) I4) (fun y s2 he=>?_) fun _ _ hF=>hF.elim)));obtain ⟨I5,t2,rfl⟩:=he;have gI2:=(I5.pin _ (mem_append_right _ (mem_cons_self ..))).1;have gS2:=(I5.pin _ (mem_append_right _ (mem_cons_of_mem _ (mem_cons_self ..)))).1
 have I5':Inv X ((S,seqObj "list" #[] 0) :: (I,oI') :: pins) σ H s2:=I5.sub fun p hp=>by
  rcases mem_cons.mp hp with rfl | hp
  ·exact mem_cons_of_mem _ (mem_cons_self ..)
  ·rcases mem_cons.mp hp with rfl | hp
   ·exact mem_cons_self ..
   ·exact mem_cons_of_mem _ (mem_cons_of_mem _ hp)
 have s1:=Heap.SameBut.update s2.heap S (Obj.mapSeq fun _=>#[v,.int (kf 0) t2]);obtain ⟨c2,hc2⟩:∃c2,(s2.heap.update S (Obj.mapSeq fun _=>#[v,.int (kf 0) t2])).get? S=some (seqObj "list" #[v,.int (kf 0) t2] c2):=⟨_,get?_update_seq gS2 fun _=>#[v,.int (kf 0) t2]⟩;show wpAny _ X.A.in1 (updateSeq S (fun _=>#[v,.int (kf 0) t2]) >>= _) _ _ _;refine wpAny_bind ?_;refine wpAny_updateSeq gS2 rfl ?_;rw [hname];have I6:=I5'.repin (t':=s2.toks) (o':=seqObj "list" #[v,.int (kf 0) t2] c2) (cS.cons (Ne.symm hSI)) (fun b o n e=>(s1.2 b n).trans e) hc2 (fun z y=>by cases y);refine wpAny_pure ⟨plainId_quiet PySem.F.plain_max_loop _,OI hc kf hq hlI hSI cI cS turn hQ _ 0 0 _ v x2 t2 c2 oI' rfl hne I6 ⟨oI',(s1.2 I hSI.symm).trans gI2,hoc,hod⟩ hx2 rx2 (Nat.le_refl _) fun j' hj'=>?_⟩;have e:j'=0:=by ext
 subst e;exact ⟨by ext,fun z=>absurd z (Nat.lt_irrefl _)⟩
end
theorem Fun.okC {P:Program} {w:World} {K:PySem.W.Frag} {mg:Str->Option Value} {base:Heap} {x qual:Str} {st:Stmt} {f:Addr} {fd:FuncData} {N ps:List Str} {k:Nat} {sp:Sp} (F:Fun K x qual st f fd) (S:Ap N ps (Af st)) (len:∀vs H Q E,sp vs H Q E->vs.length=ps.length)
 (hbody:∀(cdv:Value),fd.code=cdv->∀(A:Around) (outer:List Env) (s:Shared) (H:Hp) (vs:List V) (Q:VK) (E:XK),CB k (A.deeper (envOfC qual (Af st) s.heap.objs.size f cdv))->sp vs H Q E ->
  ∃t,PSs (Kd CX0 P w K mg base N qual (Af st) f cdv A outer s H E).nox (CQ st) t/\t { nx:=fun _ H'=>Q .non H',rt:=Q } (start N vs) H):AZ P w K mg base CX0 (k+1) f fd ps sp:=by
 obtain ⟨oc,od,kV,doc,pm,an,cdv,ct,osl,rfl,lk,hcd⟩:=F.ex;refine O0 lk hcd S len fun A outer s H vs Q E hr hsp=>?_;obtain ⟨t,h,q⟩:=hbody cdv rfl A outer s H vs Q E hr hsp;exact ⟨t,h.nox,q⟩
section
variable {M:Model} {A:Around} {E:Value->Shared->Prop} {s:Shared} {env:Env}
theorem P6 {pos:Pos} {T:String} {e:Expr} {kws:List Keyword} {Q:Value->Shared->Prop}
 (h:wpAny M A (spliced (backTo pos (starEach [e] env))) (fun vs z=>wpAny M A (evalAll ((backToKw pos (keywordEach kws env)).map (·.2))) (fun us y=>wpAny M A (call (.builtin T) vs (((backToKw pos (keywordEach kws env)).filterMap (·.1)).zip us)) Q E y) E z) E s)
 (he:backTo pos (starEach [e] env)=(false,eval e env) :: backTo pos (starEach [] env)) (hp:(backTo pos (starEach [e] env)).any (·.1)=false)
 (ha:(backToKw pos (keywordEach kws env)).all (·.1.isSome)=true) (hk:(backToKw pos (keywordEach kws env)).any (·.1.isNone)=false) :
 wpAny M A (callWith pos (.builtin T) [] (backTo pos (starEach [e] env)) (backToKw pos (keywordEach kws env))) Q E s:=by
 unfold callWith
 have y:wpAny M A (evalArgs (.builtin T) true (backTo pos (starEach [e] env)) (backToKw pos (keywordEach kws env))) (fun a z=>wpAny M A (call (.builtin T) ([]++a.pos) a.kw) Q E z) E s:=by
  rw [he] at h ⊢;exact evalArgs_kwB ha h
 refine wpAny_bind (wpAny_holding (wpAny_mono y (fun a z q=>wpAny_bind (wpAny_standAt ?_)) fun _ _ x=>x));simp only [hp,hk,Bool.or_false];refine wpAny_bind (wpAny_pure (wpAny_bind ?_));exact wpAny_mono q (fun r z hr=>wpAny_bind (wpAny_holding (wpAny_point (wpAny_pure hr)))) fun _ _ x=>x
end
def QA (K:PySem.W.Frag) (P:Addr) (lpos:Pos) (q:Str) (tl tb:TE):TE:=fun σ H Q=>tl σ H fun x H1=>∃(a:Addr) (xs:List V) (kf:Nat->Int),x=.ref a/\0 < xs.length/\G0 P lpos q H1 /\
 ∀H2,E4 P lpos q H2->SmL P H1 H2->(E4 P lpos q H1->H1=H2)->(∀b,H2 b=none->H1 b=none) ->
  SqL K H2 a xs/\(∀i x,xs[i]?=some x->tb (σ++[some x]) H2 fun y H3=>y=.int (kf i)/\H3=H2)/\∀i x,xs[i]?=some x->(∀j,j < xs.length->kf j<=kf i/\(j < i->kf j < kf i))->Q x H2
section
variable {X:Cx} {c P:Addr} {e body:Expr} {tl tb:TE} {sc fsc:Scope} {N Nc:List Str} {x:Str} {params:Arguments} {lpos kp p pos:Pos}
theorem ND (hc:X.calm=true) (LB:Gz X.base X.mg c P) (hcode:X.env.code=.ref c) (hr:CB 1 X.A) (hg:Gl X "max") (hm:X.mg "max"=none) (hE:X.env.scope=fsc) (hXN:X.N=N) (cn:DR N Nc x sc fsc) (hco:sc.isCoroutine=false) (hgen:sc.isGenerator=false) (he:PE X e tl)
 (hb:∀cl f c' s H,PE (X.inLam X.A.in1 Nc (X.env.qual++"<lambda>") sc cl f c' s H) body tb)
 (hbind:∀cl c' pm ctv u,bindArgs (kla_fn "<lambda>" (X.env.qual++"<lambda>") params body sc cl pm (.ref c') ctv) ⟨[u],[]⟩=pure [(x,u)]:=by intros;rfl) (hdef:defaultsOf params X.env=([],[]):=by rfl)
 (h1:backTo pos (starEach [e] X.env)=(false,eval e X.env) :: backTo pos (starEach [] X.env):=by rfl) (h2:(backTo pos (starEach [e] X.env)).any (·.1)=false:=by rfl)
 (h3:(backToKw pos (keywordEach [⟨some "key",.Lambda params body sc lpos,kp⟩] X.env)).all (·.1.isSome)=true:=by rfl) (h4:(backToKw pos (keywordEach [⟨some "key",.Lambda params body sc lpos,kp⟩] X.env)).any (·.1.isNone)=false:=by rfl)
 (h5:(backToKw pos (keywordEach [⟨some "key",.Lambda params body sc lpos,kp⟩] X.env)).filterMap (·.1)=[("key":Str)]:=by rfl) :
 PE X (.Call (.Name "max" p) [e] [⟨some "key",.Lambda params body sc lpos,kp⟩] pos) (QA X.K P lpos (X.env.qual++"<lambda>") tl tb):=by
 intro pins s σ H Q I h;obtain ⟨cl,hcl,clS,clH⟩:=Da (env:=X.env) (sc:=sc) (Om I.ok.has hE cn);refine wpAny_Call_Name_kw (BX I hg hm boot_max ?_ (by decide) (by decide));refine P6 ?_ h1 h2 h3 h4;rw [h1];refine Calls.spliced_cons (thn (he pins s σ H _ I h) fun u s1 ⟨y,H1,I1,r1,a,xs,kf,hx,hne,lt,q⟩=>?_);subst hx
 cases r1
 refine Calls.spliced_nil ?_;refine kws_cons (kla_eval hdef (OB LB hcode hcl I1 lt fun f c' pm ctv H2 s2 I2 hc2 cf l2 sm l12 fr=>kws_nil ?_));rw [h5];show wpAny (model X.prog X.w) X.A (call (.builtin "max") [.ref a] [(Str.ofString "key",.ref f)]) _ _ s2;obtain ⟨hq,keys,fin⟩:=q H2 l2 sm l12 fr;refine Qd hc kf hq hne I2 (fun i z u ps s3 hz rz hps I3=>?_) fun i z v s3 hz rz best I3=>?_
 ·refine thn (OA hE hXN cn hco hgen clS clH (A:=X.A.in1) rfl hr.hd (by have:=hr.dp;show X.A.depth < _;ext) (fun s H=>hb cl f c' s H) (fun pm ctv u=>hbind cl c' pm ctv u) I3 (hps _ (mem_cons_self ..)) hc2 rz (keys i z hz)) fun v s4 ⟨y,H4,I4,r4,e1,e2⟩=>?_;subst e1 e2;exact ⟨I4,r4⟩
 ·exact ⟨z,H2,I3.sub fun p hp=>mem_cons_of_mem _ hp,rz,fin i z hz best⟩
end
noncomputable def M1 (K:PySem.W.Frag):Bool:=K.all fun p=>match p.2.data with
 | .fields v=>!(v.isEmpty && p.2.cls == Value.none)
 | _=>true
theorem Kt {α:Type} {a:Addr} {v:α}:∀{l:List (Addr × α)},l.lookup a=some v->(a,v)∈l
 | (k,u) :: r,h=>by
   rw [lookup_cons] at h
   cases hx:(a == k) with
   | true =>
     rw [hx] at h;have e:a=k:=by simpa using hx
     cases h
     rw [e];exact mem_cons_self ..
   | false =>
     rw [hx] at h;exact mem_cons_of_mem _ (Kt h)
theorem LI {K:PySem.W.Frag} (h:M1 K=true) {P:Addr}:K.lookup P≠some (tabObj #[]):=fun e=>by
 have:=all_eq_true.mp h _ (Kt e);exact absurd (show (!((#[]:Array Value).isEmpty && (Value.none == Value.none)))=true from this) (by decide)
theorem Nz {P:Program} {w:World} {K:PySem.W.Frag} {mg mb:Str->Option Value} {CX:CXT} {k:Nat} {fa a c Pt:Addr} {fd:FuncData} {x:Str} {sp:Sp} {s₁:Shared} {vs:List Value} {ns:List Int}
 (KX:K.In s₁.heap) (hnt:M1 K=true) (hns:s₁.heap.Ns mainGlobals mg) (hb:s₁.heap.Ns builtinsNs mb) (hbb:∀x:Str,x≠"__name__"->mb x=bootBuiltins x) (hlim:s₁.heap.NoLimit) (hg:s₁.gens=#[])
 (ha:s₁.heap.get? a=some { cls:=.type "list",data:=.seq vs.toArray }) (hi:IntsAre vs ns) (hl:ns.length<=sizeLine) (hr:CB k callerA)
 (hco:s₁.heap.IsCode c Pt #[]) (hta:s₁.heap.TableAt c Pt #[]) (hbm:∃bm ob,mg "__builtins__"=some (.ref bm)/\bm≠builtinsNs/\s₁.heap.get? bm=some ob/\ob.cls=.type "module"/\ob.dict=some builtinsNs/\ob.data=.plain)
 (F:∀base:Heap,K.In base->base.Ns mainGlobals mg->Gz base mg c Pt->AZ P w K mg base CX k fa fd [x] sp) (hbind:∀(s:Shared) (u:Value),BindsTo s fd ⟨[u],[]⟩ [(x,u)])
 (hsp:∀H:Hp,H Pt=some (.tbl #[])->SqL K H a (ns.map V.int)->sp [.ref a] H (fun v _=>v=.bl true) fun _ _ _=>False)
 (hCX:∀H e s',CX [] H s₁ (fun _ _ _=>False) e s'->False) :
 codeAny (model P w) callerA (.call (.ref fa) ⟨[.ref a],[]⟩) (fun r s'=>r=.ok (.ret (.bool true))/\OldK s₁.heap s'.heap/\s'.os=s₁.os/\AllBare s'.gens) s₁:=by
 have rv:=E3 hi;have lenV:=hi.length;have hPt:s₁.heap.get? Pt=some (tabObj #[]):=hta.2;have aP:a≠Pt:=fun z=>by rw [z,hPt] at ha;cases ha
 have kP:K.lookup Pt=none:=by
  cases e:K.lookup Pt with
  | none=>rfl
  | some o =>
    have:=KX _ _ e;rw [hPt] at this;rw [<- Option.some.inj this] at e;exact absurd e (LI hnt)
 have core:∀H:Hp,(∀b,H b=none\/(b=Pt/\H b=some (.tbl #[]))\/(b=a/\∃o xs,H b=some (.frz o (.lst xs))))->H Pt=some (.tbl #[])->SqL K H a (ns.map V.int)->HOk P w H s₁.heap->(H a≠none->K.lookup a=none) ->
  codeAny (model P w) callerA (.call (.ref fa) ⟨[.ref a],[]⟩) (fun r s'=>r=.ok (.ret (.bool true))/\OldK s₁.heap s'.heap/\s'.os=s₁.os/\AllBare s'.gens) s₁:=by
  intro H hO hP hS hok hK;have base_of:∀{b:Addr} {o:Obj},s₁.heap.get? b=some o->H b=none->(GI s₁.heap H).get? b=some o:=fun e n=>O6 e n
  have other:∀{b:Addr} {o:Obj},s₁.heap.get? b=some o->o.cls≠.type "list"->(o.cls≠.none\/∀v,o.data≠.fields v)->H b=none:=fun {b o} e n1 n2=>by
   rcases hO b with z | ⟨z,_⟩ | ⟨z,_⟩
   ·exact z
   ·subst z;rw [hPt] at e;cases e;rcases n2 with n2 | n2
    ·exact absurd rfl n2
    ·exact absurd rfl (n2 _)
   ·subst z;rw [ha] at e;cases e;exact absurd rfl n1
  have noA:∀{b:Addr} {o:Obj} {es:Array DictEntry} {ep:Nat},s₁.heap.get? b=some o->o.data=.dict es ep->H b=none:=fun {b o es ep} e d=>by
   rcases hO b with z | ⟨z,_⟩ | ⟨z,_⟩
   ·exact z
   ·subst z;rw [hPt] at e;cases e;cases d
   ·subst z;rw [ha] at e;cases e;cases d
  have nsK:∀{b:Addr} {m:Str->Option Value},s₁.heap.Ns b m->(GI s₁.heap H).Ns b m:=fun {b m} ⟨o,es,ep,e,d,r⟩=>⟨o,es,ep,base_of e (noA e d),d,r⟩
  have hKb:K.In (GI s₁.heap H):=fun b o e=>base_of (KX b o e) (by
   rcases hO b with z | ⟨z,_⟩ | ⟨z,y⟩
   ·exact z
   ·subst z;rw [kP] at e;cases e
   ·subst z
    cases q:H b with
    | none=>rfl
    | some u=>rw [hK (by rw [q];simp)] at e;cases e)
  have hM:Mod K mg (GI s₁.heap H):=⟨hKb,nsK hns,⟨mb,nsK hb,hbb⟩,let ⟨mc,h1,h2⟩:=hlim;⟨mc,nsK h1,h2⟩⟩
  have LB:Gz (GI s₁.heap H) mg c Pt:=by
   refine ⟨?_,?_,?_⟩
   ·obtain ⟨o,vs',file,tf,flags,tg,inF,text,tt,e,ec,r⟩:=CodeHd.of hco hta;exact ⟨o,vs',file,tf,flags,tg,inF,text,tt,base_of e (other e (by rw [ec];decide) (.inl (by rw [ec];decide))),ec,r⟩
   ·obtain ⟨bm,ob,b1,b2,b3,b4,r⟩:=hbm;exact ⟨bm,ob,b1,b2,base_of b3 (other b3 (by rw [b4];decide) (.inl (by rw [b4];decide))),b4,r⟩
   ·cases e:(GI s₁.heap H).get? Pt with
    | none=>rfl
    | some o=>rw [(M3 e).2] at hP;cases hP
  have e0:Lp P w K mg (GI s₁.heap H) callerA [] s₁ H:=⟨rfl,hM,fun b o e=>M3 e,Nat.le_of_eq (Nt _ _),trivial,fun b hb=>absurd (show b∈([]:List Addr) from hb) (by simp),hok,.of_eq hg⟩;refine codeAny_mono ((F _ hKb (nsK hns) LB).run callerA [] s₁ H ⟨[.ref a],[]⟩ [.ref a] [.ref a] _ _ hr e0 (hbind s₁ (.ref a)) (.cons rfl .nil) (hsp H hP hS)) fun r s' h=>?_
  cases r with
  | error e=>exact (hCX H e s' h).elim
  | ok fl =>
    cases fl with
    | next=>exact False.elim h
    | brk=>exact False.elim h
    | cont=>exact False.elim h
    | ret u =>
      obtain ⟨v,H',os,bare,un,hok',r',q⟩:=h;have q':v=.bl true:=q;subst q';obtain rfl:u=Value.bool true:=r';refine ⟨rfl,⟨fun b o e=>?_,fun b o e=>un.there b o e (by simp)⟩,os,bare⟩;rcases hO b with z | ⟨z,y⟩ | ⟨z,ob,xs,y⟩
      ·exact .inl (un.keep b o e z (by intro z;exact absurd (show b∈([]:List Addr) from z) (by simp)) (by simp))
      ·subst z;rw [hPt] at e;cases e;obtain ⟨more,z2⟩:=un.tbls b _ y;exact .inr (.inl ⟨hta.isCodeTable,rfl,#[],more,rfl,hok' b _ z2⟩)
      ·have z2:=un.frzs b ob _ y;obtain ⟨e1,_⟩:=hok b _ y;obtain ⟨e2,_⟩:=hok' b _ z2;rw [e] at e1;cases e1;exact .inl e2
 cases hk:K.lookup a with
 | some o =>
   have e:=KX a o hk;rw [ha] at e
   cases e
   refine core (fun b=>if b=Pt then some (.tbl #[]) else none) (fun b=>?_) (if_pos rfl) (.inr ⟨_,vs.toArray,_,hk,rfl,rfl,rfl,by rw [size_toArray,lenV];exact hl,by simpa using rv⟩) (fun b u z=>?_) fun z=>absurd (if_neg aP) z
   ·by_cases hb:b=Pt
    ·exact .inr (.inl ⟨hb,if_pos hb⟩)
    ·exact .inl (if_neg hb)
   ·by_cases hb:b=Pt
    ·have z':=(if_pos hb).symm.trans z
     cases z'
     subst hb;exact hPt
    ·have z':=(if_neg hb).symm.trans z
     cases z'
 | none =>
   refine core (fun b=>if b=Pt then some (.tbl #[]) else if b=a then some (.frz { cls:=.type "list",data:=.seq vs.toArray } (.lst (ns.map V.int))) else none) (fun b=>?_) (if_pos rfl) (.inl (.inr ⟨{ cls:=.type "list",data:=.seq vs.toArray },(if_neg aP).trans (if_pos rfl)⟩)) (fun b u z=>?_) fun _=>hk
   ·by_cases hb:b=Pt
    ·exact .inr (.inl ⟨hb,if_pos hb⟩)
    ·by_cases hb2:b=a
     ·exact .inr (.inr ⟨hb2,_,_,(if_neg hb).trans (if_pos hb2)⟩)
     ·exact .inl ((if_neg hb).trans (if_neg hb2))
   ·by_cases hb:b=Pt
    ·have z':=(if_pos hb).symm.trans z
     cases z'
     subst hb;exact hPt
    ·have z:=(if_neg hb).symm.trans z;by_cases hb2:b=a
     ·have z':=(if_pos hb2).symm.trans z
      cases z'
      subst hb2;exact ⟨ha,by rw [length_map];exact hl,vs,_,rv,ha⟩
     ·have z':=(if_neg hb2).symm.trans z
      cases z'
theorem walk_of1 {l:PySem.W.OpenLaw} {n k:Nat} {q:Program} {loose:List Str} {XP:(Str->Option Value)->Heap->Prop} {YP:World->Heap->Prop} {d dn:DefRec} {K:Params->PySem.W.Frag} {CX:World->CXT} {sp:World->Addr->Sp} {x:Str}
 (hn:l.most=some n) (hn2:n<=sizeLine) (hdf:d.params.defaults=[]) (hr:CB k callerA)
 (hY:∀(w:World) (h:Heap),YP w h->(K w.params).In h) (hnt:∀p,M1 (K p)=true) (hdn:dn∈recsOf q)
 (F:∀(w:World) (mg:Str->Option Value) (fa f c Pt:Addr) (h:Heap),(K w.params).In h->h.Ns mainGlobals mg->mg d.name=some (.ref fa)->mg dn.name=some (.ref f)->(∃o fd,h.get? f=some o/\o.data=.func fd/\fd.code=.ref c) ->
  ∃fd:FuncData,(∀(s:Shared) (u:Value),BindsTo s fd ⟨[u],[]⟩ [(x,u)]) /\
   ∀base:Heap,(K w.params).In base->base.Ns mainGlobals mg->Gz base mg c Pt->AZ l.prog w (K w.params) mg base (CX w) k fa fd [x] (sp w Pt))
 (hsp:∀(w:World) (Pt:Addr) (H:Hp) (a:Addr) (ns:List Int),ns.length<=n->H Pt=some (.tbl #[])->SqL (K w.params) H a (ns.map V.int)->sp w Pt [.ref a] H (fun v _=>v=.bl true) fun _ _ _=>False)
 (hCX:∀(w:World) (H:Hp) (s:Shared) (e:Value) (s':Shared),CX w [] H s (fun _ _ _=>False) e s'->False) :
 PySem.W.WalkO q loose XP YP l.row.toRowW d [] (fun f vs=>PySem.call f vs):=by
 refine Att.attach_call hn hdf fun w s₀ s₁ mg mb fa o pm cd doc a vs ns G Y ho hd hcd hmg hobj hints hlen hg=>?_;have KX:=hY w _ Y;obtain ⟨f,o',fd',c,Pt,t1,t2,t3,t4,t5,t6⟩:=G.T.tab dn hdn;obtain ⟨fd,hb,hF⟩:=F w mg fa f c Pt _ KX G.T.g hmg t1 ⟨o',fd',t2,t3,t4⟩;exact Nz KX (hnt _) G.T.g G.T.b G.T.builtins G.T.nolimit hg hobj hints (Nat.le_trans hlen hn2) hr t5 t6 G.T.bmain hF hb (fun H hP hS=>hsp w Pt H a ns hlen hP hS) fun H e s'=>hCX w H s₁ e s'
end L2
namespace L2
open PySem PySem.W PySem.Spec PyProof.Rows
section
variable {X:Cx}
def Qu:V->List V->Hp->VK->Prop:=fun x vs H Q=>∃(l:Addr) (xs:List V) (k:Nat) (y:V),x=.ref l/\vs=[.int (k:Int),y]/\H l=some (.lst xs)/\k<=xs.length/\xs.length < sizeLine/\Q .non (upd H l (.lst (xs.take k++y :: xs.drop k)))
theorem N2:MtM X "list.insert" Qu:=by
 intro pins s σ H x vs v us Q I rx rv h;obtain ⟨l,xs,k,y,rfl,rfl,hH,hk,hz1,q⟩:=h
 cases rx
 obtain ⟨u1,u2,rfl,ru1,ru2⟩:∃u1 u2,us=[u1,u2]/\AF (.int (k:Int)) u1/\AF y u2:=by
  cases rv with
  | cons r1 t=>cases t with
    | cons r2 t2=>cases t2;exact ⟨_,_,rfl,r1,r2⟩
 obtain ⟨t,rfl⟩:=ru1;obtain ⟨z,its,n,r,hl,e⟩:=I.lstM hH;have hs:sizeLine=16777216:=sizeLine_eq;obtain ⟨i,hi⟩:∃i:Int,i=(k:Int):=⟨_,rfl⟩;rw [<- hi];have fi:Builtin.List.listFitsIndex i=true:=fitsIndex_both (by ext) (by ext);have zi:its.toArray.size<=sizeLine:=by rw [size_toArray];ext
 refine call_meets PySem.F.slot_list_insert ⟨_,e,rfl⟩ PySem.F.entry_list_insert (PySem.F.args_list_insert_3 _ _ _) (PySem.AutoSeq1.list_insert_list_int_val_1 l its.toArray n i t u2 (by simp [fi]) zi) ⟨e,?_⟩;refine ⟨.non,_,I.lset (its':=its.take k++u2 :: its.drop k) hH e ?_ ((r.take k).append (.cons ru2 (r.drop k))) ?_,rfl,q⟩
 ·have kk:(if i < 0 then (i+(its.toArray.size:Int)).toNat else min i.toNat its.toArray.size)=k:=by
   rw [if_neg (by ext),hi,Int.toNat_natCast,size_toArray];ext
  show (its.toArray.extract 0 (if i < 0 then (i+(its.toArray.size:Int)).toNat else min i.toNat its.toArray.size)).push u2++its.toArray.extract (if i < 0 then (i+(its.toArray.size:Int)).toNat else min i.toNat its.toArray.size)=_;rw [kk];apply Array.ext';simp;exact take_of_length_le (by rw [length_drop];exact Nat.le_refl _)
 ·rw [length_append,length_cons,length_take,length_drop];ext
end
section
variable {X:Cx} {e:Expr} {te:TE} {p p2 pos pos2:Pos}
def Q9 (K:PySem.W.Frag) (te:TE):TE:=fun σ H Q=>te σ H fun x H1=>∃(a:Addr) (ns:List Int),x=.ref a/\SqL K H1 a (ns.map V.int)/\ns.length < 64 /\
 ∀ms:List Int,ms.Nodup->(∀z,z∈ms↔z∈ns)->Q (.int (ms.length:Int)) H1
theorem NC (hc:X.calm=true) (hg:Gl X "len") (hm:X.mg "len"=none) (hg2:Gl X "set") (hm2:X.mg "set"=none) (he:PE X e te)
 (hs:starEach [e] X.env=[(false,eval e X.env)]:=by rfl)
 (hs2:starEach [(.Call (.Name "set" p2) [e] [] pos2:Expr)] X.env=[(false,eval (.Call (.Name "set" p2) [e] [] pos2) X.env)]:=by rfl) :
 PE X (.Call (.Name "len" p) [.Call (.Name "set" p2) [e] [] pos2] [] pos) (Q9 X.K te):=by
 intro pins s σ H Q I h;refine wpAny_Call_Name_kw (BX I hg hm boot_len ?_ (by decide) (by decide));refine callWith_builtin1 ?_ hs2 rfl;rw [hs2];refine Calls.spliced_cons ?_;refine wpAny_Call_Name_kw (BX I hg2 hm2 boot_set ?_ (by decide) (by decide));refine callWith_type1 ?_ hs rfl;rw [hs];refine Calls.spliced_cons (thn (he pins s σ H _ I h) fun u s1 ⟨x,H1,I1,r1,a,ns,hx,hq,h64,q⟩=>?_);subst hx
 cases r1
 refine Calls.spliced_nil ?_;obtain ⟨its,rv,pl,hz⟩:=I1.list hq;have hi:=BJ rv;have hlen:its.length=ns.length:=hi.length;refine Ga (items:=its.toArray) (ns:=ns) (I1.ok.hd hc) pl.isList (by simpa using hi) (by rw [size_toArray,hlen];unfold scanBound;ext) fun h2 tk2 hS k2=>?_;refine Calls.spliced_nil ?_;have ez:its.toArray.size=ns.length:=by rw [size_toArray];exact hlen
 rw [ez] at hS
 have l64:(firstMet (fun i=>ns.getD i 0) ns.length).length < 64:=by
  have:=firstMet_length_le (fun i=>ns.getD i 0) ns.length;ext
 obtain ⟨o,es,ep,t,ms,ho,hc',hd,_,i1,i2,hsz,hf,_⟩:=hS
 have el:es.size=(firstMet (fun i=>ns.getD i 0) ns.length).length:=by
  have a1:=i1.length;rw [length_map,Array.length_toList] at a1;rw [a1,i2.length_eq]
 have kp:∀b o,s1.heap.get? b=some o->h2.get? b=some o:=fun b o q=>k2 b o (Heap.lt_size q) q;have I2:=I1.kept (t':=tk2) kp;refine call_len_set (s:={ s1 with heap:=h2,toks:=tk2 }) ho hc' hd hf (by ext) ?_;refine ⟨.int _,H1,I2.tok _,⟨_,by rw [el]⟩,q _ (GF _ _) fun z=>Oz⟩
end
end L2
namespace L2
open PySem PySem.W PySem.Spec PyProof.Rows
section
variable {prog:Program} {w:World} {A:Around} {E:Value->Shared->Prop} {s:Shared}
end
section
variable {prog:Program} {w:World} {A:Around} {E:Value->Shared->Prop} {s:Shared}
end
section
variable {X:Cx} {e e2:Expr} {te te2:TE} {p p2 p3 pos pos2 pos3 pos4:Pos}
end
end L2
namespace L2
open PySem PySem.Spec PyProof.Rows
section
variable {X:Cx} {W:St->XK} {k:Nat} {f C:Addr} {fd:FuncData} {ps:List Str} {sp:Sp} {dvs:List V} {ds:List Value} {x m:Str} {p pos apos:Pos} {e o:Expr} {es:List Expr} {ta:TE} {t:TA}
structure RQ (K:PySem.W.Frag) (C B:Addr):Prop where
 ha:PySem.W.findIn K (.ref C) "__class__"=some (some (.builtin "object.__class__"))
 hn:PySem.W.specialIn K (.builtin "object.__class__") "__get__"=some (some (.builtin "getset_descriptor.__get__"))
 htk:PySem.W.takesIn K (.builtin "object.__class__")=some true
 hm:PySem.W.mroIn K C (.type "object")=some true
 kt:PySem.W.kitOne K (.ref C) (.ref B)=some true
end
end L2
namespace L2
open PySem PySem.W PySem.Spec PyProof.Rows
section
variable {prog:Program} {w:World} {A:Around} {E:Value->Shared->Prop} {s:Shared} {Q:Bool->Shared->Prop}
end
section
variable {X:Cx}
theorem DJ:OpR X (compareOp .IsNot) (fun x y H Q=>∃b:Bool,y=.bl b/\Q (.bl (!decide (x=.bl b))) H):=by
 intro pins s σ H x y v u Q I rx ry h;obtain ⟨b,rfl,q⟩:=h
 cases ry
 cases x with
 | bl a =>
   cases rx
   have e:(Value.bool a == Value.bool b)=decide (V.bl a=V.bl b):=by cases a <;> cases b <;> rfl
   refine wpAny_pure ⟨.bl (!decide (V.bl a=V.bl b)),H,I,?_,q⟩;show Value.bool (!(Value.bool a == Value.bool b))=Value.bool _;rw [e]
 | _ =>
   first
    | (cases rx;exact wpAny_pure ⟨.bl true,H,I,rfl,q⟩)
    | (obtain ⟨t,rfl⟩:=rx;exact wpAny_pure ⟨.bl true,H,I,rfl,q⟩)
end
end L2
namespace L2
open PySem PySem.Spec PyProof.Rows
section
variable {prog:Program} {w:World} {A:Around} {E:Value->Shared->Prop} {s:Shared} {d:Addr} {es:Array DictEntry} {ep:Nat}
end
section
variable {X:Cx}
end
section
variable {prog:Program} {w:World} {A:Around} {E:Value->Shared->Prop} {s:Shared}
end
section
variable {X:Cx}
end
end L2
namespace PySem
open Sem (wp)
section
variable {prog:Program} {w:World} {K:Type} [DecidableEq K] (knd:KeyKind prog w K)
variable {knd}
variable {A:Around} {E:Value->Shared->Prop} {s:Shared}
end
end PySem
namespace L2
open PySem PySem.Spec PyProof.Rows
section
variable {P:Program} {w:World} {H:Hp} {h:Heap} {a:Addr}
end
section
variable {X:Cx} {o i e value:Expr} {pos pos' tpos:Pos} {td ty tv:TE}
end
end L2
namespace L2
open PySem PySem.Spec PyProof.Rows
section
variable {X:Cx}
end
section
variable {prog:Program} {w:World} {A:Around} {E:Value->Shared->Prop} {s:Shared}
theorem Kh {it l:Addr} {items:Array Value} (hne:l≠it):∀(n i:Nat) (s:Shared) (Q:List Value->Shared->Prop),s.heap.IsListIter it l i->s.heap.IsList l items->i+n<=items.size ->
 (∀h',h'.IsListIter it l (i+n)->Heap.SameBut it s.heap h'->Q ((items.toList.drop i).take n) { s with heap:=h' })->wpAny (model prog w) A (draw (.ref it) n) Q E s
 | 0,i,s,Q,hit,_,_,hQ=>by
   show wpAny _ _ (pure []) Q E s;exact wpAny_pure (by simpa using hQ s.heap hit (Heap.SameBut.refl ..))
 | n+1,i,s,Q,hit,ht,hle,hQ=>by
   have hlt:i < items.size:=by ext
   show wpAny _ _ (pyNext (.ref it) >>= _) Q E s;refine wpAny_bind (wpAny_pyNext_list_item hit ht (x:=items[i]) (by simp [hlt]) fun h₁ hit₁ hs₁=>?_);refine wpAny_bind (wpAny_holding (Kh hne n (i+1) _ _ hit₁ (ht.at fun o e=>hs₁.extBut _ _ hne e) (by ext) fun h₂ hit₂ hs₂=>wpAny_pure ?_));have hd:items.toList.drop i=items[i] :: items.toList.drop (i+1):=by simp [drop_eq_getElem_cons,hlt]
   have:=hQ h₂ (by rw [show i+(n+1)=i+1+n by ext];exact hit₂) (hs₁.trans hs₂);rw [hd,take_succ_cons] at this;exact this
theorem Mb {l:Addr} {items:Array Value} {Q:List Value->Shared->Prop} (hh:A.handled=none) (ht:s.heap.IsList l items)
 (hQ:∀h',Heap.ExtBut s.heap.objs.size s.heap h'->Q items.toList { s with heap:=h' }):wpAny (model prog w) A (unpackItems (.ref l) items.size none) Q E s:=by
 have hlt:l≠s.heap.objs.size:=by obtain ⟨o,ho,_⟩:=id ht;exact Nat.ne_of_lt (Heap.lt_size ho)
 unfold unpackItems;refine wpAny_bind ?_;unfold notIterableAtAll;refine wpAny_bind (wpAny_specialOf ht.typeIs F.slot_list_iter.lookup ?_);refine wpAny_pure ?_;simp only [Bool.false_eq_true,if_false];refine wpAny_bind (wpAny_holding (wpAny_pyIter_list ht ?_));refine wpAny_bind (wpAny_holding (Kh hlt items.size 0 _ _ ⟨_,Heap.get?_push_size _ rfl,rfl,rfl⟩ (ht.at fun o e=>Heap.get?_push_of_some _ e) (by ext) fun h₁ hit₁ hs₁=>?_))
 have hall:List.take items.size (List.drop 0 items.toList)=items.toList:=by
  rw [drop_zero];exact take_of_length_le (by simp)
 rw [hall];rw [if_neg (by simp)];have ht₁:h₁.IsList l items:=(ht.at fun o e=>Heap.get?_push_of_some _ e).at fun o e=>hs₁.extBut _ _ hlt e;refine wpAny_bind (wpAny_holding (wpAny_pyNext_list_end hh hit₁ ht₁ (by simp) fun h₂ he₂=>?_));simp only [Option.isSome_none,Bool.false_eq_true,if_false];refine wpAny_pure (hQ h₂ fun b o hb e=>he₂ b o hb (hs₁.extBut b o hb (Heap.get?_push_of_some _ e)))
end
def Se (K:PySem.W.Frag) (n:Nat) (t:TGs):TG:=fun v σ H Q=>∃a xs,v=.ref a/\SqL K H a xs/\xs.length=n/\t xs σ H Q
theorem Qm {X:Cx} {pos:Pos} {es:List Expr} {k:Nat} {t:TGs} {n:Nat} (hc:X.calm=true) (h:PGs X es t)
 (hn:(assignEach es X.env).length=n:=by rfl) (hst:(assignEach es X.env).findIdx? (·.1)=none:=by rfl):PG X (.Tuple es k pos) (Se X.K n t):=by
 intro pins s σ H v u Q I r hw;obtain ⟨a,xs,e1,hq,hl,hw⟩:=hw;subst e1
 cases r
 obtain ⟨its,rv,p,hz⟩:=I.list hq;rw [arm_assign_Tuple];refine wpAny_bind (wpAny_standAt ?_);unfold unpack;rw [show (assignEach es X.env).length=its.toArray.size from by simp [hn,<- hl,rv.length],hst];refine wpAny_bind (wpAny_holding (Mb (I.ok.hd hc) p.isList fun h' hx=>?_));have I1:Inv X pins σ H { s with heap:=h' }:=I.kept (t':=s.toks) fun b o e=>hx b o (Nat.ne_of_lt (Heap.lt_size e)) e;exact h pins _ σ H xs _ Q I1 (by simpa using rv) hw
end L2
namespace L2
open PySem PySem.Spec PyProof.Rows
section
variable {prog:Program} {w:World} {A:Around} {E:Value->Shared->Prop} {s:Shared}
end
section
variable {prog:Program} {w:World} {A:Around} {E:Value->Shared->Prop} {s:Shared}
end
section
variable {X:Cx} {pins:List (Addr × Obj)} {σ:St} {H:Hp}
end
section
variable {X:Cx} {e:Expr} {te:TE} {p p2 pos pos2:Pos}
end
end L2
namespace L2
open PySem PySem.Spec PyProof.Rows
section
variable {X:Cx} {pins:List (Addr × Obj)} {σ:St} {H:Hp}
end
end L2
namespace L2
open PySem PySem.Spec PyProof.Rows
end L2
namespace L2
open PySem PySem.W PySem.Spec PyProof.Rows
section
variable {O:KeyOrd} {ky:Nat->O.α} {n:Nat} {cmp:Nat->Nat->(Bool->Shared->Prop)->Shared->Prop} {J:Shared->Prop}
end
end L2
namespace L2
open PySem PySem.W PySem.Spec PyProof.Rows
section
variable {X:Cx} {pins:List (Addr × Obj)} {σ:St} {H:Hp} {xs:List V} {l f a kS:Addr} {E:Value->Shared->Prop} {P:PySem.Fin->Shared->Prop}
end
section
variable {X:Cx} {c P:Addr} {e body:Expr} {tl tb:TE} {sc fsc:Scope} {N Nc:List Str} {x:Str} {params:Arguments} {lpos kp p pos:Pos}
end
end L2
namespace L2
open PySem PySem.W PySem.Spec PyProof.Rows
section
variable {prog:Program} {w:World} {A:Around} {E:Value->Shared->Prop} {s:Shared} {κ:SortKind} {a₀:Array Keyed}
section
variable {a b:Array Keyed}
end
section
variable {a b:Array Keyed}
end
end
section
variable {X:Cx}
end
end L2
set_option maxHeartbeats 4000000
namespace Law
open PySem L2
inductive Le (K:PySem.W.Frag) (P:Addr) (vs:List V) (H:Hp) (Q:VK) (E:XK):Prop
 | mk (p:Addr) (ns:List Int):vs=[.ref p]->SqL K H p (ns.map V.int)->ns.length<=63->H P=some (.tbl #[])->(∀H',Q (.bl true) H')->Le K P vs H Q E
def Q4:Sp:=fun vs H Q _=>∃c:Int,vs=[.int c]/\Q (.bl true) H
theorem Ag {H:Hp} {p:Addr} (h:H p=none) (o:HO):Al H (upd H p o):=fun b u q=>by rw [Aj (At q h)];exact q
theorem Bg (x:Int) {y:Int} (h:0 < y):0<=x.fmod y/\x.fmod y < y:=⟨Int.fmod_nonneg_of_pos x h,Int.fmod_lt_of_pos x h⟩
theorem Q7 (x:Int) {y:Int} {n:Nat} (h:0 < y) (k:Sz n y):Sz n (x.fmod y):=by
 have e:=Bg x h;unfold Sz at k ⊢;ext
def O9:Pos:=⟨35,32,35,55⟩
def Sl:Str:=("reached_from":Str)++".<locals>."++"<lambda>"
def Hid (u v:TS):Prop:=u=v
theorem KW {t u:TS} {D:EO} {σ:St} {H:Hp} (h:∀v,Hid v u->t { D with nx:=v D } σ H):SE t u D σ H:=h u rfl
theorem JO {u v:TS} {D:EO} {σ:St} {H:Hp} (h:Hid u v) (g:v D σ H):u D σ H:=by rw [show u=v from h];exact g
theorem ML {u v:TS} {D:EO} {r:VK} {b c:St->Hp->Prop} {σ:St} {H:Hp} (h:Hid u v) (g:v D σ H):(EO.mk (u D) r b c).nx σ H:=by show u D σ H;exact JO h g
theorem Ch {xs:List V} {j:Nat}:C1 xs (some (j:Int)) none=xs.drop j:=by
 unfold C1;rw [HT.sIx_none,HT.sIx_nat];by_cases h:j<=xs.length
 ·rw [Nat.min_eq_left h];exact take_of_length_le (by rw [length_drop];exact Nat.le_refl _)
 ·rw [Nat.min_eq_right (by ext),drop_of_length_le (Nat.le_refl _),drop_of_length_le (by ext)];exact take_nil
noncomputable def bit (m:Int) (i:Nat):Bool:=decide (m / 2 ^ i % 2=1)
noncomputable def AR:Nat->(Nat->Bool)->Int
 | 0,_=>0
 | n+1,f=>(if f 0=true then 1 else 0)+2*AR n (fun i=>f (i+1))
theorem EU (s:Int) (i:Nat):bit (s / 2) i=bit s (i+1):=by
 unfold bit;rw [Int.ediv_ediv_of_nonneg (by decide:(0:Int)<=2)];have e:(2:Int)*2 ^ i=2 ^ (i+1):=by rw [Int.pow_succ,Int.mul_comm]
 rw [e]
theorem EV (s:Int):bit s 0=decide (s % 2=1):=by
 unfold bit;rw [Int.pow_zero,Int.ediv_one]
theorem Dg:∀n f,0<=AR n f
 | 0,_=>Int.le_refl _
 | n+1,f=>by
   have:=Dg n (fun i=>f (i+1));show 0<=(if f 0=true then (1:Int) else 0)+2*AR n (fun i=>f (i+1))
   split <;> ext
theorem Jp:∀n f,AR n f < 2 ^ n
 | 0,_=>by show (0:Int) < 1;decide
 | n+1,f=>by
   have:=Jp n (fun i=>f (i+1));show (if f 0=true then (1:Int) else 0)+2*AR n (fun i=>f (i+1)) < 2 ^ (n+1);rw [Int.pow_succ]
   split <;> ext
theorem Iq (n f):AR (n+1) f / 2=AR n (fun i=>f (i+1)):=by
 show ((if f 0=true then (1:Int) else 0)+2*AR n (fun i=>f (i+1))) / 2=_
 split <;> ext
theorem GP (n f):(AR (n+1) f % 2=1)↔f 0=true:=by
 show (((if f 0=true then (1:Int) else 0)+2*AR n (fun i=>f (i+1))) % 2=1)↔_
 split <;> rename_i h
 ·exact ⟨fun _=>h,fun _=>by ext⟩
 ·exact ⟨fun e=>by ext,fun e=>absurd e h⟩
theorem Bi:∀n {f g:Nat->Bool},(∀i,i < n->f i=g i)->AR n f=AR n g
 | 0,_,_,_=>rfl
 | n+1,f,g,h=>by
   show (if f 0=true then (1:Int) else 0)+2*AR n (fun i=>f (i+1))=(if g 0=true then (1:Int) else 0)+2*AR n (fun i=>g (i+1));rw [h 0 (by ext),Bi n (f:=fun i=>f (i+1)) (g:=fun i=>g (i+1)) fun i hi=>h (i+1) (by ext)]
theorem Cd:∀n f,AR (n+1) f=AR n f+(if f n=true then 2 ^ n else 0)
 | 0,f=>by
   show (if f 0=true then (1:Int) else 0)+2*0=0+(if f 0=true then (1:Int) else 0)
   split <;> decide
 | n+1,f=>by
   show (if f 0=true then (1:Int) else 0)+2*AR (n+1) (fun i=>f (i+1))=(if f 0=true then (1:Int) else 0)+2*AR n (fun i=>f (i+1))+(if f (n+1)=true then 2 ^ (n+1) else 0);rw [Cd n (fun i=>f (i+1)),Int.pow_succ]
   split <;> split <;> ext
theorem BZ:∀n f i,bit (AR n f) i=(decide (i < n) && f i)
 | 0,f,i=>by
   unfold bit;show decide ((0:Int) / 2 ^ i % 2=1)=_;rw [Int.zero_ediv];rfl
 | n+1,f,0=>by
   rw [EV];by_cases h:f 0=true
   ·rw [decide_eq_true ((GP n f).mpr h),h];rfl
   ·rw [decide_eq_false (fun e=>h ((GP n f).mp e)),Bool.eq_false_iff.mpr h];rfl
 | n+1,f,i+1=>by
   rw [<- EU,Iq,BZ n]
   have:decide (i < n)=decide (i+1 < n+1):=by
    by_cases h:i < n
    ·rw [decide_eq_true h,decide_eq_true (by ext)]
    ·rw [decide_eq_false h,decide_eq_false (by ext)]
   rw [this]
theorem JW:∀n f s,Builtin.bitAnd (AR n f) s=AR n (fun i=>f i && bit s i)
 | 0,f,s=>by
   show Builtin.bitAnd 0 s=0;rw [PyProof.Rows.bitAnd_comm,PyProof.Rows.bitAnd_zero]
 | n+1,f,s=>by
   rw [PySem.W.kbt_halves,Iq,JW n];show _=(if (f 0 && bit s 0)=true then (1:Int) else 0)+2*AR n (fun i=>f (i+1) && bit s (i+1));have e:AR n (fun i=>f (i+1) && bit (s / 2) i)=AR n (fun i=>f (i+1) && bit s (i+1)):=Bi n fun i _=>by rw [EU]
   rw [e]
   have c:(AR (n+1) f % 2=1/\s % 2=1)↔(f 0 && bit s 0)=true:=by
    rw [Bool.and_eq_true,GP,EV,decide_eq_true_eq]
   by_cases h:(f 0 && bit s 0)=true
   ·rw [if_pos h,if_pos (c.mpr h)];ext
   ·rw [if_neg h,if_neg (fun z=>h (c.mp z))];ext
theorem Ir {n:Nat} {f:Nat->Bool} (h:∀i,i < n->f i=false):AR n f=0:=by
 induction n with
 | zero=>rfl
 | succ n ih =>
   rw [Cd,h n (by ext),ih fun i hi=>h i (by ext)];rfl
theorem Qg {n:Nat} {f:Nat->Bool} {i:Nat} (hi:i < n) (h:f i=true):AR n f≠0:=by
 intro e;have:=BZ n f i;rw [e,h,decide_eq_true hi] at this;unfold bit at this;rw [Int.zero_ediv] at this;exact absurd this (by decide)
noncomputable def hands (n:Nat) (f:Nat->Bool):List Int:=((List.range n).filter f).map fun i:Nat=>(i:Int)
theorem C3 (n:Nat) (f:Nat->Bool):hands (n+1) f=if f n=true then hands n f++[(n:Int)] else hands n f:=by
 unfold hands;rw [range_succ,filter_append,map_append];by_cases h:f n=true
 ·rw [if_pos h];simp [h]
 ·rw [if_neg h];have h':f n=false:=by simpa using h
  simp [h']
theorem C2 (n:Nat) (f:Nat->Bool):(hands n f).length<=n:=by
 unfold hands;rw [length_map];exact Nat.le_trans (length_filter_le _ _) (by simp)
theorem BM {n:Nat} {f:Nat->Bool} {z:Int}:z∈hands n f↔∃i:Nat,i < n/\f i=true/\z=(i:Int):=by
 unfold hands;rw [mem_map]
 constructor
 ·rintro ⟨i,hi,rfl⟩;obtain ⟨h1,h2⟩:=mem_filter.mp hi;exact ⟨i,mem_range.mp h1,h2,rfl⟩
 ·rintro ⟨i,h1,h2,rfl⟩;exact ⟨i,mem_filter.mpr ⟨mem_range.mpr h1,h2⟩,rfl⟩
noncomputable def QX (hs:List Int):Int:=(hs.map fun h=>(1:Int)*2 ^ h.toNat).sum
theorem EC:∀n f,QX (hands n f)=AR n f
 | 0,f=>rfl
 | n+1,f=>by
   rw [C3,Cd];by_cases h:f n=true
   ·rw [if_pos h,if_pos h];unfold QX;rw [map_append,sum_append];have:=EC n f;unfold QX at this;rw [this];simp
   ·rw [if_neg h,if_neg h,EC n f];ext
noncomputable def ins (x:Int):List Int->List Int
 | []=>[x]
 | y :: r=>if x < y then x :: y :: r else if x=y then y :: r else y :: ins x r
noncomputable def CG:List Int->List Int
 | []=>[]
 | x :: r=>ins x (CG r)
theorem Jj {x z:Int}:∀{l:List Int},z∈ins x l↔z=x\/z∈l
 | []=>by unfold ins;simp
 | y :: r=>by
   unfold ins
   split
   ·simp
   ·split
    ·rename_i h;subst h;simp
    ·rw [mem_cons,Jj (l:=r),mem_cons]
     constructor
     ·rintro (h | h | h)
      ·exact .inr (.inl h)
      ·exact .inl h
      ·exact .inr (.inr h)
     ·rintro (h | h | h)
      ·exact .inr (.inl h)
      ·exact .inl h
      ·exact .inr (.inr h)
theorem Kn {x:Int}:∀{l:List Int},l.Pairwise (· < ·)->(ins x l).Pairwise (· < ·)
 | [],_=>by unfold ins;simp
 | y :: r,h=>by
   unfold ins;rw [pairwise_cons] at h
   split
   ·rename_i c
    rw [pairwise_cons];refine ⟨fun z hz=>?_,pairwise_cons.mpr h⟩;rcases mem_cons.mp hz with e | e
    ·ext
    ·have:=h.1 z e;ext
   ·split
    ·exact pairwise_cons.mpr h
    ·rename_i c d
     rw [pairwise_cons];refine ⟨fun z hz=>?_,Kn h.2⟩;rcases Jj.mp hz with e | e
     ·ext
     ·exact h.1 z e
theorem Fn {z:Int}:∀{l:List Int},z∈CG l↔z∈l
 | []=>Iff.rfl
 | x :: r=>by
   show z∈ins x (CG r)↔_;rw [Jj,Fn,mem_cons]
theorem F8:∀l:List Int,(CG l).Pairwise (· < ·)
 | []=>.nil
 | x :: r=>Kn (F8 r)
theorem IH:∀{a b:List Int},a.Pairwise (· < ·)->b.Pairwise (· < ·)->(∀z,z∈a↔z∈b)->a=b
 | [],[],_,_,_=>rfl
 | [],y :: b,_,_,h=>nomatch (h y).mpr (mem_cons_self ..)
 | x :: a,[],_,_,h=>nomatch (h x).mp (mem_cons_self ..)
 | x :: a,y :: b,ha,hb,h=>by
   rw [pairwise_cons] at ha hb
   have e:x=y:=by
    rcases mem_cons.mp ((h x).mp (mem_cons_self ..)) with e | e
    ·exact e
    ·rcases mem_cons.mp ((h y).mpr (mem_cons_self ..)) with f | f
     ·exact f.symm
     ·have:=ha.1 y f;have:=hb.1 x e;ext
   subst e;rw [IH ha.2 hb.2 fun z=>?_]
   constructor
   ·intro hz;rcases mem_cons.mp ((h z).mp (mem_cons_of_mem _ hz)) with e | e
    ·have:=ha.1 z hz;ext
    ·exact e
   ·intro hz;rcases mem_cons.mp ((h z).mpr (mem_cons_of_mem _ hz)) with e | e
    ·have:=hb.1 z hz;ext
    ·exact e
theorem Q5 {ms ns:List Int} (h:ms.Pairwise (· < ·)) (m:∀z,z∈ms↔z∈ns):ms=CG ns:=IH h (F8 ns) fun z=>(m z).trans Fn.symm
theorem Lg:∀l:List Int,(CG l).length<=l.length
 | []=>Nat.le_refl _
 | x :: r=>by
   have ih:=Lg r
   have:∀l:List Int,(ins x l).length<=l.length+1:=by
    intro l
    induction l with
    | nil=>exact Nat.le_refl _
    | cons y l ihl =>
      unfold ins
      split
      ·exact Nat.le_refl _
      ·split
       ·exact Nat.le_succ _
       ·exact Nat.succ_le_succ ihl
   exact Nat.le_trans (this (CG r)) (Nat.succ_le_succ ih)
noncomputable def isR (rs:List Int) (r:Int) (i:Nat):Bool:=decide (rs[i]?=some r)
noncomputable def CO (rs:List Int) (r:Int):Int:=AR rs.length (isR rs r)
noncomputable def BS (rs:List Int):List Int:=((CG rs).filter fun r=>decide (0 < r)).map (CO rs)
inductive QO (K:PySem.W.Frag) (vs:List V) (H:Hp) (Q:VK) (E:XK):Prop
 | mk (p:Addr) (ns:List Int) (k:Int):vs=[.ref p,.int k]->SqL K H p (ns.map V.int)->ns.length<=63->0<=k->k<=1000->(∀z:Int,0<=z->z < 10 ^ 40->Q (.int z) H)->QO K vs H Q E
inductive MH (vs:List V) (H:Hp) (Q:VK) (E:XK):Prop
 | mk (c b:Int):vs=[.int c,.int b]->Sz 200 c->Sz 64 b->(∀z:Int,0<=z->z < 10 ^ 18->Q (.int z) H)->MH vs H Q E
theorem S3 {c:Int} (h0:0<=c) (h:c < 10 ^ 40):Sz 200 c:=Fo (by ext) (by ext)
theorem RD {c:Int} (h0:0<=c) (h:c < 10 ^ 18):Sz 64 c:=Fo (by ext) (by ext)
theorem My (x:Int):0<=(x.fmod ((10:Int) ^ (18:Int).toNat+3)).fdiv 7/\(x.fmod ((10:Int) ^ (18:Int).toNat+3)).fdiv 7 < 10 ^ 18:=by
 have h:=Bg x (show (0:Int) < (10:Int) ^ (18:Int).toNat+3 by decide);generalize x.fmod ((10:Int) ^ (18:Int).toNat+3)=y at h ⊢;rw [Int.fdiv_eq_ediv_of_nonneg y (by decide)];have e:(10:Int) ^ (18:Int).toNat=1000000000000000000:=by decide
 rw [e] at h;ext
theorem Ay {H H':Hp} {l:Addr} {o:HO} (s:Al H H') (n:H l=none):Al H (upd H' l o):=fun b u e=>by
 rw [Aj (At e n)];exact s b u e
theorem ifT {c:Bool} {A B:Prop} (e:c=true) (h:A):if c=true then A else B:=by rw [if_pos e];exact h
theorem ifF {c:Bool} {A B:Prop} (e:c=false) (h:B):if c=true then A else B:=by rw [if_neg (by rw [e];decide)];exact h
theorem N4 {a b:Int} (h:a≠b):(!decide (V.int a=V.int b))=true:=by rw [decide_eq_false (fun e=>h (V.int.inj e))];rfl
theorem N3 {a b:Int} (h:a=b):(!decide (V.int a=V.int b))=false:=by rw [h,decide_eq_true rfl];rfl
theorem Nn {a b:Int} (h:a=b):decide (V.int a=V.int b)=true:=by rw [h];exact decide_eq_true rfl
theorem Nm {a b:Int} (h:a≠b):decide (V.int a=V.int b)=false:=decide_eq_false fun e=>h (V.int.inj e)
theorem int_at {ns:List Int} {i:Nat} {x:V} (h:(ns.map V.int)[i]?=some x):∃z,ns[i]?=some z/\x=.int z:=by
 rw [List.getElem?_map] at h
 cases e:ns[i]? with
 | none=>rw [e] at h;cases h
 | some z=>rw [e] at h;exact ⟨z,rfl,(Option.some.inj h).symm⟩
theorem atN {ns:List Int} {i:Nat} {z:Int} (h:ns[i]?=some z):atI (ns.map V.int) (i:Int)=some (.int z):=Bv (by rw [List.getElem?_map,h];rfl)
theorem D9 {h:Nat} (hh:h < 64):NV 1 (h:Int):=⟨by ext,by ext,by decide⟩
theorem SJ (x:Int):Builtin.bitAnd x 1=x % 2:=PySem.W.kbt_mask x 1
theorem Il (m:Int) (h:Int):decide (V.int (Builtin.bitAnd (m / 2 ^ h.toNat) 1)=V.int 1)=bit m h.toNat:=by
 unfold bit;rw [SJ];by_cases c:m / 2 ^ h.toNat % 2=1
 ·rw [decide_eq_true c,decide_eq_true (congrArg V.int c)]
 ·rw [decide_eq_false c,decide_eq_false fun e=>c (V.int.inj e)]
theorem Qe (m:Int) (i:Nat):m / 2 ^ i % 2=if bit m i=true then 1 else 0:=by
 have e:m / 2 ^ i % 2=0\/m / 2 ^ i % 2=1:=by ext
 unfold bit;rcases e with e | e
 ·rw [e];rfl
 ·rw [e];rfl
theorem Qf (m:Int) (h:Nat):Builtin.bitOr m (1*2 ^ h)=m+2 ^ h*(if (!bit m h)=true then 1 else 0):=by
 rw [Int.one_mul,PyProof.Rows.bitOr_and,PySem.W.kbt_bit,Qe]
 cases bit m h <;> simp
inductive MG (vs:List V) (H:Hp) (Q:VK) (E:XK):Prop
 | mk (m h:Int):vs=[.int m,.int h]->0<=h->Q (.bl (bit m h.toNat)) H->MG vs H Q E
def S2:Sp:=fun vs H Q _=>∃h:Int,vs=[.int h]/\0<=h/\h<=12/\Q (.int (1*2 ^ h.toNat - 1)) H
inductive Pn (vs:List V) (H:Hp) (Q:VK) (E:XK):Prop
 | mk (m h:Int):vs=[.int m,.int h]->0<=h->h < 12->Q (.int (Builtin.bitOr m (1*2 ^ h.toNat))) H->Pn vs H Q E
def NO:Sp:=fun vs H Q _=>∃m:Int,vs=[.int m]/\0<=m/\m < 4096/\∀(p:Addr) (H':Hp),H p=none->Al H H'->H' p=some (.lst ((hands 12 (bit m)).map V.int))->Q (.ref p) H'
abbrev Tb:=List (Addr × List Int)
noncomputable def vtb (t:Tb):List V:=t.map fun r=>.ref r.1
def RP (H:Hp) (t:Tb) (h:Nat):Prop:=t.length=h/\∀r∈t,H r.1=some (.lst (r.2.map V.int))/\r.2.length=h
noncomputable def ups (n:Nat):List Int:=(List.range n).map fun i:Nat=>(i:Int)
inductive IL (vs:List V) (H:Hp) (Q:VK) (E:XK):Prop
 | mk (a:Addr) (t:Tb) (h:Nat):vs=[.ref a]->H a=some (.lst (vtb t))->t.length=h->h<=12->(∀(l:Addr) (H':Hp),H l=none->Al H H'->H' l=some (.lst ((ups h).map V.int))->Q (.ref l) H')->IL vs H Q E
theorem atG {xs:List Int} {n:Nat} (h:n < xs.length):atI (xs.map V.int) (n:Int)=some (.int (xs.getD n 0)):=by
 refine atN ?_;rw [getD_eq_getElem?_getD,List.getElem?_eq_getElem h];rfl
theorem JP {n i:Nat} {z:Int} (h:(ups n)[i]?=some z):z=(i:Int)/\i < n:=by
 unfold ups at h;rw [List.getElem?_map] at h;obtain ⟨j,hj,rfl⟩:=Option.map_eq_some_iff.mp h
 have hi:i < n:=by
  have:=(List.getElem?_eq_some_iff.mp hj).1;rwa [length_range] at this
 rw [List.getElem?_range hi] at hj;exact ⟨by rw [<- Option.some.inj hj],hi⟩
theorem BC (n:Nat):(ups n).length=n:=by unfold ups;rw [length_map,length_range]
noncomputable def Bo (rs:List Int) (i:Nat):Int:=if rs.getD i 0=0 then 1000000000 else rs.getD i 0
abbrev Vo:=List (Addr × Addr × List Int × Int)
noncomputable def vvo (vo:Vo):List V:=vo.map fun q=>.ref q.1
def FB (h:Nat) (H:Hp) (vo:Vo):Prop:=∀q∈vo,H q.1=some (.tup [.ref q.2.1,.int q.2.2.2])/\H q.2.1=some (.lst (q.2.2.1.map V.int))/\q.2.2.1.length=h
theorem FB.same {h:Nat} {H H':Hp} {vo:Vo} (s:Al H H') (g:FB h H vo):FB h H' vo:=fun q m=>⟨s _ _ (g q m).1,s _ _ (g q m).2.1,(g q m).2.2⟩
theorem MO {vo:Vo} {i:Nat} {x:V} (h:(vvo vo)[i]?=some x):∃q,vo[i]?=some q/\x=.ref q.1/\q∈vo/\vo.take (i+1)=vo.take i++[q]:=by
 unfold vvo at h;rw [List.getElem?_map] at h;obtain ⟨q,hq,rfl⟩:=Option.map_eq_some_iff.mp h;exact ⟨q,hq,rfl,mem_of_getElem? hq,by rw [take_add_one,hq];rfl⟩
theorem JR (vo:Vo):(vvo vo).length=vo.length:=length_map ..
noncomputable def JM (f:List Int->Bool) (vo:Vo):Int:=(vo.map fun q=>if f q.2.2.1=true then q.2.2.2 else 0).sum
theorem Jc (f:List Int->Bool) (a:Vo) (q:Addr × Addr × List Int × Int):JM f (a++[q])=JM f a+if f q.2.2.1=true then q.2.2.2 else 0:=by
 unfold JM;rw [map_append,sum_append];show _+(_+0)=_;rw [Int.add_zero]
inductive MI (vs:List V) (H:Hp) (Q:VK) (E:XK):Prop
 | mk (a:Addr) (rs:List Int) (i:Nat):vs=[.ref a,.int (i:Int)]->H a=some (.lst (rs.map V.int))->i < rs.length->Q (.int (Bo rs i)) H->MI vs H Q E
theorem S1 {n j:Nat} (h:j < n):seqIndex? (j:Int) n=some j:=(Jk (i:=(j:Int)) (by unfold ixN;rw [if_pos (by ext)];simp [h])).1
theorem map_erase {α β:Type} (f:α->β):∀(l:List α) (k:Nat),(l.map f).eraseIdx k=(l.eraseIdx k).map f
 | [],_=>rfl
 | _ :: _,0=>rfl
 | x :: l,k+1=>by
   show f x :: (l.map f).eraseIdx k=f x :: (l.eraseIdx k).map f;rw [map_erase f l k]
theorem K9:∀{b:List Int} {k:Nat} {y:Int},b[k]?=some y->(y :: b.eraseIdx k).Perm b
 | x :: b,0,y,h=>by
   have:x=y:=Option.some.inj h;rw [this];exact List.Perm.refl _
 | x :: b,k+1,y,h=>by
   show (y :: x :: b.eraseIdx k).Perm (x :: b);exact (List.Perm.swap x y _).trans ((K9 (b:=b) (k:=k) h).cons x)
theorem none_of {H H':Hp} {a:Addr} (s:Al H H') (h:H' a=none):H a=none:=by
 cases e:H a with
 | none=>rfl
 | some u=>rw [s _ _ e] at h;cases h
theorem erase_perm {a b c:List Int} {k:Nat} {y:Int} (h:b[k]?=some y) (p:(a++b).Perm c):(a++[y]++b.eraseIdx k).Perm c:=by
 rw [append_assoc];exact (List.Perm.append_left a (K9 h)).trans p
theorem Oq {z d:Int} (z0:0<=z) (h:1<=d) (z1:z < 10 ^ 18):0<=z.fdiv d/\z.fdiv d < 10 ^ 18:=by
 have l:=Int.fmod_def z d;have m:=Bg z (show 0 < d by ext)
 have a:0<=z.fdiv d:=by
  rcases (by omega:0<=z.fdiv d\/z.fdiv d<=-1) with c | c
  ·exact c
  ·have:=Int.mul_le_mul_of_nonneg_left c (show 0<=d by ext);ext
 refine ⟨a,?_⟩;have:=Int.mul_le_mul_of_nonneg_right h a;ext
theorem Sa {z d:Int} (z0:0<=z) (d1:1<=d) (z1:z < 10 ^ 40):0<=z.fdiv d/\z.fdiv d < 10 ^ 40:=by
 rw [Int.fdiv_eq_ediv_of_nonneg _ (by ext)];exact ⟨Int.ediv_nonneg z0 (by ext),Int.lt_of_le_of_lt (Int.ediv_le_self _ z0) z1⟩
inductive IP (vs:List V) (H:Hp) (Q:VK) (E:XK):Prop
 | mk (c h:Int):vs=[.int c,.int h]->0<=c->c < 10 ^ 40->1<=h->h<=12->(∀(l:Addr) (ns:List Int) (H':Hp),Al H H'->H' l=some (.lst (ns.map V.int))->ns.Perm (ups h.toNat)->Q (.ref l) H')->IP vs H Q E
theorem u1 {n:Nat} (h:n+64 < cLine):n+1 < cLine:=by ext
theorem JY {m:Int} {i:Nat} (h0:0<=m) (h:m < 2 ^ i):bit m i=false:=by
 unfold bit;rw [Int.ediv_eq_zero_of_lt h0 h]
 decide
theorem GH {m:Int} {k:Nat} (h0:0<=m) (h:m < 2 ^ k):∀d:Nat,hands (k+d) (bit m)=hands k (bit m)
 | 0=>rfl
 | d+1=>by
   have p:(2:Int) ^ k<=2 ^ (k+d):=by
    have q:2 ^ k<=2 ^ (k+d):=Nat.pow_le_pow_right (by decide) (by ext);have e1:((2 ^ k:Nat):Int)=(2:Int) ^ k:=by simp
    have e2:((2 ^ (k+d):Nat):Int)=(2:Int) ^ (k+d):=by simp
    ext
   show hands ((k+d)+1) (bit m)=hands k (bit m);rw [C3,JY h0 (by ext),if_neg (by decide),GH h0 h d]
theorem Of {m:Int} (h0:0<=m) (h:m < 4096):hands (Builtin.Int.intBits m) (bit m)=hands 12 (bit m):=by
 have b:Builtin.Int.intBits m<=12:=intBits_le_iff.mpr (by show m.natAbs < 4096;ext);have l:m.natAbs < 2 ^ Builtin.Int.intBits m:=intBits_le_iff.mp (Nat.le_refl _)
 have l':m < (2:Int) ^ Builtin.Int.intBits m:=by
  have e:((2 ^ Builtin.Int.intBits m:Nat):Int)=(2:Int) ^ Builtin.Int.intBits m:=by simp
  ext
 obtain ⟨d,hd⟩:∃d,12=Builtin.Int.intBits m+d:=⟨12 - Builtin.Int.intBits m,by ext⟩;rw [hd,GH h0 l' d]
abbrev Ls:=List (Addr × Addr × List Int × Int)
noncomputable def vls (ls:Ls):List V:=ls.map fun q=>.ref q.1
def EQ (h:Nat) (ts:List Int):Prop:=∃rs:List Int,rs.length=h/\(∀r∈rs,0<=r/\r<=12)/\ts=BS rs
def Dv (h:Nat) (H:Hp) (ls:Ls):Prop:=∀q∈ls,H q.1=some (.tup [.ref q.2.1,.int q.2.2.2])/\H q.2.1=some (.tup (q.2.2.1.map V.int))/\EQ h q.2.2.1
theorem Dv.same {h:Nat} {H H':Hp} {ls:Ls} (s:Al H H') (g:Dv h H ls):Dv h H' ls:=fun q m=>⟨s _ _ (g q m).1,s _ _ (g q m).2.1,(g q m).2.2⟩
theorem QD {ls:Ls} {i:Nat} {x:V} (h:(vls ls)[i]?=some x):∃q,ls[i]?=some q/\x=.ref q.1/\q∈ls/\ls.take (i+1)=ls.take i++[q]:=by
 unfold vls at h;rw [List.getElem?_map] at h
 cases e:ls[i]? with
 | none=>rw [e] at h;cases h
 | some q =>
   rw [e] at h;refine ⟨q,rfl,(Option.some.inj h).symm,mem_of_getElem? e,?_⟩;rw [take_succ,e];rfl
theorem MM (ls:Ls):(vls ls).length=ls.length:=length_map ..
inductive Pm (K:PySem.W.Frag) (vs:List V) (H:Hp) (Q:VK) (E:XK):Prop
 | mk (p:Addr) (rs:List Int):vs=[.ref p]->SqL K H p (rs.map V.int)->rs.length<=12->(∀(t:Addr) (H':Hp),H t=none->Al H H'->H' t=some (.tup ((BS rs).map V.int))->Q (.ref t) H')->Pm K vs H Q E
def InR (h:Int) (rs:List Int):Prop:=(rs.length:Int)=h/\∀r∈rs,0<=r/\r<=12
inductive IS (vs:List V) (H:Hp) (Q:VK) (E:XK):Prop
 | mk (c h:Int):vs=[.int c,.int h]->0<=c->c < 10 ^ 18->1<=h->h<=12->(∀(l:Addr) (rs:List Int) (H':Hp),H l=none->Al H H'->H' l=some (.lst (rs.map V.int))->InR h rs->Q (.ref l) H')->IS vs H Q E
theorem Pu {rs:List Int} {r:Int} (m:r∈rs):0 < CO rs r:=by
 obtain ⟨i,hi⟩:=List.getElem?_of_mem m;have:=Qg (f:=isR rs r) (List.getElem?_eq_some_iff.mp hi).1 (by unfold isR;exact decide_eq_true hi);have:=Dg rs.length (isR rs r);unfold CO;ext
noncomputable def HF (rs:List Int) (us:List Int):List Int:=us.map fun r=>if 0 < r then CO rs r else 0
theorem G6 {rs:List Int}:∀us:List Int,(∀u∈us,u∈rs)->(HF rs us).filter (fun t=>decide (0 < t))=(us.filter fun r=>decide (0 < r)).map (CO rs)
 | [],_=>rfl
 | u :: us,h=>by
   have ih:=G6 us fun x m=>h x (mem_cons_of_mem _ m);show ((if 0 < u then CO rs u else 0) :: HF rs us).filter _=_;by_cases c:0 < u
   ·rw [if_pos c,filter_cons_of_pos (p:=fun t=>decide (0 < t)) (decide_eq_true (Pu (h u (mem_cons_self ..)))),filter_cons_of_pos (p:=fun r=>decide (0 < r)) (decide_eq_true c),map_cons,ih]
   ·rw [if_neg c,filter_cons_of_neg (p:=fun t=>decide (0 < t)) (by decide),filter_cons_of_neg (p:=fun r=>decide (0 < r)) (by show ¬ decide (0 < u)=true;rw [decide_eq_false c];decide),ih]
def P9 (vo:Vo):Prop:=∀q∈vo,1<=q.2.2.2/\q.2.2.2<=1000000000/\∀r∈q.2.2.1,0<=r/\r<=12
def QU (vo:Vo):Prop:=∀q∈vo,1<=q.2.2.2/\q.2.2.2<=20000000000/\∀r∈q.2.2.1,0<=r/\r<=12
theorem P9.up {vo:Vo} (n:P9 vo):QU vo:=fun q m=>⟨(n q m).1,Int.le_trans (n q m).2.1 (by decide),(n q m).2.2⟩
inductive IZ (K:PySem.W.Frag) (vs:List V) (H:Hp) (Q:VK) (E:XK):Prop
 | mk (p:Addr) (ns:List Int) (a m h:Int):vs=[.ref p,.int a,.int m,.int h]->SqL K H p (ns.map V.int)->ns.length<=63->a=2->m=12->1<=h->h<=12->(∀(l:Addr) (vo:Vo) (H':Hp),Al H H'->H' l=some (.lst (vvo vo))->vo.length<=12->1<=vo.length->FB h.toNat H' vo->P9 vo->Q (.ref l) H')->IZ K vs H Q E
def HW (h:Nat) (kvs:List (List Key × V)):Prop:=∀q∈kvs,∃(ts:List Int) (n:Int),q=(ts.map Sum.inl,.int n)/\EQ h ts
theorem O8 (ts:List Int):(ts.map Sum.inl:List Key).map kV=ts.map V.int:=by rw [map_map];rfl
theorem Np {h:Nat} {kvs:List (List Key × V)} {ts:List Int} {n:Int} (g:HW h kvs) (f:EQ h ts):HW h (CV kvs (ts.map Sum.inl) (.int n)):=by
 intro q m;unfold CV at m
 split at m
 ·obtain ⟨p,pm,rfl⟩:=mem_map.mp m
  split
  ·rename_i e
   exact ⟨ts,n,by rw [e],f⟩
  ·exact g p pm
 ·rcases mem_append.mp m with m | m
  ·exact g q m
  ·rw [mem_singleton.mp m];exact ⟨ts,n,rfl,f⟩
theorem OV {κ:Type} [DecidableEq κ] (kvs:List (κ × V)) (k:κ) (v:V):(CV kvs k v).length<=kvs.length+1:=by
 unfold CV
 split
 ·rw [length_map];ext
 ·rw [length_append];exact Nat.le_refl _
theorem Ik {h:Nat} {kvs:List (List Key × V)} {k:List Key} {v:V} (g:HW h kvs) (e:CH kvs k=some v):∃n:Int,v=.int n:=by
 unfold CH at e
 cases c:kvs.find? fun kv=>decide (kv.1=k) with
 | none=>rw [c] at e;cases e
 | some q =>
   rw [c] at e;obtain ⟨ts,n,rfl,_⟩:=g q (mem_of_find?_eq_some c);exact ⟨n,(Option.some.inj e).symm⟩
theorem LA {h:Nat}:∀{kvs:List (List Key × V)},HW h kvs->∃ks:List (List Int),kvs.map (·.1)=ks.map (List.map Sum.inl)/\ks.length=kvs.length/\∀ts∈ks,EQ h ts/\∃n:Int,CH kvs (ts.map Sum.inl)=some (.int n)
 | kvs,g=>by
   have key:∀{l:List (List Key × V)},(∀q∈l,q∈kvs)->∃ks:List (List Int),l.map (·.1)=ks.map (List.map Sum.inl)/\ks.length=l.length/\∀ts∈ks,EQ h ts/\(ts.map Sum.inl:List Key)∈kvs.map (·.1):=by
    intro l
    induction l with
    | nil=>intro _;exact ⟨[],rfl,rfl,fun _ m=>absurd m List.not_mem_nil⟩
    | cons q r ih =>
      intro sub;obtain ⟨ks,e1,e2,e3⟩:=ih fun p m=>sub p (mem_cons_of_mem _ m);obtain ⟨ts,n,eq,f⟩:=g q (sub q (mem_cons_self ..));refine ⟨ts :: ks,by rw [map_cons,map_cons,e1,eq],by rw [length_cons,length_cons,e2],fun us m=>?_⟩;rcases mem_cons.mp m with z | z
      ·subst z;exact ⟨f,mem_map.mpr ⟨q,sub q (mem_cons_self ..),by rw [eq]⟩⟩
      ·exact e3 us z
   obtain ⟨ks,e1,e2,e3⟩:=key fun q m=>m;refine ⟨ks,e1,e2,fun ts m=>⟨(e3 ts m).1,?_⟩⟩
   cases c:CH kvs (ts.map Sum.inl:List Key) with
   | none=>exact absurd (e3 ts m).2 (P4 c)
   | some v =>
     obtain ⟨n,rfl⟩:=Ik g c;exact ⟨n,rfl⟩
def Lq (B:Int) (kvs:List (List Key × V)):Prop:=∀q∈kvs,∀n:Int,q.2=.int n->0<=n/\n<=B
theorem Lq.put {B B':Int} {kvs:List (List Key × V)} {k:List Key} {n:Int} (g:Lq B kvs) (h:B<=B') (n0:0<=n) (n1:n<=B'):Lq B' (CV kvs k (.int n)):=by
 intro q m z e;unfold CV at m
 split at m
 ·obtain ⟨p,pm,rfl⟩:=mem_map.mp m
  split at e
  ·cases e;exact ⟨n0,n1⟩
  ·have:=g p pm z e;ext
 ·rcases mem_append.mp m with m | m
  ·have:=g q m z e;ext
  ·rw [mem_singleton.mp m] at e
   cases e
   exact ⟨n0,n1⟩
theorem Lq.val {B:Int} {kvs:List (List Key × V)} {k:List Key} {n:Int} (g:Lq B kvs) (e:CH kvs k=some (.int n)):0<=n/\n<=B:=by
 unfold CH at e;obtain ⟨q,hq,e⟩:=Option.map_eq_some_iff.mp e;exact g q (mem_of_find?_eq_some hq) n e
noncomputable def BU (f:List Int->Bool) (ds:List (List Int × Int)):Int:=(ds.map fun q=>if f q.1 then q.2 else 0).sum
noncomputable def dsL (ls:Ls):List (List Int × Int):=ls.map fun q=>(q.2.2.1,q.2.2.2)
theorem CZ (f:List Int->Bool) (q:List Int × Int) (r:List (List Int × Int)):BU f (q :: r)=(if f q.1 then q.2 else 0)+BU f r:=by unfold BU;rw [map_cons,sum_cons]
theorem Pp {a b:List Int} (p:a.Perm b):a.sum=b.sum:=by
 induction p with
 | nil=>rfl
 | cons x _ ih=>rw [sum_cons,sum_cons,ih]
 | swap x y l=>rw [sum_cons,sum_cons,sum_cons,sum_cons];ext
 | trans _ _ i j=>rw [i,j]
noncomputable def hv:V->Int
 | .int n=>n
 | _=>0
noncomputable def toI:Key->Int
 | .inl z=>z
 | .inr _=>0
theorem JN (ts:List Int):(ts.map Sum.inl:List Key).map toI=ts:=by rw [map_map];exact map_id _
noncomputable def dsK (kvs:List (List Key × V)):List (List Int × Int):=kvs.map fun q=>(q.1.map toI,hv q.2)
theorem Ge (f:List Int->Bool) (a b:List (List Int × Int)):BU f (a++b)=BU f a+BU f b:=by
 unfold BU;rw [map_append,sum_append]
theorem Qq {kvs:List (List Key × V)} {ts:List Int} {n:Int} (f:List Int->Bool) (e:CH kvs (ts.map Sum.inl:List Key)=none):BU f (dsK (CV kvs (ts.map Sum.inl) (.int n)))=BU f (dsK kvs)+if f ts then n else 0:=by
 unfold CV;rw [Ex,e,if_neg (by decide)];unfold dsK;rw [map_append,Ge];show _+BU f [((ts.map Sum.inl:List Key).map toI,n)]=_;rw [JN,CZ];show _+((if f ts then n else 0)+0)=_;rw [Int.add_zero]
theorem M8 {k:List Key} {w:Int} (f:List Int->Bool):∀{kvs:List (List Key × V)},k ∉ kvs.map (·.1)->kvs.map (fun kv=>if kv.1=k then (kv.1,V.int w) else kv)=kvs
 | [],_=>rfl
 | q :: r,m=>by
   rw [map_cons,M8 f (fun z=>m (mem_cons_of_mem _ z)),if_neg (fun z=>m (mem_cons.mpr (.inl z.symm)))]
theorem M9 {ts:List Int} {m n:Int} (f:List Int->Bool):∀{kvs:List (List Key × V)},(kvs.map (·.1)).Nodup->CH kvs (ts.map Sum.inl:List Key)=some (.int m) ->
 BU f (dsK (kvs.map fun kv=>if kv.1=(ts.map Sum.inl:List Key) then (kv.1,V.int (m+n)) else kv))=BU f (dsK kvs)+if f ts then n else 0
 | [],_,e=>by cases e
 | q :: r,nd,e=>by
   rw [map_cons,nodup_cons] at nd;unfold CH at e;rw [List.find?_cons] at e;by_cases c:q.1=(ts.map Sum.inl:List Key)
   ·rw [decide_eq_true c] at e;have eq:q.2=.int m:=Option.some.inj e;rw [map_cons,M8 f (c ▸ nd.1),if_pos c];show BU f ((q.1.map toI,m+n) :: dsK r)=BU f ((q.1.map toI,hv q.2) :: dsK r)+_;rw [CZ,CZ,c,JN,eq];show (if f ts then m+n else 0)+_=(if f ts then m else 0)+_+_
    cases f ts
    ·simp
    ·simp;ext
   ·rw [decide_eq_false c] at e;rw [map_cons,if_neg c];show BU f ((q.1.map toI,hv q.2) :: dsK _)=BU f ((q.1.map toI,hv q.2) :: dsK r)+_;rw [CZ,CZ,M9 f nd.2 e];ext
theorem Qr {kvs:List (List Key × V)} {ts:List Int} {m n:Int} (f:List Int->Bool) (nd:(kvs.map (·.1)).Nodup) (e:CH kvs (ts.map Sum.inl:List Key)=some (.int m)):BU f (dsK (CV kvs (ts.map Sum.inl) (.int (m+n))))=BU f (dsK kvs)+if f ts then n else 0:=by
 unfold CV;rw [Ex,e,if_pos (show (some (V.int m)).isSome=true from rfl)];exact M9 f nd e
theorem Ru {kvs:List (List Key × V)} {k:List Key} {v:V} (nd:(kvs.map (·.1)).Nodup):((CV kvs k v).map (·.1)).Nodup:=by
 unfold CV
 split
 ·rw [map_map,show ((fun x:List Key × V=>x.1) ∘ fun kv=>if kv.1=k then (kv.1,v) else kv)=(·.1) from funext fun q=>by show (if q.1=k then (q.1,v) else q).1=q.1;split <;> rfl];exact nd
 ·rename_i c
  rw [map_append,nodup_append];refine ⟨nd,by simp,fun a ha b hb e=>c ?_⟩;have:b=k:=by simpa using hb
  subst this;subst e;obtain ⟨q,qm,eq⟩:=mem_map.mp ha;exact any_eq_true.mpr ⟨q,qm,decide_eq_true eq⟩
theorem RN {kvs:List (List Key × V)} (nd:(kvs.map (·.1)).Nodup) {q:List Key × V} (m:q∈kvs):CH kvs q.1=some q.2:=by
 induction kvs with
 | nil=>cases m
 | cons p r ih =>
   rw [map_cons,nodup_cons] at nd;unfold CH;rw [List.find?_cons];rcases mem_cons.mp m with rfl | m
   ·rw [decide_eq_true rfl];rfl
   ·rw [decide_eq_false (show ¬ p.1=q.1 from fun z=>nd.1 (z ▸ mem_map.mpr ⟨q,m,rfl⟩))];exact ih nd.2 m
noncomputable def nvK (kvs:List (List Key × V)) (ts:List Int):Int:=match CH kvs (ts.map Sum.inl:List Key) with
 | some (.int n)=>n
 | _=>0
theorem LV {kvs:List (List Key × V)} {ks:List (List Int)} (nd:(kvs.map (·.1)).Nodup) (e:kvs.map (·.1)=ks.map (List.map Sum.inl)) {us:List (List Int)} (p:us.Perm ks) (f:List Int->Bool) :
 BU f (us.map fun ts=>(ts,nvK kvs ts))=BU f (dsK kvs):=by
 have e2:dsK kvs=ks.map fun ts=>(ts,nvK kvs ts):=by
  have key:∀{l:List (List Key × V)} {js:List (List Int)},(∀q∈l,q∈kvs)->l.map (·.1)=js.map (List.map Sum.inl)->dsK l=js.map fun ts=>(ts,nvK kvs ts):=by
   intro l
   induction l with
   | nil=>intro js _ z;cases js with
     | nil=>rfl
     | cons a b=>cases z
   | cons q r ih =>
     intro js sub z
     cases js with
     | nil=>cases z
     | cons a b =>
       rw [map_cons,map_cons] at z;injection z with z1 z2
       show (q.1.map toI,hv q.2) :: dsK r=_;rw [ih (fun q m=>sub q (mem_cons_of_mem _ m)) z2,map_cons,z1,JN];have v:=RN nd (sub q (mem_cons_self ..));rw [z1] at v;unfold nvK;rw [v]
       cases q.2 <;> rfl
  exact key (fun _ m=>m) e
 rw [e2];unfold BU;exact Pp ((p.map _).map _)
def RU (ls:Ls):Prop:=∀q∈ls,0<=q.2.2.2/\q.2.2.2<=1000000000000
inductive IW (vs:List V) (H:Hp) (Q:VK) (E:XK):Prop
 | mk (l:Addr) (vo:Vo) (h:Nat):vs=[.ref l]->H l=some (.lst (vvo vo))->FB h H vo->vo.length<=24->QU vo->h<=12->(∀(b:Addr) (ls:Ls) (H':Hp),Al H H'->H' b=some (.lst (vls ls))->Dv h H' ls->ls.length<=60->RU ls->(∀f,BU f (dsL ls)=JM (fun rs=>f (BS rs)) vo)->Q (.ref b) H')->IW vs H Q E
theorem PF (t:Int):∀i:Nat,bit (Builtin.bitNot t) i=!bit t i:=by
 have key:∀(i:Nat) (t:Int),bit (-t - 1) i=!bit t i:=by
  intro i
  induction i with
  | zero =>
    intro t;rw [EV,EV];by_cases c:t % 2=1
    ·rw [decide_eq_true c,decide_eq_false (by ext)];rfl
    ·rw [decide_eq_false c,decide_eq_true (by ext)];rfl
  | succ i ih =>
    intro t;rw [<- EU,<- EU,show (-t - 1) / 2=-(t / 2) - 1 from by ext];exact ih _
 intro i;rw [show Builtin.bitNot t=-t - 1 from by unfold Builtin.bitNot;ext];exact key i t
theorem Ft:∀h:Nat,(1:Int)*2 ^ h - 1=AR h fun _=>true
 | 0=>rfl
 | h+1=>by
   rw [Cd,<- Ft h,if_pos rfl,Int.pow_succ];ext
theorem Ip {h:Nat} (h12:h<=12) (f:Nat->Bool):0<=AR h f/\AR h f < 4096:=by
 have a:=Dg h f;have b:=Jp h f;have q:2 ^ h<=2 ^ 12:=Nat.pow_le_pow_right (by decide) h12;have e1:((2 ^ h:Nat):Int)=(2:Int) ^ h:=by simp
 ext
noncomputable def stp (s:(Nat->Bool) × (Nat->Nat->Int)) (t:Int):(Nat->Bool) × (Nat->Nat->Int):=(fun y=>s.1 y && !bit t y,fun x y=>s.2 x y+if (bit t x && (s.1 y && !bit t y))=true then 1 else 0)
noncomputable def stT (ts:List Int):(Nat->Bool) × (Nat->Nat->Int):=ts.foldl stp (fun _=>true,fun _ _=>0)
theorem Po (ts:List Int) (t:Int):stT (ts++[t])=stp (stT ts) t:=by unfold stT;rw [foldl_append];rfl
theorem Lm {rs:List Int} {i:Nat} {c u:Int} (h:rs[i]?=some c):bit (CO rs u) i=decide (c=u):=by
 obtain ⟨hi,_⟩:=List.getElem?_eq_some_iff.mp h;unfold CO;rw [BZ,decide_eq_true hi,Bool.true_and];unfold isR;rw [h];by_cases e:c=u
 ·rw [decide_eq_true e,decide_eq_true (by rw [e])]
 ·rw [decide_eq_false e,decide_eq_false (fun z=>e (Option.some.inj z))]
theorem Lh {rs:List Int} {x y:Nat} {a b:Int} (hx:rs[x]?=some a) (hy:rs[y]?=some b):∀(us:List Int) (s:(Nat->Bool) × (Nat->Nat->Int)),us.Pairwise (· < ·) ->
 ((us.map (CO rs)).foldl stp s).2 x y=s.2 x y+if s.1 y=true/\a∈us/\¬ (b∈us/\b<=a) then 1 else 0
 | [],s,_=>by
   rw [if_neg (fun z=>nomatch z.2.1)];exact (Int.add_zero _).symm
 | u :: us,s,pw=>by
   rw [pairwise_cons] at pw;rw [map_cons,foldl_cons,Lh hx hy us _ pw.2];unfold stp;simp only [Lm hx,Lm hy,mem_cons]
   cases s.1 y with
   | false=>simp
   | true =>
     by_cases c1:a=u
     ·have na:a ∉ us:=fun m=>by have:=pw.1 a m;ext
      by_cases c2:b=u
      ·subst c1;subst c2;simp
      ·have nb:¬ (b∈us/\b<=a):=fun m=>by have:=pw.1 b m.1;ext
       subst c1;simp [c2,na];intro mb;have:=pw.1 b mb;ext
     ·by_cases c2:b=u
      ·subst c2;by_cases m:a∈us
       ·have:=pw.1 a m;simp [c1,m];ext
       ·simp [c1,m]
      ·simp [c1,c2]
theorem FC {rs:List Int} (hR:∀r∈rs,0<=r/\r<=12) {x y:Nat} (hx:x < rs.length) (hy:y < rs.length):(stT (BS rs)).2 x y=if Bo rs x < Bo rs y then 1 else 0:=by
 have ex:=List.getElem?_eq_getElem hx;have ey:=List.getElem?_eq_getElem hy;unfold stT BS Bo;rw [Lh ex ey _ _ ((F8 rs).filter _),getD_eq_getElem?_getD,getD_eq_getElem?_getD,ex,ey];have ma:=getElem_mem hx;have mb:=getElem_mem hy;obtain ⟨a0,a1⟩:=hR _ ma;obtain ⟨b0,b1⟩:=hR _ mb
 have e:∀{c:Int},c∈rs->(c∈(CG rs).filter (fun r=>decide (0 < r))↔0 < c):=fun {c} m=>by
  rw [mem_filter,Fn,decide_eq_true_eq];exact ⟨fun z=>z.2,fun z=>⟨m,z⟩⟩
 simp only [e ma,e mb];show (0:Int)+_=_;rw [Int.zero_add];show (if True/\0 < rs[x]/\¬ (0 < rs[y]/\rs[y]<=rs[x]) then (1:Int) else 0)=if (if rs[x]=0 then (1000000000:Int) else rs[x]) < (if rs[y]=0 then 1000000000 else rs[y]) then 1 else 0;generalize rs[x]=a at *;generalize rs[y]=b at *;by_cases c1:a=0
 ·rw [if_pos c1,if_neg (by ext)];by_cases c2:b=0
  ·rw [if_pos c2,if_neg (by ext)]
  ·rw [if_neg c2,if_neg (by ext)]
 ·rw [if_neg c1];by_cases c2:b=0
  ·rw [if_pos c2,if_pos ⟨trivial,by ext,by ext⟩,if_pos (by ext)]
  ·rw [if_neg c2];by_cases c3:a < b
   ·rw [if_pos c3,if_pos ⟨trivial,by ext,by ext⟩]
   ·rw [if_neg c3,if_neg (fun z=>z.2.2 ⟨by ext,by ext⟩)]
noncomputable def Cz (x y:Nat) (ts:List Int):Bool:=decide ((stT ts).2 x y=1)
theorem MT {h x y:Nat} {ts:List Int} (f:EQ h ts) (hx:x < h) (hy:y < h) (n:Int):n*(stT ts).2 x y=if Cz x y ts=true then n else 0:=by
 obtain ⟨rs,rl,hR,rfl⟩:=f;unfold Cz;rw [FC hR (by ext) (by ext)];by_cases c:Bo rs x < Bo rs y
 ·rw [if_pos c,if_pos (by decide),Int.mul_one]
 ·rw [if_neg c,if_neg (by decide),Int.mul_zero]
def Bc (H:Hp) (as:List Addr) (h:Nat) (F:Nat->Nat->Int):Prop:=as.length=h/\as.Nodup/\∀x a,as[x]?=some a->H a=some (.lst (((List.range h).map fun y=>F x y).map V.int))
noncomputable def EI (F:Nat->Nat->Int) (x y:Nat) (n:Int):Nat->Nat->Int:=fun x' y'=>F x' y'+if x'=x/\y'=y then n else 0
theorem Bc.congr {H:Hp} {as:List Addr} {h:Nat} {F G:Nat->Nat->Int} (g:Bc H as h F) (e:∀x y,x < h->y < h->F x y=G x y):Bc H as h G:=by
 refine ⟨g.1,g.2.1,fun x a ha=>?_⟩;have hx:x < h:=by have:=(List.getElem?_eq_some_iff.mp ha).1;have:=g.1;ext
 rw [g.2.2 x a ha,show ((List.range h).map fun y=>F x y)=(List.range h).map fun y=>G x y from map_congr_left fun y m=>e x y hx (mem_range.mp m)]
theorem Bc.put {H:Hp} {as:List Addr} {h:Nat} {F:Nat->Nat->Int} (g:Bc H as h F) {x y:Nat} {a:Addr} (ha:as[x]?=some a) (n:Int):Bc (upd H a (.lst ((((List.range h).map fun y=>F x y).map V.int).set y (.int (F x y+n))))) as h (EI F x y n):=by
 refine ⟨g.1,g.2.1,fun x' a' ha'=>?_⟩;by_cases c:x'=x
 ·subst c;rw [ha] at ha'
  cases Option.some.inj ha'
  rw [Ac];refine congrArg (fun z=>some (HO.lst z)) (ext_getElem? fun k=>?_);rw [List.getElem?_set,length_map,length_map,length_range,List.getElem?_map,List.getElem?_map,List.getElem?_map,List.getElem?_map];by_cases ck:k < h
  ·rw [List.getElem?_range ck];by_cases cy:y=k
   ·subst cy;rw [if_pos rfl,if_pos ck];show some (V.int (F x' y+n))=some (V.int (EI F x' y n x' y));unfold EI;rw [if_pos ⟨rfl,rfl⟩]
   ·rw [if_neg cy];show some (V.int (F x' k))=some (V.int (EI F x' y n x' k));unfold EI;rw [if_neg (fun z=>cy z.2.symm),Int.add_zero]
  ·rw [List.getElem?_eq_none (l:=List.range h) (by rw [length_range];ext)];by_cases cy:y=k
   ·subst cy;rw [if_pos rfl,if_neg ck];rfl
   ·rw [if_neg cy];rfl
 ·have ne:a'≠a:=fun z=>by
   subst z;obtain ⟨l1,e1⟩:=List.getElem?_eq_some_iff.mp ha;obtain ⟨l2,e2⟩:=List.getElem?_eq_some_iff.mp ha';exact c ((getElem_inj g.2.1).mp (e2.trans e1.symm))
  rw [Aj ne,g.2.2 x' a' ha',show ((List.range h).map fun y'=>EI F x y n x' y')=(List.range h).map fun y'=>F x' y' from map_congr_left fun y' _=>by unfold EI;rw [if_neg (fun z=>c z.1),Int.add_zero]]
def BI (as:List Addr) (H H':Hp):Prop:=∀b o,b ∉ as->H b=some o->H' b=some o
theorem BI.trans {as:List Addr} {H H' H2:Hp} (a:BI as H H') (b:BI as H' H2):BI as H H2:=fun c o m e=>b c o m (a c o m e)
theorem BI.of {as:List Addr} {H H':Hp} (s:Al H H'):BI as H H':=fun c o _ e=>s c o e
theorem BI.put {as:List Addr} {H H':Hp} {a:Addr} {o:HO} (k:BI as H H') (m:a∈as):BI as H (upd H' a o):=fun c u n e=>by
 rw [Aj (show c≠a from fun z=>n (by rw [z];exact m))];exact k c u n e
theorem BI.same {as:List Addr} {H H1 H':Hp} (k:BI as H1 H') (s:Al H H1) (n:∀a∈as,H a=none):Al H H':=fun b o e=>k b o (fun m=>by rw [n b m] at e;cases e) (s b o e)
theorem Bc.same {H H':Hp} {as:List Addr} {h:Nat} {F:Nat->Nat->Int} (g:Bc H as h F) (s:Al H H'):Bc H' as h F:=⟨g.1,g.2.1,fun x a ha=>s _ _ (g.2.2 x a ha)⟩
theorem Bc.row {H:Hp} {as:List Addr} {h:Nat} {F:Nat->Nat->Int} (g:Bc H as h F) {x:Nat} (hx:x < h):∃a,as[x]?=some a/\a∈as/\atI (as.map V.ref) (x:Int)=some (.ref a)/\H a=some (.lst (((List.range h).map fun y=>F x y).map V.int)):=by
 have hl:x < as.length:=by rw [g.1];exact hx
 refine ⟨as[x],List.getElem?_eq_getElem hl,getElem_mem hl,Bv (by rw [List.getElem?_map,List.getElem?_eq_getElem hl];rfl),g.2.2 x _ (List.getElem?_eq_getElem hl)⟩
theorem By {h:Nat} (F:Nat->Int) {y:Nat} (hy:y < h):atI (((List.range h).map fun y=>F y).map V.int) (y:Int)=some (.int (F y)):=atN (by rw [List.getElem?_map,List.getElem?_range hy];rfl)
theorem GG {h:Nat} (h12:h<=12) (f:Nat->Bool) {z:Int}:z∈hands 12 (bit (AR h f))↔∃i:Nat,i < h/\f i=true/\z=(i:Int):=by
 rw [BM];refine ⟨fun ⟨i,_,b,e⟩=>?_,fun ⟨i,a,b,e⟩=>⟨i,by ext,by rw [BZ,decide_eq_true a,b];rfl,e⟩⟩;rw [BZ,Bool.and_eq_true,decide_eq_true_eq] at b;exact ⟨i,b.1,b.2,e⟩
theorem FE (n:Nat) (f:Nat->Bool):(hands n f).Nodup:=by
 unfold hands;exact List.Pairwise.map _ (fun a b (ne:a≠b) e=>ne (Int.ofNat.inj e)) (List.Pairwise.filter _ nodup_range)
theorem Df {n i:Nat} (h:i < n):ixN n (i:Int)=some i:=by
 unfold ixN;rw [if_pos (by ext)];simp [h]
theorem Bc.not {H:Hp} {as:List Addr} {h:Nat} {F:Nat->Nat->Int} (g:Bc H as h F) {a:Addr} (e:H a=none):a ∉ as:=fun m=>by
 obtain ⟨x,hx⟩:=List.getElem?_of_mem m;rw [g.2.2 x a hx] at e
 cases e
theorem JL {xs:List Int} (nd:xs.Nodup) {k:Nat} {z:Int} (hz:xs[k]?=some z):xs.take (k+1)=xs.take k++[z]/\z ∉ xs.take k:=by
 have e:xs.take (k+1)=xs.take k++[z]:=by rw [take_add_one,hz];rfl
 refine ⟨e,fun m=>?_⟩;have n2:=(take_sublist (k+1) xs).nodup nd;rw [e,nodup_append] at n2;exact n2.2.2 z m z (mem_singleton.mpr rfl) rfl
theorem NQ (f:List Int->Bool) (a:Ls) (q:Addr × Addr × List Int × Int):BU f (dsL (a++[q]))=BU f (dsL a)+if f q.2.2.1=true then q.2.2.2 else 0:=by
 unfold dsL;rw [map_append,Ge];show _+BU f [(_,_)]=_;rw [CZ];show _+(_+0)=_;rw [Int.add_zero]
theorem L0 {h:Nat} {ts:List Int} {t:Int} (h12:h<=12) (f:EQ h ts) (m:t∈ts):∃g:Nat->Bool,t=AR h g:=by
 obtain ⟨rs,rl,_,rfl⟩:=f;unfold BS at m;obtain ⟨r,_,rfl⟩:=mem_map.mp m;exact ⟨isR rs r,by unfold CO;rw [rl]⟩
theorem Mt {p q r:Prop} [Decidable p] [Decidable q] [Decidable r] (n z:Int) (e:r↔p\/q) (d:¬ (p/\q)):z+(if p then n else 0)+(if q then n else 0)=z+if r then n else 0:=by
 by_cases c1:p
 ·rw [if_pos c1,if_neg (fun c2=>d ⟨c1,c2⟩),if_pos (e.mpr (.inl c1)),Int.add_zero]
 ·rw [if_neg c1,Int.add_zero];by_cases c2:q
  ·rw [if_pos c2,if_pos (e.mpr (.inr c2))]
  ·rw [if_neg c2,if_neg (fun c3=>(e.mp c3).elim c1 c2)]
theorem Ku {xs:List Int} {x x':Nat}:(x':Int)∈xs++[(x:Int)]↔(x':Int)∈xs\/x'=x:=by
 rw [mem_append,mem_singleton];exact or_congr Iff.rfl ⟨fun e=>Int.ofNat.inj e,fun e=>by rw [e]⟩
inductive IQ (vs:List V) (H:Hp) (Q:VK) (E:XK):Prop
 | mk (l:Addr) (ls:Ls) (h:Nat):vs=[.ref l,.int (h:Int)]->H l=some (.lst (vls ls))->Dv h H ls->ls.length<=60->1<=h->h<=12->(∀(b:Addr) (as:List Addr) (H':Hp),H b=none->Al H H'->b ∉ as->(∀a∈as,H a=none)->H' b=some (.lst (as.map V.ref))->Bc H' as h (fun x y=>BU (Cz x y) (dsL ls))->Q (.ref b) H')->IQ vs H Q E
noncomputable def duF (vo:Vo) (x y:Nat):Int:=JM (fun rs=>decide (Bo rs x < Bo rs y)) vo
theorem Sd:∀n:Nat,(List.replicate n [V.int 0]).flatten=((List.range n).map fun _=>(0:Int)).map V.int:=by
 intro n
 have e:∀n:Nat,((List.range n).map fun _=>(0:Int))=List.replicate n 0:=by
  intro n;rw [map_const',length_range]
 rw [e]
 induction n with
 | zero=>rfl
 | succ n ih=>rw [replicate_succ,flatten_cons,ih,replicate_succ,map_cons];rfl
inductive MF (vs:List V) (H:Hp) (Q:VK) (E:XK):Prop
 | mk (l:Addr) (vo:Vo) (h:Nat):vs=[.ref l,.int (h:Int)]->H l=some (.lst (vvo vo))->FB h H vo->1<=h->h<=12->(∀(b:Addr) (as:List Addr) (H':Hp),H b=none->Al H H'->b ∉ as->(∀a∈as,H a=none)->H' b=some (.lst (as.map V.ref))->Bc H' as h (duF vo)->Q (.ref b) H')->MF vs H Q E
noncomputable def rD (xs:List Int):PyData:=.list (xs.map .int)
theorem OE:∀rss:List (List Int),PyData.canLayAll0 (rss.map rD)=true/\PyData.depthAll (rss.map rD)<=1
 | []=>⟨rfl,Nat.zero_le _⟩
 | q :: r=>by
   obtain ⟨h1,h2⟩:=OE r;obtain ⟨i1,i2⟩:=GJ q;refine ⟨?_,?_⟩
   ·show (PyData.canLayAll0 (q.map .int) && PyData.canLayAll0 (r.map rD))=true;rw [h1,i1];rfl
   ·show max (PyData.depthAll (q.map .int)+1) (PyData.depthAll (r.map rD))<=1;ext
theorem La (rss:List (List Int)):SeqAt.shaped (.list (rss.map rD))=true:=by
 obtain ⟨h1,h2⟩:=OE rss;unfold SeqAt.shaped;rw [Bool.and_eq_true];refine ⟨h1,decide_eq_true ?_⟩;show PyData.depthAll (rss.map rD)+1<=64;ext
noncomputable def BG (h:Nat) (F:Nat->Nat->Int):List (List Int):=(List.range h).map fun x=>(List.range h).map fun y=>F x y
theorem IG {K:PySem.W.Frag} {H:Hp}:∀{as:List Addr} {rss:List (List Int)},as.length=rss.length->(∀(i:Nat) (a:Addr) (r:List Int),as[i]?=some a->rss[i]?=some r->H a=some (.lst (r.map V.int)))->Reps K H (as.map V.ref) (rss.map rD)
 | [],[],_,_=>.nil
 | a :: as,r :: rss,l,e=>.cons (.lst (SqL.of (e 0 a r rfl rfl)) (.ints _)) (IG (Nat.succ.inj l) fun i b q h1 h2=>e (i+1) b q h1 h2)
theorem JE {h x:Nat} {F:Nat->Nat->Int} (hx:x < h):(BG h F)[x]?=some ((List.range h).map fun y=>F x y):=by
 unfold BG;rw [List.getElem?_map,List.getElem?_range hx];rfl
theorem En (h:Nat) (F:Nat->Nat->Int):(BG h F).length=h:=by unfold BG;rw [length_map,length_range]
theorem Bc.reps {K:PySem.W.Frag} {H:Hp} {as:List Addr} {h:Nat} {F:Nat->Nat->Int} (g:Bc H as h F):Reps K H (as.map V.ref) ((BG h F).map rD) :=
 IG (by rw [g.1,En]) fun i a r h1 h2=>by
  have hi:i < h:=by have:=(List.getElem?_eq_some_iff.mp h1).1;have:=g.1;ext
  rw [JE hi] at h2;rw [<- Option.some.inj h2];exact g.2.2 i a h1
noncomputable def Ll (as:List Addr) (h:Nat) (F:Nat->Nat->Int):Tb:=as.zip (BG h F)
theorem Bc.vtb {H:Hp} {as:List Addr} {h:Nat} {F:Nat->Nat->Int} (g:Bc H as h F):vtb (Ll as h F)=as.map V.ref:=by
 unfold Law.vtb Ll;rw [show (fun r:Addr × List Int=>V.ref r.1)=V.ref ∘ Prod.fst from rfl,<- map_map,map_fst_zip (by rw [g.1,En];exact Nat.le_refl _)]
theorem Bc.good {H:Hp} {as:List Addr} {h:Nat} {F:Nat->Nat->Int} (g:Bc H as h F):RP H (Ll as h F) h:=by
 refine ⟨by unfold Ll;rw [length_zip,g.1,En,Nat.min_self],fun r m=>?_⟩;obtain ⟨i,hi⟩:=List.getElem?_of_mem m;unfold Ll at hi;rw [List.getElem?_zip_eq_some] at hi;have hx:i < h:=by have:=(List.getElem?_eq_some_iff.mp hi.1).1;have:=g.1;ext
 rw [JE hx] at hi;rw [<- Option.some.inj hi.2];exact ⟨g.2.2 i _ hi.1,by rw [length_map,length_range]⟩
theorem HG {X:Cx} (K:PySem.W.Frag) (hK:X.K=K:=by rfl):Cc X (.type "list") (fun xs H Q=>∃p ys,xs=[.ref p]/\(SqL K H p ys\/SqT K H p ys)/\∀l,H l=none->Q (.ref l) (upd H l (.lst ys))):=by
 subst hK;exact BK
theorem Ki {h x y:Nat} {H:Hp}:∀{vo:Vo},FB h H vo->QU vo->x < h->y < h->JM (fun rs=>Cz x y (BS rs)) vo=duF vo x y
 | [],_,_,_,_=>rfl
 | q :: r,g,n,hx,hy=>by
   have ih:=Ki (vo:=r) (fun z m=>g z (mem_cons_of_mem _ m)) (fun z m=>n z (mem_cons_of_mem _ m)) hx hy;have gl:=(g q (mem_cons_self ..)).2.2;have nr:=(n q (mem_cons_self ..)).2.2;unfold duF JM at ih ⊢;simp only [map_cons,sum_cons] at ih ⊢;rw [ih];refine congrArg (·+_) ?_
   have e:Cz x y (BS q.2.2.1)=decide (Bo q.2.2.1 x < Bo q.2.2.1 y):=by
    unfold Cz;rw [FC nr (by ext) (by ext)];by_cases c:Bo q.2.2.1 x < Bo q.2.2.1 y
    ·rw [if_pos c,decide_eq_true c];rfl
    ·rw [if_neg c,decide_eq_false c];rfl
   show (if Cz x y (BS q.2.2.1)=true then q.2.2.2 else 0)=if decide (Bo q.2.2.1 x < Bo q.2.2.1 y)=true then q.2.2.2 else 0;rw [e]
structure Dy (h x:Nat) (L:Nat->Nat->Int) (be bf:List Int):Prop where
 lenb:be.length=h
 lenf:bf.length=h
 own:be.getD x 0=L x x
 low:∀y,y < h->y≠x->L x y<=be.getD y 0
 stab:∀d y,d < h->y < h->d≠x->y≠x->d≠y->min (be.getD d 0) (L d y)<=be.getD y 0
 par:∃rk:Nat->Nat,∀y,y < h->y≠x->∃p:Nat,p < h/\bf.getD y 0=(p:Int)/\rk p < rk y/\(p=x->be.getD y 0=L x y)/\(p≠x->be.getD y 0=min (be.getD p 0) (L p y))
structure Dij (h x:Nat) (L:Nat->Nat->Int) (be bf left:List Int) (rk:Nat->Nat):Prop where
 lenb:be.length=h
 lenf:bf.length=h
 nd:left.Nodup
 sub:∀z∈left,∃y:Nat,y < h/\y≠x/\z=(y:Int)
 own:be.getD x 0=L x x
 low:∀y,y < h->y≠x->L x y<=be.getD y 0
 ord:∀d y:Nat,d < h->d≠x->(d:Int) ∉ left->(y:Int)∈left->be.getD y 0<=be.getD d 0
 stab:∀d y:Nat,d < h->y < h->d≠x->y≠x->d≠y->(d:Int) ∉ left->min (be.getD d 0) (L d y)<=be.getD y 0
 rkc:∀d:Nat,d < h->(d:Int) ∉ left->rk d+left.length < h
 par:∀y,y < h->y≠x->∃p:Nat,p < h/\bf.getD y 0=(p:Int)/\(p:Int) ∉ left/\((y:Int) ∉ left->rk p < rk y)/\(p=x->be.getD y 0=L x y)/\(p≠x->be.getD y 0=min (be.getD p 0) (L p y))
theorem Dij.done {h x:Nat} {L:Nat->Nat->Int} {be bf:List Int} {rk:Nat->Nat} (g:Dij h x L be bf [] rk):Dy h x L be bf :=
 ⟨g.lenb,g.lenf,g.own,g.low,fun d y h1 h2 h3 h4 h5=>g.stab d y h1 h2 h3 h4 h5 (by simp),rk,fun y h1 h2=>let ⟨p,a,b,_,c,d⟩:=g.par y h1 h2;⟨p,a,b,c (by simp),d⟩⟩
noncomputable def CP (h x:Nat):List Int:=((List.range h).filter fun y=>decide (y≠x)).map fun y:Nat=>(y:Int)
theorem Dz {h x:Nat} {z:Int}:z∈CP h x↔∃y:Nat,y < h/\y≠x/\z=(y:Int):=by
 unfold CP;simp only [mem_map,mem_filter,mem_range,decide_eq_true_eq];exact ⟨fun ⟨y,⟨a,b⟩,e⟩=>⟨y,a,b,e.symm⟩,fun ⟨y,a,b,e⟩=>⟨y,⟨a,b⟩,e.symm⟩⟩
theorem Mi (h x:Nat):(CP h x).Nodup:=by
 unfold CP;exact List.Pairwise.map _ (fun a b (ne:a≠b) e=>ne (Int.ofNat.inj e)) (List.Pairwise.filter _ nodup_range)
theorem BN {xs ys:List Int} (n:xs.Nodup) (s:∀z∈xs,z∈ys):xs.length<=ys.length:=by
 induction xs generalizing ys with
 | nil=>exact Nat.zero_le _
 | cons a r ih =>
   rw [nodup_cons] at n;have ma:=s a (mem_cons_self ..);have:=ih (ys:=ys.erase a) n.2 fun z mz=>(mem_erase_of_ne (fun e=>n.1 (by rw [<- e];exact mz))).mpr (s z (mem_cons_of_mem _ mz));rw [length_erase_of_mem ma] at this;have:=length_pos_of_mem ma;rw [length_cons];ext
theorem JZ {h x:Nat} (hx:x < h):(CP h x).length < h:=by
 have a:=BN (xs:=(x:Int) :: CP h x) (ys:=(List.range h).map fun y:Nat=>(y:Int)) (nodup_cons.mpr ⟨fun m=>by
  obtain ⟨y,_,n,e⟩:=Dz.mp m
  exact n (Int.ofNat.inj e).symm,Mi h x⟩) (fun z m=>by
  rcases mem_cons.mp m with m | m
  ·rw [m];exact mem_map.mpr ⟨x,mem_range.mpr hx,rfl⟩
  ·obtain ⟨y,a,_,e⟩:=Dz.mp m;rw [e];exact mem_map.mpr ⟨y,mem_range.mpr a,rfl⟩)
 rw [length_cons,length_map,length_range] at a;ext
theorem Dij.start {h x:Nat} (hx:x < h) (L:Nat->Nat->Int):Dij h x L ((List.range h).map fun y=>L x y) (List.replicate h (x:Int)) (CP h x) fun _=>0:=by
 have g:∀y,y < h->((List.range h).map fun y=>L x y).getD y 0=L x y:=fun y hy=>by
  rw [getD_eq_getElem?_getD,List.getElem?_map,List.getElem?_range hy];rfl
 have inn:∀d:Nat,d < h->d≠x->(d:Int)∈CP h x:=fun d a b=>Dz.mpr ⟨d,a,b,rfl⟩;refine ⟨by simp,by simp,Mi h x,fun z m=>Dz.mp m,g x hx,fun y hy _=>by rw [g y hy];exact Int.le_refl _,fun d y a b c=>absurd (inn d a b) c,fun d y a _ b _ _ c=>absurd (inn d a b) c,fun d a _=>by have:=JZ hx;ext,fun y hy ny=>⟨x,hx,?_,fun m=>?_,fun c=>absurd (inn y hy ny) c,fun _=>g y hy,fun c=>absurd rfl c⟩⟩
 ·rw [getD_eq_getElem?_getD,List.getElem?_replicate,if_pos hy];rfl
 ·obtain ⟨y,_,n,e⟩:=Dz.mp m;exact n (Int.ofNat.inj e).symm
def Upd (h t:Nat) (L:Nat->Nat->Int) (be bf zs be' bf':List Int):Prop:=be'.length=h/\bf'.length=h/\∀y:Nat,y < h ->
 ((y:Int)∈zs/\be.getD y 0 < min (be.getD t 0) (L t y)->be'.getD y 0=min (be.getD t 0) (L t y)/\bf'.getD y 0=(t:Int)) /\
 (¬ ((y:Int)∈zs/\be.getD y 0 < min (be.getD t 0) (L t y))->be'.getD y 0=be.getD y 0/\bf'.getD y 0=bf.getD y 0)
theorem Dij.step {h x t:Nat} {L:Nat->Nat->Int} {be bf left be' bf':List Int} {rk:Nat->Nat} (g:Dij h x L be bf left rk) (hx:x < h) (ht:(t:Int)∈left) (best:∀y:Nat,(y:Int)∈left->be.getD y 0<=be.getD t 0)
 (u:Upd h t L be bf (left.erase (t:Int)) be' bf'):Dij h x L be' bf' (left.erase (t:Int)) fun y=>if y=t then h - left.length else rk y:=by
 obtain ⟨u1,u2,u3⟩:=u;obtain ⟨t',th,tx,et⟩:=g.sub _ ht;have ett:t=t':=Int.ofNat.inj et;subst ett;have mem:∀{z:Int},z∈left.erase (t:Int)↔z≠(t:Int)/\z∈left:=fun {z}=>g.nd.mem_erase_iff
 have ge:∀y,y < h->be.getD y 0<=be'.getD y 0:=fun y hy=>by
  by_cases c:(y:Int)∈left.erase (t:Int)/\be.getD y 0 < min (be.getD t 0) (L t y)
  ·rw [((u3 y hy).1 c).1];ext
  ·rw [((u3 y hy).2 c).1];exact Int.le_refl _
 have out:∀y:Nat,y < h->(y:Int) ∉ left.erase (t:Int)->be'.getD y 0=be.getD y 0/\bf'.getD y 0=bf.getD y 0:=fun y hy n=>(u3 y hy).2 fun c=>n c.1
 have nx:(x:Int) ∉ left:=fun m=>by
  obtain ⟨y,_,n,e⟩:=g.sub _ m;exact n (Int.ofNat.inj e).symm
 have nt:(t:Int) ∉ left.erase (t:Int):=fun m=>(mem.mp m).1 rfl
 have cut:∀{d:Nat},(d:Int) ∉ left.erase (t:Int)->d=t\/(d:Int) ∉ left:=fun {d} n=>by
  by_cases c:d=t
  ·exact .inl c
  ·exact .inr fun m=>n (mem.mpr ⟨fun e=>c (Int.ofNat.inj e),m⟩)
 have hxlt:∀{y:Nat},(y:Int)∈left->y < h/\y≠x:=fun {y} m=>by
  obtain ⟨y',a,b,e⟩:=g.sub _ m;rw [show y=y' from Int.ofNat.inj e];exact ⟨a,b⟩
 have len:(left.erase (t:Int)).length=left.length - 1:=length_erase_of_mem ht;have pos:=length_pos_of_mem ht;refine ⟨u1,u2,g.nd.erase _,fun z m=>g.sub z (mem.mp m).2,?_,fun y hy ny=>Int.le_trans (g.low y hy ny) (ge y hy),fun d y hd dx dn ym=>?_,fun d y hd hy dx yx dy dn=>?_,fun d hd dn=>?_,fun y hy yx=>?_⟩
 ·rw [(out x hx fun m=>nx (mem.mp m).2).1];exact g.own
 ·have ym':=mem.mp ym;have yh:=hxlt ym'.2;rw [(out d hd dn).1]
  have bd:be.getD t 0<=be.getD d 0:=by
   rcases cut dn with e | n
   ·rw [e];exact Int.le_refl _
   ·exact g.ord d t hd dx n ht
  have by':=best y ym'.2
  by_cases c:(y:Int)∈left.erase (t:Int)/\be.getD y 0 < min (be.getD t 0) (L t y)
  ·rw [((u3 y yh.1).1 c).1];ext
  ·rw [((u3 y yh.1).2 c).1];ext
 ·rw [(out d hd dn).1];have gy:=ge y hy;rcases cut dn with e | n
  ·subst e;by_cases c:(y:Int)∈left.erase (d:Int)
   ·by_cases c2:be.getD y 0 < min (be.getD d 0) (L d y)
    ·rw [((u3 y hy).1 ⟨c,c2⟩).1];exact Int.le_refl _
    ·ext
   ·rcases cut c with e | n
    ·exact absurd e.symm dy
    ·have:=g.ord y d hy yx n ht;ext
  ·have:=g.stab d y hd hy dx yx dy n;ext
 ·rw [len];rcases cut dn with e | n
  ·show (if d=t then h - left.length else rk d)+_ < h;rw [if_pos e];have:=g.rkc x hx nx;ext
  ·show (if d=t then h - left.length else rk d)+_ < h;rw [if_neg (fun e=>n (by rw [e];exact ht))];have:=g.rkc d hd n;ext
 ·obtain ⟨p,hp,p1,p2,p3,p4,p5⟩:=g.par y hy yx;by_cases c:(y:Int)∈left.erase (t:Int)/\be.getD y 0 < min (be.getD t 0) (L t y)
  ·obtain ⟨c1,c2⟩:=(u3 y hy).1 c;exact ⟨t,th,c2,nt,fun n=>absurd c.1 n,fun e=>absurd e tx,fun _=>by rw [c1,(out t th nt).1]⟩
  ·obtain ⟨c1,c2⟩:=(u3 y hy).2 c;have pn:(p:Int) ∉ left.erase (t:Int):=fun m=>p2 (mem.mp m).2;have pt:p≠t:=fun e=>p2 (by rw [e];exact ht);refine ⟨p,hp,by rw [c2,p1],pn,fun n=>?_,fun e=>by rw [c1];exact p4 e,fun e=>by rw [c1,(out p hp pn).1];exact p5 e⟩;show (if p=t then h - left.length else rk p) < if y=t then h - left.length else rk y;rw [if_neg pt];rcases cut n with e | n
   ·rw [if_pos e];have:=g.rkc p hp p2;ext
   ·rw [if_neg (fun e=>n (by rw [e];exact ht))];exact p3 n
theorem Dy.le {h x:Nat} {L:Nat->Nat->Int} {be bf be' bf':List Int} (g:Dy h x L be bf) (g':Dy h x L be' bf'):∀y,y < h->y≠x->be.getD y 0<=be'.getD y 0:=by
 obtain ⟨rk,par⟩:=g.par
 have key:∀n y,rk y<=n->y < h->y≠x->be.getD y 0<=be'.getD y 0:=by
  intro n
  induction n with
  | zero =>
    intro y r hy yx;obtain ⟨p,_,_,p1,_⟩:=par y hy yx;ext
  | succ n ih =>
    intro y r hy yx;obtain ⟨p,hp,_,p1,p2,p3⟩:=par y hy yx;by_cases c:p=x
    ·rw [p2 c];exact g'.low y hy yx
    ·rw [p3 c];have a:=ih p (by ext) hp c;have b:=g'.stab p y hp hy c yx (fun e=>by rw [e] at p1;exact Nat.lt_irrefl _ p1);ext
 exact fun y=>key (rk y) y (Nat.le_refl _)
theorem Dy.uniq {h x:Nat} {L:Nat->Nat->Int} {be bf be' bf':List Int} (g:Dy h x L be bf) (g':Dy h x L be' bf'):be=be':=by
 apply ext_getElem
 ·rw [g.lenb,g'.lenb]
 ·intro y h1 h2;have e1:be[y]=be.getD y 0:=by rw [getD_eq_getElem?_getD,List.getElem?_eq_getElem h1];rfl
  have e2:be'[y]=be'.getD y 0:=by rw [getD_eq_getElem?_getD,List.getElem?_eq_getElem h2];rfl
  rw [e1,e2];by_cases c:y=x
  ·rw [c,g.own,g'.own]
  ·have hy:y < h:=by rw [<- g.lenb];exact h1
   exact Int.le_antisymm (g.le g' y hy c) (g'.le g y hy c)
theorem Dy.cut {h x:Nat} {L:Nat->Nat->Int} {be bf:List Int} (g:Dy h x L be bf) {y u v:Nat} (hu:u < h) (hv:v < h) (cu:u=x\/be.getD y 0 < be.getD u 0) (cv:v≠x/\be.getD v 0<=be.getD y 0):L u v<=be.getD y 0:=by
 by_cases c:u=x
 ·subst c;have:=g.low v hv cv.1;ext
 ·have b:be.getD y 0 < be.getD u 0:=cu.resolve_left c;have:=g.stab u v hu hv c cv.1 (fun e=>by rw [e] at b;ext);ext
noncomputable def lk (L:Nat->Nat->Int) (ws:List Nat):List Int:=(List.range (ws.length - 1)).map fun k=>L (ws.getD k 0) (ws.getD (k+1) 0)
theorem Fc (L:Nat->Nat->Int) (p w:Nat) (r:List Nat):lk L (p :: w :: r)=L p w :: lk L (w :: r):=by
 unfold lk;rw [show (p :: w :: r).length - 1=((w :: r).length - 1)+1 from rfl,range_succ_eq_map,map_cons,map_map];rfl
structure HE (h x y:Nat) (L:Nat->Nat->Int) (be:List Int) (rk:Nat->Nat) (w:Nat) (r:List Nat):Prop where
 all:∀z∈w :: r,z < h
 rise:(w :: r).Pairwise fun a b=>rk a < rk b
 last:(w :: r).getLast?=some y
 above:∀l∈lk L (w :: r),be.getD y 0<=l
 mid:w≠x->be.getD y 0<=be.getD w 0/\(be.getD y 0=be.getD w 0\/be.getD y 0∈lk L (w :: r))
 fin:w=x->be.getD y 0∈lk L (w :: r)/\r≠[]
theorem HE.start {h x y:Nat} {L:Nat->Nat->Int} {be:List Int} (rk:Nat->Nat) (hy:y < h) (ne:y≠x):HE h x y L be rk y [] :=
 ⟨fun z m=>by rw [mem_singleton.mp m];exact hy,pairwise_singleton ..,rfl,(fun l m=>by cases m),fun _=>⟨Int.le_refl _,.inl rfl⟩,fun e=>absurd e ne⟩
theorem HE.step {h x y w p:Nat} {L:Nat->Nat->Int} {be:List Int} {rk:Nat->Nat} {r:List Nat} (g:HE h x y L be rk w r) (wx:w≠x) (hp:p < h) (pr:rk p < rk w)
 (p1:p=x->be.getD w 0=L x w) (p2:p≠x->be.getD w 0=min (be.getD p 0) (L p w)):HE h x y L be rk p (w :: r):=by
 obtain ⟨m1,m2⟩:=g.mid wx
 have key:be.getD y 0<=L p w:=by
  by_cases c:p=x
  ·have:=p1 c;rw [c];ext
  ·have:=p2 c;ext
 refine ⟨fun z m=>?_,pairwise_cons.mpr ⟨fun z m=>?_,g.rise⟩,?_,fun l m=>?_,fun c=>?_,fun c=>?_⟩
 ·rcases mem_cons.mp m with m | m
  ·rw [m];exact hp
  ·exact g.all z m
 ·rcases mem_cons.mp m with m | m
  ·rw [m];exact pr
  ·exact Nat.lt_trans pr ((pairwise_cons.mp g.rise).1 z m)
 ·rw [List.getLast?_cons_cons];exact g.last
 ·rw [Fc] at m;rcases mem_cons.mp m with m | m
  ·rw [m];exact key
  ·exact g.above l m
 ·have:=p2 c;refine ⟨by ext,?_⟩;rw [Fc];rcases m2 with e | e
  ·by_cases z:be.getD p 0<=L p w
   ·exact .inl (by ext)
   ·exact .inr (by rw [show be.getD y 0=L p w by ext];exact mem_cons_self ..)
  ·exact .inr (mem_cons_of_mem _ e)
 ·rw [Fc];have:=p1 c;refine ⟨?_,by simp⟩;rcases m2 with e | e
  ·rw [e,this,c];exact mem_cons_self ..
  ·exact mem_cons_of_mem _ e
structure Dw (h x y:Nat) (L:Nat->Nat->Int) (v:Int) (ws:List Nat):Prop where
 all:∀z∈ws,z < h
 nd:ws.Nodup
 first:ws.head?=some x
 last:ws.getLast?=some y
 two:2<=ws.length
 least:v∈lk L ws/\∀l∈lk L ws,v<=l
theorem HE.way {h x y:Nat} {L:Nat->Nat->Int} {be:List Int} {rk:Nat->Nat} {r:List Nat} (g:HE h x y L be rk x r):Dw h x y L (be.getD y 0) (x :: r):=by
 obtain ⟨f1,f2⟩:=g.fin rfl;refine ⟨g.all,g.rise.imp fun z e=>by rw [e] at z;exact Nat.lt_irrefl _ z,rfl,g.last,?_,f1,g.above⟩;have:=length_pos_iff.mpr f2;rw [length_cons];ext
theorem Id {h x:Nat} (hx:x < h):(CP h x).length+1=h:=by
 have a:=JZ hx
 have b:=BN (xs:=(List.range h).map fun y:Nat=>(y:Int)) (ys:=(x:Int) :: CP h x) (List.Pairwise.map _ (fun a b (ne:a≠b) e=>ne (Int.ofNat.inj e)) nodup_range) fun z m=>by
  obtain ⟨y,hy,e⟩:=mem_map.mp m;by_cases c:y=x
  ·rw [<- e,c];exact mem_cons_self ..
  ·exact mem_cons_of_mem _ (Dz.mpr ⟨y,mem_range.mp hy,c,e.symm⟩)
 rw [length_cons,length_map,length_range] at b;ext
theorem Ey (i x:Nat):CP (i+1) x=CP i x++if i=x then [] else [(i:Int)]:=by
 unfold CP;rw [range_succ,filter_append,map_append];by_cases c:i=x
 ·rw [if_pos c];simp [c]
 ·rw [if_neg c];simp [c]
theorem Km {xs:List Int} {z:Nat} (hz:z < xs.length) (v:Int) (y:Nat):(xs.set z v).getD y 0=if y=z then v else xs.getD y 0:=by
 rw [getD_eq_getElem?_getD,List.getElem?_set,getD_eq_getElem?_getD];by_cases c:z=y
 ·subst c;rw [if_pos rfl,if_pos hz,if_pos rfl];rfl
 ·rw [if_neg c,if_neg (Ne.symm c)]
theorem Upd.nil {h t:Nat} {L:Nat->Nat->Int} {be bf:List Int} (l1:be.length=h) (l2:bf.length=h):Upd h t L be bf [] be bf:=⟨l1,l2,fun y _=>⟨fun c=>(nomatch c.1),fun _=>⟨rfl,rfl⟩⟩⟩
theorem Upd.put {h t z:Nat} {L:Nat->Nat->Int} {be bf zs be' bf':List Int} (u:Upd h t L be bf zs be' bf') (hz:z < h) (c:be.getD z 0 < min (be.getD t 0) (L t z)):Upd h t L be bf (zs++[(z:Int)]) (be'.set z (min (be.getD t 0) (L t z))) (bf'.set z (t:Int)):=by
 obtain ⟨u1,u2,u3⟩:=u;refine ⟨by rw [length_set,u1],by rw [length_set,u2],fun y hy=>?_⟩;rw [Km (by ext),Km (by ext)];by_cases e:y=z
 ·subst e;rw [if_pos rfl,if_pos rfl];exact ⟨fun _=>⟨rfl,rfl⟩,fun n=>absurd ⟨mem_append_right _ (mem_singleton.mpr rfl),c⟩ n⟩
 ·rw [if_neg e,if_neg e]
  have m:(y:Int)∈zs++[(z:Int)]↔(y:Int)∈zs:=by
   rw [mem_append,mem_singleton];exact ⟨fun h=>h.elim id fun h=>absurd (Int.ofNat.inj h) e,.inl⟩
  rw [m];exact u3 y hy
theorem Upd.skip {h t z:Nat} {L:Nat->Nat->Int} {be bf zs be' bf':List Int} (u:Upd h t L be bf zs be' bf') (c:¬ be.getD z 0 < min (be.getD t 0) (L t z)):Upd h t L be bf (zs++[(z:Int)]) be' bf':=by
 obtain ⟨u1,u2,u3⟩:=u;refine ⟨u1,u2,fun y hy=>?_⟩;by_cases e:y=z
 ·subst e;refine ⟨fun k=>absurd k.2 c,fun _=>(u3 y hy).2 fun k=>c k.2⟩
 ·have m:(y:Int)∈zs++[(z:Int)]↔(y:Int)∈zs:=by
   rw [mem_append,mem_singleton];exact ⟨fun h=>h.elim id fun h=>absurd (Int.ofNat.inj h) e,.inl⟩
  rw [m];exact u3 y hy
theorem Upd.at {h t y:Nat} {L:Nat->Nat->Int} {be bf zs be' bf':List Int} (u:Upd h t L be bf zs be' bf') (hy:y < h) (n:(y:Int) ∉ zs):be'.getD y 0=be.getD y 0:=((u.2.2 y hy).2 fun c=>n c.1).1
theorem Fs {a:Int}:∀xs:List Int,xs.erase a=xs.eraseIdx (xs.idxOf a)
 | []=>rfl
 | b :: r=>by
   rw [erase_cons,idxOf_cons];by_cases c:b=a
   ·rw [if_pos (by simp [c])];simp [c]
   ·have n:(b == a)=false:=by simp [c]
    rw [if_neg (by rw [n];decide),n];show b :: r.erase a=_;rw [Fs r];rfl
noncomputable def Rv:HO->Bool
 | .tbl _=>false
 | _=>true
structure Sm (H H':Hp):Prop where
 keep:∀b u,H b=some u->Rv u=true->H' b=some u
 gone:∀b,H' b=none->H b=none
theorem Sm.of {H H':Hp} (s:Al H H'):Sm H H':=⟨fun b u e _=>s b u e,fun b e=>none_of s e⟩
theorem Sm.trans {H H1 H2:Hp} (a:Sm H H1) (b:Sm H1 H2):Sm H H2:=⟨fun c u e n=>b.keep c u (a.keep c u e n) n,fun c e=>a.gone c (b.gone c e)⟩
theorem Sm.put {H H':Hp} {l:Addr} {o:HO} (s:Sm H H') (n:H l=none):Sm H (upd H' l o):=⟨fun b u e k=>by
 rw [Aj (At e n)]
 exact s.keep b u e k,fun b e=>by
 by_cases c:b=l
 ·rw [c];exact n
 ·rw [Aj c] at e;exact s.gone b e⟩
theorem Sm.lst {H H':Hp} (s:Sm H H') {b:Addr} {xs:List V} (e:H b=some (.lst xs)):H' b=some (.lst xs):=s.keep _ _ e rfl
theorem Sm.tup {H H':Hp} (s:Sm H H') {b:Addr} {xs:List V} (e:H b=some (.tup xs)):H' b=some (.tup xs):=s.keep _ _ e rfl
theorem Bc.sm {H H':Hp} {as:List Addr} {h:Nat} {F:Nat->Nat->Int} (g:Bc H as h F) (s:Sm H H'):Bc H' as h F:=⟨g.1,g.2.1,fun x a ha=>s.lst (g.2.2 x a ha)⟩
theorem RB {P:Addr} {pos:Pos} {q:Str} {H H':Hp} (t:G0 P pos q H) (s:SmL P H H') (g:∀b,H' b=none->H b=none):Sm H H':=⟨fun b u e n=>s b u (fun z=>by
 rw [z] at e;rcases t with t | ⟨_,t,_⟩
 ·rw [t] at e;rw [<- Option.some.inj e] at n;cases n
 ·rw [t] at e;rw [<- Option.some.inj e] at n;cases n) e,g⟩
abbrev LT (P:Addr) (H:Hp):Prop:=G0 P O9 Sl H
abbrev L1 (P:Addr) (H:Hp):Prop:=E4 P O9 Sl H
def CI (P:Addr) (h:Nat) (H:Hp):Prop:=LT P H/\(h=1\/L1 P H)
theorem CI.same {P:Addr} {h:Nat} {H H':Hp} (t:CI P h H) (s:Al H H'):CI P h H':=⟨t.1.same s,t.2.imp id fun t=>t.same s⟩
inductive IT (P:Addr) (vs:List V) (H:Hp) (Q:VK) (E:XK):Prop
 | mk (a:Addr) (as:List Addr) (h x:Nat) (L:Nat->Nat->Int):vs=[.ref a,.int (x:Int)]->H a=some (.lst (as.map V.ref))->Bc H as h L->x < h->h<=12->LT P H->(∀(t b f:Addr) (be bf:List Int) (H':Hp),Sm H H'->(CI P h H->Al H H')->CI P h H'->H t=none->H b=none->H f=none->b≠f->H' t=some (.tup [.ref b,.ref f])->H' b=some (.lst (be.map V.int))->H' f=some (.lst (bf.map V.int))->Dy h x L be bf->Q (.ref t) H')->IT P vs H Q E
theorem Rt (a b:Int):(if b < a then b else a)=min a b:=by split <;> ext
theorem set_map (xs:List Int) (z:Nat) (v:Int):(xs.map V.int).set z (.int v)=(xs.set z v).map V.int:=by rw [map_set]
abbrev Us:=List (Addr × List Int)
noncomputable def fU (us:Us) (x y:Nat):Int:=(us.getD x (0,[])).2.getD y 0
theorem Ow {us:Us} {x h:Nat} {r:Addr × List Int} (e:us[x]?=some r) (l:r.2.length=h):((List.range h).map fun y=>fU us x y)=r.2:=by
 have e':us.getD x (0,[])=r:=by rw [getD_eq_getElem?_getD,e];rfl
 unfold fU;rw [e'];apply ext_getElem
 ·simp [l]
 ·intro i h1 h2;simp [h2]
def Bh (h:Nat) (L F:Nat->Nat->Int):Prop:=∀x,x < h->∃bf,Dy h x L ((List.range h).map fun y=>F x y) bf
theorem Bh.uniq {h:Nat} {L F F':Nat->Nat->Int} (g:Bh h L F) (g':Bh h L F') {x y:Nat} (hx:x < h) (hy:y < h):F x y=F' x y:=by
 obtain ⟨bf,r⟩:=g x hx;obtain ⟨bf',r'⟩:=g' x hx;have e:=congrArg (fun l:List Int=>l.getD y 0) (r.uniq r');simpa [getD_eq_getElem?_getD,hy] using e
theorem Dn {h y:Nat} (F:Nat->Int) (hy:y < h):((List.range h).map fun y=>F y).getD y 0=F y:=by rw [getD_eq_getElem?_getD,List.getElem?_map,List.getElem?_range hy];rfl
structure MS (H:Hp) (t:Addr) (h x:Nat) (L:Nat->Nat->Int) (be:List Int):Prop where
 is:∃(b f:Addr) (bf:List Int),H t=some (.tup [.ref b,.ref f])/\H b=some (.lst (be.map V.int))/\H f=some (.lst (bf.map V.int))/\Dy h x L be bf
theorem MS.same {H H':Hp} {t:Addr} {h x:Nat} {L:Nat->Nat->Int} {be:List Int} (s:Al H H') (g:MS H t h x L be):MS H' t h x L be:=by
 obtain ⟨b,f,bf,h1,h2,h3,h4⟩:=g.is;exact ⟨b,f,bf,s _ _ h1,s _ _ h2,s _ _ h3,h4⟩
noncomputable def B9 (ws:List Nat):List Int:=ws.map fun w:Nat=>(w:Int)
inductive MK (vs:List V) (H:Hp) (Q:VK) (E:XK):Prop
 | mk (t:Addr) (h x y:Nat) (L:Nat->Nat->Int) (be:List Int):vs=[.ref t,.int (x:Int),.int (y:Int)]->MS H t h x L be->y < h->y≠x->h<=12->(∀(r:Addr) (ws:List Nat) (H':Hp),H r=none->Al H H'->H' r=some (.lst ((B9 ws).map V.int))->Dw h x y L (be.getD y 0) ws->Q (.ref r) H')->MK vs H Q E
noncomputable def Kb (x y:Nat) (be:List Int) (i:Nat):Bool:=decide (i=x\/be.getD y 0 < be.getD i 0)
inductive ME (vs:List V) (H:Hp) (Q:VK) (E:XK):Prop
 | mk (t:Addr) (h x y:Nat) (L:Nat->Nat->Int) (be:List Int):vs=[.ref t,.int (x:Int),.int (y:Int)]->MS H t h x L be->x < h->y < h->h<=12->(∀H':Hp,Al H H'->Q (.int (AR h (Kb x y be))) H')->ME vs H Q E
theorem QL:∀{h k:Nat} (f:Nat->Bool),k < h->Builtin.bitOr (AR h f) (1*2 ^ k)=AR h fun i=>f i || decide (i=k):=by
 have key:∀(h k:Nat) (f:Nat->Bool),k < h->AR h (fun i=>f i || decide (i=k))=AR h f+2 ^ k*(if (!f k)=true then 1 else 0):=by
  intro h
  induction h with
  | zero=>intro k f hk;ext
  | succ h ih =>
    intro k f hk;rw [Cd,Cd];by_cases c:k=h
    ·subst c;rw [Bi k (g:=f) (fun i hi=>by rw [decide_eq_false (by ext),Bool.or_false])]
     cases f k <;> simp
    ·rw [ih k f (by ext),decide_eq_false (show ¬ h=k from fun e=>c e.symm),Bool.or_false];ext
 intro h k f hk;rw [Qf,BZ,decide_eq_true hk,Bool.true_and,key h k f hk]
theorem Bh.tri {h:Nat} {L F:Nat->Nat->Int} (g:Bh h L F) {x y w:Nat} (hx:x < h) (hy:y < h) (hw:w < h) (xy:y≠x) (xw:w≠x) (yw:w≠y):min (F x y) (F y w)<=F x w:=by
 obtain ⟨bf,r⟩:=g x hx;obtain ⟨bf',r'⟩:=g y hy;obtain ⟨rk,par⟩:=r'.par
 have key:∀n w,rk w<=n->w < h->w≠x->w≠y->min (F x y) (F y w)<=F x w:=by
  intro n
  induction n with
  | zero =>
    intro w rn hw wx wy;obtain ⟨p,_,_,p1,_⟩:=par w hw wy;ext
  | succ n ih =>
    intro w rn hw wx wy;obtain ⟨p,hp,_,p1,p2,p3⟩:=par w hw wy;rw [Dn (F y) hw] at p2 p3;by_cases c:p=y
    ·rw [p2 c];have:=r.stab y w hy hw xy wx (Ne.symm wy);rwa [Dn (F x) hy,Dn (F x) hw] at this
    ·have e:=p3 c;rw [Dn (F y) hp] at e;rw [e];by_cases d:p=x
     ·have:=r.low w hw wx;rw [Dn (F x) hw] at this;rw [d];ext
     ·have a:=ih p (by ext) hp d c;have b:=r.stab p w hp hw d wx (fun e=>by rw [e] at p1;exact Nat.lt_irrefl _ p1);rw [Dn (F x) hp,Dn (F x) hw] at b;ext
 exact key (rk w) w (Nat.le_refl _) hw xw yw
theorem Bh.low {h:Nat} {L F:Nat->Nat->Int} (g:Bh h L F) {x y:Nat} (hx:x < h) (hy:y < h) (ne:y≠x):L x y<=F x y:=by
 obtain ⟨bf,r⟩:=g x hx;have:=r.low y hy ne;rwa [Dn (F x) hy] at this
theorem Bh.trans {h:Nat} {L F:Nat->Nat->Int} (g:Bh h L F) {x y z:Nat} (hx:x < h) (hy:y < h) (hz:z < h) (a:F y x < F x y) (b:F z y < F y z):F z x < F x z:=by
 have xy:y≠x:=fun e=>by rw [e] at a;ext
 have yz:z≠y:=fun e=>by rw [e] at b;ext
 by_cases c:z=x
 ·rw [c] at b;ext
 ·have t1:=g.tri hx hy hz xy c yz;have t2:=g.tri hy hz hx yz (Ne.symm xy) (Ne.symm c);have t3:=g.tri hz hx hy (Ne.symm c) (Ne.symm yz) xy;ext
noncomputable def ET (F:Nat->Nat->Int) (z o:Int):Bool:=decide (F z.toNat o.toNat < F o.toNat z.toNat)
noncomputable def DF (F:Nat->Nat->Int) (z:Int) (os:List Int):Bool:=os.any (ET F z)
noncomputable def unb (F:Nat->Nat->Int) (left:List Int):List Int:=left.filter fun z=>!DF F z left
theorem M4 {h:Nat} {L F:Nat->Nat->Int} (g:Bh h L F):∀{left:List Int},left≠[]->(∀z∈left,∃i:Nat,i < h/\z=(i:Int))->∃z∈left,∀o∈left,ET F z o=false
 | [],n,_=>absurd rfl n
 | [a],_,_=>⟨a,mem_singleton.mpr rfl,fun o mo=>by
   rw [mem_singleton.mp mo];exact decide_eq_false (Int.lt_irrefl _)⟩
 | a :: b :: r,_,s=>by
   obtain ⟨m,mm,hm⟩:=M4 g (left:=b :: r) (by simp) fun z mz=>s z (mem_cons_of_mem _ mz);obtain ⟨i,hi,rfl⟩:=s a (mem_cons_self ..);obtain ⟨j,hj,rfl⟩:=s m (mem_cons_of_mem _ mm);by_cases c:ET F (j:Int) (i:Int)=true
   ·refine ⟨(i:Int),mem_cons_self ..,fun o mo=>?_⟩;rcases mem_cons.mp mo with e | mo
    ·rw [e];exact decide_eq_false (Int.lt_irrefl _)
    ·obtain ⟨k,hk,rfl⟩:=s o (mem_cons_of_mem _ mo);have n:=hm _ mo;unfold ET at c n ⊢;have c:=of_decide_eq_true c;have n:=of_decide_eq_false n;refine decide_eq_false fun e=>n ?_;exact g.trans hk hi hj e c
   ·refine ⟨(j:Int),mem_cons_of_mem _ mm,fun o mo=>?_⟩;rcases mem_cons.mp mo with e | mo
    ·rw [e];exact Bool.eq_false_iff.mpr c
    ·exact hm o mo
theorem Pz {h:Nat} {L F:Nat->Nat->Int} (g:Bh h L F) {left:List Int} (n:left≠[]) (s:∀z∈left,∃i:Nat,i < h/\z=(i:Int)):unb F left≠[]:=fun e=>by
 obtain ⟨z,mz,hz⟩:=M4 g n s
 have:z∈unb F left:=mem_filter.mpr ⟨mz,by
  show (!DF F z left)=true;unfold DF;rw [Bool.not_eq_true',any_eq_false];exact fun o mo=>by rw [hz o mo];decide⟩
 rw [e] at this
 cases this
noncomputable def Ak (F:Nat->Nat->Int):Nat->List Int->List Int
 | 0,_=>[]
 | _+1,[]=>[]
 | s+1,z :: r=>(unb F (z :: r)).getD 0 0 :: Ak F s ((z :: r).erase ((unb F (z :: r)).getD 0 0))
theorem CT (F:Nat->Nat->Int) {s:Nat} {left:List Int} (n:left≠[]):Ak F (s+1) left=(unb F left).getD 0 0 :: Ak F s (left.erase ((unb F left).getD 0 0)):=by
 cases left with
 | nil=>exact absurd rfl n
 | cons z r=>rfl
theorem Dm (F:Nat->Nat->Int):∀s,Ak F s []=[]
 | 0=>rfl
 | _+1=>rfl
theorem CU (F:Nat->Nat->Int) (left:List Int):Ak F 0 left=[]:=by cases left <;> rfl
noncomputable def off (H:Hp) (D:Addr):Hp:=fun b=>if b=D then none else H b
theorem Eg (H:Hp) (D:Addr):Al (off H D) H:=fun b o e=>by
 unfold off at e
 split at e
 ·cases e
 ·exact e
theorem CJ {H:Hp} {D b:Addr} {o:HO} (e:H b=some o) (n:b≠D):off H D b=some o:=by
 unfold off;rw [if_neg n];exact e
theorem OL {H:Hp} {D:Addr}:off H D D=none:=by unfold off;rw [if_pos rfl]
theorem Dh {H H':Hp} {D:Addr} {o:HO} (s:Al (off H D) H'):Al (off H D) (upd H' D o):=fun b u e=>by
 rw [Aj (fun z=>by rw [z,OL] at e;cases e)];exact s _ _ e
theorem Dr {H0 H:Hp} {D:Addr} (s:Al H0 H) (n:H0 D=none):Al H0 (off H D):=fun b o e=>CJ (s _ _ e) fun z=>by rw [z,n] at e;cases e
theorem Di {H:Hp} {D:Addr} {o:HO}:off (upd H D o) D=off H D:=funext fun b=>by
 unfold off;by_cases c:b=D
 ·rw [if_pos c,if_pos c]
 ·rw [if_neg c,if_neg c,Aj c]
theorem QC (n:Nat):(ups n).Pairwise (·<=·):=pairwise_map.mpr (pairwise_lt_range.imp fun h=>by ext)
theorem QS (n:Nat):(ups n).map V.int=(List.range n).map fun i:Nat=>V.int (i:Int):=by unfold ups;rw [map_map];rfl
theorem RM {ms ns:List Int} {n:Nat} (p:ms.Perm ns) (s:ms.Pairwise (·<=·)) (h:ns.Perm (ups n)):ms=ups n:=(p.trans h).eq_of_pairwise (fun a b _ _ x y=>Int.le_antisymm x y) s (QC n)
def Q2:Sp:=fun vs H Q _=>∃n:Int,vs=[.int n]/\1<=n/\n<=12/\Q (.bl true) H
def Q3:Sp:=fun vs H Q _=>∃n:Int,vs=[.int n]/\1<=n/\n<=60/\Q (.bl true) H
def RC (K:PySem.W.Frag):Sp:=fun vs H Q _=>∃(l:Addr) (ns:List Int) (n:Nat),vs=[.ref l,.int (n:Int)]/\H l=some (.lst (ns.map V.int))/\ns.Perm (ups n)/\n<=12/\∀H':Hp,Al H H'->Q (.bl true) H'
abbrev fsW (h s:Int) (l:Addr):List (Str × V):=[("hands",.int h),("seats",.int s),("lots",.ref l)]
theorem Sq (x:V):putF "hands" x []=([("hands",x)]:List (Str × V)):=rfl
theorem Sr (x y:V):putF "seats" y [("hands",x)]=([("hands",x),("seats",y)]:List (Str × V)):=by
 unfold putF;rw [if_neg (by decide)];rfl
theorem Ss (x y z:V):putF "lots" z [("hands",x),("seats",y)]=([("hands",x),("seats",y),("lots",z)]:List (Str × V)):=by
 unfold putF;rw [if_neg (by decide)];unfold putF;rw [if_neg (by decide)];rfl
def IsP (C:Addr) (H:Hp) (a:Addr) (h s:Nat) (ns:List Int):Prop:=∃dx l,H a=some (.ins C dx (fsW (h:Int) (s:Int) l))/\H l=some (.lst (ns.map V.int))
theorem IsP.same {C:Addr} {H H':Hp} {a:Addr} {h s:Nat} {ns:List Int} (e:Al H H') (k:IsP C H a h s ns):IsP C H' a h s ns:=let ⟨dx,l,k1,k2⟩:=k;⟨dx,l,e _ _ k1,e _ _ k2⟩
theorem IsP.sm {C:Addr} {H H':Hp} {a:Addr} {h s:Nat} {ns:List Int} (e:Sm H H') (k:IsP C H a h s ns):IsP C H' a h s ns:=let ⟨dx,l,k1,k2⟩:=k;⟨dx,l,e.keep _ _ k1 rfl,e.lst k2⟩
structure Dx (C:Addr) (H:Hp) (a:Addr) (h s:Nat) (ns:List Int):Prop where
 is:IsP C H a h s ns
 pm:ns.Perm (ups h)
 h1:1<=h
 h12:h<=12
 s1:1<=s
 s60:s<=60
theorem Dx.same {C:Addr} {H H':Hp} {a:Addr} {h s:Nat} {ns:List Int} (e:Al H H') (k:Dx C H a h s ns):Dx C H' a h s ns:=⟨k.is.same e,k.pm,k.h1,k.h12,k.s1,k.s60⟩
theorem Dx.sm {C:Addr} {H H':Hp} {a:Addr} {h s:Nat} {ns:List Int} (e:Sm H H') (k:Dx C H a h s ns):Dx C H' a h s ns:=⟨k.is.sm e,k.pm,k.h1,k.h12,k.s1,k.s60⟩
theorem P0 {h:Nat} {z:Int} (m:z∈ups h):∃i:Nat,i < h/\z=(i:Int):=by
 unfold ups at m;obtain ⟨i,hi,e⟩:=mem_map.mp m;exact ⟨i,mem_range.mp hi,e.symm⟩
inductive Hu (K:PySem.W.Frag) (vs:List V) (H:Hp) (Q:VK) (E:XK):Prop
 | mk (a C dx:Addr) (h s:Nat) (lv:V) (ns:List Int):vs=[.ref a,.int (h:Int),.int (s:Int),lv]->H a=some (.ins C dx [])->Cls K C->Cg K C "hands"->Cg K C "seats"->Cg K C "lots"->1<=h->h<=12->1<=s->s<=60->((lv=.non/\ns=ups h)\/∃l,lv=.ref l/\H l=some (.lst (ns.map V.int))/\ns.Perm (ups h))->(∀(l':Addr) (H':Hp),l'≠a->H l'=none->Al (off H a) H'->H' a=some (.ins C dx (fsW (h:Int) (s:Int) l'))->H' l'=some (.lst (ns.map V.int))->Q .non H')->Hu K vs H Q E
inductive Lc (vs:List V) (H:Hp) (Q:VK) (E:XK):Prop
 | mk (r l:Addr) (rs:List Addr) (h i:Nat) (F:Nat->Nat->Int) (zs:List Int):vs=[.ref r,.int (i:Int),.ref l]->H r=some (.lst (rs.map V.ref))->Bc H rs h F->i < h->H l=some (.lst (zs.map V.int))->(∀z∈zs,∃j:Nat,j < h/\z=(j:Int))->zs.length<=60->(∀H':Hp,Al H H'->Q (.bl (DF F (i:Int) zs)) H')->Lc vs H Q E
inductive IR (C:Addr) (vs:List V) (H:Hp) (Q:VK) (E:XK):Prop
 | mk (a r:Addr) (rs:List Addr) (h s:Nat) (ns:List Int) (L F:Nat->Nat->Int):vs=[.ref a,.ref r]->Dx C H a h s ns->H r=some (.lst (rs.map V.ref))->Bc H rs h F->Bh h L F->(∀(p:Addr) (H':Hp),H p=none->Al H H'->H' p=some (.lst ((Ak F s ns).map V.int))->Q (.ref p) H')->IR C vs H Q E
noncomputable def ovF (ls:Ls) (x y:Nat):Int:=BU (Cz x y) (dsL ls)
noncomputable def Ba (ls:Ls) (x y:Nat):Int:=ovF ls x y - ovF ls y x
inductive Hr (vs:List V) (H:Hp) (Q:VK) (E:XK):Prop
 | mk (a:Addr) (as:List Addr) (h:Nat) (F:Nat->Nat->Int):vs=[.ref a]->H a=some (.lst (as.map V.ref))->Bc H as h F->h<=12->(∀(b:Addr) (bs:List Addr) (H':Hp),H b=none->b ∉ bs->(∀c∈bs,H c=none)->Al H H'->H' b=some (.lst (bs.map V.ref))->Bc H' bs h (fun x y=>F x y - F y x)->Q (.ref b) H')->Hr vs H Q E
structure Rw where
 t:Addr
 x:Nat
 y:Nat
 s:Int
 w:Addr
 ws:List Nat
 cut:Int
noncomputable def Nj (F:Nat->Nat->Int) (x y i:Nat):Bool:=decide (i=x\/F x y < F x i)
structure EB (h:Nat) (L F:Nat->Nat->Int) (H:Hp) (q:Rw):Prop where
 tup:H q.t=some (.tup [.int (q.x:Int),.int (q.y:Int),.int q.s,.ref q.w,.int q.cut])
 way:H q.w=some (.lst ((B9 q.ws).map V.int))
 hx:q.x < h
 hy:q.y < h
 ne:q.y≠q.x
 str:q.s=F q.x q.y
 isw:Dw h q.x q.y L q.s q.ws
 cutE:q.cut=AR h (Nj F q.x q.y)
theorem EB.same {h:Nat} {L F:Nat->Nat->Int} {H H':Hp} {q:Rw} (e:Al H H') (k:EB h L F H q):EB h L F H' q:=⟨e _ _ k.tup,e _ _ k.way,k.hx,k.hy,k.ne,k.str,k.isw,k.cutE⟩
theorem EB.sm {h:Nat} {L F:Nat->Nat->Int} {H H':Hp} {q:Rw} (e:Sm H H') (k:EB h L F H q):EB h L F H' q:=⟨e.tup k.tup,e.lst k.way,k.hx,k.hy,k.ne,k.str,k.isw,k.cutE⟩
theorem EB.congr {h:Nat} {L F F':Nat->Nat->Int} {H:Hp} {q:Rw} (k:EB h L F H q) (e:∀y,y < h->F q.x y=F' q.x y):EB h L F' H q:=⟨k.tup,k.way,k.hx,k.hy,k.ne,by rw [k.str,e _ k.hy],k.isw,by
 rw [k.cutE];exact Bi h fun i hi=>by unfold Nj;rw [e _ k.hy,e i hi]⟩
noncomputable def vrw (rows:List Rw):List V:=rows.map fun q=>.ref q.t
noncomputable def E6 (h x:Nat):List Nat:=(List.range h).filter fun y=>decide (y≠x)
theorem Og (h x:Nat):CP h x=B9 (E6 h x):=rfl
noncomputable def pairsOf (h n:Nat):List (Nat × Nat):=(List.range n).flatMap fun x=>(E6 h x).map fun y=>(x,y)
inductive Gb (vs:List V) (H:Hp) (Q:VK) (E:XK):Prop
 | mk (t:Addr) (h x:Nat) (L:Nat->Nat->Int) (be:List Int):vs=[.ref t,.int (x:Int)]->MS H t h x L be->x < h->h<=12->(∀(r:Addr) (rows:List Rw) (H':Hp),H r=none->Al H H'->H' r=some (.lst (vrw rows))->(∀q∈rows,EB h L (fun _ y=>be.getD y 0) H' q/\q.x=x/\H q.t=none/\H q.w=none)->rows.map (fun q=>(q.x,q.y))=(E6 h x).map (fun y=>(x,y))->Q (.ref r) H')->Gb vs H Q E
structure Lv (H:Hp) (p:Addr) (h s:Nat) (ns:List Int) (ls:Ls) (F:Nat->Nat->Int):Prop where
 is:∃(m sh pk:Addr) (ms:List Addr) (rows:List Rw),H p=some (.tup [.ref m,.ref sh,.ref pk])/\H m=some (.lst (ms.map V.ref))/\Bc H ms h (ovF ls)/\H sh=some (.lst (vrw rows))/\(∀q∈rows,EB h (Ba ls) F H q)/\rows.map (fun q=>(q.x,q.y))=pairsOf h h/\H pk=some (.lst ((Ak F s ns).map V.int))
 strong:Bh h (Ba ls) F
def QT (H H':Hp) (p:Addr):Prop:=∀(m sh pk:Addr) (ms:List Addr),H' p=some (.tup [.ref m,.ref sh,.ref pk])->H' m=some (.lst (ms.map V.ref))->H m=none/\H sh=none/\H pk=none/\∀a∈ms,H a=none
inductive Hq (C P:Addr) (vs:List V) (H:Hp) (Q:VK) (E:XK):Prop
 | mk (a l:Addr) (h s:Nat) (ns:List Int) (ls:Ls):vs=[.ref a,.ref l]->Dx C H a h s ns->H l=some (.lst (vls ls))->Dv h H ls->ls.length<=60->LT P H->(∀(p:Addr) (F:Nat->Nat->Int) (H':Hp),Sm H H'->(CI P h H->Al H H')->CI P h H'->H p=none->Lv H' p h s ns ls F->QT H H' p->Q (.ref p) H')->Hq C P vs H Q E
theorem CI.put {P l:Addr} {h:Nat} {H:Hp} {xs:List V} {o:HO} (t:CI P h H) (e:H l=some (.lst xs)):CI P h (upd H l o):=⟨G0.put t.1 e,t.2.imp id fun z=>E4.put z e⟩
theorem Iz (ws:List Nat):(B9 ws).length=ws.length:=by unfold B9;rw [length_map]
theorem Mc (a b:List Rw):vrw (a++b)=vrw a++vrw b:=by unfold vrw;rw [map_append]
theorem QE (a:List Rw):(vrw a).length=a.length:=by unfold vrw;rw [length_map]
theorem Rg {us:Us} {r:Addr × List Int} {x:Nat} (h:x < us.length) (y:Nat):fU (us++[r]) x y=fU us x y:=by
 unfold fU;rw [show (us++[r]).getD x (0,[])=us.getD x (0,[]) from by rw [getD_eq_getElem?_getD (l:=us++[r]),getD_eq_getElem?_getD (l:=us),List.getElem?_append_left h]]
theorem Rf {us:Us} {r:Addr × List Int} (y:Nat):fU (us++[r]) us.length y=r.2.getD y 0:=by
 unfold fU;rw [getD_eq_getElem?_getD (l:=us++[r]),List.getElem?_append_right (Nat.le_refl _),Nat.sub_self];rfl
theorem CS (h n:Nat):pairsOf h (n+1)=pairsOf h n++(E6 h n).map fun y=>(n,y):=by
 unfold pairsOf;rw [range_succ,flatMap_append];simp
theorem Dl {h:Nat}:∀{n:Nat},n<=h->(pairsOf h n).length+n=n*h
 | 0,_=>by simp [pairsOf]
 | n+1,hn=>by
   have ih:=Dl (h:=h) (n:=n) (by ext)
   have b:(E6 h n).length+1=h:=by
    have:=Id (h:=h) (x:=n) (by ext);rwa [Og,Iz] at this
   rw [CS,length_append,length_map,Nat.succ_mul];ext
noncomputable def putF (F:Nat->Nat->Int) (x y:Nat) (n:Int):Nat->Nat->Int:=fun x' y'=>F x' y'+if x'=x/\y'=y then n else 0
abbrev Prs:=List (Addr × Nat × Nat)
noncomputable def JQ (ps:Prs):List V:=ps.map fun q=>.ref q.1
theorem Bc.setv {H:Hp} {as:List Addr} {h:Nat} {F:Nat->Nat->Int} (g:Bc H as h F) {x y:Nat} {a:Addr} (ha:as[x]?=some a) (v:Int):Bc (upd H a (.lst ((((List.range h).map fun y=>F x y).map V.int).set y (.int v)))) as h (putF F x y (v - F x y)):=by
 have:=g.put (y:=y) ha (v - F x y);rwa [show F x y+(v - F x y)=v by ext] at this
theorem Ji {z:Int} {zs:List Int}:inV (V.int z) (zs.map V.int)=decide (z∈zs):=by
 unfold inV;rw [any_map];by_cases c:z∈zs
 ·rw [decide_eq_true c];exact any_eq_true.mpr ⟨z,c,by simp [eqV]⟩
 ·rw [decide_eq_false c];refine Bool.eq_false_iff.mpr fun e=>c ?_;obtain ⟨y,my,ey⟩:=any_eq_true.mp e;have:y=z:=by simpa [eqV] using ey
  rw [<- this];exact my
theorem Rj {z:Int} {zs:List Int} (m:z∈zs):(if false=true then !inV (V.int z) (zs.map V.int) else inV (V.int z) (zs.map V.int))=true:=by rw [if_neg (by decide),Ji,decide_eq_true m]
theorem Si {z:Int} {zs:List Int} (m:z ∉ zs):(if false=true then !inV (V.int z) (zs.map V.int) else inV (V.int z) (zs.map V.int))=false:=by rw [if_neg (by decide),Ji,decide_eq_false m]
theorem M0 {z:Int} {zs:List Int} (m:z ∉ zs):(if true=true then !inV (V.int z) (zs.map V.int) else inV (V.int z) (zs.map V.int))=true:=by rw [if_pos rfl,Ji,decide_eq_false m];rfl
theorem OK {z:Int} {zs:List Int} (m:z∈zs):(if true=true then !inV (V.int z) (zs.map V.int) else inV (V.int z) (zs.map V.int))=false:=by rw [if_pos rfl,Ji,decide_eq_true m];rfl
theorem NY (zs:List Int):(zs.map V.int).all EY=true:=by rw [all_map];exact all_eq_true.mpr fun _ _=>rfl
theorem Mz {ws:List Nat} {k:Nat} (h:k < ws.length):atI ((B9 ws).map V.int) (k:Int)=some (.int ((ws.getD k 0:Nat):Int)):=by
 refine atN ?_;unfold B9;rw [List.getElem?_map,List.getElem?_eq_getElem h,getD_eq_getElem?_getD,List.getElem?_eq_getElem h];rfl
theorem Ef (ws:List Nat):(B9 ws).length=ws.length:=by unfold B9;rw [length_map]
theorem Lo (ps:Prs):(JQ ps).length=ps.length:=length_map ..
noncomputable def Gc (h:Nat) (pk:List Int):List Int:=(List.range h).map fun i:Nat=>if (i:Int)∈pk then 1 else 0
inductive MJ (C:Addr) (vs:List V) (H:Hp) (Q:VK) (E:XK):Prop
 | mk (a p:Addr) (h s:Nat) (ns:List Int) (ls:Ls) (F:Nat->Nat->Int):vs=[.ref a,.ref p]->Dx C H a h s ns->(∃m sh pk:Addr,H p=some (.tup [.ref m,.ref sh,.ref pk])/\H pk=some (.lst ((Ak F s ns).map V.int)))->(∀(r:Addr) (H':Hp),H r=none->Al H H'->H' r=some (.lst ((Gc h (Ak F s ns)).map V.int))->Q (.ref r) H')->MJ C vs H Q E
inductive Pl (C P:Addr) (vs:List V) (H:Hp) (Q:VK) (E:XK):Prop
 | mk (a l:Addr) (h s:Nat) (ns:List Int) (ls:Ls):vs=[.ref a,.ref l]->Dx C H a h s ns->H l=some (.lst (vls ls))->Dv h H ls->ls.length<=60->LT P H->(∀(r:Addr) (F:Nat->Nat->Int) (H':Hp),Sm H H'->(CI P h H->Al H H')->CI P h H'->H' r=some (.lst ((Gc h (Ak F s ns)).map V.int))->Bh h (Ba ls) F->Q (.ref r) H')->Pl C P vs H Q E
theorem D7 {h n x y:Nat}:(x,y)∈pairsOf h n↔x < n/\y < h/\y≠x:=by
 unfold pairsOf E6;simp only [mem_flatMap,mem_range,mem_map,mem_filter,decide_eq_true_eq,Prod.mk.injEq];exact ⟨fun ⟨a,ha,b,⟨hb,ne⟩,e1,e2⟩=>by subst e1 e2;exact ⟨ha,hb,ne⟩,fun ⟨a,b,c⟩=>⟨x,a,y,⟨b,c⟩,rfl,rfl⟩⟩
theorem RL (h:Nat):(ups h).Nodup:=by
 unfold ups;exact pairwise_map.mpr (nodup_range.imp fun n e=>n (by ext))
theorem FR {h:Nat} {F G:Nat->Nat->Int} (e:∀x y,x < h->y < h->F x y=G x y):∀(s:Nat) (left:List Int),(∀o∈left,∃i:Nat,i < h/\o=(i:Int))->Ak F s left=Ak G s left
 | 0,left,_=>by rw [CU,CU]
 | s+1,[],_=>by rw [Dm,Dm]
 | s+1,o :: left,sub=>by
   have ub:unb F (o :: left)=unb G (o :: left):=by
    unfold unb;refine filter_congr fun a m=>?_
    congr 1
    unfold DF;rw [Bool.eq_iff_iff,any_eq_true,any_eq_true]
    have key:∀b∈o :: left,ET F a b=ET G a b:=fun b mb=>by
     obtain ⟨i,hi,rfl⟩:=sub a m;obtain ⟨j,hj,rfl⟩:=sub b mb;unfold ET;rw [Int.toNat_natCast,Int.toNat_natCast,e i j hi hj,e j i hj hi]
    exact ⟨fun ⟨b,mb,k⟩=>⟨b,mb,by rw [<- key b mb];exact k⟩,fun ⟨b,mb,k⟩=>⟨b,mb,by rw [key b mb];exact k⟩⟩
   rw [CT F (cons_ne_nil _ _),CT G (cons_ne_nil _ _),ub,FR e s _ fun b m=>sub b (mem_of_mem_erase m)]
def Lay (k:Nat) (d:PyData):Prop:=d.canLay0=true/\d.depth<=k
mutual
theorem Re:∀d:PyData,d.canLay0=true->PyData.eqv d d=true
 | .none,_=>rfl
 | .bool b,_=>by show (b == b)=true;exact beq_self_eq_true b
 | .int i,_=>by show (i == i)=true;exact beq_self_eq_true i
 | .str x,_=>by show (x == x)=true;exact beq_self_eq_true x
 | .list xs,h=>eqv_mes xs h
 | .tuple xs,h=>eqv_mes xs h
 | .dict _,h=>nomatch h
theorem eqv_mes:∀xs:List PyData,PyData.canLayAll0 xs=true->PyData.eqvAll xs xs=true
 | [],_=>rfl
 | x :: xs,h=>by
   have h':(PyData.canLay0 x && PyData.canLayAll0 xs)=true:=h;rw [Bool.and_eq_true] at h';show (PyData.eqv x x && PyData.eqvAll xs xs)=true;rw [Re x h'.1,eqv_mes xs h'.2];rfl
end
theorem Fb {k:Nat}:∀{xs:List PyData},(∀x∈xs,Lay k x)->PyData.canLayAll0 xs=true/\PyData.depthAll xs<=k
 | [],_=>⟨rfl,Nat.zero_le _⟩
 | x :: xs,h=>by
   obtain ⟨a,b⟩:=Fb (xs:=xs) fun y m=>h y (mem_cons_of_mem _ m);obtain ⟨c,d⟩:=h x (mem_cons_self ..);refine ⟨?_,?_⟩
   ·show (PyData.canLay0 x && PyData.canLayAll0 xs)=true;rw [a,c];rfl
   ·show max (PyData.depth x) (PyData.depthAll xs)<=k;ext
theorem OC {k:Nat} {xs:List PyData} (h:∀x∈xs,Lay k x):Lay (k+1) (.list xs):=⟨(Fb h).1,Nat.succ_le_succ (Fb h).2⟩
theorem Qa {k:Nat} {xs:List PyData} (h:∀x∈xs,Lay k x):Lay (k+1) (.tuple xs):=⟨(Fb h).1,Nat.succ_le_succ (Fb h).2⟩
theorem Mw (k:Nat) (i:Int):Lay k (.int i):=⟨rfl,Nat.zero_le _⟩
theorem PZ {α:Type} {k:Nat} {f:α->PyData} (h:∀x,Lay k (f x)) (xs:List α):∀d∈xs.map f,Lay k d:=fun d m=>by
 obtain ⟨x,_,rfl⟩:=mem_map.mp m;exact h x
theorem OD {k:Nat} {a b:PyData} (ha:Lay k a) (hb:Lay k b):Lay (k+1) (.tuple [a,b]):=Qa fun x m=>by
 rcases mem_cons.mp m with rfl | m
 ·exact ha
 ·rw [mem_singleton.mp m];exact hb
theorem Lay.shaped {k:Nat} {d:PyData} (h:Lay k d) (k64:k<=64):SeqAt.shaped d=true:=by
 unfold SeqAt.shaped;rw [h.1,decide_eq_true (Nat.le_trans h.2 k64)];rfl
theorem KI {α:Type} {K:PySem.W.Frag} {H:Hp} {v:α->V} {d:α->PyData}:∀{xs:List α},(∀x∈xs,Rep K H (v x) (d x))->Reps K H (xs.map v) (xs.map d)
 | [],_=>.nil
 | x :: xs,h=>.cons (h x (mem_cons_self ..)) (KI fun y m=>h y (mem_cons_of_mem _ m))
section
variable {h y:Nat} {v:Int} {L F:Nat->Nat->Int}
def NW (h:Nat) (v:Int) (L:Nat->Nat->Int) (ks:List Nat):Prop:=∀k,k < h->k ∉ ks->∀n∈ks,L k n < v
theorem Rs {ks:List Nat} (nd:ks.Nodup) (lt:∀k∈ks,k < h):ks.length<=h:=by
 have:=BN (xs:=B9 ks) (ys:=ups h) (List.Pairwise.map _ (fun a b (ne:a≠b) e=>ne (Int.ofNat.inj e)) nd) fun z mz=>by
  obtain ⟨u,mu,rfl⟩:=mem_map.mp mz;exact mem_map.mpr ⟨u,mem_range.mpr (lt u mu),rfl⟩
 rw [Ef,BC] at this;exact this
theorem Nf {ks:List Nat} (g:Bh h L F) (c:NW h v L ks) (hy:y < h) (my:y∈ks) {x:Nat} (hx:x < h) (nx:x ∉ ks):F x y < v:=by
 obtain ⟨bf,re⟩:=g x hx;obtain ⟨rk,pr⟩:=re.par
 have row:∀{i:Nat},i < h->((List.range h).map fun y=>F x y).getD i 0=F x i:=fun {i} hi=>by
  rw [getD_eq_getElem?_getD,List.getElem?_map,List.getElem?_range hi];rfl
 have key:∀n z,rk z < n->z < h->z∈ks->F x z < v:=by
  intro n
  induction n with
  | zero=>intro z k;exact absurd k (Nat.not_lt_zero _)
  | succ n ih =>
    intro z k hz mz;obtain ⟨p,ph,_,pk,p1,p2⟩:=pr z hz (fun e=>nx (by rw [<- e];exact mz));rw [row hz] at p1 p2;by_cases e:p=x
    ·rw [p1 e];exact c x hx nx z mz
    ·rw [row ph] at p2;rw [p2 e];by_cases mp:p∈ks
     ·have:=ih p (by ext) ph mp;ext
     ·have:=c p ph mp z mz;ext
 exact key (rk y+1) y (by ext) hy my
theorem M5 (g:Bh h L F) {u:Int} (hy:y < h):∀(x:Nat) (r:List Nat),r≠[]->(∀z∈x :: r,z < h)->(x :: r).Nodup->(x :: r).getLast?=some y->(∀l∈lk L (x :: r),u<=l)->u<=F x y
 | x,[],ne,_,_,_,_=>absurd rfl ne
 | x,[w],_,al,nd,la,li=>by
   have la:w=y:=Option.some.inj la;subst la;rw [Fc] at li;have a:=li _ (mem_cons_self ..);have nx:w≠x:=fun e=>(nodup_cons.mp nd).1 (by rw [<- e];exact mem_cons_self ..);exact Int.le_trans a (g.low (al x (mem_cons_self ..)) hy nx)
 | x,w :: z :: r,_,al,nd,la,li=>by
   rw [Fc] at li;have nd2:=(nodup_cons.mp nd);have hx:=al x (mem_cons_self ..);have hw:=al w (mem_cons_of_mem _ (mem_cons_self ..));have la2:(w :: z :: r).getLast?=some y:=by rw [List.getLast?_cons_cons] at la;exact la
   have my:y∈z :: r:=by
    have:(z :: r).getLast?=some y:=by rw [List.getLast?_cons_cons] at la2;exact la2
    exact mem_of_getLast? this
   have a:=li _ (mem_cons_self ..);have b:=M5 g hy w (z :: r) (fun e=>nomatch e) (fun q m=>al q (mem_cons_of_mem _ m)) nd2.2 la2 fun l m=>li l (mem_cons_of_mem _ m);have wx:w≠x:=fun e=>nd2.1 (by rw [<- e];exact mem_cons_self ..);have yx:y≠x:=fun e=>nd2.1 (by rw [<- e];exact mem_cons_of_mem _ my);have yw:y≠w:=fun e=>(nodup_cons.mp nd2.2).1 (by rw [<- e];exact my);have c:=g.low hx hw wx;have d:=g.tri hx hw hy wx yx yw;ext
end
theorem Ni {K:PySem.W.Frag} {a b:Addr} {xs zs:List V} {tt:TT} {te:TE} {σ:St} {H1:Hp} {Q:Addr->Hp->Prop} {n m:Nat} (hn:n=σ.length) (hm:m=σ.length+1) (hxz:zs.length<=xs.length) (hz:zs.length<=sizeLine) (Pv:Addr->Nat->List V->Hp->Prop)
 (h0:∀D,H1 D=none->Pv D 0 [] (upd H1 D (.lst []))) (hD:∀D i ys H,Pv D i ys H->H D=some (.lst ys)/\ys.length<=i) (hl:∀D i ys H,H1 D=none->Pv D i ys H->SqL K H a xs/\SqL K H b zs)
 (hs:∀D i x z T ys H (K1:VK) (K2:Hp->Prop),H1 D=none->xs[i]?=some x->zs[i]?=some z->Pv D i ys H->H T=none->(∀y H5,H5 D=some (.lst ys)->Pv D (i+1) (ys++[y]) (upd H5 D (.lst (ys++[y])))->K1 y H5)->(∀H4,Pv D (i+1) ys H4->K2 H4) ->
  tt (σ++[some x,some z]) (upd H T (.tup [x,z])) fun b H4=>if b=true then te (σ++[some x,some z]) H4 K1 else K2 H4)
 (hd:∀D ys H,H1 D=none->Pv D zs.length ys H->Q D H) :
 ∀D,H1 D=none->∃W:Nat->Nat->List V->Hp->Prop,(∃m,W 0 m [] (upd H1 D (.lst [])))/\∀i k ys H2,W i k ys H2 ->
  H2 D=some (.lst ys)/\(((Itz K a b).stop i H2/\Q D H2)\/((Itz K a b).go i H2/\ys.length < sizeLine/\∀x H3,(Itz K a b).yld i H2 x H3->∀os:St,os.length=2->Ri K 2 (Kk (DT n) (Kk (DT m) Rh)) x (σ++os) H3 fun σ4 H4=>(∃os':St,σ4=σ++os'/\os'.length=2)/\tt σ4 H4 fun b H5=>if b=true then te σ4 H5 fun y H6=>H6 D=some (.lst ys)/\∃m',m' < k/\W (i+1) m' (ys++[y]) (upd H6 D (.lst (ys++[y])))
   else ∃m',m' < k/\W (i+1) m' ys H5)):=by
 intro D hDn;subst hn hm;refine ⟨fun i m ys H=>m=zs.length - i/\i<=zs.length/\Pv D i ys H,⟨zs.length,rfl,Nat.zero_le _,h0 D hDn⟩,?_⟩;rintro i m ys H2 ⟨rfl,hi,p⟩;obtain ⟨e,l⟩:=hD D i ys H2 p;obtain ⟨q1,q2⟩:=hl D i ys H2 hDn p;refine ⟨e,?_⟩;by_cases hlt':i < zs.length
 ·have hlt:i < xs.length:=by ext
  refine .inr ⟨⟨xs,zs,xs[i],zs[i],q1,q2,by simp [hlt],by simp [hlt']⟩,Nat.lt_of_le_of_lt l (Nat.lt_of_lt_of_le hlt' hz),fun x H3 y os ho=>?_⟩;obtain ⟨T,v,w,rfl,hT,rfl,hy,hw⟩:=y;have q5:=hs D i v w T ys H2 (fun y H6=>H6 D=some (.lst ys)/\∃m',m' < zs.length - i/\m'=zs.length - (i+1)/\i+1<=zs.length/\Pv D (i+1) (ys++[y]) (upd H6 D (.lst (ys++[y])))) (fun H5=>∃m',m' < zs.length - i/\m'=zs.length - (i+1)/\i+1<=zs.length/\Pv D (i+1) ys H5) hDn (hy xs q1) (hw zs q2) p hT (fun y H5 h5 p5=>⟨h5,zs.length - (i+1),by ext,rfl,hlt',p5⟩) fun H4 p4=>⟨zs.length - (i+1),by ext,rfl,hlt',p4⟩
  match os,ho with
  | [o1,o2],_ =>
    have e2:((σ++[o1,o2]).set σ.length (some v)).set (σ.length+1) (some w)=σ++[some v,some w]:=by
     rw [set_append_right _ _ (Nat.le_refl _),Nat.sub_self,set_append_right _ _ (Nat.le_succ _)];rw [show (List.length σ+1) - List.length σ=1 by ext];rfl
    refine ⟨T,[v,w],rfl,SqT.of Ac,rfl,v,[w],rfl,w,[],rfl,rfl,?_⟩;refine ⟨⟨[some v,some w],e2,rfl⟩,?_⟩;rw [e2];exact q5
 ·have ei:i=zs.length:=by ext
  subst ei;exact .inl ⟨⟨xs,zs,q1,q2,.inr (Nat.le_refl _)⟩,hd D ys H2 hDn p⟩
theorem GD {X:Cx} (K:PySem.W.Frag) (hc:X.calm=true) (hK:X.K=K:=by rfl):Cc X (.builtin "max") (fun xs H Q=>∃(a:Addr) (ns:List Int),xs=[.ref a]/\SqL K H a (ns.map V.int)/\0 < ns.length/\∀M,M∈ns->(∀z∈ns,z<=M)->Q (.int M) H):=by
 subst hK;exact Fq hc
structure RO (h x y:Nat) (L:Nat->Nat->Int) (v:Int) (g:Nat->Bool):Prop where
 hx:x < h
 hy:y < h
 gx:g x=true
 gy:g y=false
 le:∀u w,u < h->w < h->g u=true->g w=false->L u w<=v
inductive IO (vs:List V) (H:Hp) (Q:VK) (E:XK):Prop
 | mk (a w:Addr) (as:List Addr) (h x y:Nat) (L:Nat->Nat->Int) (v:Int) (ws:List Nat):vs=[.ref a,.ref w]->H a=some (.lst (as.map V.ref))->Bc H as h L->H w=some (.lst ((B9 ws).map V.int))->Dw h x y L v ws->h<=12->(∀H':Hp,Al H H'->Q (.int v) H')->IO vs H Q E
theorem QF {h x y:Nat} {L:Nat->Nat->Int} {v:Int} {ws:List Nat} (iw:Dw h x y L v ws):ws.length<=h:=Rs iw.nd iw.all
def NP:Sp:=fun vs H Q _=>∃h:Nat,vs=[.int (h:Int)]/\h<=12/\∀(l:Addr) (ps:Prs) (H':Hp),H l=none->Al H H'->H' l=some (.lst (JQ ps))->(∀q∈ps,H' q.1=some (.tup [.int (q.2.1:Int),.int (q.2.2:Int)]))->ps.map (fun q=>q.2)=pairsOf h h->Q (.ref l) H'
structure RwG (h:Nat) (L F:Nat->Nat->Int) (H:Hp) (q:Rw):Prop where
 tup:H q.t=some (.tup [.int (q.x:Int),.int (q.y:Int),.int q.s,.ref q.w,.int q.cut])
 way:H q.w=some (.lst ((B9 q.ws).map V.int))
 ne:q.y≠q.x
 str:q.s=F q.x q.y
 isw:Dw h q.x q.y L q.s q.ws
 cutE:∃g,q.cut=AR h g/\RO h q.x q.y L q.s g
theorem EB.gen {h:Nat} {L F:Nat->Nat->Int} {H:Hp} {q:Rw} (g:Bh h L F) (k:EB h L F H q):RwG h L F H q:=by
 refine ⟨k.tup,k.way,k.ne,k.str,k.isw,Nj F q.x q.y,k.cutE,k.hx,k.hy,?_,?_,fun u w hu hw gu gw=>?_⟩
 ·unfold Nj;exact decide_eq_true (.inl rfl)
 ·unfold Nj;refine decide_eq_false fun c=>?_;rcases c with c | c
  ·exact k.ne c
  ·exact Int.lt_irrefl _ c
 ·obtain ⟨bf,re⟩:=g q.x k.hx
  have row:∀{i:Nat},i < h->((List.range h).map fun y=>F q.x y).getD i 0=F q.x i:=fun {i} hi=>by
   rw [getD_eq_getElem?_getD,List.getElem?_map,List.getElem?_range hi];rfl
  unfold Nj at gu gw;have gu:=of_decide_eq_true gu;have gw:=of_decide_eq_false gw;have:=re.cut (y:=q.y) hu hw (by rw [row k.hy,row hu];exact gu) ⟨fun e=>gw (.inl e),by rw [row hw,row k.hy];exact Int.not_lt.mp fun z=>gw (.inr z)⟩;rw [row k.hy] at this;rw [k.str];exact this
structure NX (H:Hp) (p:Addr) (h s:Nat) (ns:List Int) (ls:Ls) (F:Nat->Nat->Int):Prop where
 is:∃(m sh pk:Addr) (ms:List Addr) (rows:List Rw),H p=some (.tup [.ref m,.ref sh,.ref pk])/\H m=some (.lst (ms.map V.ref))/\Bc H ms h (ovF ls)/\H sh=some (.lst (vrw rows))/\(∀q∈rows,RwG h (Ba ls) F H q)/\rows.map (fun q=>(q.x,q.y))=pairsOf h h/\H pk=some (.lst ((Ak F s ns).map V.int))
 strong:Bh h (Ba ls) F
theorem Lv.gen {H:Hp} {p:Addr} {h s:Nat} {ns:List Int} {ls:Ls} {F:Nat->Nat->Int} (k:Lv H p h s ns ls F):NX H p h s ns ls F:=by
 obtain ⟨m,sh,pk,ms,rows,k1,k2,k3,k4,k5,k6,k7⟩:=k.is;exact ⟨⟨m,sh,pk,ms,rows,k1,k2,k3,k4,fun q mq=>(k5 q mq).gen k.strong,k6,k7⟩,k.strong⟩
def IsC (CC C:Addr) (H:Hp) (k a:Addr) (h s:Nat) (ns:List Int):Prop:=(∃dk,H k=some (.ins CC dk [("way",.ref a)]))/\Dx C H a h s ns
theorem IsC.same {CC C:Addr} {H H':Hp} {k a:Addr} {h s:Nat} {ns:List Int} (e:Al H H') (z:IsC CC C H k a h s ns):IsC CC C H' k a h s ns:=let ⟨⟨dk,z1⟩,z2⟩:=z;⟨⟨dk,e _ _ z1⟩,z2.same e⟩
inductive Ld (K:PySem.W.Frag) (vs:List V) (H:Hp) (Q:VK) (E:XK):Prop
 | mk (k C dk:Addr) (x:V):vs=[.ref k,x]->H k=some (.ins C dk [])->Cls K C->Cg K C "way"->(∀H':Hp,Al (off H k) H'->H' k=some (.ins C dk [("way",x)])->Q .non H')->Ld K vs H Q E
theorem R6 (x:V):L2.putF "way" x []=([("way",x)]:List (Str × V)):=rfl
theorem MY (i x:Nat):E6 (i+1) x=E6 i x++if i=x then [] else [i]:=by
 unfold E6;rw [range_succ,filter_append];by_cases c:i=x <;> simp [c]
theorem Gf (a b:Prs):JQ (a++b)=JQ a++JQ b:=by unfold JQ;rw [map_append]
noncomputable def prD (q:Nat × Nat):PyData:=.tuple [.int (q.1:Int),.int (q.2:Int)]
theorem KC {K:PySem.W.Frag} {H:Hp}:∀{ps:Prs},(∀q∈ps,H q.1=some (.tup [.int (q.2.1:Int),.int (q.2.2:Int)]))->Reps K H (JQ ps) ((ps.map fun q=>q.2).map prD)
 | [],_=>.nil
 | q :: ps,g=>.cons (.tup (SqT.of (g q (mem_cons_self ..))) (.cons (.int _) (.cons (.int _) .nil))) (KC fun r m=>g r (mem_cons_of_mem _ m))
theorem Mr:∀a b:List (List Int),PyData.eqvAll (a.map rD) (b.map rD)=decide (a=b)
 | [],[]=>rfl
 | [],_ :: _=>by rw [decide_eq_false (fun z=>by cases z)];rfl
 | _ :: _,[]=>by rw [decide_eq_false (fun z=>by cases z)];rfl
 | x :: a,y :: b=>by
   show (PyData.eqvAll (x.map .int) (y.map .int) && PyData.eqvAll (a.map rD) (b.map rD))=_;rw [CD,Mr a b,Bool.eq_iff_iff];simp
theorem RJ {h:Nat} {F G:Nat->Nat->Int} (e:BG h F=BG h G) {x y:Nat} (hx:x < h) (hy:y < h):F x y=G x y:=by
 unfold BG at e;have a:=congrArg (fun l:List (List Int)=>(l[x]?.getD [])[y]?.getD 0) e;simp only [List.getElem?_map,List.getElem?_range hx,List.getElem?_range hy,Option.map_some,Option.getD_some] at a;exact a
theorem Kx:∀(n:Nat) (f:Nat->Bool) (k:Nat),k < n->f k=false->AR n (fun i=>f i || decide (k=i))=AR n f+2 ^ k
 | 0,_,_,h,_=>by ext
 | n+1,f,k,h,e=>by
   rw [Cd,Cd];by_cases c:k=n
   ·subst c;rw [e,decide_eq_true rfl,if_pos (show (false || true)=true from rfl),if_neg (by decide)];rw [Bi k (g:=f) fun i hi=>by rw [decide_eq_false (show ¬ k=i by ext),Bool.or_false]];ext
   ·rw [Kx n f k (by ext) e,decide_eq_false c,Bool.or_false];ext
noncomputable def EN (h:Nat) (ws:List Int) (x y:Int):Bool:=decide (2<=ws.length/\ws.head?=some x/\ws.getLast?=some y/\(∀z∈ws,0<=z/\z < (h:Int))/\ws.Nodup)
noncomputable def DG (h:Nat) (c:Int) (x y:Nat):Bool:=decide (0<=c/\c<=2 ^ h - 1) && (bit c x && !bit c y)
def RS (h:Nat) (L:Nat->Nat->Int) (c m:Int):Prop:=(∃i j,i < h/\j < h/\bit c i=true/\bit c j=false/\L i j=m)/\∀i j,i < h->j < h->bit c i=true->bit c j=false->L i j<=m
theorem QK {L:Nat->Nat->Int} {ws:List Nat} (t:2<=ws.length):lk L ws≠[]:=fun z=>by
 have:=congrArg List.length z;unfold lk at this;rw [length_map,length_range] at this;have:ws.length - 1=0:=this;ext
theorem Kq:∀{l:List Int},l≠[]->∃m,m∈l/\∀z∈l,m<=z
 | [],h=>absurd rfl h
 | [a],_=>⟨a,mem_cons_self ..,fun z k=>by rw [mem_singleton.mp k];exact Int.le_refl _⟩
 | a :: b :: l,_=>by
   obtain ⟨m,k1,k2⟩:=Kq (l:=b :: l) (fun z=>by cases z);by_cases c:a<=m
   ·refine ⟨a,mem_cons_self ..,fun z k=>?_⟩;rcases mem_cons.mp k with rfl | k
    ·exact Int.le_refl _
    ·exact Int.le_trans c (k2 z k)
   ·refine ⟨m,mem_cons_of_mem _ k1,fun z k=>?_⟩;rcases mem_cons.mp k with rfl | k
    ·ext
    ·exact k2 z k
theorem Qi {ws:List Int} (h:∀z∈ws,0<=z):B9 (ws.map Int.toNat)=ws:=by
 unfold B9;rw [map_map];refine Eq.trans (map_congr_left (g:=id) fun z k=>?_) (map_id _);exact Int.toNat_of_nonneg (h z k)
theorem N5 {ws:List Int} (h:∀z∈ws,0<=z) (nd:ws.Nodup):(ws.map Int.toNat).Nodup:=pairwise_map.mpr (nd.imp_of_mem fun {a b} ma mb ne e=>ne (by
 have:=h a ma;have:=h b mb;ext))
theorem JS {h:Nat} {ws:List Int} {x y:Int} (L:Nat->Nat->Int) (k:EN h ws x y=true):∃f,Dw h x.toNat y.toNat L f (ws.map Int.toNat)/\(∀z∈ws,0<=z)/\0<=x/\x < h/\0<=y/\y < h:=by
 obtain ⟨k1,k2,k3,k4,k5⟩:=of_decide_eq_true k;have ml:2<=(ws.map Int.toNat).length:=by rw [length_map];exact k1
 obtain ⟨f,f1,f2⟩:=Kq (QK (L:=L) ml);have hx:=k4 x (mem_of_head? k2);have hy:=k4 y (mem_of_getLast? k3);refine ⟨f,⟨fun z m=>?_,N5 (fun z m=>(k4 z m).1) k5,by rw [List.head?_map,k2];rfl,by rw [List.getLast?_map,k3];rfl,ml,f1,f2⟩,fun z m=>(k4 z m).1,hx.1,hx.2,hy.1,hy.2⟩;obtain ⟨u,um,rfl⟩:=mem_map.mp m;have:=k4 u um;ext
inductive IN (vs:List V) (H:Hp) (Q:VK) (E:XK):Prop
 | mk (w:Addr) (h:Nat) (x y:Int) (ws:List Int):vs=[.ref w,.int x,.int y,.int (h:Int)]->H w=some (.lst (ws.map V.int))->ws.length<=60->(∀H':Hp,Al H H'->Q (.bl (EN h ws x y)) H')->IN vs H Q E
inductive IM (vs:List V) (H:Hp) (Q:VK) (E:XK):Prop
 | mk (h x y:Nat) (c:Int):vs=[.int c,.int (x:Int),.int (y:Int),.int (h:Int)]->h<=12->Q (.bl (DG h c x y)) H->IM vs H Q E
inductive IK (vs:List V) (H:Hp) (Q:VK) (E:XK):Prop
 | mk (a:Addr) (as:List Addr) (h x y:Nat) (L:Nat->Nat->Int) (c:Int):vs=[.ref a,.int c]->H a=some (.lst (as.map V.ref))->Bc H as h L->DG h c x y=true->x < h->y < h->h<=12->(∀(m:Int) (H':Hp),Al H H'->RS h L c m->Q (.int m) H')->IK vs H Q E
theorem Kz:∀{ws ms:List Int},ms.Nodup->(∀z∈ms,z∈ws)->ms.length=ws.length->ws.Nodup
 | [],_,_,_,_=>nodup_nil
 | a :: w,ms,nd,sub,e=>by
   rw [length_cons] at e
   have no:¬ ∀z∈ms,z∈w:=fun k=>by
    have:=BN nd k;ext
   have an:a ∉ w:=fun k=>no fun z m=>by
    rcases mem_cons.mp (sub z m) with rfl | m
    ·exact k
    ·exact m
   have am:a∈ms:=Decidable.byContradiction fun k=>no fun z m=>by
    rcases mem_cons.mp (sub z m) with rfl | m'
    ·exact absurd m k
    ·exact m'
   refine nodup_cons.mpr ⟨an,Kz (ms:=ms.erase a) (nd.erase a) (fun z m=>?_) (by rw [length_erase_of_mem am];ext)⟩;obtain ⟨ne,m'⟩:=(nd.mem_erase_iff).mp m;exact (mem_cons.mp (sub z m')).resolve_left ne
theorem JX (xs:List V) (v:V):atI (xs++[v]) (-1)=some v:=by
 have:atI (xs++[v]) (-1)=(xs++[v])[xs.length]?:=by
  unfold atI ixN;have e:(xs++[v]).length=xs.length+1:=by rw [length_append];rfl
  rw [e,if_neg (by decide),if_pos (by ext)];show (xs++[v])[((-1:Int)+((xs.length+1:Nat):Int)).toNat]?=_
  congr 1
  ext
 rw [this,List.getElem?_append_right (Nat.le_refl _),Nat.sub_self];rfl
theorem MP {h x y:Nat} {L:Nat->Nat->Int} {f f':Int} {ws:List Nat} (a:Dw h x y L f ws) (b:Dw h x y L f' ws):f=f':=Int.le_antisymm (a.least.2 f' b.least.1) (b.least.2 f a.least.1)
abbrev Pq:=List (Addr × Int × Int)
noncomputable def vpq (ps:Pq):List V:=ps.map fun q=>.ref q.1
noncomputable def piD (q:Int × Int):PyData:=.tuple [.int q.1,.int q.2]
theorem Mq:∀a b:List (Int × Int),PyData.eqvAll (a.map piD) (b.map piD)=decide (a=b)
 | [],[]=>rfl
 | [],_ :: _=>rfl
 | _ :: _,[]=>rfl
 | x :: a,y :: b=>by
   show (PyData.eqv (piD x) (piD y) && PyData.eqvAll (a.map piD) (b.map piD))=_;rw [Mq a b]
   have e:PyData.eqv (piD x) (piD y)=decide (x=y):=by
    show ((x.1 == y.1) && ((x.2 == y.2) && true))=_;by_cases c:x=y
    ·rw [c,decide_eq_true rfl,beq_self_eq_true,beq_self_eq_true];rfl
    ·rw [decide_eq_false c];by_cases d:x.1=y.1
     ·have:x.2≠y.2:=fun z=>c (Prod.ext d z);rw [beq_eq_false_iff_ne.mpr this,Bool.false_and,Bool.and_false]
     ·rw [beq_eq_false_iff_ne.mpr d,Bool.false_and]
   rw [e];by_cases c:x=y
   ·rw [decide_eq_true c,Bool.true_and,c];exact decide_eq_decide.mpr ⟨fun z=>by rw [z],fun z=>(List.cons.inj z).2⟩
   ·rw [decide_eq_false c,Bool.false_and,decide_eq_false (fun z=>c (List.cons.inj z).1)]
theorem Mx (ps:List (Int × Int)):Lay 2 (.list (ps.map piD)):=OC (PZ (f:=piD) (fun q=>OD (Mw 0 _) (Mw 0 _)) _)
theorem Pb {K:PySem.W.Frag} {H:Hp} {ps:List (Addr × Int × Int)} (g:∀q∈ps,H q.1=some (.tup [.int q.2.1,.int q.2.2])):Reps K H (vpq ps) ((ps.map (·.2)).map piD):=by
 rw [map_map];exact KI fun q m=>.tup (SqT.of (g q m)) (.cons (.int _) (.cons (.int _) .nil))
structure Rq where
 t:Addr
 w:Addr
 x:Int
 y:Int
 s:Int
 ws:List Int
 cut:Int
noncomputable def vrq (rs:List Rq):List V:=rs.map fun r=>.ref r.t
structure RqG (H:Hp) (r:Rq):Prop where
 t:H r.t=some (.tup [.int r.x,.int r.y,.int r.s,.ref r.w,.int r.cut])
 w:H r.w=some (.lst (r.ws.map V.int))
theorem RqG.same {H J:Hp} {r:Rq} (s:Al H J) (g:RqG H r):RqG J r:=⟨s _ _ g.t,s _ _ g.w⟩
def Ea (h:Nat) (L:Nat->Nat->Int) (r:Rq):Prop:=EN h r.ws r.x r.y=true/\DG h r.cut r.x.toNat r.y.toNat=true/\Dw h r.x.toNat r.y.toNat L r.s (r.ws.map Int.toNat)/\∀i j,i < h->j < h->bit r.cut i=true->bit r.cut j=false->L i j<=r.s
noncomputable def JC (h:Nat) (L:Nat->Nat->Int) (r:Rq):Bool:=@decide (Ea h L r) (Classical.propDecidable _)
theorem LP {h:Nat} {L:Nat->Nat->Int} {r:Rq} (k:Ea h L r):JC h L r=true:=@decide_eq_true _ (Classical.propDecidable _) k
theorem LO {h:Nat} {L:Nat->Nat->Int} {r:Rq} (k:¬ Ea h L r):JC h L r=false:=@decide_eq_false _ (Classical.propDecidable _) k
noncomputable def AS (rs:List Rq):List (Int × Int):=rs.map fun r=>(r.x,r.y)
noncomputable def Ec (h:Nat):List (Int × Int):=(pairsOf h h).map fun p=>((p.1:Int),(p.2:Int))
noncomputable def BY (h:Nat) (ls:Ls) (pk:List Int) (tb:List (List Int)) (rs:List Rq) (ps:List Int):Bool:=decide (tb=BG h (ovF ls)) && (decide (AS rs=Ec h) && (rs.all (JC h (Ba ls)) && decide (ps=pk)))
inductive IX (vs:List V) (H:Hp) (Q:VK) (E:XK):Prop
 | mk (a:Addr) (as:List Addr) (h:Nat) (L:Nat->Nat->Int) (r:Rq):vs=[.ref a,.ref r.t]->H a=some (.lst (as.map V.ref))->Bc H as h L->RqG H r->r.ws.length<=60->0<=r.x->r.x < h->0<=r.y->r.y < h->h<=12->(∀H':Hp,Al H H'->Q (.bl (JC h L r)) H')->IX vs H Q E
inductive IY (vs:List V) (H:Hp) (Q:VK) (E:XK):Prop
 | mk (sh:Addr) (h:Nat) (L F:Nat->Nat->Int) (rs:List Rq):vs=[.ref sh,.int (h:Int)]->H sh=some (.lst (vrq rs))->(∀r∈rs,RqG H r/\r.s=F r.x.toNat r.y.toNat)->AS rs=Ec h->Bh h L F->(∀x,x < h->L x x=0)->1<=h->h<=12->(∀(b:Addr) (as:List Addr) (H':Hp),H b=none->Al H H'->H' b=some (.lst (as.map V.ref))->Bc H' as h F->Q (.ref b) H')->IY vs H Q E
structure Lu (H:Hp) (p:Addr) (m sh pk:Addr) (tb:Tb) (rs:List Rq) (ps:List Int):Prop where
 p:H p=some (.tup [.ref m,.ref sh,.ref pk])
 m:H m=some (.lst (vtb tb))
 tb:∀r∈tb,H r.1=some (.lst (r.2.map V.int))
 sh:H sh=some (.lst (vrq rs))
 rg:∀r∈rs,RqG H r/\r.ws.length<=60
 pk:H pk=some (.lst (ps.map V.int))
 n:rs.length<=300
theorem Lu.same {H J:Hp} {p m sh pk:Addr} {tb:Tb} {rs:List Rq} {ps:List Int} (s:Al H J) (g:Lu H p m sh pk tb rs ps):Lu J p m sh pk tb rs ps:=⟨s _ _ g.p,s _ _ g.m,fun r k=>s _ _ (g.tb r k),s _ _ g.sh,fun r k=>⟨(g.rg r k).1.same s,(g.rg r k).2⟩,s _ _ g.pk,g.n⟩
inductive IU (CC C:Addr) (vs:List V) (H:Hp) (Q:VK) (E:XK):Prop
 | mk (k a l p m sh pk:Addr) (h s:Nat) (ns:List Int) (ls:Ls) (F:Nat->Nat->Int) (tb:Tb) (rs:List Rq) (ps:List Int):vs=[.ref k,.ref l,.ref p]->IsC CC C H k a h s ns->H l=some (.lst (vls ls))->Dv h H ls->ls.length<=60->Bh h (Ba ls) F->Lu H p m sh pk tb rs ps->(∀H':Hp,Al H H'->Q (.bl (BY h ls (Ak F s ns) (tb.map (·.2)) rs ps)) H')->IU CC C vs H Q E
theorem EJ {h:Nat} {L F:Nat->Nat->Int} (st:Bh h L F) {r:Rq} (k:Ea h L r):r.s=F r.x.toNat r.y.toNat:=by
 obtain ⟨wb,cb,iw,le⟩:=k;obtain ⟨_,_,_,x0,xh,y0,yh⟩:=JS L wb;unfold DG at cb;obtain ⟨_,cbt⟩:=Bool.and_eq_true_iff.mp cb;obtain ⟨cx,cy'⟩:=Bool.and_eq_true_iff.mp cbt;have cy:bit r.cut r.y.toNat=false:=by simpa using cy'
 have hx:r.x.toNat < h:=by ext
 have hy:r.y.toNat < h:=by ext
 refine Int.le_antisymm ?_ ?_
 ·obtain ⟨w0,wr,ew⟩:∃w0 wr,r.ws.map Int.toNat=w0 :: wr:=exists_cons_of_ne_nil fun z=>by
   have:=iw.two;rw [z] at this;exact absurd this (by decide)
  have e0:w0=r.x.toNat:=by
   have:=iw.first;rw [ew] at this;exact Option.some.inj this
  rw [ew,e0] at iw;exact M5 st hy _ _ (fun z=>by have:=iw.two;rw [z] at this;exact absurd this (show ¬ 2<=1 by decide)) iw.all iw.nd iw.last iw.least.2
 ·refine Decidable.byContradiction fun k=>?_;have c:NW h (r.s+1) L ((List.range h).filter fun j=>!bit r.cut j):=?_
  ·have:=Nf st c hy (mem_filter.mpr ⟨mem_range.mpr hy,by rw [cy];rfl⟩) hx (fun m=>by rw [mem_filter,cx] at m;exact absurd m.2 (by decide));ext
  ·intro u hu nu w mw;obtain ⟨w1,w2⟩:=mem_filter.mp mw;have bu:bit r.cut u=true:=Decidable.byContradiction fun k=>nu (mem_filter.mpr ⟨mem_range.mpr hu,by rw [Bool.not_eq_true] at k;rw [k];rfl⟩);have:=le u w hu (mem_range.mp w1) bu (by simpa using w2);ext
theorem Mp {rs:List Rq} {h:Nat} (e:AS rs=Ec h) {r:Rq} (m:r∈rs):∃x y:Nat,r.x=(x:Int)/\r.y=(y:Int)/\(x,y)∈pairsOf h h:=by
 have a:(r.x,r.y)∈Ec h:=by rw [<- e];exact mem_map.mpr ⟨r,m,rfl⟩
 obtain ⟨⟨x,y⟩,pm,pe⟩:=mem_map.mp a;exact ⟨x,y,(Prod.mk.inj pe).1.symm,(Prod.mk.inj pe).2.symm,pm⟩
theorem Gv {rs:List Rq} {i:Nat} {x:V} (hx:(vrq rs)[i]?=some x):∃r,rs[i]?=some r/\x=.ref r.t/\r∈rs/\rs.take (i+1)=rs.take i++[r]:=by
 unfold vrq at hx;rw [List.getElem?_map] at hx
 cases e:rs[i]? with
 | none=>rw [e] at hx;cases hx
 | some r=>rw [e] at hx;exact ⟨r,rfl,(Option.some.inj hx).symm,mem_of_getElem? e,by rw [take_succ,e];rfl⟩
theorem Cw (rs:List Rq):(vrq rs).length=rs.length:=length_map ..
theorem MB {K:PySem.W.Frag} {H:Hp}:∀{tb:Tb},(∀r∈tb,H r.1=some (.lst (r.2.map V.int)))->Reps K H (vtb tb) ((tb.map (·.2)).map rD)
 | [],_=>.nil
 | r :: tb,g=>.cons (.lst (SqL.of (g r (mem_cons_self ..))) (.ints _)) (MB fun q m=>g q (mem_cons_of_mem _ m))
theorem KJ {h:Nat} {ls:Ls} {pk:List Int} {tb:List (List Int)} {rs:List Rq} {ps:List Int} (k:tb≠BG h (ovF ls)):BY h ls pk tb rs ps=false:=by
 unfold BY;rw [decide_eq_false k,Bool.false_and]
theorem GY {h:Nat} {ls:Ls} {pk:List Int} {tb:List (List Int)} {rs:List Rq} {ps:List Int} (k:AS rs≠Ec h):BY h ls pk tb rs ps=false:=by
 unfold BY;rw [decide_eq_false k,Bool.false_and,Bool.and_false]
theorem GZ {h:Nat} {ls:Ls} {pk:List Int} {tb:List (List Int)} {rs:List Rq} {ps:List Int} {r:Rq} (m:r∈rs) (k:¬ Ea h (Ba ls) r):BY h ls pk tb rs ps=false:=by
 unfold BY;rw [show rs.all (JC h (Ba ls))=false from all_eq_false.mpr ⟨r,m,by rw [LO k];decide⟩,Bool.false_and,Bool.and_false,Bool.and_false]
theorem Ha {h:Nat} {ls:Ls} {pk:List Int} {tb:List (List Int)} {rs:List Rq} {ps:List Int} (k:ps≠pk):BY h ls pk tb rs ps=false:=by
 unfold BY;rw [decide_eq_false k,Bool.and_false,Bool.and_false,Bool.and_false]
theorem JB {h:Nat} {ls:Ls} {pk:List Int} {tb:List (List Int)} {rs:List Rq} {ps:List Int} (k1:tb=BG h (ovF ls)) (k2:AS rs=Ec h) (k3:∀r∈rs,Ea h (Ba ls) r) (k4:ps=pk):BY h ls pk tb rs ps=true:=by
 unfold BY;rw [decide_eq_true k1,decide_eq_true k2,decide_eq_true k4,all_eq_true.mpr fun r m=>LP (k3 r m)];rfl
inductive Hs (CC C:Addr) (vs:List V) (H:Hp) (Q:VK) (E:XK):Prop
 | mk (k a l p o m sh pk:Addr) (h s:Nat) (ns os:List Int) (ls:Ls) (F:Nat->Nat->Int) (tb:Tb) (rs:List Rq) (ps:List Int):vs=[.ref k,.ref l,.ref p,.ref o]->IsC CC C H k a h s ns->H l=some (.lst (vls ls))->Dv h H ls->ls.length<=60->Bh h (Ba ls) F->Lu H p m sh pk tb rs ps->H o=some (.lst (os.map V.int))->(∀H':Hp,Al H H'->Q (.bl (BY h ls (Ak F s ns) (tb.map (·.2)) rs ps && decide (Gc h (Ak F s ns)=os))) H')->Hs CC C vs H Q E
theorem DQ {h:Nat} {ws:List Int} {x y:Int} (k:2<=ws.length->ws.head?=some x->ws.getLast?=some y->(∀z∈ws,0<=z/\z < (h:Int))->ws.Nodup->False):EN h ws x y=false:=decide_eq_false fun z=>k z.1 z.2.1 z.2.2.1 z.2.2.2.1 z.2.2.2.2
theorem GE {xs:List V}:C1 xs none (some (-1))=xs.take (xs.length - 1):=by
 unfold C1 HT.sIx;show (xs.drop 0).take ((if (-1:Int) < 0 then ((-1:Int)+(xs.length:Int)).toNat else _) - 0)=_;rw [if_pos (by decide),show ((-1:Int)+(xs.length:Int)).toNat=xs.length - 1 by ext];rfl
theorem Oe (c:Int) (i:Nat):bit (c+2 ^ i) i=!bit c i:=by
 unfold bit;have p:(2:Int) ^ i≠0:=Int.ne_of_gt (Int.pow_pos (by decide));rw [Int.add_ediv_of_dvd_right (Int.dvd_refl _),Int.ediv_self p];rcases Int.emod_two_eq (c / 2 ^ i) with e | e
 ·rw [decide_eq_true (show (c / 2 ^ i+1) % 2=1 by ext),decide_eq_false (show ¬ c / 2 ^ i % 2=1 by ext)];rfl
 ·rw [decide_eq_false (show ¬ (c / 2 ^ i+1) % 2=1 by ext),decide_eq_true (show c / 2 ^ i % 2=1 by ext)];rfl
theorem Od (c:Int) (i:Nat):bit (c - 2 ^ i) i=!bit c i:=by
 have e:=Oe (c - 2 ^ i) i;rw [Int.sub_add_cancel] at e;rw [e,Bool.not_not]
theorem al2 {α:Type} {p:α->Prop} {a:α} {l:List α}:(p a/\∀x∈l,p x)->∀x∈a :: l,p x:=forall_mem_cons.mpr
def HC (h:Nat) (L:Nat->Nat->Int) (r r':Rq):Prop:=(r'.x,r'.y)≠(r.x,r.y)\/¬ Ea h L r'
theorem JD {h:Nat} {L:Nat->Nat->Int} {r:Rq} (k:Ea h L r):0<=r.x/\r.x < h/\0<=r.y/\r.y < h/\r.x≠r.y:=by
 obtain ⟨wb,cb,_⟩:=k;obtain ⟨_,_,_,x0,xh,y0,yh⟩:=JS L wb;refine ⟨x0,xh,y0,yh,fun e=>?_⟩;unfold DG at cb;rw [e,Bool.and_not_self,Bool.and_false] at cb
 cases cb
theorem NZ {h:Nat} {L:Nat->Nat->Int} {r r':Rq} (k:Ea h L r) (ex:r'.x=r.x) (ey:r'.y=r.y) (ew:r'.ws=r.ws) (ne:r'.s≠r.s):HC h L r r':=.inr fun z=>ne (by
 have a:=z.2.2.1;rw [ex,ey,ew] at a;exact MP a k.2.2.1)
theorem Ob {h:Nat} {L:Nat->Nat->Int} {r r':Rq} (ne:r'.x≠r.x):HC h L r r':=.inl fun z=>ne (Prod.mk.inj z).1
theorem RZ {h:Nat} {L:Nat->Nat->Int} {r r':Rq} (ne:r'.y≠r.y):HC h L r r':=.inl fun z=>ne (Prod.mk.inj z).2
theorem Oa {h:Nat} {L:Nat->Nat->Int} {r r':Rq} (k:EN h r'.ws r'.x r'.y=false):HC h L r r':=.inr fun z=>absurd z.1 (by rw [k];decide)
theorem RW {h:Nat} {L:Nat->Nat->Int} {r r':Rq} (k:DG h r'.cut r'.x.toNat r'.y.toNat=false):HC h L r r':=.inr fun z=>absurd z.2.1 (by rw [k];decide)
theorem Gw {h:Nat} {ws:List Int} {x y z:Int} (m:z∈ws) (n:z < 0\/(h:Int)<=z):EN h ws x y=false:=DQ fun _ _ _ al _=>by have:=al z m;ext
theorem Oo {h x y:Nat} {c far:Int} (f0:0<=far) (k:DG h c x y=true):DG h (c - 2 ^ x) x y=false/\DG h (c+2 ^ y) x y=false/\DG h (-1 - far) x y=false/\DG h (c - 2 ^ h) x y=false/\DG h (c+2 ^ h) x y=false/\DG h 0 x y=false:=by
 unfold DG at k ⊢;rw [Bool.and_eq_true,Bool.and_eq_true,decide_eq_true_eq] at k;obtain ⟨⟨c0,c1⟩,bx,by_⟩:=k;have by_:bit c y=false:=by rw [<- Bool.not_not (bit c y),by_];rfl
 refine ⟨?_,?_,?_,?_,?_,?_⟩
 ·rw [Od,bx];simp
 ·rw [Oe,by_];simp
 ·rw [decide_eq_false (by ext),Bool.false_and]
 ·rw [decide_eq_false (by ext),Bool.false_and]
 ·rw [decide_eq_false (by ext),Bool.false_and]
 ·rw [show bit 0 x=false from by unfold bit;rw [Int.zero_ediv];rfl,Bool.false_and,Bool.and_false]
structure Acc (D:Addr) (H J:Hp) (bad:Rq->Prop) (rs:List Rq):Prop where
 d:J D=some (.lst (vrq rs))
 k:BI [D] H J
 g:∀r∈rs,RqG J r/\r.w≠D/\bad r
theorem BI.trans' {as:List Addr} {H H' H2:Hp} (a:BI as H H') (b:Al H' H2):BI as H H2:=fun c o m e=>b _ _ (a c o m e)
theorem Acc.step {D:Addr} {H J J':Hp} {bad:Rq->Prop} {rs:List Rq} (a:Acc D H J bad rs) (s:Al J J'):Acc D H J' bad rs:=⟨s _ _ a.d,a.k.trans' s,fun r m=>⟨(a.g r m).1.same s,(a.g r m).2⟩⟩
theorem Acc.push {D:Addr} {H J:Hp} {bad:Rq->Prop} {rs:List Rq} {r:Rq} (a:Acc D H J bad rs) (g:RqG J r) (n:r.w≠D) (b:bad r):Acc D H (upd J D (.lst (vrq rs++[.ref r.t]))) bad (rs++[r]):=by
 have up:∀{q:Rq},RqG J q->q.w≠D->RqG (upd J D (.lst (vrq rs++[.ref r.t]))) q:=fun {q} k m=>⟨by rw [Aj (Fd k.t a.d (fun z=>by cases z))];exact k.t,by rw [Aj m];exact k.w⟩;refine ⟨?_,a.k.put (mem_singleton.mpr rfl),fun q m=>?_⟩
 ·rw [Ac];unfold vrq;rw [map_append];rfl
 ·rcases mem_append.mp m with m | m
  ·exact ⟨up (a.g q m).1 (a.g q m).2.1,(a.g q m).2⟩
  ·rw [mem_singleton.mp m];exact ⟨up g n,n,b⟩
theorem Acc.same {D:Addr} {H0 H J:Hp} {bad:Rq->Prop} {rs:List Rq} (a:Acc D H J bad rs) (s:Al H0 H) (n:H0 D=none):Al H0 J:=a.k.same s fun b m=>by rw [mem_singleton.mp m];exact n
theorem Acc.at {D b:Addr} {o:HO} {H J:Hp} {bad:Rq->Prop} {rs:List Rq} (a:Acc D H J bad rs) (n:b≠D) (e:H b=some o):J b=some o:=a.k b o (fun m=>n (mem_singleton.mp m)) e
def HB (H:Hp) (h:Nat) (L:Nat->Nat->Int) (r r':Rq):Prop:=r'.ws.length<=60/\HC h L r r'/\(r'.w=r.w\/H r'.w=none)
inductive IJ (vs:List V) (H:Hp) (Q:VK) (E:XK):Prop
 | mk (h:Nat) (L:Nat->Nat->Int) (r:Rq) (far:Int):vs=[.ref r.t,.int (h:Int),.int far]->RqG H r->Ea h L r->r.ws.length<=14->0<=far->h<=12->(∀(l:Addr) (rs:List Rq) (H':Hp),H l=none->Al H H'->H' l=some (.lst (vrq rs))->(∀q∈rs,RqG H' q/\HB H h L r q)->rs.length<=40->8<=rs.length->Q (.ref l) H')->IJ vs H Q E
theorem Acc.base {D:Addr} {H J:Hp} {bad:Rq->Prop} {rs:List Rq} (a:Acc D H J bad rs):Acc D J J bad rs:=⟨a.d,BI.of (Al.refl _),a.g⟩
theorem PH (c:Int) (i:Nat):decide (V.int ((c.fdiv (1*2 ^ (i:Int).toNat)).fmod 2)=V.int 1)=bit c i:=by
 have p:(0:Int)<=2 ^ i:=Int.le_of_lt (Int.pow_pos (by decide));rw [Int.toNat_natCast,Int.one_mul,Int.fdiv_eq_ediv_of_nonneg _ p,Int.fmod_eq_emod_of_nonneg _ (by decide)];unfold bit;by_cases c:c / 2 ^ i % 2=1
 ·rw [Nn c,decide_eq_true c]
 ·rw [Nm c,decide_eq_false c]
theorem RX {h:Nat} {L F:Nat->Nat->Int} (st:Bh h L F) {r r':Rq} (k:Ea h L r) (ex:r'.x=r.x) (ey:r'.y=r.y) (ne:r'.s≠r.s):HC h L r r':=.inr fun z=>ne (by rw [EJ st z,EJ st k,ex,ey])
theorem RY {h:Nat} {L:Nat->Nat->Int} {r r':Rq} {i j:Nat} (hi:i < h) (hj:j < h) (bi:bit r'.cut i=true) (bj:bit r'.cut j=false) (lt:r'.s < L i j):HC h L r r':=.inr fun z=>by have:=z.2.2.2 i j hi hj bi bj;ext
theorem PD {h x y:Nat} {L:Nat->Nat->Int} {r r':Rq} (ex:r'.x=(x:Int)) (ey:r'.y=(y:Int)) (ew:r'.ws=[(x:Int),(y:Int)]) (ne:L x y≠r'.s):HC h L r r':=.inr fun z=>ne (by
 have a:=z.2.2.1.least.1;rw [ew] at a;exact (mem_singleton.mp a).symm)
theorem Mh (x i:Nat):bit (2 ^ x) i=decide (i=x):=by
 unfold bit;by_cases c:i=x
 ·rw [c,Int.ediv_self (Int.ne_of_gt (Int.pow_pos (by decide))),decide_eq_true (rfl:x=x)];rfl
 ·rw [decide_eq_false c];rcases Nat.lt_or_gt_of_ne c with l | l
  ·have e:(2:Int) ^ x=2 ^ i*(2*2 ^ (x - i - 1)):=by rw [<- Int.pow_succ',<- Int.pow_add];congr 1;ext
   rw [e,Int.mul_ediv_cancel_left _ (Int.ne_of_gt (Int.pow_pos (by decide))),Int.mul_emod_right];rfl
  ·have:(2:Int) ^ x < 2 ^ i:=Int.pow_lt_pow_of_lt (by decide) l;rw [Int.ediv_eq_zero_of_lt (Int.le_of_lt (Int.pow_pos (by decide))) this];rfl
theorem Mg (h y i:Nat) (hy:y < h) (hi:i < h):bit (2 ^ h - 1 - 2 ^ y) i=!decide (i=y):=by
 have e:(2:Int) ^ h - 1 - 2 ^ y=AR h fun k=>!decide (k=y):=by
  have a:=Kx h (fun k=>!decide (k=y)) y hy (by simp);have b:=Ft h;rw [Int.one_mul] at b
  have c:(AR h fun i=>(!decide (i=y)) || decide (y=i))=AR h fun _=>true:=Bi h fun i _=>by
   by_cases c:i=y
   ·simp [c]
   ·simp [c]
  ext
 rw [e,BZ,decide_eq_true hi,Bool.true_and]
theorem Qo {k:Nat} (c:Int) (hk:k<=12):QG c (1*2 ^ (k:Int).toNat):=by
 rw [Int.toNat_natCast,Int.one_mul];refine ⟨Int.ne_of_gt (Int.pow_pos (by decide)),Sz.mono (m:=13) ?_ (by decide)⟩;show ((2:Int) ^ k).natAbs < 2 ^ 13;rw [Int.natAbs_pow];exact Nat.pow_lt_pow_right (by decide) (by ext)
theorem QR {h k:Nat} {z:Int} (hz:(ups h)[k]?=some z):z=(k:Int)/\k < h:=by
 have kh:k < h:=by have:=(List.getElem?_eq_some_iff.mp hz).1;rwa [BC] at this
 unfold ups at hz;rw [List.getElem?_map] at hz;obtain ⟨b,hb,eb⟩:=Option.map_eq_some_iff.mp hz;have:=List.getElem?_eq_some_iff.mp hb;rw [<- eb,<- this.2,getElem_range];exact ⟨rfl,kh⟩
inductive Lf (vs:List V) (H:Hp) (Q:VK) (E:XK):Prop
 | mk (a:Addr) (as:List Addr) (h:Nat) (L F:Nat->Nat->Int) (r:Rq):vs=[.ref r.t,.ref a]->RqG H r->Ea h L r->r.ws.length<=14->H a=some (.lst (as.map V.ref))->Bc H as h L->Bh h L F->h<=12->(∀(l:Addr) (rs:List Rq) (H':Hp),H l=none->Al H H'->H' l=some (.lst (vrq rs))->(∀q∈rs,RqG H' q/\HB H h L r q)->rs.length<=20->Q (.ref l) H')->Lf vs H Q E
theorem BA {α:Type} {a b:List α} (h:a.length≠b.length):a≠b:=fun e=>h (by rw [e])
theorem R8 {α:Type} {a:List α} (n:a.Nodup) (h:1 < a.length):a.reverse≠a:=fun e=>by
 have e0:a.reverse[0]?=a[0]?:=by rw [e]
 rw [List.getElem?_reverse (by ext)] at e0;have:=(List.getElem?_inj (by ext) n).mp e0;ext
theorem BL (rs:List Rq):(AS rs).length=rs.length:=length_map ..
theorem EX {rs:List Rq} {k:Nat} {r:Rq} (e:rs[k]?=some r):(AS rs)[k]?=some (r.x,r.y):=by unfold AS;rw [List.getElem?_map,e];rfl
theorem Os {rs:List Rq} {k:Nat} {r r':Rq} (hr:rs[k]?=some r) (ne:(r'.x,r'.y)≠(r.x,r.y)):AS (rs.take k++[r']++rs.drop (k+1))≠AS rs:=fun e=>by
 have lk:k < rs.length:=(List.getElem?_eq_some_iff.mp hr).1;have tl:(rs.take k).length=k:=by rw [length_take];ext
 have e1:=congrArg (fun l:List (Int × Int)=>l[k]?) e;unfold AS at e1;rw [List.getElem?_map,List.getElem?_map,hr,append_assoc,List.getElem?_append_right (by rw [tl];exact Nat.le_refl _),tl,Nat.sub_self] at e1;exact ne (Option.some.inj e1)
theorem Rb {rs:List Rq} {k:Nat} (lk:k < rs.length):AS (rs.take k++rs.drop (k+1))≠AS rs:=BA (by rw [BL,BL,length_append,length_take,length_drop];ext)
theorem PK {rs:List Rq} {k:Nat} {r:Rq} (lk:k < rs.length):AS (rs.take k++[r]++rs.drop k)≠AS rs:=BA (by rw [BL,BL,length_append,length_append,length_take,length_drop];show min k rs.length+1+_≠_;ext)
theorem QI {rs:List Rq} (nd:(AS rs).Nodup) {i j:Nat} {r r':Rq} (hi:rs[i]?=some r) (hj:rs[j]?=some r') (ne:i≠j):(r'.x,r'.y)≠(r.x,r.y):=fun e=>ne (by
 have a:=EX hi;have b:=EX hj;rw [e,<- a] at b;exact ((List.getElem?_inj (by rw [BL];exact (List.getElem?_eq_some_iff.mp hj).1) nd).mp b).symm)
theorem PL {rs:List Rq} (nd:(AS rs).Nodup) {i j:Nat} {r r':Rq} (hi:rs[i]?=some r) (hj:rs[j]?=some r') (ne:i≠j):AS ((rs.set i r').set j r)≠AS rs:=fun e=>by
 have li:=(List.getElem?_eq_some_iff.mp hi).1;have a:((rs.set i r').set j r)[i]?=some r':=by rw [List.getElem?_set_ne (Ne.symm ne),List.getElem?_set_self li]
 have b:=EX a;rw [e,EX hi] at b;exact QI nd hi hj ne (Option.some.inj b).symm
theorem MN (rs:List Rq) (i:Nat) (r:Rq):(vrq rs).set i (.ref r.t)=vrq (rs.set i r):=by
 unfold vrq;rw [map_set]
inductive Hl (vs:List V) (H:Hp) (Q:VK) (E:XK):Prop
 | mk (l:Addr) (rs:List Rq) (k:Nat):vs=[.ref l,.int (k:Int)]->H l=some (.lst (vrq rs))->k < rs.length->2<=rs.length->rs.length<=150->(AS rs).Nodup->(∀(l':Addr) (os:List (Addr × List Rq)) (H':Hp),H l'=none->Al H H'->H' l'=some (.lst (os.map fun o=>V.ref o.1))->(∀o∈os,H' o.1=some (.lst (vrq o.2))/\(∀r∈o.2,r∈rs)/\o.2.length<=300/\AS o.2≠AS rs)->os.length<=10->Q (.ref l') H')->Hl vs H Q E
theorem NT (a:Tb):(vtb a).length=a.length:=length_map ..
noncomputable def Dc (as:List Addr) (h:Nat) (G:Nat->Nat->Int):Tb:=as.zip (BG h G)
theorem Hw {H:Hp} {as:List Addr} {h:Nat} {G:Nat->Nat->Int} (g:Bc H as h G):vtb (Dc as h G)=as.map V.ref/\(Dc as h G).map (·.2)=BG h G/\∀r∈Dc as h G,H r.1=some (.lst (r.2.map V.int)):=by
 have l:as.length=(BG h G).length:=by rw [g.1,En]
 refine ⟨?_,?_,fun r m=>?_⟩
 ·unfold vtb Dc;rw [show (fun r:Addr × List Int=>V.ref r.1)=V.ref ∘ Prod.fst from rfl,<- map_map,map_fst_zip (by ext)]
 ·unfold Dc;exact map_snd_zip (by ext)
 ·unfold Dc at m;obtain ⟨i,hi⟩:=List.getElem?_of_mem m;obtain ⟨a1,a2⟩:=List.getElem?_zip_eq_some.mp hi;have hi:i < h:=by have:=(List.getElem?_eq_some_iff.mp a1).1;have:=g.1;ext
  rw [JE hi] at a2;rw [<- Option.some.inj a2];exact g.2.2 i _ a1
theorem FA {a b:Tb} (h:a.length≠b.length):a.map (·.2)≠b.map (·.2):=fun e=>h (by
 have:=congrArg List.length e;rwa [length_map,length_map] at this)
theorem Jd {tb:Tb} {k:Nat} {r r':Addr × List Int} (hr:tb[k]?=some r) (ne:r'.2≠r.2):(tb.take k++[r']++tb.drop (k+1)).map (·.2)≠tb.map (·.2):=fun e=>by
 have lk:k < tb.length:=(List.getElem?_eq_some_iff.mp hr).1;have tl:(tb.take k).length=k:=by rw [length_take];ext
 have e1:=congrArg (fun l:List (List Int)=>l[k]?) e;rw [List.getElem?_map,List.getElem?_map,hr,append_assoc,List.getElem?_append_right (by rw [tl];exact Nat.le_refl _),tl,Nat.sub_self] at e1;exact ne (Option.some.inj e1)
def TbG (H:Hp) (tb:Tb):Prop:=∀r∈tb,H r.1=some (.lst (r.2.map V.int))
theorem TbG.same {H J:Hp} {tb:Tb} (s:Al H J) (g:TbG H tb):TbG J tb:=fun r m=>s _ _ (g r m)
theorem TbG.app {H:Hp} {a b:Tb} (x:TbG H a) (y:TbG H b):TbG H (a++b):=fun r m=>(mem_append.mp m).elim (x r) (y r)
theorem TbG.sub {H:Hp} {a b:Tb} (x:TbG H a) (y:∀r∈b,r∈a):TbG H b:=fun r m=>x r (y r m)
inductive Hm (vs:List V) (H:Hp) (Q:VK) (E:XK):Prop
 | mk (m:Addr) (ms:List Addr) (h:Nat) (G:Nat->Nat->Int) (c:Int):vs=[.ref m,.int c]->H m=some (.lst (ms.map V.ref))->Bc H ms h G->1<=h->h<=12->(∀(l':Addr) (os:List (Addr × Tb)) (H':Hp),H l'=none->Al H H'->H' l'=some (.lst (os.map fun o=>V.ref o.1))->(∀o∈os,H' o.1=some (.lst (vtb o.2))/\TbG H' o.2/\o.2.map (·.2)≠BG h G)->os.length<=10->Q (.ref l') H')->Hm vs H Q E
structure AcI (D:Addr) (J:Hp) (ps:List Int) (os:List (Addr × List Int)):Prop where
 d:J D=some (.lst (os.map fun o=>V.ref o.1))
 g:∀o∈os,J o.1=some (.lst (o.2.map V.int))/\o.1≠D/\o.2≠ps
theorem AcI.step {D:Addr} {J J':Hp} {ps:List Int} {os:List (Addr × List Int)} (a:AcI D J ps os) (s:Al J J'):AcI D J' ps os:=⟨s _ _ a.d,fun o m=>⟨s _ _ (a.g o m).1,(a.g o m).2⟩⟩
theorem AcI.push {D:Addr} {J:Hp} {ps:List Int} {os:List (Addr × List Int)} {o:Addr × List Int} (a:AcI D J ps os) (e:J o.1=some (.lst (o.2.map V.int))) (n:o.1≠D) (b:o.2≠ps):AcI D (upd J D (.lst ((os.map fun o=>V.ref o.1)++[.ref o.1]))) ps (os++[o]):=by
 refine ⟨by rw [Ac,map_append];rfl,fun q m=>?_⟩;rcases mem_append.mp m with m | m
 ·exact ⟨by rw [Aj (a.g q m).2.1];exact (a.g q m).1,(a.g q m).2⟩
 ·rw [mem_singleton.mp m];exact ⟨by rw [Aj n];exact e,n,b⟩
inductive Hn (vs:List V) (H:Hp) (Q:VK) (E:XK):Prop
 | mk (l:Addr) (ps:List Int) (h:Nat) (c:Int):vs=[.ref l,.int (h:Int),.int c]->H l=some (.lst (ps.map V.int))->1<=ps.length->ps.length<=12->ps.Nodup->(∀p∈ps,0<=p/\p < 64)->1<=h->h<=12->(∀(l':Addr) (os:List (Addr × List Int)) (H':Hp),H l'=none->Al H H'->H' l'=some (.lst (os.map fun o=>V.ref o.1))->(∀o∈os,H' o.1=some (.lst (o.2.map V.int))/\o.2≠ps)->os.length<=10->Q (.ref l') H')->Hn vs H Q E
theorem KB {h:Nat} {L F:Nat->Nat->Int} (g:Bh h L F):∀(s:Nat) (left:List Int),left.Nodup->(∀z∈left,∃i:Nat,i < h/\z=(i:Int))->(Ak F s left).Nodup/\(∀z∈Ak F s left,z∈left)/\(1<=s->left≠[]->Ak F s left≠[])
 | 0,left,_,_=>by rw [CU];exact ⟨nodup_nil,(fun _ m=>absurd m List.not_mem_nil),fun z=>absurd z (by decide)⟩
 | s+1,left,nd,sub=>by
   by_cases n:left=[]
   ·rw [n,Dm];exact ⟨nodup_nil,(fun _ m=>absurd m List.not_mem_nil),fun _ z=>absurd rfl z⟩
   ·rw [CT F n]
    have am:(unb F left).getD 0 0∈left:=by
     obtain ⟨a,l,e⟩:=exists_cons_of_ne_nil (Pz g n sub);rw [e];show a∈left;have:a∈unb F left:=by rw [e];exact mem_cons_self ..
     exact (mem_filter.mp this).1
    generalize (unb F left).getD 0 0=a at am;obtain ⟨i1,i2,_⟩:=KB g s (left.erase a) (nd.erase a) fun z m=>sub z (mem_of_mem_erase m);refine ⟨nodup_cons.mpr ⟨fun m=>?_,i1⟩,fun z m=>?_,fun _ _ z=>nomatch z⟩
    ·exact absurd rfl ((nd.mem_erase_iff).mp (i2 a m)).1
    ·rcases mem_cons.mp m with rfl | m
     ·exact am
     ·exact mem_of_mem_erase (i2 z m)
theorem GT (h:Nat):∀n,(pairsOf h n).Nodup
 | 0=>nodup_nil
 | n+1=>by
   rw [CS];refine nodup_append.mpr ⟨GT h n,pairwise_map.mpr ?_,fun p m q mq e=>?_⟩
   ·have b:(E6 h n).Nodup:=by unfold E6;exact nodup_range.filter _
    exact b.imp fun ne e=>ne (Prod.mk.inj e).2
   ·obtain ⟨y,_,rfl⟩:=mem_map.mp mq;rw [e] at m;exact absurd (D7.mp m).1 (Nat.lt_irrefl _)
theorem PM (h:Nat):(Ec h).Nodup:=pairwise_map.mpr ((GT h h).imp fun {a b} ne e=>ne (by
 have:=Prod.mk.inj e;exact Prod.ext (Int.ofNat.inj this.1) (Int.ofNat.inj this.2)))
theorem Kj (h:Nat):(Ec h).length+h=h*h:=by
 unfold Ec;rw [length_map];exact Dl (Nat.le_refl _)
def BW (H:Hp) (h:Nat) (ls:Ls) (pk:List Int) (b:Addr):Prop:=∃m sh pk' tb rs ps,Lu H b m sh pk' tb rs ps/\BY h ls pk (tb.map (·.2)) rs ps=false
theorem BW.same {H J:Hp} {h:Nat} {ls:Ls} {pk:List Int} {b:Addr} (s:Al H J) (k:BW H h ls pk b):BW J h ls pk b:=by
 obtain ⟨m,sh,pk',tb,rs,ps,a,e⟩:=k;exact ⟨m,sh,pk',tb,rs,ps,a.same s,e⟩
theorem Eh {H J:Hp} {D:Addr} (s:Al H J):Al (off H D) (off J D):=fun b o e=>by
 unfold off at e ⊢
 split at e
 ·cases e
 ·rename_i n
  rw [if_neg n];exact s b o e
structure Cf (H:Hp) (p m sh pk:Addr) (ms:List Addr) (rs:List Rq) (h s:Nat) (ns:List Int) (ls:Ls) (F:Nat->Nat->Int):Prop where
 p:H p=some (.tup [.ref m,.ref sh,.ref pk])
 m:H m=some (.lst (ms.map V.ref))
 tf:Bc H ms h (ovF ls)
 sh:H sh=some (.lst (vrq rs))
 rg:∀r∈rs,RqG H r/\Ea h (Ba ls) r/\r.ws.length<=14
 due:AS rs=Ec h
 pk:H pk=some (.lst ((Ak F s ns).map V.int))
theorem Cf.same {H J:Hp} {p m sh pk:Addr} {ms:List Addr} {rs:List Rq} {h s:Nat} {ns:List Int} {ls:Ls} {F:Nat->Nat->Int} (z:Al H J) (g:Cf H p m sh pk ms rs h s ns ls F):Cf J p m sh pk ms rs h s ns ls F:=⟨z _ _ g.p,z _ _ g.m,g.tf.same z,z _ _ g.sh,fun r k=>⟨(g.rg r k).1.same z,(g.rg r k).2⟩,g.due,z _ _ g.pk⟩
theorem Cf.len {H:Hp} {p m sh pk:Addr} {ms:List Addr} {rs:List Rq} {h s:Nat} {ns:List Int} {ls:Ls} {F:Nat->Nat->Int} (g:Cf H p m sh pk ms rs h s ns ls F) (h2:2<=h) (h12:h<=12):2<=rs.length/\rs.length<=150:=by
 have a:=Kj h;rw [<- g.due,BL] at a;have b:h*h<=12*12:=Nat.mul_le_mul h12 h12;have c:2*h<=h*h:=Nat.mul_le_mul_right h h2;ext
theorem Cf.pap {H:Hp} {p m sh pk:Addr} {ms:List Addr} {rs:List Rq} {h s:Nat} {ns:List Int} {ls:Ls} {F:Nat->Nat->Int} (g:Cf H p m sh pk ms rs h s ns ls F) (n:rs.length<=300):Lu H p m sh pk (Dc ms h (ovF ls)) rs (Ak F s ns):=by
 obtain ⟨v1,_,v3⟩:=Hw g.tf;exact ⟨g.p,by rw [v1];exact g.m,v3,g.sh,fun r m=>⟨(g.rg r m).1,Nat.le_trans (g.rg r m).2.2 (by decide)⟩,g.pk,n⟩
inductive Ht (vs:List V) (H:Hp) (Q:VK) (E:XK):Prop
 | mk (p a m sh pk:Addr) (as ms:List Addr) (rs:List Rq) (h s:Nat) (ns:List Int) (ls:Ls) (F:Nat->Nat->Int) (c:Int):vs=[.ref p,.ref a,.int c]->Cf H p m sh pk ms rs h s ns ls F->H a=some (.lst (as.map V.ref))->Bc H as h (Ba ls)->Bh h (Ba ls) F->ns.Perm (ups h)->1<=s->2<=h->h<=12->0<=c->Sz 200 c->(∀(l:Addr) (bs:List Addr) (H':Hp),H l=none->Al H H'->H' l=some (.lst (bs.map V.ref))->(∀b∈bs,BW H' h ls (Ak F s ns) b)->8<=bs.length->bs.length<=90->Q (.ref l) H')->Ht vs H Q E
noncomputable def Sx (q:Rw):Rq:=⟨q.t,q.w,(q.x:Int),(q.y:Int),q.s,B9 q.ws,q.cut⟩
theorem Iy (ws:List Nat):(B9 ws).map Int.toNat=ws:=by
 unfold B9;rw [map_map];exact map_id' ws
theorem MQ {h x y:Nat} {ws:List Nat} (two:2<=ws.length) (hd:ws.head?=some x) (la:ws.getLast?=some y) (al:∀z∈ws,z < h) (nd:ws.Nodup):EN h (B9 ws) (x:Int) (y:Int)=true:=by
 refine decide_eq_true ⟨by rw [Ef];exact two,?_,?_,fun u m=>?_,pairwise_map.mpr (nd.imp fun ne e=>ne (Int.ofNat.inj e))⟩
 ·unfold B9;rw [List.head?_map,hd];rfl
 ·unfold B9;rw [List.getLast?_map,la];rfl
 ·obtain ⟨v,mv,rfl⟩:=mem_map.mp m;have:=al v mv;ext
theorem RA {h:Nat} {L F:Nat->Nat->Int} {H:Hp} {q:Rw} (k:RwG h L F H q):Ea h L (Sx q):=by
 obtain ⟨g,ec,co⟩:=k.cutE;have b1:∀i,i < h->bit q.cut i=g i:=fun i l=>by rw [ec,BZ,decide_eq_true l,Bool.true_and]
 refine ⟨MQ k.isw.two k.isw.first k.isw.last k.isw.all k.isw.nd,?_,?_,fun i j hi hj e e'=>?_⟩
 ·show DG h q.cut q.x q.y=true;unfold DG;rw [b1 _ co.hx,b1 _ co.hy,co.gx,co.gy,ec,decide_eq_true ⟨Dg ..,by have:=Jp h g;ext⟩];rfl
 ·show Dw h q.x q.y L q.s ((B9 q.ws).map Int.toNat);rw [Iy];exact k.isw
 ·change bit q.cut i=true at e;change bit q.cut j=false at e';rw [b1 i hi] at e;rw [b1 j hj] at e';exact co.le i j hi hj e e'
theorem O4 {H:Hp} {p:Addr} {h s:Nat} {ns:List Int} {ls:Ls} {F:Nat->Nat->Int} (k:NX H p h s ns ls F) (h12:h<=12):∃m sh pk ms rs,Cf H p m sh pk ms rs h s ns ls F:=by
 obtain ⟨m,sh,pk,ms,rows,p1,p2,p3,p4,p5,p6,p7⟩:=k.is;refine ⟨m,sh,pk,ms,rows.map Sx,p1,p2,p3,?_,fun r mr=>?_,?_,p7⟩
 ·rw [p4];unfold vrw vrq;rw [map_map];rfl
 ·obtain ⟨q,mq,rfl⟩:=mem_map.mp mr;have g:=p5 q mq;refine ⟨⟨g.tup,g.way⟩,RA g,?_⟩;show (B9 q.ws).length<=14;rw [Ef]
  have:=BN (xs:=B9 q.ws) (ys:=ups h) (List.Pairwise.map _ (fun a b (ne:a≠b) e=>ne (Int.ofNat.inj e)) g.isw.nd) fun z mz=>by
   obtain ⟨u,mu,rfl⟩:=mem_map.mp mz;exact mem_map.mpr ⟨u,mem_range.mpr (g.isw.all u mu),rfl⟩
  rw [Ef,BC] at this;ext
 ·unfold AS Ec;rw [<- p6,map_map,map_map];rfl
theorem Cf.yes {H:Hp} {p m sh pk:Addr} {ms:List Addr} {rs:List Rq} {h s:Nat} {ns:List Int} {ls:Ls} {F:Nat->Nat->Int} (g:Cf H p m sh pk ms rs h s ns ls F):BY h ls (Ak F s ns) ((Dc ms h (ovF ls)).map (·.2)) rs (Ak F s ns)=true:=JB (Hw g.tf).2.1 g.due (fun r m=>(g.rg r m).2.1) rfl
inductive IV (P:Addr) (vs:List V) (H:Hp) (Q:VK) (E:XK):Prop
 | mk (s:Nat) (c:Int):vs=[.int (s:Int),.int c]->1<=s->s<=6->0<=c->c < 10 ^ 18->LT P H->(∀H':Hp,Q (.bl true) H')->IV P vs H Q E
theorem Me:∀x y:Fin 4,Cz x y [15]=false:=by decide +kernel
theorem Rr {t sl:Addr} {n:Int} {x y:Nat} (hx:x < 4) (hy:y < 4):Ba [(t,sl,[15],n)] x y=0:=by
 unfold Ba ovF BU dsL;show (((if Cz x y [15] then n else 0)+0) - ((if Cz y x [15] then n else 0)+0):Int)=0;rw [Me ⟨x,hx⟩ ⟨y,hy⟩,Me ⟨y,hy⟩ ⟨x,hx⟩];rfl
theorem Jo {L:Nat->Nat->Int} {h:Nat} (z:∀x y,x < h->y < h->L x y=0) {ws:List Nat} (al:∀w∈ws,w < h):∀l∈lk L ws,l=0:=fun l m=>by
 unfold lk at m;obtain ⟨k,mk,rfl⟩:=mem_map.mp m;have lk:=mem_range.mp mk
 have g:∀i,i < ws.length->ws.getD i 0 < h:=fun i hi=>by
  rw [getD_eq_getElem?_getD,List.getElem?_eq_getElem hi];exact al _ (getElem_mem hi)
 exact z _ _ (g k (by ext)) (g (k+1) (by ext))
theorem Ox {h:Nat} {L:Nat->Nat->Int} (z:∀x y,x < h->y < h->L x y=0) {r:Rq} (k:Ea h L r):r.s=0:=Jo z k.2.2.1.all _ k.2.2.1.least.1
theorem Oy {h x y:Nat} {L:Nat->Nat->Int} (z:∀x y,x < h->y < h->L x y=0) {ws:List Nat} (two:2<=ws.length) (hd:ws.head?=some x) (la:ws.getLast?=some y) (al:∀z∈ws,z < h) (nd:ws.Nodup):Dw h x y L 0 ws:=by
 refine ⟨al,nd,hd,la,two,?_,fun l m=>by rw [Jo z al l m];exact Int.le_refl _⟩;obtain ⟨l,m⟩:=exists_mem_of_ne_nil _ (QK (L:=L) two);rw [<- Jo z al l m];exact m
theorem Px:∀x y:Fin 4,x≠y->∃a b:Fin 4,(List.range 4).filter (fun k=>decide (k≠x.val/\k≠y.val))=[a.val,b.val]/\a≠b/\a≠x/\a≠y/\b≠x/\b≠y:=by decide
theorem PJ {rs:List Rq} {k:Nat} {r r':Rq} (hr:rs[k]?=some r) (e:(r'.x,r'.y)=(r.x,r.y)):AS (rs.take k++[r']++rs.drop (k+1))=AS rs:=by
 have lk:k < rs.length:=(List.getElem?_eq_some_iff.mp hr).1;have er:rs[k]=r:=(List.getElem?_eq_some_iff.mp hr).2
 have h:rs.take k++[r]++rs.drop (k+1)=rs:=by
  rw [<- er,append_assoc,singleton_append,<- drop_eq_getElem_cons lk,take_append_drop]
 have g:∀q:Rq,AS (rs.take k++[q]++rs.drop (k+1))=AS (rs.take k)++[(q.x,q.y)]++AS (rs.drop (k+1)):=fun q=>by unfold AS;rw [map_append,map_append];rfl
 rw [g,e,<- g,h]
theorem QP {t:TS} {D:EO} {σ σ':St} {H:Hp} (e:σ=σ') (h:t D σ' H):t D σ H:=by rw [e];exact h
theorem PN:EQ 4 [15]:=⟨[1,1,1,1],rfl,by decide,by decide +kernel⟩
def top (i:Nat):Stmt:=PySem.Challenge.pw_pollproof_k58_spoilt_papers.main.body.getD i (.Pass ⟨0,0,0,0⟩)
abbrev KK:Stmt:=top 2
abbrev s_holds:Stmt:=top 3
abbrev Hh:Stmt:=top 4
abbrev F6:Stmt:=top 5
abbrev Hc:Stmt:=top 8
abbrev KN:Stmt:=top 11
abbrev He:Stmt:=top 13
abbrev DO:Stmt:=top 15
abbrev Hf:Stmt:=top 21
abbrev C9:Stmt:=top 31
abbrev Cq:Stmt:=top 33
abbrev Ep:Stmt:=top 37
abbrev Hg:Stmt:=top 41
abbrev FU:Stmt:=top 42
abbrev FV:Stmt:=top 43
abbrev DM:Stmt:=top 45
abbrev Do:Stmt:=top 48
abbrev FW:Stmt:=top 49
abbrev Cp:Stmt:=top 51
abbrev Er:Stmt:=top 52
abbrev DW:Stmt:=top 53
abbrev CL:Stmt:=top 54
abbrev DX:Stmt:=top 55
abbrev Eo:Stmt:=De (top 29) 0
abbrev CK:Stmt:=De (top 38) 5
abbrev Gu:Stmt:=top 7
abbrev DN:Stmt:=top 9
abbrev B8:Stmt:=top 10
abbrev KL:Stmt:=top 12
abbrev KM:Stmt:=top 14
abbrev BD:Stmt:=top 16
abbrev FS:Stmt:=top 25
abbrev FT:Stmt:=top 26
abbrev EK:Stmt:=top 27
abbrev Dp:Stmt:=top 44
abbrev Et:Stmt:=top 47
abbrev Es:Stmt:=top 50
abbrev Co:Stmt:=top 57
abbrev C7:Stmt:=De (top 38) 3
abbrev Hd:Stmt:=top 32
abbrev CW:Stmt:=top 36
abbrev FX:Stmt:=top 46
abbrev Hb:Stmt:=De (top 28) 0
abbrev Bz:Stmt:=De (top 34) 0
abbrev DV:Stmt:=De (top 38) 4
abbrev C8:Stmt:=top 56
abbrev E8:Stmt:=De (top 28) 4
abbrev DA:Stmt:=De (top 29) 2
abbrev QN:Stmt:=top 58
theorem NJ:Ap ["hands"] ["hands"] (Af KK):=⟨rfl,rfl,rfl,by decide +kernel,rfl,by decide +kernel,by decide +kernel⟩
theorem Pg:Ap ["mask","hand"] ["mask","hand"] (Af s_holds):=⟨rfl,rfl,rfl,by decide +kernel,rfl,by decide +kernel,by decide +kernel⟩
theorem KU:Ap ["mask","hand"] ["mask","hand"] (Af Hh):=⟨rfl,rfl,rfl,by decide +kernel,rfl,by decide +kernel,by decide +kernel⟩
theorem LR:Ap ["mask"] ["mask"] (Af F6):=⟨rfl,rfl,rfl,by decide +kernel,rfl,by decide +kernel,by decide +kernel⟩
theorem KQ:Ap ["leads"] ["leads"] (Af Hc):=⟨rfl,rfl,rfl,by decide +kernel,rfl,by decide +kernel,by decide +kernel⟩
theorem II:Ap ["reached","x","y","way"] ["reached","x","y"] (Af KN):=⟨rfl,rfl,rfl,by decide +kernel,rfl,by decide +kernel,by decide +kernel⟩
theorem NL:Ap ["way","x","y","hands"] ["way","x","y","hands"] (Af He):=⟨rfl,rfl,rfl,by decide +kernel,rfl,by decide +kernel,by decide +kernel⟩
theorem HS:Ap ["leads","way"] ["leads","way"] (Af DO):=⟨rfl,rfl,rfl,by decide +kernel,rfl,by decide +kernel,by decide +kernel⟩
theorem KR:Ap ["thing"] ["thing"] (Af Hf):=⟨rfl,rfl,rfl,by decide +kernel,rfl,by decide +kernel,by decide +kernel⟩
theorem Cu:Ap ["hands","pairs","x"] ["hands"] (Af C9):=⟨rfl,rfl,rfl,by decide +kernel,rfl,by decide +kernel,by decide +kernel⟩
theorem CN:Ap ["shown","hands","strengths","row"] ["shown","hands"] (Af Cq):=⟨rfl,rfl,rfl,by decide +kernel,rfl,by decide +kernel,by decide +kernel⟩
theorem JH:Ap ["strengths","hand","others"] ["strengths","hand","others"] (Af Ep):=⟨rfl,rfl,rfl,by decide +kernel,rfl,by decide +kernel,by decide +kernel⟩
theorem KS:Ap ["_law_script","_law_k"] ["_law_script","_law_k"] (Af Hg):=⟨rfl,rfl,rfl,by decide +kernel,rfl,by decide +kernel,by decide +kernel⟩
theorem DP:Ap ["_law_cell_here","_law_by","_law_number"] ["_law_cell_here","_law_by"] (Af FU):=⟨rfl,rfl,rfl,by decide +kernel,rfl,by decide +kernel,by decide +kernel⟩
theorem CY:Ap ["_law_cell_here","_law_hands","_law_left","_law_found"] ["_law_cell_here","_law_hands"] (Af FV):=⟨rfl,rfl,rfl,by decide +kernel,rfl,by decide +kernel,by decide +kernel⟩
theorem Eu:Ap ["_law_ranks_here","_law_tiers","_law_rank"] ["_law_ranks_here"] (Af DM):=⟨rfl,rfl,rfl,by decide +kernel,rfl,by decide +kernel,by decide +kernel⟩
theorem JI:Ap ["_law_many"] ["_law_many"] (Af Do):=⟨rfl,rfl,rfl,by decide +kernel,rfl,by decide +kernel,by decide +kernel⟩
theorem JJ:Ap ["_law_ranks_here","_law_hand"] ["_law_ranks_here","_law_hand"] (Af FW):=⟨rfl,rfl,rfl,by decide +kernel,rfl,by decide +kernel,by decide +kernel⟩
theorem AH:Ap ["_law_one","_law_leads_here","_law_x","_law_y","_law_worth","_law_some","_law_cut","_law_hands","_law_bad","_law_mask","_law_inner","_law_out"] ["_law_one","_law_leads_here"] (Af Cp):=⟨rfl,rfl,rfl,by decide +kernel,rfl,by decide +kernel,by decide +kernel⟩
theorem AK:Ap ["_law_one","_law_hands","_law_far","_law_x","_law_y","_law_worth","_law_some","_law_cut","_law_bad","_law_other","_law_mask"] ["_law_one","_law_hands","_law_far"] (Af Er):=⟨rfl,rfl,rfl,by decide +kernel,rfl,by decide +kernel,by decide +kernel⟩
theorem BQ:Ap ["_law_steps","_law_at","_law_other","_law_swapped","_law_some"] ["_law_steps","_law_at"] (Af DW):=⟨rfl,rfl,rfl,by decide +kernel,rfl,by decide +kernel,by decide +kernel⟩
theorem Bk:Ap ["_law_many","_law_cell_here","_law_hands","_law_x","_law_y","_law_bad","_law_longer","_law_shorter"] ["_law_many","_law_cell_here"] (Af CL):=⟨rfl,rfl,rfl,by decide +kernel,rfl,by decide +kernel,by decide +kernel⟩
theorem DD:Ap ["_law_picks","_law_hands","_law_cell_here","_law_some"] ["_law_picks","_law_hands","_law_cell_here"] (Af DX):=⟨rfl,rfl,rfl,by decide +kernel,rfl,by decide +kernel,by decide +kernel⟩
theorem Gn:Ap ["self","way"] ["self","way"] (Af Eo):=⟨rfl,rfl,rfl,by decide +kernel,rfl,by decide +kernel,by decide +kernel⟩
theorem F7:Ap ["self","paper"] ["self","paper"] (Af CK):=⟨rfl,rfl,rfl,by decide +kernel,rfl,by decide +kernel,by decide +kernel⟩
theorem Ca:Ap ["sheet","hands","many","slip","number","behind","tier","others","x","y"] ["sheet","hands"] (Af Gu):=⟨rfl,rfl,rfl,by decide +kernel,rfl,by decide +kernel,by decide +kernel⟩
theorem FZ:Ap ["many","hands"] ["many"] (Af DN):=⟨rfl,rfl,rfl,by decide +kernel,rfl,by decide +kernel,by decide +kernel⟩
theorem Bp:Ap ["leads","x","best","before","left","through","hand","link"] ["leads","x"] (Af B8):=⟨rfl,rfl,rfl,by decide +kernel,rfl,by decide +kernel,by decide +kernel⟩
theorem DB:Ap ["reached","x","y","cut","hand","strong"] ["reached","x","y"] (Af KL):=⟨rfl,rfl,rfl,by decide +kernel,rfl,by decide +kernel,by decide +kernel⟩
theorem NK:Ap ["cut","x","y","hands"] ["cut","x","y","hands"] (Af KM):=⟨rfl,rfl,rfl,by decide +kernel,rfl,by decide +kernel,by decide +kernel⟩
theorem DC:Ap ["leads","cut","outside"] ["leads","cut"] (Af BD):=⟨rfl,rfl,rfl,by decide +kernel,rfl,by decide +kernel,by decide +kernel⟩
theorem JF:Ap ["thing"] ["thing"] (Af FS):=⟨rfl,rfl,rfl,by decide +kernel,rfl,by decide +kernel,by decide +kernel⟩
theorem JG:Ap ["thing"] ["thing"] (Af FT):=⟨rfl,rfl,rfl,by decide +kernel,rfl,by decide +kernel,by decide +kernel⟩
theorem KP:Ap ["thing","hands"] ["thing","hands"] (Af EK):=⟨rfl,rfl,rfl,by decide +kernel,rfl,by decide +kernel,by decide +kernel⟩
theorem Cr:Ap ["_law_cell_here","_law_hands","_law_number","_law_order_here","_law_most","_law_spread"] ["_law_cell_here","_law_hands"] (Af Dp):=⟨rfl,rfl,rfl,by decide +kernel,rfl,by decide +kernel,by decide +kernel⟩
theorem Cs:Ap ["_law_votes_here","_law_many","_law_ranks_here","_law_number","_law_slip_here"] ["_law_votes_here"] (Af Et):=⟨rfl,rfl,rfl,by decide +kernel,rfl,by decide +kernel,by decide +kernel⟩
theorem BR:Ap ["_law_votes_here","_law_hands","_law_found","_law_ranks_here","_law_number","_law_x","_law_y"] ["_law_votes_here","_law_hands"] (Af Es):=⟨rfl,rfl,rfl,by decide +kernel,rfl,by decide +kernel,by decide +kernel⟩
theorem Bd:Ap ["_law_paper","_law_leads_here","_law_cell_here","_law_many","_law_steps","_law_picks","_law_hands","_law_at","_law_some","_law_one"] ["_law_paper","_law_leads_here","_law_cell_here"] (Af Co):=⟨rfl,rfl,rfl,by decide +kernel,rfl,by decide +kernel,by decide +kernel⟩
theorem BH:Ap ["self","strengths","picks","left","first"] ["self","strengths"] (Af C7):=⟨rfl,rfl,rfl,by decide +kernel,rfl,by decide +kernel,by decide +kernel⟩
theorem FY:Ap ["leads","row","hands"] ["leads","row"] (Af Hd):=⟨rfl,rfl,rfl,by decide +kernel,rfl,by decide +kernel,by decide +kernel⟩
theorem E9:Ap ["reached","x","others"] ["reached","x"] (Af CW):=⟨rfl,rfl,rfl,by decide +kernel,rfl,by decide +kernel,by decide +kernel⟩
theorem Ct:Ap ["_law_script","_law_start","_law_most","_law_hands","_law_votes_here","_law_k","_law_number","_law_many"] ["_law_script","_law_start","_law_most","_law_hands"] (Af FX):=⟨rfl,rfl,rfl,by decide +kernel,rfl,by decide +kernel,by decide +kernel⟩
theorem KO:Ap ["self","hands","seats","lots"] ["self","hands","seats","lots"] (Af Hb):=⟨rfl,rfl,rfl,by decide +kernel,rfl,by decide +kernel,by decide +kernel⟩
theorem Bt:Ap ["self","sheet","paper","hands","many","leads"] ["self","sheet","paper"] (Af Bz):=⟨rfl,rfl,rfl,by decide +kernel,rfl,by decide +kernel,by decide +kernel⟩
theorem Bj:Ap ["self","sheet","many","leads","shown","strengths","x","reached"] ["self","sheet"] (Af DV):=⟨rfl,rfl,rfl,by decide +kernel,rfl,by decide +kernel,by decide +kernel⟩
theorem Aq:Ap ["_law_seats","_law_cell_here","_law_way","_law_sheet_here","_law_many","_law_steps","_law_picks","_law_checker","_law_at","_law_x","_law_y","_law_worth","_law_some","_law_cut","_law_a","_law_b"] ["_law_seats","_law_cell_here"] (Af C8):=⟨rfl,rfl,rfl,by decide +kernel,rfl,by decide +kernel,by decide +kernel⟩
theorem Hi:Ap ["self","sheet"] ["self","sheet"] (Af E8):=⟨rfl,rfl,rfl,by decide +kernel,rfl,by decide +kernel,by decide +kernel⟩
theorem Fm:Ap ["self","sheet","paper","outcome"] ["self","sheet","paper","outcome"] (Af DA):=⟨rfl,rfl,rfl,by decide +kernel,rfl,by decide +kernel,by decide +kernel⟩
theorem CM:Ap ["_law_script","_law_first","_law_hands","_law_way","_law_votes_here","_law_leads_here","_law_sheet_here","_law_paper","_law_outcome","_law_checker","_law_spoilt_here","_law_other"] ["_law_script"] (Af QN):=⟨rfl,rfl,rfl,by decide +kernel,rfl,by decide +kernel,by decide +kernel⟩
set_option genInjectivity false in
set_option genSizeOf false in
structure Ads where
 f_all_of:Addr
 d_all_of:FuncData
 f_holds:Addr
 d_holds:FuncData
 f_with_one:Addr
 d_with_one:FuncData
 f_members:Addr
 d_members:FuncData
 f_hands_of:Addr
 d_hands_of:FuncData
 f_way_by:Addr
 d_way_by:FuncData
 f_is_way:Addr
 d_is_way:FuncData
 f_least_link:Addr
 d_least_link:FuncData
 f_is_whole:Addr
 d_is_whole:FuncData
 f_pairs_in_order:Addr
 d_pairs_in_order:FuncData
 f_strengths_in:Addr
 d_strengths_in:FuncData
 f_is_beaten:Addr
 d_is_beaten:FuncData
 f_law_cell:Addr
 d_law_cell:FuncData
 f_law_mixed:Addr
 d_law_mixed:FuncData
 f_law_order:Addr
 d_law_order:FuncData
 f_law_slip:Addr
 d_law_slip:FuncData
 f_law_leads:Addr
 d_law_leads:FuncData
 f_law_place:Addr
 d_law_place:FuncData
 f_law_weaker:Addr
 d_law_weaker:FuncData
 f_law_bad_ones:Addr
 d_law_bad_ones:FuncData
 f_law_bad_lists:Addr
 d_law_bad_lists:FuncData
 f_law_bad_overs:Addr
 d_law_bad_overs:FuncData
 f_law_bad_picks:Addr
 d_law_bad_picks:FuncData
 f_Checker_init:Addr
 d_Checker_init:FuncData
 f_Pairs_told_by:Addr
 d_Pairs_told_by:FuncData
 f_overs:Addr
 d_overs:FuncData
 f_leads_of:Addr
 d_leads_of:FuncData
 f_reached_from:Addr
 d_reached_from:FuncData
 f_cut_by:Addr
 d_cut_by:FuncData
 f_is_cut:Addr
 d_is_cut:FuncData
 f_greatest_link:Addr
 d_greatest_link:FuncData
 f_are_hands:Addr
 d_are_hands:FuncData
 f_are_seats:Addr
 d_are_seats:FuncData
 f_are_lots:Addr
 d_are_lots:FuncData
 f_law_ranks:Addr
 d_law_ranks:FuncData
 f_law_sheet:Addr
 d_law_sheet:FuncData
 f_law_overs:Addr
 d_law_overs:FuncData
 f_law_spoilt:Addr
 d_law_spoilt:FuncData
 f_Pairs_picks_by:Addr
 d_Pairs_picks_by:FuncData
 f_is_shown:Addr
 d_is_shown:FuncData
 f_shown_from:Addr
 d_shown_from:FuncData
 f_law_votes:Addr
 d_law_votes:FuncData
 f_Way_init:Addr
 d_Way_init:FuncData
 f_PairsChecker_right:Addr
 d_PairsChecker_right:FuncData
 f_Pairs_counted:Addr
 d_Pairs_counted:FuncData
 f_law_round_ways:Addr
 d_law_round_ways:FuncData
 f_Way_outcome:Addr
 d_Way_outcome:FuncData
 f_Checker_passes:Addr
 d_Checker_passes:FuncData
 f_law:Addr
 d_law:FuncData
 c_Pairs:Addr
 c_PairsChecker:Addr
 c_Checker:Addr
 t_MOST_HANDS:Tok
 t_MOST_SEATS:Tok
 lc:Addr
 lP:Addr
structure Tx (K:PySem.W.Frag) (mg:Str->Option Value) (base:Heap) (a:Ads):Prop where
 m_all_of:mg "all_of"=some (.ref a.f_all_of)
 m_holds:mg "holds"=some (.ref a.f_holds)
 m_with_one:mg "with_one"=some (.ref a.f_with_one)
 m_members:mg "members"=some (.ref a.f_members)
 m_hands_of:mg "hands_of"=some (.ref a.f_hands_of)
 m_way_by:mg "way_by"=some (.ref a.f_way_by)
 m_is_way:mg "is_way"=some (.ref a.f_is_way)
 m_least_link:mg "least_link"=some (.ref a.f_least_link)
 m_is_whole:mg "is_whole"=some (.ref a.f_is_whole)
 m_pairs_in_order:mg "pairs_in_order"=some (.ref a.f_pairs_in_order)
 m_strengths_in:mg "strengths_in"=some (.ref a.f_strengths_in)
 m_is_beaten:mg "is_beaten"=some (.ref a.f_is_beaten)
 m_law_cell:mg "_law_cell"=some (.ref a.f_law_cell)
 m_law_mixed:mg "_law_mixed"=some (.ref a.f_law_mixed)
 m_law_order:mg "_law_order"=some (.ref a.f_law_order)
 m_law_slip:mg "_law_slip"=some (.ref a.f_law_slip)
 m_law_leads:mg "_law_leads"=some (.ref a.f_law_leads)
 m_law_place:mg "_law_place"=some (.ref a.f_law_place)
 m_law_weaker:mg "_law_weaker"=some (.ref a.f_law_weaker)
 m_law_bad_ones:mg "_law_bad_ones"=some (.ref a.f_law_bad_ones)
 m_law_bad_lists:mg "_law_bad_lists"=some (.ref a.f_law_bad_lists)
 m_law_bad_overs:mg "_law_bad_overs"=some (.ref a.f_law_bad_overs)
 m_law_bad_picks:mg "_law_bad_picks"=some (.ref a.f_law_bad_picks)
 m_overs:mg "overs"=some (.ref a.f_overs)
 m_leads_of:mg "leads_of"=some (.ref a.f_leads_of)
 m_reached_from:mg "reached_from"=some (.ref a.f_reached_from)
 m_cut_by:mg "cut_by"=some (.ref a.f_cut_by)
 m_is_cut:mg "is_cut"=some (.ref a.f_is_cut)
 m_greatest_link:mg "greatest_link"=some (.ref a.f_greatest_link)
 m_are_hands:mg "are_hands"=some (.ref a.f_are_hands)
 m_are_seats:mg "are_seats"=some (.ref a.f_are_seats)
 m_are_lots:mg "are_lots"=some (.ref a.f_are_lots)
 m_law_ranks:mg "_law_ranks"=some (.ref a.f_law_ranks)
 m_law_sheet:mg "_law_sheet"=some (.ref a.f_law_sheet)
 m_law_overs:mg "_law_overs"=some (.ref a.f_law_overs)
 m_law_spoilt:mg "_law_spoilt"=some (.ref a.f_law_spoilt)
 m_is_shown:mg "is_shown"=some (.ref a.f_is_shown)
 m_shown_from:mg "shown_from"=some (.ref a.f_shown_from)
 m_law_votes:mg "_law_votes"=some (.ref a.f_law_votes)
 m_law_round_ways:mg "_law_round_ways"=some (.ref a.f_law_round_ways)
 m_law:mg "law"=some (.ref a.f_law)
 z_all:mg "all"=none
 z_any:mg "any"=none
 z_bool:mg "bool"=none
 z_enumerate:mg "enumerate"=none
 z_int:mg "int"=none
 z_isinstance:mg "isinstance"=none
 z_len:mg "len"=none
 z_list:mg "list"=none
 z_max:mg "max"=none
 z_min:mg "min"=none
 z_range:mg "range"=none
 z_reversed:mg "reversed"=none
 z_set:mg "set"=none
 z_sorted:mg "sorted"=none
 z_sum:mg "sum"=none
 z_tuple:mg "tuple"=none
 z_zip:mg "zip"=none
 k_MOST_HANDS:mg "MOST_HANDS"=some (.int 12 a.t_MOST_HANDS)
 k_MOST_SEATS:mg "MOST_SEATS"=some (.int 60 a.t_MOST_SEATS)
 m_Pairs:mg "Pairs"=some (.ref a.c_Pairs)
 cl_Pairs:Cls K a.c_Pairs
 mk_Pairs:Mk K a.c_Pairs a.f_Way_init
 me_Pairs_picks_by:JT K a.c_Pairs "picks_by" a.f_Pairs_picks_by
 me_Pairs_counted:JT K a.c_Pairs "counted" a.f_Pairs_counted
 me_Pairs_told_by:JT K a.c_Pairs "told_by" a.f_Pairs_told_by
 me_Pairs_outcome:JT K a.c_Pairs "outcome" a.f_Way_outcome
 na_Pairs_hands:Cg K a.c_Pairs "hands"
 na_Pairs_seats:Cg K a.c_Pairs "seats"
 na_Pairs_lots:Cg K a.c_Pairs "lots"
 m_PairsChecker:mg "PairsChecker"=some (.ref a.c_PairsChecker)
 cl_PairsChecker:Cls K a.c_PairsChecker
 mk_PairsChecker:Mk K a.c_PairsChecker a.f_Checker_init
 me_PairsChecker_right:JT K a.c_PairsChecker "right" a.f_PairsChecker_right
 me_PairsChecker_passes:JT K a.c_PairsChecker "passes" a.f_Checker_passes
 na_PairsChecker_way:Cg K a.c_PairsChecker "way"
 ia_PairsChecker_Checker:RQ K a.c_PairsChecker a.c_Checker
 m_Checker:mg "Checker"=some (.ref a.c_Checker)
 cl_Checker:Cls K a.c_Checker
 lam:Gz base mg a.lc a.lP
 lcode:a.d_reached_from.code=.ref a.lc
 F_all_of:Fun K "all_of" "all_of" KK a.f_all_of a.d_all_of
 b_all_of:AB K a.d_all_of ["hands"] []
 F_holds:Fun K "holds" "holds" s_holds a.f_holds a.d_holds
 b_holds:AB K a.d_holds ["mask","hand"] []
 F_with_one:Fun K "with_one" "with_one" Hh a.f_with_one a.d_with_one
 b_with_one:AB K a.d_with_one ["mask","hand"] []
 F_members:Fun K "members" "members" F6 a.f_members a.d_members
 b_members:AB K a.d_members ["mask"] []
 F_hands_of:Fun K "hands_of" "hands_of" Hc a.f_hands_of a.d_hands_of
 b_hands_of:AB K a.d_hands_of ["leads"] []
 F_way_by:Fun K "way_by" "way_by" KN a.f_way_by a.d_way_by
 b_way_by:AB K a.d_way_by ["reached","x","y"] []
 F_is_way:Fun K "is_way" "is_way" He a.f_is_way a.d_is_way
 b_is_way:AB K a.d_is_way ["way","x","y","hands"] []
 F_least_link:Fun K "least_link" "least_link" DO a.f_least_link a.d_least_link
 b_least_link:AB K a.d_least_link ["leads","way"] []
 F_is_whole:Fun K "is_whole" "is_whole" Hf a.f_is_whole a.d_is_whole
 b_is_whole:AB K a.d_is_whole ["thing"] []
 F_pairs_in_order:Fun K "pairs_in_order" "pairs_in_order" C9 a.f_pairs_in_order a.d_pairs_in_order
 b_pairs_in_order:AB K a.d_pairs_in_order ["hands"] []
 F_strengths_in:Fun K "strengths_in" "strengths_in" Cq a.f_strengths_in a.d_strengths_in
 b_strengths_in:AB K a.d_strengths_in ["shown","hands"] []
 F_is_beaten:Fun K "is_beaten" "is_beaten" Ep a.f_is_beaten a.d_is_beaten
 b_is_beaten:AB K a.d_is_beaten ["strengths","hand","others"] []
 F_law_cell:Fun K "_law_cell" "_law_cell" Hg a.f_law_cell a.d_law_cell
 b_law_cell:AB K a.d_law_cell ["_law_script","_law_k"] []
 F_law_mixed:Fun K "_law_mixed" "_law_mixed" FU a.f_law_mixed a.d_law_mixed
 b_law_mixed:AB K a.d_law_mixed ["_law_cell_here","_law_by"] []
 F_law_order:Fun K "_law_order" "_law_order" FV a.f_law_order a.d_law_order
 b_law_order:AB K a.d_law_order ["_law_cell_here","_law_hands"] []
 F_law_slip:Fun K "_law_slip" "_law_slip" DM a.f_law_slip a.d_law_slip
 b_law_slip:AB K a.d_law_slip ["_law_ranks_here"] []
 F_law_leads:Fun K "_law_leads" "_law_leads" Do a.f_law_leads a.d_law_leads
 b_law_leads:AB K a.d_law_leads ["_law_many"] []
 F_law_place:Fun K "_law_place" "_law_place" FW a.f_law_place a.d_law_place
 b_law_place:AB K a.d_law_place ["_law_ranks_here","_law_hand"] []
 F_law_weaker:Fun K "_law_weaker" "_law_weaker" Cp a.f_law_weaker a.d_law_weaker
 b_law_weaker:AB K a.d_law_weaker ["_law_one","_law_leads_here"] []
 F_law_bad_ones:Fun K "_law_bad_ones" "_law_bad_ones" Er a.f_law_bad_ones a.d_law_bad_ones
 b_law_bad_ones:AB K a.d_law_bad_ones ["_law_one","_law_hands","_law_far"] []
 F_law_bad_lists:Fun K "_law_bad_lists" "_law_bad_lists" DW a.f_law_bad_lists a.d_law_bad_lists
 b_law_bad_lists:AB K a.d_law_bad_lists ["_law_steps","_law_at"] []
 F_law_bad_overs:Fun K "_law_bad_overs" "_law_bad_overs" CL a.f_law_bad_overs a.d_law_bad_overs
 b_law_bad_overs:AB K a.d_law_bad_overs ["_law_many","_law_cell_here"] []
 F_law_bad_picks:Fun K "_law_bad_picks" "_law_bad_picks" DX a.f_law_bad_picks a.d_law_bad_picks
 b_law_bad_picks:AB K a.d_law_bad_picks ["_law_picks","_law_hands","_law_cell_here"] []
 F_Checker_init:Fun K "__init__" "Checker.__init__" Eo a.f_Checker_init a.d_Checker_init
 b_Checker_init:AB K a.d_Checker_init ["self","way"] []
 F_Pairs_told_by:Fun K "told_by" "Pairs.told_by" CK a.f_Pairs_told_by a.d_Pairs_told_by
 b_Pairs_told_by:AB K a.d_Pairs_told_by ["self","paper"] []
 F_overs:Fun K "overs" "overs" Gu a.f_overs a.d_overs
 b_overs:AB K a.d_overs ["sheet","hands"] []
 F_leads_of:Fun K "leads_of" "leads_of" DN a.f_leads_of a.d_leads_of
 b_leads_of:AB K a.d_leads_of ["many"] []
 F_reached_from:Fun K "reached_from" "reached_from" B8 a.f_reached_from a.d_reached_from
 b_reached_from:AB K a.d_reached_from ["leads","x"] []
 F_cut_by:Fun K "cut_by" "cut_by" KL a.f_cut_by a.d_cut_by
 b_cut_by:AB K a.d_cut_by ["reached","x","y"] []
 F_is_cut:Fun K "is_cut" "is_cut" KM a.f_is_cut a.d_is_cut
 b_is_cut:AB K a.d_is_cut ["cut","x","y","hands"] []
 F_greatest_link:Fun K "greatest_link" "greatest_link" BD a.f_greatest_link a.d_greatest_link
 b_greatest_link:AB K a.d_greatest_link ["leads","cut"] []
 F_are_hands:Fun K "are_hands" "are_hands" FS a.f_are_hands a.d_are_hands
 b_are_hands:AB K a.d_are_hands ["thing"] []
 F_are_seats:Fun K "are_seats" "are_seats" FT a.f_are_seats a.d_are_seats
 b_are_seats:AB K a.d_are_seats ["thing"] []
 F_are_lots:Fun K "are_lots" "are_lots" EK a.f_are_lots a.d_are_lots
 b_are_lots:AB K a.d_are_lots ["thing","hands"] []
 F_law_ranks:Fun K "_law_ranks" "_law_ranks" Dp a.f_law_ranks a.d_law_ranks
 b_law_ranks:AB K a.d_law_ranks ["_law_cell_here","_law_hands"] []
 F_law_sheet:Fun K "_law_sheet" "_law_sheet" Et a.f_law_sheet a.d_law_sheet
 b_law_sheet:AB K a.d_law_sheet ["_law_votes_here"] []
 F_law_overs:Fun K "_law_overs" "_law_overs" Es a.f_law_overs a.d_law_overs
 b_law_overs:AB K a.d_law_overs ["_law_votes_here","_law_hands"] []
 F_law_spoilt:Fun K "_law_spoilt" "_law_spoilt" Co a.f_law_spoilt a.d_law_spoilt
 b_law_spoilt:AB K a.d_law_spoilt ["_law_paper","_law_leads_here","_law_cell_here"] []
 F_Pairs_picks_by:Fun K "picks_by" "Pairs.picks_by" C7 a.f_Pairs_picks_by a.d_Pairs_picks_by
 b_Pairs_picks_by:AB K a.d_Pairs_picks_by ["self","strengths"] []
 F_is_shown:Fun K "is_shown" "is_shown" Hd a.f_is_shown a.d_is_shown
 b_is_shown:AB K a.d_is_shown ["leads","row"] []
 F_shown_from:Fun K "shown_from" "shown_from" CW a.f_shown_from a.d_shown_from
 b_shown_from:AB K a.d_shown_from ["reached","x"] []
 F_law_votes:Fun K "_law_votes" "_law_votes" FX a.f_law_votes a.d_law_votes
 b_law_votes:AB K a.d_law_votes ["_law_script","_law_start","_law_most","_law_hands"] []
 F_Way_init:P8 K "__init__" "Way.__init__" Hb a.f_Way_init a.d_Way_init
 b_Way_init:AB K a.d_Way_init ["self","hands","seats","lots"] []
 b1_Way_init:AB K a.d_Way_init ["self","hands","seats","lots"] [.none]
 F_PairsChecker_right:Fun K "right" "PairsChecker.right" Bz a.f_PairsChecker_right a.d_PairsChecker_right
 b_PairsChecker_right:AB K a.d_PairsChecker_right ["self","sheet","paper"] []
 F_Pairs_counted:Fun K "counted" "Pairs.counted" DV a.f_Pairs_counted a.d_Pairs_counted
 b_Pairs_counted:AB K a.d_Pairs_counted ["self","sheet"] []
 F_law_round_ways:Fun K "_law_round_ways" "_law_round_ways" C8 a.f_law_round_ways a.d_law_round_ways
 b_law_round_ways:AB K a.d_law_round_ways ["_law_seats","_law_cell_here"] []
 F_Way_outcome:Fun K "outcome" "Way.outcome" E8 a.f_Way_outcome a.d_Way_outcome
 b_Way_outcome:AB K a.d_Way_outcome ["self","sheet"] []
 F_Checker_passes:Fun K "passes" "Checker.passes" DA a.f_Checker_passes a.d_Checker_passes
 b_Checker_passes:AB K a.d_Checker_passes ["self","sheet","paper","outcome"] []
 F_law:Fun K "law" "law" QN a.f_law a.d_law
local macro_rules | `(tactic| trivial)=>`(tactic| refine Sz.neg (by trivial))
local macro_rules | `(tactic| trivial)=>`(tactic| refine Sz.fdiv (by trivial))
local macro_rules | `(tactic| trivial)=>`(tactic| refine Sz.sub (by trivial) (by trivial))
local macro_rules | `(tactic| trivial)=>`(tactic| refine Sz.add (by trivial) (by trivial))
local macro_rules | `(tactic| trivial)=>`(tactic| refine Sz.mul (by trivial) (by trivial))
local macro_rules | `(tactic| trivial)=>`(tactic| exact Q7 _ (by first | decide | decide +kernel) (szd 200))
local macro_rules | `(tactic| trivial)=>`(tactic| first | assumption | exact szd 64 | exact szd 200 | exact szd 1000)
local macro_rules | `(tactic| symm)=>`(tactic| (repeat (first | with_reducible refine KW fun _ _=>?_ | refine ⟨_,rfl,?_⟩ | refine ⟨_,_,rfl,rfl,?_⟩ | refine ⟨rfl,?_⟩ | refine ⟨(by show (_:Int)≠0;first | decide | decide +kernel),?_⟩ | refine ⟨⟨(by show (_:Int)≠0;decide),szd 9000⟩,?_⟩ | refine ⟨(by show NV _ _;exact ⟨by decide,by decide,by decide⟩),?_⟩ | refine ⟨(by show QH _ _;refine ⟨_,_,(by trivial),(by trivial),?_⟩;decide +kernel),?_⟩ | refine ⟨_,_,_,_,rfl,rfl,SqL.of (by assumption),(by rfl),?_⟩ | refine ⟨_,_,_,_,rfl,rfl,SqT.of (by assumption),(by rfl),?_⟩ | refine ⟨_,_,rfl,.inl (SqL.of (by assumption)),?_⟩ | refine ⟨_,_,rfl,.inr (SqT.of (by assumption)),?_⟩ | refine ML (by assumption) ?_ | refine JO (by assumption) ?_)))
local macro_rules | `(tactic| nofun)=>`(tactic| first | exact .inl rfl | exact .inr rfl | assumption | exact ⟨rfl,by decide +kernel,by decide +kernel,rfl,by decide +kernel,rfl,by decide +kernel,rfl,by decide +kernel⟩)
local macro_rules | `($a *> $b)=>`(@Aa _ _ _ _ _ $a $b (by rfl))
local macro_rules | `($a >> $b)=>`(@Ad _ _ _ _ _ $a $b)
local macro_rules | `($a <&> ($b <|> $c))=>`(@Ai _ _ _ _ _ _ _ _ $a $b $c)
local macro_rules | `(tactic| subst_eqs)=>`(tactic| ((first | refine ML (by assumption) ?_ | refine JO (by assumption) ?_);try with_reducible refine KW fun _ _=>?_))
local macro_rules | `(tactic| exists $a, $h, $H, $o, $n:ident, $s:ident, $e:ident) => `(tactic| (have $s:ident := Ag $h $o; have $e:ident : (upd $H $a $o) $a = some $o := Ac; generalize upd $H $a $o = $n:ident at $s:ident $e:ident ⊢))
local macro_rules | `(tactic| exists $a, $h, $H, $o, $n:ident, $s:ident, $e:ident, $v) => `(tactic| (have $s:ident := Ag $h $o; have $e:ident : (upd $H $a $o) $a = some $v := Ac; generalize upd $H $a $o = $n:ident at $s:ident $e:ident ⊢))
local macro_rules | `(tactic| exists $k, $a:ident, $h:ident, $H, $o, $n:ident, $s:ident, $e:ident, rfl) => `(tactic| (refine ⟨(by show $k ≤ sizeLine; decide), fun $a $h => ?_⟩; exists $a, $h, $H, $o, $n, $s, $e))
local macro_rules | `(tactic| right)=>`(tactic| (refine Nat.le_of_lt (AU ?_);simp only [Cw,NT,Lo,QE,length_map,length_append,length_take,length_drop,length_cons,length_nil];ext))
section
variable {P:Program} {w:World} {K:PySem.W.Frag} {mg:Str->Option Value} {base:Heap} {ad:Ads}
theorem IB (T:Tx K mg base ad):AZ P w K mg base CX0 1 ad.f_all_of ad.d_all_of ["hands"] S2:=by
 refine T.F_all_of.ok NJ (fun vs H Q E h=>?_) (fun cdv A outer s H vs Q E hr h=>?_)
 ·obtain ⟨h,rfl,_⟩:=h;rfl
 obtain ⟨h,rfl,h0,h1,q⟩:=h;refine ⟨_,(@Ah _ _ _ (@As _ _ _ _ (BF<&>((Db<&>(Ae<|>(pv 0)))<|>Ae)))),?_⟩;exact ⟨_,rfl,_,_,rfl,rfl,⟨h0,by ext,by decide⟩,_,_,rfl,rfl,q⟩
theorem GR (T:Tx K mg base ad):AZ P w K mg base CX0 1 ad.f_holds ad.d_holds ["mask","hand"] MG:=by
 refine T.F_holds.ok Pg (fun vs H Q E h=>?_) (fun cdv A outer s H vs Q E hr h=>?_)
 ·obtain ⟨m,h,rfl,_⟩:=h;rfl
 obtain ⟨m,h,rfl,h0,q⟩:=h;refine ⟨_,(@Ah _ _ _ (@As _ _ _ _ (@CA _ _ _ _ _ _ _ _ FN (LJ<&>((OM<&>((pv 0)<|>(pv 1)))<|>Ae)) Ae (AA _)))),?_⟩;refine ⟨_,rfl,_,rfl,_,_,rfl,rfl,h0,_,_,rfl,rfl,rfl,?_⟩;show Q (.bl (decide (V.int (Builtin.bitAnd (m / 2 ^ h.toNat) 1)=V.int 1))) H;rw [Il];exact q
theorem FM (T:Tx K mg base ad):AZ P w K mg base CX0 1 ad.f_with_one ad.d_with_one ["mask","hand"] Pn:=by
 refine T.F_with_one.ok KU (fun vs H Q E h=>?_) (fun cdv A outer s H vs Q E hr h=>?_)
 ·obtain ⟨m,h,rfl,_⟩:=h;rfl
 obtain ⟨m,h,rfl,h0,h1,q⟩:=h;refine ⟨_,(@Ah _ _ _ (@As _ _ _ _ (So<&>((pv 0)<|>(Db<&>(Ae<|>(pv 1))))))),?_⟩;exact ⟨_,rfl,_,rfl,_,_,rfl,rfl,⟨h0,by ext,by decide⟩,_,_,rfl,rfl,q⟩
theorem EE (T:Tx K mg base ad):AZ P w K mg base CX0 1 ad.f_members ad.d_members ["mask"] NO:=by
 refine T.F_members.ok LR (fun vs H Q E h=>?_) (fun cdv A outer s H vs Q E hr h=>?_)
 ·obtain ⟨m,rfl,_⟩:=h;rfl
 obtain ⟨m,rfl,m0,m1,q⟩:=h;refine ⟨_,(@Ah _ _ _ (@As _ _ _ _ (Be (fsc:=Af F6) (N:=["mask"]) (Nc:=["mask","hand"]) rfl rfl (by nofun) rfl (AM rfl T.z_range ((R1 PySem.F.plainAttrs_int PySem.F.slot_int_bit_length PySem.F.type_int_bit_length Qh (pv 0))*>Ab)) (fun _ _ _ _=>(Cm (@A7 _ _ _ _ _ _ _ _ FN (LJ<&>((OM<&>((pv 0)<|>(pv 1)))<|>Ae)) Ae (AA _)))) (fun _ _ _ _=>(pv 1))))),?_⟩;have hb:(Builtin.Int.intBits m)<=12:=intBits_le_iff.mpr (by show m.natAbs < 4096;ext);refine ⟨_,rfl,rfl,m,rfl,rfl,_,rfl,by ext,by ext,?_⟩;have en:((Builtin.Int.intBits m:Nat):Int).toNat=Builtin.Int.intBits m:=by ext
 rw [en];refine AY (A8 (by ext)) (fun D i ys H'=>ys=(hands i (bit m)).map V.int/\H'=upd H D (.lst ys)) (fun D hD=>⟨rfl,rfl⟩) (fun D i ys H' hq_=>by obtain ⟨e1,e2⟩:=hq_;rw [e2,e1];exact ⟨Ac,by rw [length_map];exact C2 i (bit m)⟩) ?_ ?_
 ·rintro D i ys H' K1 K2 hD hi ⟨e1,rfl⟩ k1 k2;have ei:(0+(i:Int)).toNat=i:=by ext
  refine ⟨_,rfl,_,rfl,_,_,rfl,rfl,(by show (0:Int)<=0+(i:Int);ext),_,_,rfl,rfl,rfl,_,rfl,?_⟩;dsimp only;rw [show decide (V.int (Builtin.bitAnd (m / 2 ^ (0+(i:Int)).toNat) 1)=V.int 1)=bit m i from by rw [Il,ei]];have ms:=C3 i (bit m)
  cases e:bit m i with
  | true =>
    rw [e,if_pos rfl] at ms;refine Sk ⟨_,rfl,?_⟩;refine k1 _ _ Ac ⟨?_,by rw [Bf]⟩;rw [ms,map_append,e1,Int.zero_add];rfl
  | false =>
    rw [e,if_neg (by decide)] at ms;refine SN ?_;exact k2 _ ⟨by rw [ms];exact e1,rfl⟩
 ·rintro D ys H' hD ⟨rfl,rfl⟩;refine q D _ hD (Ag hD _) ?_;rw [Ac,Of m0 m1]
theorem Ei (T:Tx K mg base ad):AZ P w K mg base CX0 1 ad.f_hands_of ad.d_hands_of ["leads"] IL:=by
 refine T.F_hands_of.ok KQ (fun vs H Q E h=>?_) (fun cdv A outer s H vs Q E hr h=>?_)
 ·obtain ⟨a,t,h,rfl,_⟩:=h;rfl
 obtain ⟨a,t,h,rfl,ha,hl,h12,q⟩:=h;refine ⟨_,(@Ah _ _ _ (@As _ _ _ _ (Ck rfl (by rfl) T.z_list (by rfl) T.z_range (@Au _ _ _ _ _ _ _ _ _ Az (by rfl) T.z_len PySem.boot_len ((pv 0)*>Ab) (by decide) (by decide) (by rfl) (by rfl))))),?_⟩;symm;have e:(vtb t).length=h:=by unfold vtb;rw [length_map,hl]
 refine ⟨by ext,fun l hl0=>?_⟩;rw [e,show (List.map (fun i:Nat=>V.int (i:Int)) (List.range h))=(ups h).map V.int from (by unfold ups;rw [map_map];rfl)];exact q l _ hl0 (Ag hl0 _) Ac
theorem NA (T:Tx K mg base ad):AZ P w K mg base CX0 1 ad.f_way_by ad.d_way_by ["reached","x","y"] MK:=by
 refine T.F_way_by.ok II (fun vs H Q E h=>?_) (fun cdv A outer s H vs Q E hr h=>?_)
 ·obtain ⟨t,h,x,y,L,be,rfl,_⟩:=h;rfl
 obtain ⟨t,h,x,y,L,be,rfl,td,hy,yx,h12,q⟩:=h;refine ⟨_,((@An _ _ (3) _ _ _ _ II.nd rfl (Or.inl rfl) (@Av _ _ _ _ ((pv 2)*>Ab)) (by rfl) (by nofun))>>((Fl PassesOwn.never (@A7 _ _ _ _ _ _ _ _ IC (@Ao _ _ _ _ _ _ _ Ax (pv 3) Ae (fun _ _=>rfl)) (pv 1) (AA _)) (@Ah _ _ _ (@Bx _ _ _ _ (Cy PySem.F.plainAttrs_list PySem.F.slot_list_insert PySem.F.type_list_insert N2 (pv 3) (Ae*>((@Ao _ _ _ _ _ _ _ Ax (@Ao _ _ _ _ _ _ _ Br (pv 0) Ae (fun _ _=>rfl)) (@Ao _ _ _ _ _ _ _ Ax (pv 3) Ae (fun _ _=>rfl)) (fun _ _=>rfl))*>Ab))) (by rfl))))>>(@Ah _ _ _ (@As _ _ _ _ (pv 3))))),?_⟩;obtain ⟨b,f,bf,et,eb,ef,re⟩:=td.is;obtain ⟨rk,par⟩:=re.par;symm;refine ⟨(by show 1<=sizeLine;decide),fun l hl=>?_⟩
 exists l,hl,H,(.lst [V.int (y:Int)]),H1,s1,e1,(.lst ((B9 (y :: [])).map V.int))
 subst_eqs;refine ⟨fun m σ' H'=>∃(w:Nat) (r:List Nat),σ'=[some (.ref t),some (.int (x:Int)),some (.int (y:Int)),some (.ref l)]/\Al H H'/\H' l=some (.lst ((B9 (w :: r)).map V.int))/\HE h x y L be rk w r/\rk w=m,⟨_,y,[],rfl,s1,e1,HE.start rk hy yx,rfl⟩,?_⟩;rintro m σ' H' ⟨w,r,rfl,s2,e2,pt,rm⟩;have wh:w < h:=pt.all w (mem_cons_self ..);have at0:atI ((B9 (w :: r)).map V.int) ((0:Nat):Int)=some (.int (w:Int)):=Bv rfl
 have rl:r.length<=12:=by
  have:=BN (xs:=B9 (w :: r)) (ys:=ups h) (List.Pairwise.map _ (fun a b (ne:a≠b) e=>ne (Int.ofNat.inj e)) (pt.rise.imp fun z e=>by rw [e] at z;exact Nat.lt_irrefl _ z)) fun z mz=>by
   obtain ⟨v,mv,rfl⟩:=mem_map.mp mz;exact mem_map.mpr ⟨v,mem_range.mpr (pt.all v mv),rfl⟩
  unfold B9 at this;rw [length_map,BC,length_cons] at this;ext
 refine ⟨_,rfl,l,_,_,_,rfl,rfl,SqL.of e2,at0,?_⟩;symm;by_cases c:w=x
 ·refine ifF (N3 (by rw [c])) ?_;subst c;symm;exact q l (w :: r) H' hl s2 e2 pt.way
 ·refine ifT (N4 fun e=>c (Int.ofNat.inj e)) ?_;obtain ⟨p,hp,p1,p2,p3,p4⟩:=par w wh c;refine ⟨fun σ' H'=>∃(w':Nat) (r:List Nat),σ'=[some (.ref t),some (.int (x:Int)),some (.int (y:Int)),some (.ref l)]/\Al H H'/\H' l=some (.lst ((B9 (w' :: r)).map V.int))/\HE h x y L be rk w' r/\rk w' < m,fun σ' H' ⟨w',r,a1,a2,a3,a4,a5⟩=>⟨rk w',a5,w',r,a1,a2,a3,a4,rfl⟩,?_⟩;have et2:=s2 _ _ et;symm;refine ⟨.inl ⟨rfl,_,SqL.of e2⟩,?_⟩;symm;refine ⟨l,_,_,_,rfl,rfl,SqL.of e2,at0,?_⟩;refine ⟨f,_,_,_,rfl,rfl,SqL.of (s2 _ _ ef),atG (by rw [re.lenf];exact wh),?_⟩;rw [p1];refine ⟨l,_,0,V.int (p:Int),rfl,rfl,e2,Nat.zero_le _,AU (by unfold B9;rw [length_map,length_map,length_cons];ext),?_⟩;exact ⟨p,w :: r,rfl,Ay s2 hl,by rw [Ac];rfl,pt.step c hp p2 p3 p4,by ext⟩
theorem N9 (T:Tx K mg base ad):AZ P w K mg base CX0 1 ad.f_is_way ad.d_is_way ["way","x","y","hands"] IN:=by
 refine T.F_is_way.ok NL (fun vs H Q E h=>?_) (fun cdv A outer s H vs Q E hr h=>?_)
 ·obtain ⟨w,h,x,y,ws,rfl,_⟩:=h;rfl
 obtain ⟨w,h,x,y,ws,rfl,hw,wl,q⟩:=h;refine ⟨_,((@BV _ _ _ _ _ _ _ _ (PW.pt (@IF _ _ _ _ _ _ _ (@A7 _ _ _ _ _ _ _ _ FQ (@Au _ _ _ _ _ _ _ _ _ Az (by rfl) T.z_len PySem.boot_len ((pv 0)*>Ab) (by decide) (by decide) (by rfl) (by rfl)) Ae (AA _)) (@IF _ _ _ _ _ _ _ (@A7 _ _ _ _ _ _ _ _ IC (@Ao _ _ _ _ _ _ _ Ax (pv 0) Ae (fun _ _=>rfl)) (pv 1) (AA _)) (@GX _ _ _ _ (@A7 _ _ _ _ _ _ _ _ IC (@Ao _ _ _ _ _ _ _ Ax (pv 0) (@ID _ _ _ _ _ _ Hy Ae) (fun _ _=>rfl)) (pv 2) (AA _)))))) (@Ah _ _ _ (@As _ _ _ _ Ce)) Bb)>>(@Ah _ _ _ (@As _ _ _ _ (@El _ _ _ _ _ _ _ (@Au _ _ _ _ _ _ _ _ _ (GB rfl) (by rfl) T.z_all PyProof.Rows.boot_all ((Be (fsc:=Af He) (N:=["way","x","y","hands"]) (Nc:=["way","x","y","hands","hand"]) rfl rfl (by nofun) rfl (A9 (pv 0)) (fun _ _ _ _=>AI) (fun _ _ _ _=>(Fi FP FQ Ae (pv 4) (pv 3))))*>Ab) (by decide) (by decide) (by rfl) (by rfl)) (@EG _ _ _ _ _ (@CA _ _ _ _ _ _ _ _ FN (NC rfl (by rfl) T.z_len (by rfl) T.z_set (pv 0)) (@Au _ _ _ _ _ _ _ _ _ Az (by rfl) T.z_len PySem.boot_len ((pv 0)*>Ab) (by decide) (by decide) (by rfl) (by rfl)) (AA _))))))),?_⟩;have ln:(ws.map V.int).length=ws.length:=length_map ..
 have no:∀{H':Hp},Al H H'->¬ (2<=ws.length/\ws.head?=some x/\ws.getLast?=some y/\(∀z∈ws,0<=z/\z < (h:Int))/\ws.Nodup)->Q (.bl false) H':=fun s k=>by
  have:=q _ s;unfold EN at this;rwa [decide_eq_false k] at this
 symm;by_cases c1:ws.length < 2
 ·refine ifT (decide_eq_true (by rw [ln];ext)) ?_;symm;exact no (Al.refl _) fun z=>by ext
 refine ifF (decide_eq_false (by rw [ln];ext)) ?_;obtain ⟨a0,w0,ew⟩:∃a0 w0,ws=a0 :: w0:=exists_cons_of_ne_nil (fun z=>by rw [z] at c1;exact c1 (by decide));have at0:atI (ws.map V.int) 0=some (.int a0):=by rw [ew];exact Bv (j:=0) rfl
 symm;refine ⟨w,_,_,_,rfl,rfl,SqL.of hw,at0,?_⟩;symm;by_cases c2:a0=x
 ·refine ifF (N3 c2) ?_;obtain ⟨w1,a1,ew1⟩:∃w1 a1,ws=w1++[a1]:=⟨ws.dropLast,ws.getLast (fun z=>by rw [z] at c1;exact c1 (by decide)),(dropLast_concat_getLast _).symm⟩
  have atl:atI (ws.map V.int) (-1)=some (.int a1):=by
   rw [ew1,map_append];exact JX _ _
  symm;refine ⟨w,_,_,_,rfl,rfl,SqL.of hw,atl,?_⟩;symm;by_cases c3:a1=y
  ·refine ifF (N3 c3) ?_;have hd:ws.head?=some x:=by rw [ew,<- c2];rfl
   have la:ws.getLast?=some y:=by rw [ew1,<- c3,List.getLast?_append];rfl
   symm;refine ⟨⟨_,SqL.of hw⟩,?_⟩
   refine AC (xs:=ws.map V.int) (by rw [ln];exact A8 (by ext)) (fun D j ys J=>ys=((ws.take j).map fun z=>decide (0<=z/\z < (h:Int))).map V.bl/\J=upd H D (.lst ys)) (fun D hD=>⟨rfl,rfl⟩) (fun D j ys J hq=>by
    obtain ⟨f1,f2⟩:=hq
    exact ⟨by rw [f2];exact Ac,by rw [f1,length_map,length_map];exact length_take_le _ _⟩) (fun D j ys J hD hq=>by
    obtain ⟨_,f2⟩:=hq;rw [f2];exact SqL.of (Ag hD _ _ _ hw)) ?_ ?_
   ·rintro D j u ys J K1 K2 hD hx ⟨f1,rfl⟩ k1 k2;obtain ⟨z,hz,rfl⟩:=int_at hx;refine yes (ifT rfl ?_)
    have fin:K1 (.bl (decide (0<=z/\z < (h:Int)))) (upd H D (.lst ys)):=by
     refine k1 _ _ Ac ⟨?_,by rw [Bf]⟩;rw [f1,take_succ,hz,map_append,map_append];rfl
    symm;by_cases d0:0<=z
    ·refine ifT (decide_eq_true d0) ?_;rw [show decide (0<=z/\z < (h:Int))=decide (z < (h:Int)) from decide_eq_decide.mpr ⟨fun k=>k.2,fun k=>⟨d0,k⟩⟩] at fin;symm;exact fin
    ·refine ifF (decide_eq_false d0) ?_;rw [decide_eq_false (fun k=>d0 k.1)] at fin;exact fin
   rintro D ys H1 hD ⟨rfl,rfl⟩;rw [ln,take_length]
   exists D,hD,H,(.lst ((ws.map fun z=>decide (0<=z/\z < (h:Int))).map V.bl)),H1,s1,e1
   refine ⟨D,_,rfl,SqL.of e1,?_⟩;by_cases c4:∀z∈ws,0<=z/\z < (h:Int)
   ·rw [show (ws.map fun z=>decide (0<=z/\z < (h:Int))).all id=true from all_eq_true.mpr fun b m=>by
     obtain ⟨z,zm,rfl⟩:=mem_map.mp m;exact decide_eq_true (c4 z zm)]
    symm;refine ⟨w,ws,rfl,SqL.of (s1 _ _ hw),by ext,fun ms m1 m2=>?_⟩;symm;refine ⟨w,_,rfl,.inl (SqL.of (s1 _ _ hw)),?_⟩;symm;show Q (V.bl (decide (V.int (ms.length:Int)=V.int ((ws.map V.int).length:Int)))) H1;by_cases c5:ws.Nodup
    ·have el:ms.length=ws.length:=Nat.le_antisymm (BN m1 fun z mz=>(m2 z).mp mz) (BN c5 fun z mz=>(m2 z).mpr mz);rw [Nn (by rw [ln,el])];have:=q _ s1;unfold EN at this;rwa [decide_eq_true ⟨by ext,hd,la,c4,c5⟩] at this
    ·rw [Nm (fun e=>c5 (Kz m1 (fun z m=>(m2 z).mp m) (by rw [ln] at e;ext)))];exact no s1 fun z=>c5 z.2.2.2.2
   ·rw [show (ws.map fun z=>decide (0<=z/\z < (h:Int))).all id=false from Bool.eq_false_iff.mpr fun k=>c4 fun z zm=>of_decide_eq_true (all_eq_true.mp k _ (mem_map.mpr ⟨z,zm,rfl⟩))];symm;exact no s1 fun z=>c4 z.2.2.2.1
  ·refine ifT (N4 c3) ?_;symm
   exact no (Al.refl _) fun z=>c3 (by
    have:=z.2.2.1;rw [ew1,List.getLast?_append] at this;exact Option.some.inj this)
 ·refine ifT (N4 c2) ?_;symm
  exact no (Al.refl _) fun z=>c2 (by
   have:=z.2.1;rw [ew] at this;exact Option.some.inj this)
theorem HQ (T:Tx K mg base ad):AZ P w K mg base CX0 1 ad.f_least_link ad.d_least_link ["leads","way"] IO:=by
 refine T.F_least_link.ok HS (fun vs H Q E h=>?_) (fun cdv A outer s H vs Q E hr h=>?_)
 ·obtain ⟨a,w,as,h,x,y,L,v,ws,rfl,_⟩:=h;rfl
 obtain ⟨a,w,as,h,x,y,L,v,ws,rfl,ha,tb,hw,iw,h12,q⟩:=h;refine ⟨_,(@Ah _ _ _ (@As _ _ _ _ (@Au _ _ _ _ _ _ _ _ _ (Nb rfl) (by rfl) T.z_min PyProof.Rows.boot_min ((ON (fsc:=Af DO) (N:=["leads","way"]) (Nc:=["leads","way","one","other"]) rfl rfl ⟨rfl,by decide +kernel,by decide +kernel,by decide +kernel,by decide +kernel,rfl,by decide +kernel,rfl,by decide +kernel⟩ rfl (R5 rfl T.z_zip ((pv 1)*>((AD AQ (pv 1) (AO Ae) AN)*>Ab))) (fun _ _ _ _=>AI) (fun _ _ _ _=>(@Ao _ _ _ _ _ _ _ (AJ K) (@Ao _ _ _ _ _ _ _ (AJ K) (pv 0) (pv 2) (fun _ _=>rfl)) (pv 3) (fun _ _=>rfl))))*>Ab) (by decide) (by decide) (by rfl) (by rfl)))),?_⟩;have wl:=QF iw;have two:=iw.two;have ln:=Ef ws;symm;refine ⟨w,_,rfl,SqL.of hw,fun d hd=>?_⟩;rw [show C1 ((B9 ws).map V.int) (some 1) none=((B9 ws).drop 1).map V.int from (Ch (j:=1)).trans (map_drop ..).symm]
 exists d,hd,H,((.lst (((B9 ws).drop 1).map V.int))),H1,s1,e1
 refine ⟨w,d,rfl,⟨_,SqL.of (s1 _ _ hw)⟩,⟨_,SqL.of e1⟩,?_⟩;refine Ni (xs:=(B9 ws).map V.int) (zs:=((B9 ws).drop 1).map V.int) rfl rfl (by rw [length_map,length_map,length_drop];ext) (by rw [length_map,length_drop];exact A8 (by ext)) (fun D2 i ys J=>ys=((List.range i).map fun k=>L (ws.getD k 0) (ws.getD (k+1) 0)).map V.int/\J D2=some (.lst ys)/\Al H1 J) (fun D2 hD2=>⟨rfl,Ac,Ag hD2 _⟩) (fun D2 i ys J hq_=>by obtain ⟨f1,f2,_⟩:=hq_;exact ⟨f2,by rw [f1,length_map,length_map,length_range];exact Nat.le_refl _⟩) (fun D2 i ys J hD2 hq_=>by obtain ⟨_,_,f3⟩:=hq_;exact ⟨SqL.of (f3 _ _ (s1 _ _ hw)),SqL.of (f3 _ _ e1)⟩) ?_ ?_
 ·rintro D2 i u z Tt ys J K1 K2 hD2 hu hz ⟨f1,f2,f3⟩ hT k1 k2
  have il:i+1 < ws.length:=by
   have:=(List.getElem?_eq_some_iff.mp hz).1;rw [length_map,length_drop] at this;ext
  have sT:=Ag hT (.tup [u,z]);have sD:=(s1.trans f3).trans sT
  have wi:∀k,k < ws.length->ws.getD k 0 < h:=fun k hk=>by
   rw [getD_eq_getElem?_getD,List.getElem?_eq_getElem hk];exact iw.all _ (getElem_mem hk)
  have eu:u=.int ((ws.getD i 0:Nat):Int):=by
   have a:=Mz (ws:=ws) (k:=i) (by ext);rw [Bv hu] at a;exact Option.some.inj a
  have ez:z=.int ((ws.getD (i+1) 0:Nat):Int):=by
   have a:=Mz (ws:=ws) (k:=i+1) il;rw [List.getElem?_map,List.getElem?_drop,<- List.getElem?_map,Nat.add_comm] at hz;rw [Bv hz] at a;exact Option.some.inj a
  subst eu ez;obtain ⟨ar,_,_,r3,r4⟩:=(tb.same sD).row (wi i (by ext));refine yes (ifT rfl ?_);refine ⟨_,rfl,_,rfl,a,_,_,_,rfl,rfl,SqL.of (sD _ _ ha),r3,?_⟩;refine ⟨_,rfl,ar,_,_,_,rfl,rfl,SqL.of r4,By (L (ws.getD i 0)) (wi (i+1) il),?_⟩;refine k1 _ _ (sT _ _ f2) ⟨?_,Ac,Ay (f3.trans sT) hD2⟩;rw [f1,range_succ,map_append,map_append];rfl
 rintro D2 ys H2 hD2 ⟨f1,f2,f3⟩;have lz:(((B9 ws).drop 1).map V.int).length=ws.length - 1:=by rw [length_map,length_drop,ln]
 rw [lz] at f1;subst f1;refine ⟨D2,lk L ws,rfl,SqL.of f2,?_,fun M Mm Ma=>?_⟩
 ·unfold lk;rw [length_map,length_range];ext
 rw [Int.le_antisymm (Ma v iw.least.1) (iw.least.2 M Mm)];exact q _ (s1.trans f3)
theorem Ej (T:Tx K mg base ad):AZ P w K mg base CX0 1 ad.f_is_whole ad.d_is_whole ["thing"] Q4:=by
 refine T.F_is_whole.ok KR (fun vs H Q E h=>?_) (fun cdv A outer s H vs Q E hr h=>?_)
 ·obtain ⟨c,rfl,_⟩:=h;rfl
 obtain ⟨c,rfl,q⟩:=h;refine ⟨_,(@Ah _ _ _ (@As _ _ _ _ (@El _ _ _ _ _ _ _ (@Au _ _ _ _ _ _ _ _ _ GC (by rfl) T.z_isinstance PyProof.Rows.boot_isinstance ((pv 0)*>((Jz (v:=.ty "int") rfl T.z_int PyProof.Rows.boot_int rfl)*>Ab)) (by decide) (by decide) (by rfl) (by rfl)) (@EG _ _ _ _ _ (@OS _ _ _ _ (@Au _ _ _ _ _ _ _ _ _ GC (by rfl) T.z_isinstance PyProof.Rows.boot_isinstance ((pv 0)*>((Jz (v:=.ty "bool") rfl T.z_bool PyProof.Rows.boot_bool rfl)*>Ab)) (by decide) (by decide) (by rfl) (by rfl))))))),?_⟩;refine ⟨_,rfl,_,_,_,_,rfl,E5.int c,Kp,_,rfl,?_⟩;refine Sk ?_;exact ⟨_,rfl,_,_,_,_,rfl,E5.int c,Jm,_,rfl,q⟩
theorem Fh (T:Tx K mg base ad):AZ P w K mg base CX0 1 ad.f_pairs_in_order ad.d_pairs_in_order ["hands"] NP:=by
 refine T.F_pairs_in_order.ok Cu (fun vs H Q E h=>?_) (fun cdv A outer s H vs Q E hr h=>?_)
 ·obtain ⟨h,rfl,_⟩:=h;rfl
 obtain ⟨h,rfl,h12,q⟩:=h;refine ⟨_,((@An _ _ (1) _ _ _ _ Cu.nd rfl (Or.inl rfl) (@Av _ _ _ _ Ab) (by rfl) (by nofun))>>((Bu PassesOwn.never rfl (AM rfl T.z_range ((pv 0)*>Ab)) (Ar (i:=2) Cu.nd rfl (Or.inr rfl)) (@Ah _ _ _ (@Bx _ _ _ _ (Cy PySem.F.plainAttrs_list PySem.F.slot_list_extend PySem.F.type_list_extend Iu (pv 1) ((Be (fsc:=Af C9) (N:=["hands","pairs","x"]) (Nc:=["hands","pairs","x","y"]) rfl rfl (by nofun) rfl (AM rfl T.z_range ((pv 0)*>Ab)) (fun _ _ _ _=>(Cm (@A7 _ _ _ _ _ _ _ _ IC (pv 3) (pv 2) (AA _)))) (fun _ _ _ _=>(@AX _ _ _ _ _ ((pv 2)*>((pv 3)*>Ab)))))*>Ab)) (by rfl))))>>(@Ah _ _ _ (@As _ _ _ _ (pv 1))))),?_⟩;symm
 exists 0,l,hl,H,((.lst [])),H1,s1,e1,rfl
 symm;refine ⟨by ext,by ext,D4 (fun i σ' H'=>∃(v2:Option V) (ps:Prs),σ'=[some (.int (h:Int)),some (.ref l),v2]/\Al H H'/\H' l=some (.lst (JQ ps))/\(∀q∈ps,H' q.1=some (.tup [.int (q.2.1:Int),.int (q.2.2:Int)]))/\ps.map (fun q=>q.2)=pairsOf h i) ⟨none,[],rfl,s1,e1,(fun q m=>nomatch m),rfl⟩ ?_ ?_⟩
 ·rintro i σ' H' hi ⟨v2,ps,rfl,s2,e2,g2,p2⟩;rw [Int.toNat_natCast] at hi;have z0:(0:Int)+(i:Int)=(i:Int):=Int.zero_add _;rw [z0]
  have pl:ps.length<=144:=by
   have a1:=congrArg List.length p2;rw [length_map] at a1;have a2:=Dl (h:=h) (n:=i) (by ext);have a3:i*h<=12*12:=Nat.mul_le_mul (by ext) h12;ext
  symm;refine ⟨.inl ⟨rfl,_,SqL.of e2⟩,?_⟩;symm;refine ⟨by ext,by ext,?_⟩;rw [Int.toNat_natCast];refine AY (A8 (by ext)) (fun D k ys J=>∃qs:Prs,ys=JQ qs/\qs.length<=k/\J D=some (.lst ys)/\Al H' J/\(∀q∈qs,J q.1=some (.tup [.int (q.2.1:Int),.int (q.2.2:Int)]))/\qs.map (fun q=>q.2)=(E6 k i).map fun y=>(i,y)) (fun D hD=>⟨[],rfl,Nat.le_refl _,Ac,Ag hD _,(fun q m=>nomatch m),rfl⟩) (fun D k ys J hq_=>by obtain ⟨qs,f1,f2,f3,_⟩:=hq_;exact ⟨f3,by rw [f1,Lo];exact f2⟩) ?_ ?_
  ·rintro D k ys J K1 K2 hD hk ⟨qs,rfl,f2,f3,f4,f5,f6⟩ k1 k2;have zk:(0:Int)+(k:Int)=(k:Int):=Int.zero_add _;rw [zk];have bs:=MY k i;symm;by_cases c:k=i
   ·refine ifF (N3 (by ext)) ?_;rw [if_pos c,append_nil] at bs;exact k2 _ ⟨qs,rfl,by ext,f3,f4,f5,by rw [bs];exact f6⟩
   ·refine ifT (N4 (by ext)) ?_;rw [if_neg c] at bs;refine ⟨_,rfl,_,rfl,(by show 2<=sizeLine;decide),fun t ht=>?_⟩
    exists t,ht,J,(.tup [V.int (i:Int),V.int (k:Int)]),J2,sT,eT
    have f3':=sT _ _ f3;refine k1 _ _ f3' ⟨qs++[(t,i,k)],by rw [Gf];rfl,by rw [length_append];show _+1<=_;ext,Ac,Ay (f4.trans sT) hD,fun q m=>?_,by rw [map_append,f6,bs,map_append];rfl⟩;rcases mem_append.mp m with m | m
    ·rw [Aj (Fd (sT _ _ (f5 q m)) f3' (fun z=>by cases z))];exact sT _ _ (f5 q m)
    ·rw [mem_singleton.mp m,Aj (Fd eT f3' (fun z=>by cases z))];exact eT
  rintro D ys H3 hD ⟨qs,rfl,f2,f3,f4,f5,f6⟩;have e3:=f4 _ _ e2;refine ⟨l,D,_,_,rfl,rfl,e3,f3,(by right),?_⟩;rw [<- Gf];refine ⟨_,ps++qs,rfl,Ay (s2.trans f4) hl,Ac,fun q m=>?_,by rw [map_append,p2,f6,<- CS]⟩;rcases mem_append.mp m with m | m
  ·rw [Aj (Fd (f4 _ _ (g2 q m)) e3 (fun z=>by cases z))];exact f4 _ _ (g2 q m)
  ·rw [Aj (Fd (f5 q m) e3 (fun z=>by cases z))];exact f5 q m
 ·rintro σ' H' ⟨v2,ps,rfl,s2,e2,g2,p2⟩;rw [Int.toNat_natCast] at p2;subst_eqs;exact ⟨_,rfl,q l ps H' hl s2 e2 g2 p2⟩
theorem Gk (T:Tx K mg base ad):AZ P w K mg base CX0 1 ad.f_strengths_in ad.d_strengths_in ["shown","hands"] IY:=by
 refine T.F_strengths_in.ok CN (fun vs H Q E h=>?_) (fun cdv A outer s H vs Q E hr h=>?_)
 ·obtain ⟨sh,h,L,F,rs,rfl,_⟩:=h;rfl
 obtain ⟨sh,h,L,F,rs,rfl,hsh,rg,ro',st,l0,h1,h12,q⟩:=h;refine ⟨_,((DL (j:=2) (fsc:=Af Cq) (N:=["shown","hands","strengths","row"]) (Nc:=["shown","hands","strengths","row","x"]) rfl rfl (by nofun) rfl CN.nd rfl rfl (AM rfl T.z_range ((pv 1)*>Ab)) (fun _ _ _ _=>AI) (fun _ _ _ _=>(by exact (GU (fsc:=Af Cq) (Nc:=["shown","hands","strengths","row","x"]) (Nd:=["shown","hands","strengths","row","x","y"]) rfl (by nofun) rfl (AM rfl T.z_range ((pv 1)*>Ab)) (fun _ _ _ _=>AI) (fun _ _ _ _=>Ae)))) rfl)>>((Bu PassesOwn.never rfl (A9 (pv 0)) (Ar (i:=3) CN.nd rfl (Or.inl rfl)) (@Ah _ _ _ (Cn (@Ao _ _ _ _ _ _ _ Br (pv 3) Ae (fun _ _=>rfl)) (Em (@Ao _ _ _ _ _ _ _ Ax (pv 2) (@Ao _ _ _ _ _ _ _ Br (pv 3) Ae (fun _ _=>rfl)) (fun _ _=>rfl)) (@Ao _ _ _ _ _ _ _ Br (pv 3) Ae (fun _ _=>rfl)) CF))))>>(@Ah _ _ _ (@As _ _ _ _ (pv 2))))),?_⟩;symm;refine ⟨by ext,by ext,?_⟩;rw [Int.toNat_natCast];refine AY (A8 (by ext)) (fun D i ys J=>∃as:List Addr,ys=as.map V.ref/\as.length=i/\as.Nodup/\J D=some (.lst ys)/\Al H J/\D ∉ as/\∀a∈as,H a=none/\J a=some (.lst (((List.range h).map fun _=>(0:Int)).map V.int))) (fun D hD=>⟨[],rfl,rfl,nodup_nil,Ac,Ag hD _,(fun m=>nomatch m),fun _ m=>absurd m List.not_mem_nil⟩) (fun D i ys J hq_=>by obtain ⟨as,f1,f2,_,f3,_⟩:=hq_;exact ⟨f3,by rw [f1,length_map,f2];exact Nat.le_refl _⟩) ?_ ?_
 ·rintro D i ys J K1 K2 hD hi ⟨as,rfl,f2,f3,f4,f5,f6,f7⟩ k1 k2;refine yes (ifT rfl ?_);refine ⟨_,rfl,(h:Int),rfl,by ext,by ext,?_⟩;rw [Int.toNat_natCast];refine AY (A8 (by ext)) (fun D2 j ys J2=>ys=((List.range j).map fun _=>(0:Int)).map V.int/\J2=upd J D2 (.lst ys)) (fun D2 hD2=>⟨rfl,rfl⟩) (fun D2 j ys J2 hq_=>by obtain ⟨g1,g2⟩:=hq_;exact ⟨by rw [g2];exact Ac,by rw [g1,length_map,length_map,length_range];exact Nat.le_refl _⟩) ?_ ?_
  ·rintro D2 j ys J2 L1 L2 hD2 hj ⟨g1,rfl⟩ l1 l2;refine yes (ifT rfl ?_);refine l1 _ _ Ac ⟨?_,by rw [Bf]⟩;rw [g1,range_succ,map_append,map_append];rfl
  rintro D2 ys J2 hD2 ⟨rfl,rfl⟩;have sD:=Ag hD2 (.lst (((List.range h).map fun _=>(0:Int)).map V.int));have eD:(upd J D2 (.lst (((List.range h).map fun _=>(0:Int)).map V.int))) D2=some (.lst (((List.range h).map fun _=>(0:Int)).map V.int)):=Ac;have dd:D2≠D:=fun z=>by rw [z,f4] at hD2;cases hD2
  have na:D2 ∉ as:=fun m=>by rw [(f7 D2 m).2] at hD2;cases hD2
  generalize upd J D2 (.lst (((List.range h).map fun _=>(0:Int)).map V.int))=J5 at sD eD ⊢;refine k1 _ _ (sD _ _ f4) ⟨as++[D2],by rw [map_append];rfl,by rw [length_append,f2];rfl,nodup_append.mpr ⟨f3,by simp,fun a ma b mb e=>na (by rw [<- mem_singleton.mp mb,<- e];exact ma)⟩,Ac,Ay (f5.trans sD) hD,fun m=>?_,fun a m=>?_⟩
  ·rcases mem_append.mp m with m | m
   ·exact f6 m
   ·exact dd (mem_singleton.mp m).symm
  ·rcases mem_append.mp m with m | m
   ·exact ⟨(f7 a m).1,by rw [Aj (fun z=>f6 (by rw [<- z];exact m))];exact sD _ _ (f7 a m).2⟩
   ·rw [mem_singleton.mp m];exact ⟨none_of f5 hD2,by rw [Aj dd];exact eD⟩
 rintro D ys H1 hD ⟨as,rfl,f2,f3,f4,f5,f6,f7⟩;have tb0:Bc H1 as h (fun _ _=>0):=⟨f2,f3,fun x a ha=>(f7 a (mem_of_getElem? ha)).2⟩;have nw:∀a∈as,H a=none:=fun a m=>(f7 a m).1;clear f7 f3 f2;symm;refine ⟨⟨_,SqL.of (f5 _ _ hsh)⟩,Bs (xs:=vrq rs) (fun i σ' H'=>∃(v3:Option V) (G:Nat->Nat->Int),σ'=[some (.ref sh),some (.int (h:Int)),some (.ref D),v3]/\BI as H1 H'/\Bc H' as h G/\∀x y,G x y=if ((x:Int),(y:Int))∈AS (rs.take i) then F x y else 0) ⟨none,fun _ _=>0,rfl,BI.of (fun _ _ e=>e),tb0,fun x y=>(if_neg (fun z=>by cases z)).symm⟩ (fun i σ' H' _ hq_=>by obtain ⟨_,_,_,k,_⟩:=hq_;exact SqL.of (k.same f5 nw _ _ hsh)) ?_ ?_⟩
 ·rintro i w σ' H2 hw ⟨v3,G,rfl,kp,tb,eG⟩;obtain ⟨r,hr0,rfl,mr,et⟩:=Gv hw;have ro:=(rg r mr).1.same (kp.same f5 nw);obtain ⟨rx,ry,ex,ey,pm⟩:=Mp ro' mr;obtain ⟨px,py,_⟩:=D7.mp pm;have rsv:r.s=F rx ry:=by rw [(rg r mr).2,ex,ey];rfl
  obtain ⟨ax,r1,r2,r3,r4⟩:=tb.row px;have eD:=kp _ _ f6 f4;have rt:=ro.t;rw [ex,ey] at rt;symm;refine ⟨D,_,_,_,rfl,rfl,SqL.of eD,r3,?_⟩;symm;refine ⟨ax,_,_,ry,rfl,rfl,r4,Df (by rw [length_map,length_map,length_range];exact py),?_⟩;have tb2:=tb.setv (y:=ry) r1 r.s;refine ⟨_,_,rfl,kp.put r2,tb2,fun x y=>?_⟩;show (G x y+if x=rx/\y=ry then (r.s - G rx ry) else 0)=_;have ed:AS (rs.take (i+1))=AS (rs.take i)++[((rx:Int),(ry:Int))]:=by rw [et];unfold AS;rw [map_append,<- ex,<- ey];rfl
  rw [ed];by_cases e:x=rx/\y=ry
  ·rw [if_pos e,if_pos (mem_append_right _ (by rw [e.1,e.2];exact mem_singleton.mpr rfl)),e.1,e.2,rsv];ext
  ·rw [if_neg e,Int.add_zero,eG]
   have mm:((x:Int),(y:Int))∈AS (rs.take i)++[((rx:Int),(ry:Int))]↔((x:Int),(y:Int))∈AS (rs.take i):=by
    rw [mem_append];refine ⟨fun z=>z.elim id fun z=>?_,.inl⟩;have:=Prod.mk.inj (mem_singleton.mp z);exact absurd ⟨Int.ofNat.inj this.1,Int.ofNat.inj this.2⟩ e
   by_cases g:((x:Int),(y:Int))∈AS (rs.take i)
   ·rw [if_pos g,if_pos (mm.mpr g)]
   ·rw [if_neg g,if_neg (fun z=>g (mm.mp z))]
 ·rintro σ' H2 ⟨v3,G,rfl,kp,tb,eG⟩;rw [Cw,take_of_length_le (Nat.le_refl _),ro'] at eG
  have zm:∀x y:Nat,((x:Int),(y:Int))∈Ec h↔(x,y)∈pairsOf h h:=fun x y=>⟨fun m=>by
   obtain ⟨⟨a,b⟩,pm,pe⟩:=mem_map.mp m;have:=Prod.mk.inj pe;rw [<- Int.ofNat.inj this.1,<- Int.ofNat.inj this.2];exact pm,fun m=>mem_map.mpr ⟨(x,y),m,rfl⟩⟩
  symm;refine q D as H2 hD (kp.same f5 nw) (kp _ _ f6 f4) (tb.congr fun x y hx hy=>?_);rw [eG];by_cases e:x=y
  ·rw [if_neg (fun z=>(D7.mp ((zm _ _).mp z)).2.2 e.symm),<- e];obtain ⟨bf,re⟩:=st x hx;have:=re.own;rw [l0 x hx,getD_eq_getElem?_getD,List.getElem?_map,List.getElem?_range hx] at this;exact this.symm
  ·rw [if_pos ((zm _ _).mpr (D7.mpr ⟨hx,hy,Ne.symm e⟩))]
theorem Js (T:Tx K mg base ad):AZ P w K mg base CX0 1 ad.f_is_beaten ad.d_is_beaten ["strengths","hand","others"] Lc:=by
 refine T.F_is_beaten.ok JH (fun vs H Q E h=>?_) (fun cdv A outer s H vs Q E hr h=>?_)
 ·obtain ⟨r,l,rs,h,i,F,zs,rfl,_⟩:=h;rfl
 obtain ⟨r,l,rs,h,i,F,zs,rfl,hr0,tb,hi,hl,sub,z60,q⟩:=h;refine ⟨_,(@Ah _ _ _ (@As _ _ _ _ (@Au _ _ _ _ _ _ _ _ _ (Oh rfl) (by rfl) T.z_any PyProof.Rows.boot_any ((Be (fsc:=Af Ep) (N:=["strengths","hand","others"]) (Nc:=["strengths","hand","others","other"]) rfl rfl (by nofun) rfl (A9 (pv 2)) (fun _ _ _ _=>AI) (fun _ _ _ _=>(@CA _ _ _ _ _ _ _ _ FO (@Ao _ _ _ _ _ _ _ (AJ K) (@Ao _ _ _ _ _ _ _ (AJ K) (pv 0) (pv 3) (fun _ _=>rfl)) (pv 1) (fun _ _=>rfl)) (@Ao _ _ _ _ _ _ _ (AJ K) (@Ao _ _ _ _ _ _ _ (AJ K) (pv 0) (pv 1) (fun _ _=>rfl)) (pv 3) (fun _ _=>rfl)) (AA _))))*>Ab) (by decide) (by decide) (by rfl) (by rfl)))),?_⟩;refine ⟨_,rfl,l,rfl,⟨_,SqL.of hl⟩,?_⟩;refine AC (xs:=zs.map V.int) (by rw [length_map];exact A8 (by ext)) (fun D k ys J=>ys=((zs.take k).map (ET F (i:Int))).map V.bl/\J=upd H D (.lst ys)) (fun D hD=>⟨rfl,rfl⟩) (fun D k ys J hq_=>by obtain ⟨f1,f2⟩:=hq_;exact ⟨by rw [f2];exact Ac,by rw [f1,length_map,length_map];exact length_take_le _ _⟩) (fun D k ys J hD hq_=>by obtain ⟨_,f2⟩:=hq_;rw [f2];exact SqL.of (Ag hD _ _ _ hl)) ?_ ?_
 ·rintro D k w ys J K1 K2 hD hw ⟨f1,rfl⟩ k1 k2;obtain ⟨z,hz,rfl⟩:=int_at hw;obtain ⟨j,hj,rfl⟩:=sub z (mem_of_getElem? hz);have sD:=Ag hD (.lst ys);obtain ⟨ai,_,_,a3,a4⟩:=(tb.same sD).row hi;obtain ⟨aj,_,_,b3,b4⟩:=(tb.same sD).row hj;have er:=sD _ _ hr0;refine yes (ifT rfl ?_);refine ⟨_,rfl,_,rfl,r,_,_,_,rfl,rfl,SqL.of er,b3,?_⟩;refine ⟨_,rfl,aj,_,_,_,rfl,rfl,SqL.of b4,By (F j) hi,?_⟩;refine ⟨_,rfl,_,rfl,r,_,_,_,rfl,rfl,SqL.of er,a3,?_⟩;refine ⟨_,rfl,ai,_,_,_,rfl,rfl,SqL.of a4,By (F i) hj,?_⟩;symm;refine k1 _ _ Ac ⟨?_,by rw [Bf]⟩;rw [f1,take_add_one,hz,map_append,map_append];rfl
 rintro D ys H1 hD ⟨rfl,rfl⟩;rw [length_map,take_of_length_le (Nat.le_refl _)];refine ⟨D,_,rfl,SqL.of Ac,?_⟩;rw [show (zs.map (ET F (i:Int))).any id=DF F (i:Int) zs from (by unfold DF;rw [any_map];rfl)];exact q _ (Ag hD _)
theorem Ek (T:Tx K mg base ad):AZ P w K mg base CX0 1 ad.f_law_cell ad.d_law_cell ["_law_script","_law_k"] (QO K):=by
 refine T.F_law_cell.ok KS (fun vs H Q E h=>?_) (fun cdv A outer s H vs Q E hr h=>?_)
 ·obtain ⟨p,ns,k,rfl,_⟩:=h;rfl
 obtain ⟨p,ns,k,rfl,hS,h63,k0,k1,q⟩:=h;refine ⟨_,((@BV _ _ _ _ _ _ _ _ (@A7 _ _ _ _ _ _ _ _ FQ (pv 1) (@Au _ _ _ _ _ _ _ _ _ Az (by rfl) T.z_len PySem.boot_len ((pv 0)*>Ab) (by decide) (by decide) (by rfl) (by rfl)) (AA _)) (@Ah _ _ _ (@As _ _ _ _ (AL<&>((@Ao _ _ _ _ _ _ _ Ax (pv 0) (pv 1) (fun _ _=>rfl))<|>(EF<&>(Ae<|>Ae)))))) Bb)>>(@Ah _ _ _ (@As _ _ _ _ (AL<&>((DI<&>((AG<&>((DI<&>((pv 1)<|>(pv 1)))<|>Ae))<|>Ae))<|>Ae))))),?_⟩;have hl:(ns.map V.int).length=ns.length:=length_map _;have szk:Sz 64 k:=Fo (by ext) (by ext);have p40:(0:Int) < 10 ^ (40:Int).toNat:=by decide +kernel
 refine ⟨_,rfl,_,rfl,p,_,rfl,.inl hS,_,_,rfl,rfl,_,rfl,?_⟩;refine Sj (fun c=>?_) (fun c=>?_)
 ·have c':k < (((ns.map V.int).length:Nat):Int):=of_decide_eq_true c;rw [hl] at c';obtain ⟨v,hv⟩:=PV k0 c';refine ⟨_,rfl,_,rfl,p,_,_,_,rfl,rfl,hS,hv,_,_,rfl,rfl,QY,_,_,rfl,rfl,(Int.ne_of_gt p40),?_⟩;exact q _ (Bg v p40).1 (Bg v p40).2
 ·symm;have m:=Bg ((k*k+7)*48271) (show (0:Int) < 1009 by decide);exact q _ m.1 (Int.lt_trans m.2 (by decide))
theorem Cj (T:Tx K mg base ad):AZ P w K mg base CX0 1 ad.f_law_mixed ad.d_law_mixed ["_law_cell_here","_law_by"] MH:=by
 refine T.F_law_mixed.ok DP (fun vs H Q E h=>?_) (fun cdv A outer s H vs Q E hr h=>?_)
 ·obtain ⟨c,b,rfl,_⟩:=h;rfl
 obtain ⟨c,b,rfl,szc,szb,q⟩:=h;refine ⟨_,((@An _ _ (2) _ _ _ _ DP.nd rfl (Or.inl rfl) (AG<&>((DI<&>((pv 0)<|>Ae))<|>(DI<&>((pv 1)<|>Ae)))) (by rfl) (by nofun))>>((@An _ _ (2) _ _ _ _ DP.nd rfl (Or.inl rfl) (AL<&>((AG<&>((pv 2)<|>Ae))<|>(AG<&>((EF<&>(Ae<|>Ae))<|>Ae)))) (by rfl) (by nofun))>>(@Ah _ _ _ (@As _ _ _ _ (Bm<&>((AL<&>((DI<&>((pv 2)<|>(pv 2)))<|>(AG<&>((EF<&>(Ae<|>Ae))<|>Ae))))<|>Ae)))))),?_⟩;symm;exact q _ (My _).1 (My _).2
theorem Fe (T:Tx K mg base ad):AZ P w K mg base CX0 1 ad.f_law_order ad.d_law_order ["_law_cell_here","_law_hands"] IP:=by
 refine T.F_law_order.ok CY (fun vs H Q E h=>?_) (fun cdv A outer s H vs Q E hr h=>?_)
 ·obtain ⟨c,h,rfl,_⟩:=h;rfl
 obtain ⟨c,h,rfl,c0,c1,h1,h12,q⟩:=h;refine ⟨_,((@An _ _ (2) _ _ _ _ CY.nd rfl (Or.inl rfl) (Ck rfl (by rfl) T.z_list (by rfl) T.z_range (pv 1)) (by rfl) (by nofun))>>((@An _ _ (3) _ _ _ _ CY.nd rfl (Or.inl rfl) (@Av _ _ _ _ Ab) (by rfl) (by nofun))>>((Fl PassesOwn.never (@A7 _ _ _ _ _ _ _ _ (GS (K:=K) hr.units) (pv 2) (@Av _ _ _ _ Ab) (AA _)) ((@Bx _ _ _ _ (Cy PySem.F.plainAttrs_list PySem.F.slot_list_append PySem.F.type_list_append Bn (pv 3) ((Cy PySem.F.plainAttrs_list PySem.F.slot_list_pop PySem.F.type_list_pop OJ (pv 2) ((AL<&>((pv 0)<|>(@Au _ _ _ _ _ _ _ _ _ Az (by rfl) T.z_len PySem.boot_len ((pv 2)*>Ab) (by decide) (by decide) (by rfl) (by rfl))))*>Ab))*>Ab)) (by rfl))>>(@Ah _ _ _ (@An _ _ (0) _ _ _ _ CY.nd rfl (Or.inl rfl) (Bm<&>((pv 0)<|>(AG<&>((@Au _ _ _ _ _ _ _ _ _ Az (by rfl) T.z_len PySem.boot_len ((pv 2)*>Ab) (by decide) (by decide) (by rfl) (by rfl))<|>Ae)))) (by rfl) (by nofun)))))>>(@Ah _ _ _ (@As _ _ _ _ (pv 3)))))),?_⟩;obtain ⟨n,rfl⟩:∃n:Nat,h=(n:Int):=⟨h.toNat,by ext⟩;symm;refine ⟨by ext,fun l hl=>?_⟩;rw [show (List.map (fun i:Nat=>V.int (i:Int)) (List.range n))=(ups n).map V.int from (by unfold ups;rw [map_map];rfl)]
 exists l,hl,H,(.lst ((ups n).map V.int)),H1,s1,e1
 subst_eqs;refine ⟨(by show 0<=sizeLine;decide),fun lo hlo0=>?_⟩;have ll:l≠lo:=fun z=>by rw [<- z,e1] at hlo0;cases hlo0
 have hlo:H lo=none:=none_of s1 hlo0;have s2:=s1.trans (Ag hlo0 (.lst []));have e2:(upd H1 lo (.lst [])) l=some (.lst ((ups n).map V.int)):=by rw [Aj ll];exact e1
 have e3:(upd H1 lo (.lst [])) lo=some (.lst (([]:List Int).map V.int)):=Ac;generalize upd H1 lo (.lst [])=H2 at s2 e2 e3 ⊢;subst_eqs;refine ⟨fun m σ' H'=>∃(z:Int) (left got:List Int),σ'=[some (.int z),some (.int (n:Int)),some (.ref l),some (.ref lo)]/\0<=z/\z < 10 ^ 40/\Al H H'/\H' l=some (.lst (left.map V.int))/\H' lo=some (.lst (got.map V.int))/\left.length=m/\left.length<=12/\got.length<=12 - left.length/\(got++left).Perm (ups n),⟨n,c,ups n,[],rfl,c0,c1,s2,e2,e3,BC n,by rw [BC];ext,Nat.zero_le _,List.Perm.refl _⟩,?_⟩;rintro m σ' H' ⟨z,left,got,rfl,z0,z1,s3,f1,f2,f3,f6,f4,f5⟩;refine ⟨_,rfl,(by show 0<=sizeLine;decide),fun z3 hz3=>?_⟩
 exists z3,hz3,H',(.lst []),H4,s34,e4,(.lst (([]:List Int).map V.int))
 refine ⟨.list (left.map .int),.list (([]:List Int).map .int),.lst (SqL.of (s34 _ _ f1)) (.ints _),.lst (SqL.of e4) (.ints []),(Bq _).2,(Bq _).2,?_⟩;rw [show PyData.eqv (.list (left.map .int)) (.list (([]:List Int).map .int))=decide (left=[]) from CD _ _];refine ⟨_,rfl,?_⟩;have g1:=s34 _ _ f1;have g2:=s34 _ _ f2;have s4:=s3.trans s34;by_cases cl:left=[]
 ·refine ifF (by rw [decide_eq_true cl];rfl) ?_;rw [cl,append_nil] at f5;symm;exact q lo got H4 s4 g2 (by rw [Int.toNat_natCast];exact f5)
 ·refine ifT (by rw [decide_eq_false cl];rfl) ?_;have pl:0 < left.length:=length_pos_iff.mpr cl;refine ⟨fun σ' H'=>∃(z:Int) (left' got':List Int),σ'=[some (.int z),some (.int (n:Int)),some (.ref l),some (.ref lo)]/\0<=z/\z < 10 ^ 40/\Al H H'/\H' l=some (.lst (left'.map V.int))/\H' lo=some (.lst (got'.map V.int))/\left'.length=m - 1/\left'.length<=12/\got'.length<=12 - left'.length/\(got'++left').Perm (ups n),fun σ' H' e=>⟨m - 1,by ext,e⟩,?_⟩;have mm:=Bg z (show (0:Int) < (left.length:Int) by ext);symm;refine ⟨.inl ⟨rfl,_,SqL.of g2⟩,?_⟩;symm;refine ⟨.inl ⟨rfl,_,SqL.of g1⟩,?_⟩;symm;refine ⟨(by show (_:Int)≠0;rw [length_map];ext),?_⟩;dsimp only;rw [length_map];generalize z.fmod (left.length:Int)=j' at mm ⊢;obtain ⟨j,rfl⟩:∃j:Nat,j'=(j:Int):=⟨j'.toNat,by ext⟩;have hj:j < left.length:=by ext
  refine ⟨l,_,_,j,V.int left[j],rfl,rfl,g1,by ext,by ext,S1 (by rw [length_map];exact hj),(by rw [List.getElem?_map,List.getElem?_eq_getElem hj];rfl),?_⟩;have k2:(upd H4 l (.lst ((left.map V.int).eraseIdx j))) lo=some (.lst (got.map V.int)):=by rw [Aj (Ne.symm ll)];exact g2
  have k1:(upd H4 l (.lst ((left.map V.int).eraseIdx j))) l=some (.lst ((left.eraseIdx j).map V.int)):=by rw [Ac,map_erase]
  have s5:=Ay (o:=.lst ((left.map V.int).eraseIdx j)) s4 hl;generalize upd H4 l (.lst ((left.map V.int).eraseIdx j))=H5 at s5 k1 k2 ⊢;refine ⟨lo,_,_,rfl,rfl,k2,(by rw [length_map];exact AU (by ext)),?_⟩;have k1':(upd H5 lo (.lst (got.map V.int++[V.int left[j]]))) l=some (.lst ((left.eraseIdx j).map V.int)):=by rw [Aj ll];exact k1
  have k2':(upd H5 lo (.lst (got.map V.int++[V.int left[j]]))) lo=some (.lst ((got++[left[j]]).map V.int)):=by rw [Ac,map_append];rfl
  have s6:=Ay (o:=.lst (got.map V.int++[V.int left[j]])) s5 hlo;generalize upd H5 lo (.lst (got.map V.int++[V.int left[j]]))=H6 at s6 k1' k2' ⊢;have le:(left.eraseIdx j).length=left.length - 1:=by rw [length_eraseIdx,if_pos hj]
  have lc:=Sa (d:=((left.eraseIdx j).length:Int)+1) z0 (by ext) z1;symm;rw [length_map];refine ⟨⟨by show (_:Int)≠0;ext,(show Sz 64 (((left.eraseIdx j).length:Int)+1) from Fo (by ext) (by ext)).mono (by decide)⟩,?_⟩;exact ⟨_,_,_,rfl,lc.1,lc.2,s6,k1',k2',by ext,by ext,by rw [length_append];show got.length+1<=_;ext,erase_perm (List.getElem?_eq_getElem hj) f5⟩
theorem K6 (T:Tx K mg base ad):AZ P w K mg base CX0 1 ad.f_law_slip ad.d_law_slip ["_law_ranks_here"] (Pm K):=by
 refine T.F_law_slip.ok Eu (fun vs H Q E h=>?_) (fun cdv A outer s H vs Q E hr h=>?_)
 ·obtain ⟨p,rs,rfl,_⟩:=h;rfl
 obtain ⟨p,rs,rfl,hS,h12,q⟩:=h;refine ⟨_,((@An _ _ (1) _ _ _ _ Eu.nd rfl (Or.inl rfl) (@Av _ _ _ _ Ab) (by rfl) (by nofun))>>((Bu PassesOwn.never rfl (A9 (J9 rfl (by rfl) T.z_sorted (by rfl) T.z_set (pv 0))) (Ar (i:=2) Eu.nd rfl (Or.inr rfl)) (@Ah _ _ _ (@Bx _ _ _ _ (Cy PySem.F.plainAttrs_list PySem.F.slot_list_append PySem.F.type_list_append Bn (pv 1) ((@Au _ _ _ _ _ _ _ _ _ (Oj rfl) (by rfl) T.z_sum PyProof.Rows.boot_sum ((Be (fsc:=Af DM) (N:=["_law_ranks_here","_law_tiers","_law_rank"]) (Nc:=["_law_ranks_here","_law_tiers","_law_rank","_law_hand"]) rfl rfl (by nofun) rfl (AM rfl T.z_range ((@Au _ _ _ _ _ _ _ _ _ Az (by rfl) T.z_len PySem.boot_len ((pv 0)*>Ab) (by decide) (by decide) (by rfl) (by rfl))*>Ab)) (fun _ _ _ _=>(Cm (OU FN FO (@Ao _ _ _ _ _ _ _ (AJ K) (pv 0) (pv 3) (fun _ _=>rfl)) (pv 2) Ae))) (fun _ _ _ _=>(Db<&>(Ae<|>(pv 3)))))*>Ab) (by decide) (by decide) (by rfl) (by rfl))*>Ab)) (by rfl))))>>(@Ah _ _ _ (@As _ _ _ _ (@BO _ _ _ _ _ _ _ _ _ HJ (by rfl) T.z_tuple PyProof.Rows.boot_tuple ((Be (fsc:=Af DM) (N:=["_law_ranks_here","_law_tiers","_law_rank"]) (Nc:=["_law_ranks_here","_law_tiers","_law_rank","_law_tier"]) rfl rfl (by nofun) rfl (A9 (pv 1)) (fun _ _ _ _=>(Cm (@A7 _ _ _ _ _ _ _ _ FO (pv 3) Ae (AA _)))) (fun _ _ _ _=>(pv 3)))*>Ab) (by decide) (by decide) (by rfl) (by rfl)))))),?_⟩;refine ⟨(by show 0<=sizeLine;decide),fun l hl=>?_⟩
 exists l,hl,H,(.lst []),H0,s0,e0,(.lst (([]:List Int).map V.int))
 symm;refine ⟨p,rs,rfl,s0.seq hS,by ext,fun l2 ms m1 m2 hl2=>?_⟩;obtain rfl:=Q5 m1 m2;have sl:=Lg rs;have s1:=s0.trans (Ag hl2 (.lst ((CG rs).map V.int)));have e1:(upd H0 l2 (.lst ((CG rs).map V.int))) l=some (.lst (([]:List Int).map V.int)):=Ag hl2 _ _ _ e0;have el:(upd H0 l2 (.lst ((CG rs).map V.int))) l2=some (.lst ((CG rs).map V.int)):=Ac;have ll:l2≠l:=fun z=>by rw [z,e0] at hl2;cases hl2
 generalize upd H0 l2 (.lst ((CG rs).map V.int))=H1 at s1 e1 el ⊢;refine ⟨l2,rfl,⟨_,SqL.of el⟩,Bs (xs:=(CG rs).map V.int) (fun i σ' H'=>∃v2:Option V,σ'=[some (.ref p),some (.ref l),v2]/\Al H H'/\H' l2=some (.lst ((CG rs).map V.int))/\H' l=some (.lst ((HF rs ((CG rs).take i)).map V.int))) ⟨none,rfl,s1,el,e1⟩ (fun i σ' H' _ hq_=>by obtain ⟨_,_,_,e,_⟩:=hq_;exact SqL.of e) ?_ ?_⟩
 ·rintro i w σ' H' hw ⟨v2,rfl,s2,f1,f2⟩;obtain ⟨r,hr0,rfl⟩:=int_at hw;have il:=(List.getElem?_eq_some_iff.mp hr0).1;have et:(CG rs).take (i+1)=(CG rs).take i++[r]:=by rw [take_add_one,hr0];rfl
  have hl':(rs.map V.int).length=rs.length:=length_map _;symm;refine ⟨.inl ⟨rfl,_,SqL.of f2⟩,?_⟩;refine ⟨_,rfl,p,_,rfl,.inl (s2.seq hS),_,rfl,by ext,by ext,?_⟩;have en:(((rs.map V.int).length:Nat):Int).toNat=rs.length:=by ext
  rw [en];refine AY (A8 (by ext)) (fun D j ys H2=>ys=((hands j (fun k=>isR rs r k && decide (0 < r))).map fun h=>(1:Int)*2 ^ h.toNat).map V.int/\H2=upd H' D (.lst ys)) (fun D hD=>⟨rfl,rfl⟩) (fun D j ys H2 hq_=>by obtain ⟨g1,g2⟩:=hq_;exact ⟨by rw [g2];exact Ac,by rw [g1,length_map,length_map];exact C2 _ _⟩) ?_ ?_
  ·rintro D j ys H2 K1 K2 hD hj ⟨g1,rfl⟩ k1 k2;obtain ⟨z,hz⟩:∃z,rs[j]?=some z:=⟨_,List.getElem?_eq_getElem hj⟩;have sD:=Ag hD (.lst ys);have ms:=C3 j (fun k=>isR rs r k && decide (0 < r));have e0:(0:Int)+(j:Int)=(j:Int):=Int.zero_add _
   have no:(isR rs r j && decide (0 < r))=false->K2 (upd H' D (.lst ys)):=fun e=>by
    rw [e,if_neg (by decide)] at ms;exact k2 _ ⟨by rw [ms];exact g1,rfl⟩
   refine ⟨_,rfl,_,rfl,p,_,_,_,rfl,rfl,(s2.trans sD).seq hS,(by rw [e0];exact atN hz),_,rfl,rfl,_,rfl,?_⟩;by_cases c:z=r
   ·have ei:isR rs r j=true:=by unfold isR;rw [hz,c];exact decide_eq_true rfl
    refine ifT (Nn c) ?_;refine ⟨_,_,rfl,rfl,_,rfl,?_⟩;by_cases cz:0 < r
    ·refine ifT (decide_eq_true cz) ?_;rw [show (isR rs r j && decide (0 < r))=true from by rw [ei,decide_eq_true cz];rfl,if_pos rfl] at ms;refine ⟨_,rfl,_,_,rfl,rfl,(by rw [e0];exact D9 (by ext)),?_⟩;refine k1 _ _ Ac ⟨?_,by rw [Bf]⟩;rw [ms,map_append,map_append,g1];show _=_++[V.int (1*2 ^ (j:Int).toNat)];rw [e0]
    ·exact ifF (decide_eq_false cz) (no (by rw [decide_eq_false cz,Bool.and_false]))
   ·have ei:isR rs r j=false:=by unfold isR;rw [hz];exact decide_eq_false fun e=>c (Option.some.inj e)
    refine ifF (Nm c) ?_;exact ⟨_,rfl,ifF rfl (no (by rw [ei,Bool.false_and]))⟩
  ·rintro D ys H2 hD ⟨rfl,rfl⟩;refine ⟨D,_,rfl,SqL.of Ac,?_⟩
   have e:((hands rs.length (fun k=>isR rs r k && decide (0 < r))).map fun h=>(1:Int)*2 ^ h.toNat).sum=if 0 < r then CO rs r else 0:=by
    rw [show ((hands rs.length (fun k=>isR rs r k && decide (0 < r))).map fun h=>(1:Int)*2 ^ h.toNat).sum=AR rs.length (fun k=>isR rs r k && decide (0 < r)) from EC _ _];by_cases cz:0 < r
    ·rw [if_pos cz];exact Bi _ fun k _=>by rw [decide_eq_true cz,Bool.and_true]
    ·rw [if_neg cz];exact Ir fun k _=>by rw [decide_eq_false cz,Bool.and_false]
   rw [e];have sD:=Ag hD (.lst (((hands rs.length (fun k=>isR rs r k && decide (0 < r))).map fun h=>(1:Int)*2 ^ h.toNat).map V.int));have g1:=sD _ _ f1;have g2:=sD _ _ f2;generalize upd H' D (.lst (((hands rs.length (fun k=>isR rs r k && decide (0 < r))).map fun h=>(1:Int)*2 ^ h.toNat).map V.int))=H3 at sD g1 g2 ⊢;refine ⟨l,_,_,rfl,rfl,g2,(by unfold HF;rw [length_map,length_map];exact AU (Nat.le_trans (length_take_le _ _) (by ext))),?_⟩;refine ⟨_,rfl,Ay (s2.trans sD) hl,by rw [Aj ll];exact g1,?_⟩;rw [Ac,et];unfold HF;rw [map_append,map_append];rfl
 ·rintro σ' H' ⟨v2,rfl,s2,f1,f2⟩;rw [length_map,take_of_length_le (Nat.le_refl _)] at f2;have al:(HF rs (CG rs)).length=(CG rs).length:=length_map _;refine ⟨_,rfl,l,rfl,⟨_,SqL.of f2⟩,?_⟩
  refine AC (xs:=(HF rs (CG rs)).map V.int) (by rw [length_map];exact A8 (by ext)) (fun D i ys J=>ys=(((HF rs (CG rs)).take i).filter fun t=>decide (0 < t)).map V.int/\J=upd H' D (.lst ys)) (fun D hD=>⟨rfl,rfl⟩)
   (fun D i ys J hq_=>by obtain ⟨g1,g2⟩:=hq_;exact ⟨by rw [g2];exact Ac,by rw [g1,length_map];exact Nat.le_trans (length_filter_le _ _) (length_take_le _ _)⟩) (fun D i ys J hD hq_=>by obtain ⟨_,g2⟩:=hq_;rw [g2];exact SqL.of (Ag hD _ _ _ f2)) ?_ ?_
  ·rintro D i x ys J K1 K2 hD hx ⟨g1,rfl⟩ k1 k2;obtain ⟨z,hz,rfl⟩:=int_at hx;have et:(HF rs (CG rs)).take (i+1)=(HF rs (CG rs)).take i++[z]:=by rw [take_add_one,hz];rfl
   refine ⟨_,rfl,_,_,rfl,rfl,_,rfl,?_⟩;by_cases c:0 < z
   ·refine ifT (decide_eq_true c) ?_;refine ⟨_,rfl,?_⟩;refine k1 _ _ Ac ⟨?_,by rw [Bf]⟩;rw [et,filter_append,map_append,g1];simp [c]
   ·refine ifF (decide_eq_false c) ?_;refine k2 _ ⟨?_,rfl⟩;rw [et,filter_append,g1];simp [c]
  ·rintro D ys J hD ⟨rfl,rfl⟩;rw [length_map,take_of_length_le (Nat.le_refl _),G6 _ fun u m=>Fn.mp m];refine ⟨D,_,rfl,.inl ⟨SqL.of Ac,fun t ht=>?_⟩⟩;have s9:=s2.trans (Ag hD (.lst ((((CG rs).filter fun r=>decide (0 < r)).map (CO rs)).map V.int)));exact q t _ (none_of s9 ht) (s9.trans (Ag ht _)) Ac
theorem Jt (T:Tx K mg base ad):AZ P w K mg base CX0 1 ad.f_law_leads ad.d_law_leads ["_law_many"] Hr:=by
 refine T.F_law_leads.ok JI (fun vs H Q E h=>?_) (fun cdv A outer s H vs Q E hr h=>?_)
 ·obtain ⟨a,as,h,F,rfl,_⟩:=h;rfl
 obtain ⟨a,as,h,F,rfl,ha,g,h12,q⟩:=h;refine ⟨_,(@Ah _ _ _ (@As _ _ _ _ (Fj (fsc:=Af Do) (N:=["_law_many"]) (Nc:=["_law_many","_law_x"]) rfl rfl (by nofun) rfl (AM rfl T.z_range ((@Au _ _ _ _ _ _ _ _ _ Az (by rfl) T.z_len PySem.boot_len ((pv 0)*>Ab) (by decide) (by decide) (by rfl) (by rfl))*>Ab)) (fun _ _ _ _=>AI) (fun _ _ _ _=>(by exact (E2 (fsc:=Af Do) (Nc:=["_law_many","_law_x"]) (Nd:=["_law_many","_law_x","_law_y"]) rfl (by nofun) rfl (AM rfl T.z_range ((@Au _ _ _ _ _ _ _ _ _ (MZ K) (by rfl) T.z_len PySem.boot_len ((pv 0)*>Ab) (by decide) (by decide) (by rfl) (by rfl))*>Ab)) (fun _ _ _ _=>AI) (fun _ _ _ _=>(BF<&>((@Ao _ _ _ _ _ _ _ (AJ K) (@Ao _ _ _ _ _ _ _ (AJ K) (pv 0) (pv 1) (fun _ _=>rfl)) (pv 2) (fun _ _=>rfl))<|>(@Ao _ _ _ _ _ _ _ (AJ K) (@Ao _ _ _ _ _ _ _ (AJ K) (pv 0) (pv 2) (fun _ _=>rfl)) (pv 1) (fun _ _=>rfl))))))))))),?_⟩;have al:(as.map V.ref).length=h:=by rw [length_map,g.1]
 symm;refine ⟨by ext,by ext,?_⟩;rw [al,Int.toNat_natCast];refine AY (A8 (by ext)) (fun D i ys J=>∃bs:List Addr,ys=bs.map V.ref/\bs.length=i/\bs.Nodup/\J D=some (.lst ys)/\Al H J/\D ∉ bs/\(∀c∈bs,H c=none)/\∀k b,bs[k]?=some b->J b=some (.lst (((List.range h).map fun y=>F k y - F y k).map V.int))) (fun D hD=>⟨[],rfl,rfl,nodup_nil,Ac,Ag hD _,(fun m=>nomatch m),(fun _ m=>absurd m List.not_mem_nil),fun k r e=>by cases e⟩) (fun D i ys J hq_=>by obtain ⟨u,f1,f2,_,f3,_⟩:=hq_;exact ⟨f3,by rw [f1,length_map,f2];exact Nat.le_refl _⟩)  ?_ ?_
 ·rintro D i ys J K1 K2 hD hi ⟨bs,rfl,f2,f3,f4,f5,f6,f7,f8⟩ k1 k2;refine yes (ifT rfl ?_);have gJ:=g.same f5;have aJ0:=f5 _ _ ha;have z0:(0:Int)+(i:Int)=(i:Int):=Int.zero_add _;rw [z0];refine ⟨_,rfl,.ref a,h,rfl,.inl ⟨_,SqL.of aJ0,al.symm⟩,?_⟩;refine ⟨_,rfl,by ext,by ext,?_⟩;rw [Int.toNat_natCast];refine AY (A8 (by ext)) (fun D2 j ys J2=>ys=((List.range j).map fun y=>F i y - F y i).map V.int/\J2=upd J D2 (.lst ys)) (fun D2 hD2=>⟨rfl,rfl⟩) (fun D2 j ys J2 hq_=>by obtain ⟨f1,f2⟩:=hq_;exact ⟨by rw [f2];exact Ac,by rw [f1,length_map,length_map,length_range];exact Nat.le_refl _⟩) ?_ ?_
  ·rintro D2 j ys J2 L1 L2 hD2 hj ⟨e,rfl⟩ l1 l2;have zj:(0:Int)+(j:Int)=(j:Int):=Int.zero_add _;rw [zj];refine yes (ifT rfl ?_);have sD:=Ag hD2 (.lst ys);have aJ:=sD _ _ aJ0;obtain ⟨ri,_,_,a1,a2⟩:=(gJ.same sD).row hi;obtain ⟨rj,_,_,b1,b2⟩:=(gJ.same sD).row hj;refine ⟨_,rfl,_,rfl,a,_,_,_,rfl,rfl,SqL.of aJ,a1,?_⟩;refine ⟨_,rfl,ri,_,_,_,rfl,rfl,SqL.of a2,By (F i) hj,?_⟩;refine ⟨_,rfl,_,rfl,a,_,_,_,rfl,rfl,SqL.of aJ,b1,?_⟩;refine ⟨_,rfl,rj,_,_,_,rfl,rfl,SqL.of b2,By (F j) hi,?_⟩;symm;refine l1 _ _ Ac ⟨?_,by rw [Bf]⟩;rw [e,range_succ,map_append,map_append];rfl
  rintro D2 ys H5 hD2 ⟨rfl,rfl⟩;have sD:=Ag hD2 (.lst (((List.range h).map fun y=>F i y - F y i).map V.int));have eD:(upd J D2 (.lst (((List.range h).map fun y=>F i y - F y i).map V.int))) D2=some (.lst (((List.range h).map fun y=>F i y - F y i).map V.int)):=Ac;have dd:D2≠D:=fun z=>by rw [z,f4] at hD2;cases hD2
  have na:D2 ∉ bs:=fun m=>by
   obtain ⟨k,hk⟩:=List.getElem?_of_mem m;rw [f8 k D2 hk] at hD2
   cases hD2
  have nD2:=none_of f5 hD2;generalize upd J D2 (.lst (((List.range h).map fun y=>F i y - F y i).map V.int))=J5 at sD eD ⊢;refine k1 _ _ (sD _ _ f4) ⟨bs++[D2],by rw [map_append];rfl,by rw [length_append,f2];rfl,nodup_append.mpr ⟨f3,by simp,fun a ma b mb e=>na (by rw [<- mem_singleton.mp mb,<- e];exact ma)⟩,Ac,Ay (f5.trans sD) hD,fun m=>?_,fun c m=>?_,fun k b e=>?_⟩
  ·rcases mem_append.mp m with m | m
   ·exact f6 m
   ·exact dd (mem_singleton.mp m).symm
  ·rcases mem_append.mp m with m | m
   ·exact f7 c m
   ·rw [mem_singleton.mp m];exact nD2
  ·by_cases c:k < bs.length
   ·rw [List.getElem?_append_left c] at e;rw [Aj (fun z=>f6 (by rw [<- z];exact mem_of_getElem? e))];exact sD _ _ (f8 k b e)
   ·rw [List.getElem?_append_right (by ext)] at e
    have ek:k=i:=by
     have:=(List.getElem?_eq_some_iff.mp e).1;rw [length_singleton] at this;ext
    rw [ek,f2,Nat.sub_self] at e
    cases Option.some.inj e
    rw [Aj dd,ek];exact eD
 rintro D ys H2 hD ⟨bs,rfl,f2,f3,f4,f5,f6,f7,f8⟩;exact q D bs H2 hD f6 f7 f5 f4 ⟨f2,f3,f8⟩
theorem Ff (T:Tx K mg base ad):AZ P w K mg base CX0 1 ad.f_law_place ad.d_law_place ["_law_ranks_here","_law_hand"] MI:=by
 refine T.F_law_place.ok JJ (fun vs H Q E h=>?_) (fun cdv A outer s H vs Q E hr h=>?_)
 ·obtain ⟨a,rs,i,rfl,_⟩:=h;rfl
 obtain ⟨a,rs,i,rfl,ha,hi,q⟩:=h;refine ⟨_,((@BV _ _ _ _ _ _ _ _ (@A7 _ _ _ _ _ _ _ _ FN (@Ao _ _ _ _ _ _ _ Ax (pv 0) (pv 1) (fun _ _=>rfl)) Ae (AA _)) (@Ah _ _ _ (@As _ _ _ _ (EF<&>(Ae<|>Ae)))) Bb)>>(@Ah _ _ _ (@As _ _ _ _ (@Ao _ _ _ _ _ _ _ Ax (pv 0) (pv 1) (fun _ _=>rfl))))),?_⟩;refine ⟨_,rfl,_,rfl,a,_,_,_,rfl,rfl,SqL.of ha,atG hi,?_⟩;unfold Bo at q;symm;by_cases c:rs.getD i 0=0
 ·refine ifT (Nn c) ?_;rw [if_pos c] at q;symm;exact q
 ·refine ifF (Nm c) ?_;rw [if_neg c] at q;symm;refine ⟨a,_,_,_,rfl,rfl,SqL.of ha,atG hi,?_⟩;exact q
theorem HP (T:Tx K mg base ad):AZ P w K mg base CX0 1 ad.f_law_weaker ad.d_law_weaker ["_law_one","_law_leads_here"] Lf:=by
 refine T.F_law_weaker.ok AH (fun vs H Q E h=>?_) (fun cdv A outer s H vs Q E hr h=>?_)
 ·obtain ⟨a,as,h,L,F,r,rfl,_⟩:=h;rfl
 obtain ⟨a,as,h,L,F,r,rfl,g,rp,wl,ha,tb,st,h12,q⟩:=h;refine ⟨_,((Cn (pv 0) (Ds rfl (A6 (Ar (i:=2) AH.nd rfl (Or.inl rfl)) (A6 (Ar (i:=3) AH.nd rfl (Or.inl rfl)) (A6 (Ar (i:=4) AH.nd rfl (Or.inl rfl)) (A6 (Ar (i:=5) AH.nd rfl (Or.inl rfl)) (A6 (Ar (i:=6) AH.nd rfl (Or.inl rfl)) Cl)))))))>>((@An _ _ (7) _ _ _ _ AH.nd rfl (Or.inr rfl) (Ck rfl (by rfl) T.z_list (by rfl) T.z_range (@Au _ _ _ _ _ _ _ _ _ Az (by rfl) T.z_len PySem.boot_len ((pv 1)*>Ab) (by decide) (by decide) (by rfl) (by rfl))) (by rfl) (by nofun))>>((@An _ _ (8) _ _ _ _ AH.nd rfl (Or.inl rfl) (@Av _ _ _ _ Ab) (by rfl) (by nofun))>>((@OT _ _ _ _ _ _ _ _ (@A7 _ _ _ _ _ _ _ _ FQ (@Ao _ _ _ _ _ _ _ Ax (@Ao _ _ _ _ _ _ _ Ax (pv 1) (pv 2) (fun _ _=>rfl)) (pv 3) (fun _ _=>rfl)) (pv 4) (AA _)) (@Ah _ _ _ (@An _ _ (8) _ _ _ _ AH.nd rfl (Or.inl rfl) (@Av _ _ _ _ ((@AX _ _ _ _ _ ((pv 2)*>((pv 3)*>((pv 4)*>((@Av _ _ _ _ ((pv 2)*>((pv 3)*>Ab)))*>((pv 6)*>Ab))))))*>((@AX _ _ _ _ _ ((pv 2)*>((pv 3)*>((@Ao _ _ _ _ _ _ _ Ax (@Ao _ _ _ _ _ _ _ Ax (pv 1) (pv 2) (fun _ _=>rfl)) (pv 3) (fun _ _=>rfl))*>((@Av _ _ _ _ ((pv 2)*>((pv 3)*>Ab)))*>((pv 6)*>Ab))))))*>Ab))) (by rfl) (by nofun))) Bb)>>((Bu PassesOwn.never rfl (A9 (@Av _ _ _ _ ((Db<&>(Ae<|>(pv 2)))*>((BF<&>((BF<&>((Db<&>(Ae<|>(@Au _ _ _ _ _ _ _ _ _ Az (by rfl) T.z_len PySem.boot_len ((pv 1)*>Ab) (by decide) (by decide) (by rfl) (by rfl))))<|>Ae))<|>(Db<&>(Ae<|>(pv 3)))))*>Ab)))) (Ar (i:=9) AH.nd rfl (Or.inr rfl)) ((@An _ _ (10) _ _ _ _ AH.nd rfl (Or.inr rfl) (Be (fsc:=Af Cp) (N:=["_law_one","_law_leads_here","_law_x","_law_y","_law_worth","_law_some","_law_cut","_law_hands","_law_bad","_law_mask","_law_inner","_law_out"]) (Nc:=["_law_one","_law_leads_here","_law_x","_law_y","_law_worth","_law_some","_law_cut","_law_hands","_law_bad","_law_mask","_law_inner","_law_out","_law_hand"]) rfl rfl (by nofun) rfl (A9 (pv 7)) (fun _ _ _ _=>(Cm (@A7 _ _ _ _ _ _ _ _ FN (AL<&>((Bm<&>((pv 9)<|>(Db<&>(Ae<|>(pv 12)))))<|>Ae)) Ae (AA _)))) (fun _ _ _ _=>(pv 12))) (by rfl) (by nofun))>>((@An _ _ (11) _ _ _ _ AH.nd rfl (Or.inl rfl) (@Au _ _ _ _ _ _ _ _ _ (Fq rfl) (by rfl) T.z_max PyProof.Rows.boot_max ((Fj (fsc:=Af Cp) (N:=["_law_one","_law_leads_here","_law_x","_law_y","_law_worth","_law_some","_law_cut","_law_hands","_law_bad","_law_mask","_law_inner","_law_out"]) (Nc:=["_law_one","_law_leads_here","_law_x","_law_y","_law_worth","_law_some","_law_cut","_law_hands","_law_bad","_law_mask","_law_inner","_law_out","_law_hand"]) rfl rfl (by nofun) rfl (A9 (pv 10)) (fun _ _ _ _=>AI) (fun _ _ _ _=>(@Au _ _ _ _ _ _ _ _ _ (GD K rfl) (by rfl) T.z_max PyProof.Rows.boot_max ((by exact (E2 (fsc:=Af Cp) (Nc:=["_law_one","_law_leads_here","_law_x","_law_y","_law_worth","_law_some","_law_cut","_law_hands","_law_bad","_law_mask","_law_inner","_law_out","_law_hand"]) (Nd:=["_law_one","_law_leads_here","_law_x","_law_y","_law_worth","_law_some","_law_cut","_law_hands","_law_bad","_law_mask","_law_inner","_law_out","_law_hand","_law_other"]) rfl (by nofun) rfl (GV K (pv 7)) (fun _ _ _ _=>(Cm (@A7 _ _ _ _ _ _ _ _ (E7 K) (pv 13) (pv 10) (by with_unfolding_all rfl)))) (fun _ _ _ _=>(@Ao _ _ _ _ _ _ _ (AJ K) (@Ao _ _ _ _ _ _ _ (AJ K) (pv 1) (pv 12) (fun _ _=>rfl)) (pv 13) (fun _ _=>rfl)))))*>Ab) (by decide) (by decide) (by rfl) (by rfl))))*>Ab) (by decide) (by decide) (by rfl) (by rfl)) (by rfl) (by nofun))>>(@Ah _ _ _ (@BV _ _ _ _ _ _ _ _ (@A7 _ _ _ _ _ _ _ _ FO (pv 11) (pv 4) (AA _)) (@Ah _ _ _ (@An _ _ (8) _ _ _ _ AH.nd rfl (Or.inl rfl) (AW<&>((pv 8)<|>(@Av _ _ _ _ ((@AX _ _ _ _ _ ((pv 2)*>((pv 3)*>((pv 4)*>((pv 5)*>((pv 9)*>Ab))))))*>((@AX _ _ _ _ _ ((pv 2)*>((pv 3)*>((pv 11)*>((pv 5)*>((pv 9)*>Ab))))))*>Ab))))) (by rfl) (by nofun))) Bb)))))>>((@BV _ _ _ _ _ _ _ _ (@A7 _ _ _ _ _ _ _ _ FO (@Au _ _ _ _ _ _ _ _ _ Az (by rfl) T.z_len PySem.boot_len ((pv 5)*>Ab) (by decide) (by decide) (by rfl) (by rfl)) Ae (AA _)) (@Ah _ _ _ (@Bx _ _ _ _ (Cy PySem.F.plainAttrs_list PySem.F.slot_list_append PySem.F.type_list_append Bn (pv 8) ((@AX _ _ _ _ _ ((pv 2)*>((pv 3)*>((pv 4)*>((AW<&>((@Av _ _ _ _ ((pv 2)*>((BF<&>((@Ao _ _ _ _ _ _ _ Ax (pv 5) Ae (fun _ _=>rfl))<|>(@Au _ _ _ _ _ _ _ _ _ Az (by rfl) T.z_len PySem.boot_len ((pv 1)*>Ab) (by decide) (by decide) (by rfl) (by rfl))))*>Ab)))<|>(AD AQ (pv 5) (AO Ae) AN)))*>((pv 6)*>Ab))))))*>Ab)) (by rfl))) Bb)>>(@Ah _ _ _ (@As _ _ _ _ (pv 8))))))))),?_⟩;have gt:=g.t;have gw:=g.w;obtain ⟨x0,xh,y0,yh,xy⟩:=JD rp;obtain ⟨x,ex⟩:∃x:Nat,r.x=(x:Int):=⟨r.x.toNat,(Int.toNat_of_nonneg x0).symm⟩;obtain ⟨y,ey⟩:∃y:Nat,r.y=(y:Int):=⟨r.y.toNat,(Int.toNat_of_nonneg y0).symm⟩;have hx:x < h:=by ext
 have hy:y < h:=by ext
 have al:(as.map V.ref).length=h:=by rw [length_map,tb.1]
 have wl':r.ws.length<=60:=Nat.le_trans wl (by decide);obtain ⟨k1,k2,k3,k4,k5⟩:=of_decide_eq_true rp.1;symm;refine ⟨r.t,_,rfl,SqT.of gt,rfl,_,_,rfl,_,_,rfl,_,_,rfl,_,_,rfl,_,_,rfl,rfl,?_⟩;symm;rw [al];refine ⟨by ext,fun hl hhl=>?_⟩;rw [show List.map (fun i:Nat=>V.int (i:Int)) (List.range h)=(ups h).map V.int from (map_map ..).symm]
 exists hl,hhl,H,(.lst ((ups h).map V.int)),H1,s1,e1
 symm
 exists 0,D0,hD0,H1,(.lst []),H2,s2,e2,rfl
 have s12:=s1.trans s2;have e12:=s2 _ _ e1
 have rowA:∀{J:Hp},Al H J->∃ar,atI (as.map V.ref) r.x=some (.ref ar)/\J ar=some (.lst (((List.range h).map fun j=>L x j).map V.int)):=fun {J} s=>by
  obtain ⟨ar,_,_,r3,r4⟩:=(tb.same s).row hx;exact ⟨ar,by rw [ex];exact r3,r4⟩
 have cellA:atI (((List.range h).map fun j=>L x j).map V.int) r.y=some (.int (L x y)):=by rw [ey];exact By (L x) hy
 symm;refine ⟨fun σ' J=>∃(D:Addr) (rs:List Rq),σ'=[some (.ref r.t),some (.ref a),some (.int r.x),some (.int r.y),some (.int r.s),some (.ref r.w),some (.int r.cut),some (.ref hl),some (.ref D),none,none,none]/\Al H1 J/\H D=none/\Acc D J J (HB H h L r) rs/\rs.length<=2,?_,?_⟩
 ·obtain ⟨ar,a3,a4⟩:=rowA s12;symm;refine ⟨a,_,_,_,rfl,rfl,SqL.of (s12 _ _ ha),a3,?_⟩;symm;refine ⟨ar,_,_,_,rfl,rfl,SqL.of a4,cellA,?_⟩;symm;by_cases c:L x y < r.s
  ·refine ifT (decide_eq_true c) ?_;symm
   exists 2,w1,n1,H2,(.lst [V.int r.x,V.int r.y]),B1,z1,ew1,rfl
   symm
   exists 5,t1,m1,B1,(.tup [V.int r.x,V.int r.y,V.int r.s,V.ref w1,V.int r.cut]),B2,z2,et1,rfl
   have zB2:=s12.trans (z1.trans z2);obtain ⟨ar2,a5,a6⟩:=rowA zB2;symm;refine ⟨a,_,_,_,rfl,rfl,SqL.of (zB2 _ _ ha),a5,?_⟩;symm;refine ⟨ar2,_,_,_,rfl,rfl,SqL.of a6,cellA,?_⟩;symm
   exists 2,w2,n2,B2,(.lst [V.int r.x,V.int r.y]),B3,z3,ew2,rfl
   symm
   exists 5,t2,m2,B3,(.tup [V.int r.x,V.int r.y,V.int (L x y),V.ref w2,V.int r.cut]),B4,z4,et2,rfl
   symm
   exists 2,D1,hD1,B4,(.lst [V.ref t1,V.ref t2]),B5,z5,eD1,rfl
   have z35:=z3.trans (z4.trans z5);have zw:∀{b:Addr} {o:HO},B4 b=some o->b≠D1:=fun e=>At e hD1;symm;refine ⟨D1,[⟨t1,w1,r.x,r.y,r.s,[r.x,r.y],r.cut⟩,⟨t2,w2,r.x,r.y,L x y,[r.x,r.y],r.cut⟩],rfl,s2.trans (z1.trans (z2.trans z35)),none_of (s12.trans (z1.trans (z2.trans (z3.trans z4)))) hD1,⟨eD1,BI.of (Al.refl _),al2 ⟨⟨⟨z35 _ _ et1,(z2.trans z35) _ _ ew1⟩,zw ((z2.trans (z3.trans z4)) _ _ ew1),by show 2<=60;decide,PD ex ey (by rw [ex,ey]) (by show L x y≠r.s;ext),.inr (none_of s12 n1)⟩,al2 ⟨⟨⟨z5 _ _ et2,(z4.trans z5) _ _ ew2⟩,zw (z4 _ _ ew2),by show 2<=60;decide,RX st rp rfl rfl (by show L x y≠r.s;ext),.inr (none_of (s12.trans (z1.trans z2)) n2)⟩,fun _ m=>absurd m List.not_mem_nil⟩⟩⟩,by show 2<=2;decide⟩
  ·refine ifF (decide_eq_false c) ?_;exact ⟨D0,[],rfl,s2,none_of s1 hD0,⟨e2,BI.of (Al.refl _),(fun _ m=>absurd m List.not_mem_nil)⟩,by show 0<=2;decide⟩
 rintro σ' J ⟨D,rs,rfl,sJ,nD,ac,rn⟩;clear e2 hD0 s2 s12 e12;have sHJ:=s1.trans sJ;have haJ:=sHJ _ _ ha;symm;refine ⟨⟨x0,by show r.x<=1000000;ext,by decide⟩,?_⟩;symm;rw [al];refine ⟨D9 (by ext),?_⟩;symm;refine ⟨⟨y0,by show r.y<=1000000;ext,by decide⟩,?_⟩;symm
 exists 2,lm,hm,J,(.lst [V.int (1*2 ^ r.x.toNat),V.int (1*2 ^ (h:Int).toNat - 1 - 1*2 ^ r.y.toNat)]),J1,w1,elm,rfl
 obtain ⟨cs,ecs,gcs⟩:∃cs:List Int,cs.map V.int=[V.int (1*2 ^ r.x.toNat),V.int (1*2 ^ (h:Int).toNat - 1 - 1*2 ^ r.y.toNat)]/\∀c∈cs,bit c x=true/\bit c y=false:=by
  refine ⟨[1*2 ^ r.x.toNat,1*2 ^ (h:Int).toNat - 1 - 1*2 ^ r.y.toNat],rfl,?_⟩;have xy':x≠y:=by ext
  rw [Int.one_mul,Int.one_mul,Int.one_mul,ex,ey];refine al2 ⟨⟨?_,?_⟩,al2 ⟨⟨?_,?_⟩,fun _ m=>absurd m List.not_mem_nil⟩⟩
  ·show bit (2 ^ x) x=true;rw [Mh];exact decide_eq_true rfl
  ·show bit (2 ^ x) y=false;rw [Mh];exact decide_eq_false (Ne.symm xy')
  ·show bit (2 ^ h - 1 - 2 ^ y) x=true;rw [Mg h y x hy hx,decide_eq_false xy'];rfl
  ·show bit (2 ^ h - 1 - 2 ^ y) y=false;rw [Mg h y y hy hy,decide_eq_true rfl];rfl
 rw [<- ecs] at elm;have cln:cs.length=2:=by rw [<- length_map (f:=V.int),ecs];rfl
 clear ecs;have eh:=(sJ.trans w1) _ _ e1;have ul:=BC h;refine ⟨lm,rfl,⟨_,SqL.of elm⟩,Bs (xs:=cs.map V.int) (fun i σ' J=>∃(v9 v10 v11:Option V) (D:Addr) (rs:List Rq),σ'=[some (.ref r.t),some (.ref a),some (.int r.x),some (.int r.y),some (.int r.s),some (.ref r.w),some (.int r.cut),some (.ref hl),some (.ref D),v9,v10,v11]/\Al J1 J/\H D=none/\Acc D J J (HB H h L r) rs/\rs.length<=2+2*i) ⟨none,none,none,D,rs,rfl,Al.refl _,nD,(ac.step w1).base,by ext⟩ (fun i σ' J _ hq_=>by obtain ⟨_,_,_,_,_,_,s,_⟩:=hq_;exact SqL.of (s _ _ elm)) ?_ ?_⟩
 ·clear ac rn nD rs D;rintro i u σ' J2 hu ⟨v9,v10,v11,D,rs,rfl,t2,nD,ac,rn⟩;obtain ⟨c,hc,rfl⟩:=int_at hu;have il:=(List.getElem?_eq_some_iff.mp hc).1;obtain ⟨cx,cy⟩:=gcs c (mem_of_getElem? hc);have eh2:=t2 _ _ eh;symm;refine ⟨⟨_,SqL.of eh2⟩,?_⟩
  refine AC (xs:=(ups h).map V.int) (by rw [length_map,ul];exact A8 (by ext)) (fun D i ys J=>ys=(hands i (bit c)).map V.int/\J=upd J2 D (.lst ys)) (fun D hD=>⟨rfl,rfl⟩) (fun D i ys J hq=>by
   obtain ⟨f1,f2⟩:=hq
   exact ⟨by rw [f2];exact Ac,by rw [f1,length_map];exact C2 _ _⟩) (fun D i ys J hD hq=>by
   obtain ⟨_,f2⟩:=hq;rw [f2];exact SqL.of (Ag hD _ _ _ eh2)) ?_ ?_
  ·rintro D' k u ys J K1 K2 hD' hu ⟨f1,rfl⟩ kk1 kk2;obtain ⟨z,hz,rfl⟩:=int_at hu;obtain ⟨rfl,kh⟩:=QR hz;have ms:=C3 k (bit c);symm;refine ⟨D9 (by ext),?_⟩;symm;refine ⟨Qo c (by ext),?_⟩;symm;rw [show decide ((fun i j=>V.int (i.fmod j)) (c.fdiv (1*2 ^ (k:Int).toNat)) 2=V.int 1)=bit c k from PH c k]
   cases e:bit c k with
   | true =>
     rw [e,if_pos rfl] at ms;refine ifT rfl ?_;symm;refine kk1 _ _ Ac ⟨?_,by rw [Bf]⟩;rw [ms,map_append,f1];rfl
   | false =>
     rw [e,if_neg (by decide)] at ms;refine ifF rfl ?_;exact kk2 _ ⟨by rw [ms];exact f1,rfl⟩
  rintro inn ys J3 hin ⟨rfl,rfl⟩;rw [length_map,ul];have imem:∀z∈hands h (bit c),∃i:Nat,i < h/\bit c i=true/\z=(i:Int):=fun z m=>BM.mp m;have imem2:∀i:Nat,i < h->bit c i=true->(i:Int)∈hands h (bit c):=fun i hi b=>BM.mpr ⟨i,hi,b,rfl⟩;have iln:=C2 h (bit c);generalize hands h (bit c)=ws at imem imem2 iln ⊢
  exists inn,hin,J2,(.lst (ws.map V.int)),J3,t3,ein
  have eh3:=t3 _ _ eh2;have s03:=(sHJ.trans (w1.trans t2)).trans t3;symm;refine ⟨⟨_,SqL.of ein⟩,?_⟩;refine AC (xs:=ws.map V.int) (by rw [length_map];exact A8 (by ext)) (fun D i ys J=>∃vs:List Int,ys=vs.map V.int/\vs.length=i/\(∀z∈vs,∃i j,i < h/\j < h/\bit c i=true/\bit c j=false/\L i j=z)/\J D=some (.lst ys)/\Al J3 J) (fun D hD=>⟨[],rfl,rfl,(fun z m=>nomatch m),Ac,Ag hD _⟩) (fun D i ys J hq_=>by obtain ⟨vs,f1,f2,_,f3,_⟩:=hq_;exact ⟨f3,by rw [f1,length_map,f2];exact Nat.le_refl _⟩) (fun D i ys J hD hq_=>by obtain ⟨_,_,_,_,_,f2⟩:=hq_;exact SqL.of (f2 _ _ ein)) ?_ ?_
  ·rintro D' i2 u ys J K1 K2 hD' hu ⟨vs,rfl,f2,f3,f4,f5⟩ kk1 kk2;obtain ⟨z,hz,rfl⟩:=int_at hu;obtain ⟨i',hi',gi,rfl⟩:=imem z (mem_of_getElem? hz);refine yes (ifT rfl ?_);have sJ':=s03.trans f5;have eh4:=f5 _ _ eh3;have ein4:=f5 _ _ ein;symm;refine ⟨⟨_,SqL.of eh4⟩,?_⟩;refine AC (xs:=(ups h).map V.int) (by rw [length_map,ul];exact A8 (by ext)) (fun D2 k ys J2=>∃us:List Int,ys=us.map V.int/\J2=upd J D2 (.lst ys)/\us.length<=k/\(∀z∈us,∃j,j < h/\bit c j=false/\L i' j=z)/\(y < k->us≠[])) (fun D2 hD2=>⟨[],rfl,rfl,Nat.le_refl _,(fun _ m=>absurd m List.not_mem_nil),fun z=>absurd z (Nat.not_lt_zero _)⟩) (fun D2 k ys J2 hq_=>by obtain ⟨us,f1,f2,f3,_⟩:=hq_;exact ⟨by rw [f2];exact Ac,by rw [f1,length_map];exact f3⟩) (fun D2 k ys J2 hD2 hq_=>by obtain ⟨_,_,f2,_⟩:=hq_;rw [f2];exact SqL.of (Ag hD2 _ _ _ eh4)) ?_ ?_
   ·rintro D2 k u ys2 J5 L1 L2 hD2 hu2 ⟨us,rfl,rfl,g3,g4,g5⟩ l1 l2;obtain ⟨z2,hz2,rfl⟩:=int_at hu2;obtain ⟨rfl,kh⟩:=QR hz2;have sD:=Ag hD2 (.lst (us.map V.int));have ein5:=sD _ _ ein4;symm;refine ⟨(by rw [all_map];exact all_eq_true.mpr fun _ _=>rfl),?_⟩
    cases e:bit c k with
    | true =>
      rw [OK (imem2 k kh e)];refine ⟨_,rfl,ifF rfl ?_⟩;refine l2 _ ⟨us,rfl,rfl,by ext,g4,fun z=>g5 ?_⟩;refine Decidable.byContradiction fun n=>?_;have:y=k:=by ext
      rw [this,e] at cy
      cases cy
    | false =>
      rw [M0 (fun m=>by obtain ⟨j,_,bj,ej⟩:=imem _ m;rw [<- Int.ofNat.inj ej,e] at bj;cases bj)];refine ⟨_,rfl,ifT rfl ?_⟩;have sK:=sJ'.trans sD;obtain ⟨ar,_,_,r3,r4⟩:=(tb.same sK).row hi';symm;refine ⟨a,_,_,_,rfl,rfl,SqL.of (sK _ _ ha),r3,?_⟩;symm;refine ⟨ar,_,_,_,rfl,rfl,SqL.of r4,By (L i') kh,?_⟩;refine l1 _ _ Ac ⟨us++[L i' k],by rw [map_append];rfl,by rw [Bf],by rw [length_append];show _+1<=_;ext,fun z m=>?_,fun _ n=>by cases us <;> cases n⟩;rcases mem_append.mp m with m | m
      ·exact g4 z m
      ·exact ⟨k,kh,e,(mem_singleton.mp m).symm⟩
   rintro D2 ys2 J5 hD2 ⟨us,rfl,rfl,g3,g4,g5⟩;have sD:=Ag hD2 (.lst (us.map V.int));refine ⟨D2,us,rfl,SqL.of Ac,length_pos_iff.mpr (g5 (by rw [length_map,ul];exact hy)),fun M Mm Ma=>?_⟩;refine kk1 _ _ (sD _ _ f4) ⟨vs++[M],by rw [map_append];rfl,by rw [length_append,f2];rfl,fun z m=>?_,Ac,Ay (f5.trans sD) hD'⟩;rcases mem_append.mp m with m | m
   ·exact f3 z m
   ·rw [mem_singleton.mp m];obtain ⟨j,hj,bj,ej⟩:=g4 M Mm;exact ⟨i',j,hi',hj,gi,bj,ej⟩
  rintro D' ys J4 hD' ⟨vs,rfl,f2,f3,f4,t4⟩;rw [length_map] at f2;refine ⟨D',vs,rfl,SqL.of f4,(by rw [f2];exact length_pos_of_mem (imem2 x hx cx)),fun M Mm _=>?_⟩;obtain ⟨i',j',hi',hj',bi,bj,eM⟩:=f3 M Mm;have t34:=t3.trans t4;have ac4:=(ac.step t34).base;have gw4:=(sHJ.trans (w1.trans (t2.trans t34))) _ _ gw;symm;by_cases cm:r.s < M
  ·refine ifT (decide_eq_true cm) ?_;symm
   exists 5,t5,m5,J4,(.tup [V.int r.x,V.int r.y,V.int r.s,V.ref r.w,V.int c]),J5,z5,et5,rfl
   symm
   exists 5,t6,m6,J5,(.tup [V.int r.x,V.int r.y,V.int M,V.ref r.w,V.int c]),J6,z6,et6,rfl
   symm
   exists 2,b7,n7,J6,(.lst [V.ref t5,V.ref t6]),J7,z7,eb7,rfl
   have z57:=z5.trans (z6.trans z7);have ac7:=(ac4.step z57).base;refine ⟨D,b7,_,_,rfl,rfl,ac7.d,eb7,(by right),fun D8 hD8=>?_⟩
   exists D8,hD8,J7,(.lst (vrq rs++[V.ref t5,V.ref t6])),J8,z8,eD8
   have zJ8:=z57.trans z8;have s8:=sHJ.trans (w1.trans (t2.trans (t34.trans z57)));have wD8:∀{b:Addr} {o:HO},J7 b=some o->b≠D8:=fun e=>At e hD8;have gw8:=zJ8 _ _ gw4;have all2:∀q∈([⟨t5,r.w,r.x,r.y,r.s,r.ws,c⟩,⟨t6,r.w,r.x,r.y,M,r.ws,c⟩]:List Rq),RqG J8 q/\q.w≠D8/\HB H h L r q:=al2 ⟨⟨⟨(z6.trans (z7.trans z8)) _ _ et5,gw8⟩,wD8 (z57 _ _ gw4),wl',RY hi' hj' bi bj (by show r.s < L i' j';ext),.inl rfl⟩,al2 ⟨⟨⟨(z7.trans z8) _ _ et6,gw8⟩,wD8 (z57 _ _ gw4),wl',NZ rp rfl rfl rfl (by show M≠r.s;ext),.inl rfl⟩,fun _ m=>absurd m List.not_mem_nil⟩⟩;symm;refine ⟨_,_,_,D8,rs++[⟨t5,r.w,r.x,r.y,r.s,r.ws,c⟩,⟨t6,r.w,r.x,r.y,M,r.ws,c⟩],rfl,t2.trans (t34.trans zJ8),none_of s8 hD8,⟨by rw [eD8];unfold vrq;rw [map_append];rfl,BI.of (Al.refl _),fun q m=>?_⟩,by rw [length_append];show _+2<=_;ext⟩;rcases mem_append.mp m with m | m
   ·have k:=ac7.g q m;exact ⟨k.1.same z8,wD8 k.1.w,k.2.2⟩
   ·exact all2 q m
  ·refine ifF (decide_eq_false cm) ?_;exact ⟨_,_,_,D,rs,rfl,t2.trans t34,nD,ac4,by ext⟩
 clear ac rn nD rs D;rintro σ' J2 ⟨v9,v10,v11,D,rs,rfl,t2,nD,ac,rn⟩;rw [length_map,cln] at rn;have s2:=sHJ.trans (w1.trans t2);have gw2:=s2 _ _ gw;have ha2:=s2 _ _ ha;symm;rw [show (r.ws.map V.int).length=r.ws.length from length_map ..];by_cases c2:2 < r.ws.length
 ·refine ifT (decide_eq_true (by ext)) ?_;obtain ⟨w0,wr1,ew0⟩:∃w0 wr,r.ws=w0 :: wr:=exists_cons_of_ne_nil (fun z=>by rw [z] at c2;exact absurd c2 (by decide));obtain ⟨z1,wr,ew1⟩:∃z1 wr,wr1=z1 :: wr:=exists_cons_of_ne_nil (fun z=>by rw [ew0,z] at c2;exact absurd c2 (by show ¬ 2 < 1;decide));have ew:r.ws=w0 :: z1 :: wr:=by rw [ew0,ew1]
  have zin:=k4 z1 (by rw [ew];exact mem_cons_of_mem _ (mem_cons_self ..));have at1:atI (r.ws.map V.int) 1=some (.int z1):=by rw [ew];exact Bv (j:=1) rfl
  have d2:C1 (r.ws.map V.int) (some 2) none=wr.map V.int:=by rw [show C1 (r.ws.map V.int) (some 2) none=(r.ws.map V.int).drop 2 from Ch (j:=2),ew];rfl
  have wrl:wr.length+2=r.ws.length:=by rw [ew];rfl
  symm;refine ⟨.inl ⟨rfl,_,SqL.of ac.d⟩,?_⟩;symm;refine ⟨r.w,_,_,_,rfl,rfl,SqL.of gw2,at1,?_⟩;symm;rw [al];symm
  exists 2,l5,h5,J2,(.lst [V.int r.x,V.int (z1 - (h:Int))]),J3,y3,el5,rfl
  symm;refine ⟨r.w,_,rfl,SqL.of (y3 _ _ gw2),fun l6 h6=>?_⟩;rw [d2]
  exists l6,h6,J3,(.lst (wr.map V.int)),J4,y4,el6
  refine ⟨l5,l6,_,_,rfl,rfl,y4 _ _ el5,el6,(by right),fun l7 h7=>?_⟩;rw [show [V.int r.x,V.int (z1 - (h:Int))]++wr.map V.int=(r.x :: (z1 - (h:Int)) :: wr).map V.int from rfl]
  exists l7,h7,J4,(.lst ((r.x :: (z1 - (h:Int)) :: wr).map V.int)),J5,y5,el7
  symm
  exists 5,t8,n8,J5,(.tup [V.int r.x,V.int r.y,V.int r.s,V.ref l7,V.int r.cut]),J6,y6,et8,rfl
  have y36:=y3.trans (y4.trans (y5.trans y6));have ac6:=ac.step y36;have l7D:l7≠D:=fun e=>At ((y3.trans y4) _ _ ac.d) h7 e.symm;refine ⟨D,_,_,rfl,rfl,ac6.d,(by rw [Cw];exact AU (by ext)),?_⟩;have ac7:=ac6.push (r:=⟨t8,l7,r.x,r.y,r.s,r.x :: (z1 - (h:Int)) :: wr,r.cut⟩) ⟨et8,y6 _ _ el7⟩ l7D ⟨by show wr.length+2<=60;ext,Oa (Gw (z:=z1 - (h:Int)) (mem_cons_of_mem _ (mem_cons_self ..)) (.inl (by ext))),.inr (none_of (s2.trans (y3.trans y4)) h7)⟩;symm;exact q D _ _ nD (ac7.same s2 nD) ac7.d (fun q m=>⟨(ac7.g q m).1,(ac7.g q m).2.2⟩) (by rw [length_append];show _+1<=20;ext)
 ·refine ifF (decide_eq_false (by ext)) ?_;symm;exact q D rs J2 nD s2 ac.d (fun q m=>⟨(ac.g q m).1,(ac.g q m).2.2⟩) (by ext)
theorem Gi (T:Tx K mg base ad):AZ P w K mg base CX0 1 ad.f_law_bad_ones ad.d_law_bad_ones ["_law_one","_law_hands","_law_far"] IJ:=by
 refine T.F_law_bad_ones.ok AK (fun vs H Q E h=>?_) (fun cdv A outer s H vs Q E hr h=>?_)
 ·obtain ⟨h,L,r,far,rfl,_⟩:=h;rfl
 obtain ⟨h,L,r,far,rfl,g,rp,wl,f0,h12,q⟩:=h;refine ⟨_,((Cn (pv 0) (Ds rfl (A6 (Ar (i:=3) AK.nd rfl (Or.inl rfl)) (A6 (Ar (i:=4) AK.nd rfl (Or.inl rfl)) (A6 (Ar (i:=5) AK.nd rfl (Or.inl rfl)) (A6 (Ar (i:=6) AK.nd rfl (Or.inl rfl)) (A6 (Ar (i:=7) AK.nd rfl (Or.inl rfl)) Cl)))))))>>((@An _ _ (8) _ _ _ _ AK.nd rfl (Or.inl rfl) (@Av _ _ _ _ ((@AX _ _ _ _ _ ((pv 3)*>((pv 4)*>((AG<&>((pv 5)<|>Ae))*>((pv 6)*>((pv 7)*>Ab))))))*>((@AX _ _ _ _ _ ((pv 3)*>((pv 4)*>((BF<&>((pv 5)<|>Ae))*>((pv 6)*>((pv 7)*>Ab))))))*>((@AX _ _ _ _ _ ((AG<&>((pv 3)<|>Ae))*>((pv 4)*>((pv 5)*>((pv 6)*>((pv 7)*>Ab))))))*>Ab)))) (by rfl) (by nofun))>>((@An _ _ (8) _ _ _ _ AK.nd rfl (Or.inl rfl) (AW<&>((pv 8)<|>(@Av _ _ _ _ ((@AX _ _ _ _ _ ((pv 3)*>((BF<&>((pv 4)<|>Ae))*>((pv 5)*>((pv 6)*>((pv 7)*>Ab))))))*>((@AX _ _ _ _ _ ((pv 4)*>((pv 3)*>((pv 5)*>((pv 6)*>((pv 7)*>Ab))))))*>((@AX _ _ _ _ _ ((BF<&>((pv 3)<|>(pv 1)))*>((pv 4)*>((pv 5)*>((pv 6)*>((pv 7)*>Ab))))))*>Ab)))))) (by rfl) (by nofun))>>((Bu PassesOwn.never rfl (A9 (@Av _ _ _ _ ((AD AQ (pv 6) (AO Ae) AN)*>((AD AQ (pv 6) AN (AO (@ID _ _ _ _ _ _ Hy Ae)))*>((@Av _ _ _ _ ((pv 3)*>Ab))*>((@Av _ _ _ _ Ab)*>((AW<&>((@Av _ _ _ _ ((pv 3)*>Ab))<|>(pv 6)))*>((AW<&>((@Av _ _ _ _ ((AG<&>((pv 1)<|>(pv 2)))*>Ab))<|>(AD AQ (pv 6) (AO Ae) AN)))*>((AW<&>((@Av _ _ _ _ ((BF<&>((pv 3)<|>(pv 1)))*>Ab))<|>(AD AQ (pv 6) (AO Ae) AN)))*>Ab))))))))) (Ar (i:=9) AK.nd rfl (Or.inl rfl)) (@Ah _ _ _ (@Bx _ _ _ _ (Cy PySem.F.plainAttrs_list PySem.F.slot_list_append PySem.F.type_list_append Bn (pv 8) ((@AX _ _ _ _ _ ((pv 3)*>((pv 4)*>((pv 5)*>((pv 9)*>((pv 7)*>Ab))))))*>Ab)) (by rfl))))>>((@Bx _ _ _ _ (Cy PySem.F.plainAttrs_list PySem.F.slot_list_append PySem.F.type_list_append Bn (pv 8) ((@AX _ _ _ _ _ ((pv 3)*>((pv 4)*>((pv 5)*>((AW<&>((pv 6)<|>(@Av _ _ _ _ ((BF<&>((pv 3)<|>(pv 1)))*>((pv 4)*>Ab)))))*>((pv 7)*>Ab))))))*>Ab)) (by rfl))>>((Bu PassesOwn.never rfl (A9 (@Av _ _ _ _ ((BF<&>((pv 7)<|>(Db<&>(Ae<|>(pv 3)))))*>((AG<&>((pv 7)<|>(Db<&>(Ae<|>(pv 4)))))*>((BF<&>((@ID _ _ _ _ _ _ Hy Ae)<|>(pv 2)))*>((BF<&>((pv 7)<|>(Db<&>(Ae<|>(pv 1)))))*>((AG<&>((pv 7)<|>(Db<&>(Ae<|>(pv 1)))))*>(Ae*>Ab)))))))) (Ar (i:=10) AK.nd rfl (Or.inl rfl)) (@Ah _ _ _ (@Bx _ _ _ _ (Cy PySem.F.plainAttrs_list PySem.F.slot_list_append PySem.F.type_list_append Bn (pv 8) ((@AX _ _ _ _ _ ((pv 3)*>((pv 4)*>((pv 5)*>((pv 6)*>((pv 10)*>Ab))))))*>Ab)) (by rfl))))>>(@Ah _ _ _ (@As _ _ _ _ (pv 8))))))))),?_⟩;have gt:=g.t;have gw:=g.w;obtain ⟨x0,xh,y0,yh,xy⟩:=JD rp;obtain ⟨k1,k2,k3,k4,k5⟩:=of_decide_eq_true rp.1;obtain ⟨a0,tl,ew⟩:∃a0 tl,r.ws=a0 :: tl:=exists_cons_of_ne_nil (fun z=>by rw [z] at k1;exact absurd k1 (by decide));have ax:a0=r.x:=by rw [ew] at k2;exact Option.some.inj k2
 have xt:r.x ∉ tl:=by
  have:=k5;rw [ew,nodup_cons,ax] at this;exact this.1
 have tln:tl.length+1=r.ws.length:=by rw [ew];rfl
 have d1:C1 (r.ws.map V.int) (some 1) none=tl.map V.int:=by rw [show C1 (r.ws.map V.int) (some 1) none=(r.ws.map V.int).drop 1 from Ch (j:=1),ew];rfl
 obtain ⟨ini,ei⟩:∃ini,r.ws=ini++[r.y]:=List.getLast?_eq_some_iff.mp k3;have iln:ini.length+1=r.ws.length:=by rw [ei,length_append];rfl
 have yi:r.y ∉ ini:=by
  have:=k5;rw [ei,nodup_append] at this;exact fun m=>this.2.2 r.y m r.y (mem_singleton.mpr rfl) rfl
 have xw:r.x∈r.ws:=by rw [ew,ax];exact mem_cons_self ..
 have i1:C1 (r.ws.map V.int) none (some (-1))=ini.map V.int:=by rw [GE,length_map,<- map_take,<- iln,Nat.add_sub_cancel,ei,take_left]
 symm;refine ⟨r.t,_,rfl,SqT.of gt,rfl,_,_,rfl,_,_,rfl,_,_,rfl,_,_,rfl,_,_,rfl,rfl,?_⟩;symm
 exists 5,t0,n0,H,(.tup [V.int r.x,V.int r.y,V.int (r.s+1),V.ref r.w,V.int r.cut]),A0,s0,e0,rfl
 symm
 exists 5,t1,n1,A0,(.tup [V.int r.x,V.int r.y,V.int (r.s - 1),V.ref r.w,V.int r.cut]),A1,s1,e1,rfl
 symm
 exists 5,t2,n2,A1,(.tup [V.int (r.x+1),V.int r.y,V.int r.s,V.ref r.w,V.int r.cut]),A2,s2,e2,rfl
 symm
 exists 3,b1,m1,A2,(.lst [V.ref t0,V.ref t1,V.ref t2]),B1,sb1,eb1,rfl
 symm
 exists 5,t3,n3,B1,(.tup [V.int r.x,V.int (r.y - 1),V.int r.s,V.ref r.w,V.int r.cut]),A3,s3,e3,rfl
 symm
 exists 5,t4,n4,A3,(.tup [V.int r.y,V.int r.x,V.int r.s,V.ref r.w,V.int r.cut]),A4,s4,e4,rfl
 symm
 exists 5,t5,n5,A4,(.tup [V.int (r.x - (h:Int)),V.int r.y,V.int r.s,V.ref r.w,V.int r.cut]),A5,s5,e5,rfl
 symm
 exists 3,b2,m2,A5,(.lst [V.ref t3,V.ref t4,V.ref t5]),B2,sb2,eb2,rfl
 refine ⟨b1,b2,_,_,rfl,rfl,(s3.trans (s4.trans (s5.trans sb2))) _ _ eb1,eb2,(by show 6<=sizeLine;decide),fun D hD=>?_⟩
 exists D,hD,B2,(.lst ([V.ref t0,V.ref t1,V.ref t2]++[V.ref t3,V.ref t4,V.ref t5])),HD,sD,eD
 have z5:=sb2.trans sD;have z4:=s5.trans z5;have z3:=s4.trans z4;have z2:=sb1.trans (s3.trans z3);have z1:=s2.trans z2;have z0:=s1.trans z1;have zB:Al H B2:=s0.trans (s1.trans (s2.trans (sb1.trans (s3.trans (s4.trans (s5.trans sb2))))));have zD:=zB.trans sD;have hDH:=none_of zB hD;have wD:r.w≠D:=At gw hDH;have gwD:=zD _ _ gw;have wl':r.ws.length<=60:=Nat.le_trans wl (by decide)
 have acc:Acc D HD HD (HB H h L r) [⟨t0,r.w,r.x,r.y,(r.s+1),r.ws,r.cut⟩,⟨t1,r.w,r.x,r.y,(r.s - 1),r.ws,r.cut⟩,⟨t2,r.w,(r.x+1),r.y,r.s,r.ws,r.cut⟩,⟨t3,r.w,r.x,(r.y - 1),r.s,r.ws,r.cut⟩,⟨t4,r.w,r.y,r.x,r.s,r.ws,r.cut⟩,⟨t5,r.w,(r.x - (h:Int)),r.y,r.s,r.ws,r.cut⟩]:=⟨eD,BI.of (Al.refl _),al2 ⟨⟨⟨z0 _ _ e0,gwD⟩,wD,wl',NZ rp rfl rfl rfl (by show r.s+1≠r.s;ext),.inl rfl⟩,al2 ⟨⟨⟨z1 _ _ e1,gwD⟩,wD,wl',NZ rp rfl rfl rfl (by show r.s - 1≠r.s;ext),.inl rfl⟩,al2 ⟨⟨⟨z2 _ _ e2,gwD⟩,wD,wl',Ob (by show r.x+1≠r.x;ext),.inl rfl⟩,
  al2 ⟨⟨⟨z3 _ _ e3,gwD⟩,wD,wl',RZ (by show r.y - 1≠r.y;ext),.inl rfl⟩,al2 ⟨⟨⟨z4 _ _ e4,gwD⟩,wD,wl',Ob (Ne.symm xy),.inl rfl⟩,al2 ⟨⟨⟨z5 _ _ e5,gwD⟩,wD,wl',Ob (by show r.x - (h:Int)≠r.x;ext),.inl rfl⟩,fun _ m=>absurd m List.not_mem_nil⟩⟩⟩⟩⟩⟩⟩
 have aln:([⟨t0,r.w,r.x,r.y,(r.s+1),r.ws,r.cut⟩,⟨t1,r.w,r.x,r.y,(r.s - 1),r.ws,r.cut⟩,⟨t2,r.w,(r.x+1),r.y,r.s,r.ws,r.cut⟩,⟨t3,r.w,r.x,(r.y - 1),r.s,r.ws,r.cut⟩,⟨t4,r.w,r.y,r.x,r.s,r.ws,r.cut⟩,⟨t5,r.w,(r.x - (h:Int)),r.y,r.s,r.ws,r.cut⟩]:List Rq).length=6:=rfl;generalize ([⟨t0,r.w,r.x,r.y,(r.s+1),r.ws,r.cut⟩,⟨t1,r.w,r.x,r.y,(r.s - 1),r.ws,r.cut⟩,⟨t2,r.w,(r.x+1),r.y,r.s,r.ws,r.cut⟩,⟨t3,r.w,r.x,(r.y - 1),r.s,r.ws,r.cut⟩,⟨t4,r.w,r.y,r.x,r.s,r.ws,r.cut⟩,⟨t5,r.w,(r.x - (h:Int)),r.y,r.s,r.ws,r.cut⟩]:List Rq)=rs0 at acc aln;clear e0 e1 e2 e3 e4 e5 eb1 eb2 eD z0 z1 z2 z3 z4 z5;symm;refine ⟨r.w,_,rfl,SqL.of gwD,fun l1 h1=>?_⟩;rw [d1]
 exists l1,h1,HD,(.lst (tl.map V.int)),L1,y1,el1
 symm;refine ⟨r.w,_,rfl,SqL.of (y1 _ _ gwD),fun l2 h2=>?_⟩;rw [i1]
 exists l2,h2,L1,(.lst (ini.map V.int)),L2',y2,el2
 symm
 exists 1,l3,h3,L2',(.lst [V.int r.x]),L3,y3,el3,rfl
 symm
 exists 0,l4,h4,L3,(.lst []),L4,y4,el4,rfl
 symm
 exists 1,l5a,h5a,L4,(.lst [V.int r.x]),L5a,y5a,el5a,rfl
 have yw5a:=y1.trans (y2.trans (y3.trans (y4.trans y5a)));symm;refine ⟨l5a,r.w,_,_,rfl,rfl,el5a,yw5a _ _ gwD,(by right),fun l5 h5=>?_⟩;rw [show [V.int r.x]++r.ws.map V.int=(r.x :: r.ws).map V.int from rfl]
 exists l5,h5,L5a,(.lst ((r.x :: r.ws).map V.int)),L5,y5,el5
 have yw5:=yw5a.trans y5;symm
 exists 1,l6a,h6a,L5,(.lst [V.int ((h:Int)+far)]),L6a,y6a,el6a,rfl
 have yw6a:=yw5.trans y6a;symm;refine ⟨r.w,_,rfl,SqL.of (yw6a _ _ gwD),fun l6b h6b=>?_⟩;rw [d1]
 exists l6b,h6b,L6a,(.lst (tl.map V.int)),L6b,y6b,el6b
 refine ⟨l6a,l6b,_,_,rfl,rfl,y6b _ _ el6a,el6b,(by right),fun l6 h6=>?_⟩;rw [show [V.int ((h:Int)+far)]++tl.map V.int=(((h:Int)+far) :: tl).map V.int from rfl]
 exists l6,h6,L6b,(.lst ((((h:Int)+far) :: tl).map V.int)),L6,y6,el6
 have yw6:=yw6a.trans (y6b.trans y6);symm
 exists 1,l7a,h7a,L6,(.lst [V.int (r.x - (h:Int))]),L7a,y7a,el7a,rfl
 have yw7a:=yw6.trans y7a;symm;refine ⟨r.w,_,rfl,SqL.of (yw7a _ _ gwD),fun l7b h7b=>?_⟩;rw [d1]
 exists l7b,h7b,L7a,(.lst (tl.map V.int)),L7b,y7b,el7b
 refine ⟨l7a,l7b,_,_,rfl,rfl,y7b _ _ el7a,el7b,(by right),fun l7 h7=>?_⟩;rw [show [V.int (r.x - (h:Int))]++tl.map V.int=((r.x - (h:Int)) :: tl).map V.int from rfl]
 exists l7,h7,L7b,(.lst (((r.x - (h:Int)) :: tl).map V.int)),L7,y7,el7
 have yw7:=yw7a.trans (y7b.trans y7);symm
 exists 7,lo,hlo,L7,(.lst [V.ref l1,V.ref l2,V.ref l3,V.ref l4,V.ref l5,V.ref l6,V.ref l7]),HL,yo,elo,rfl
 have u7:=yo;have u6:=y7a.trans (y7b.trans (y7.trans u7));have u5:=y6a.trans (y6b.trans (y6.trans u6));have u4:=y5a.trans (y5.trans u5);have u3:=y4.trans u4;have u2:=y3.trans u3;have u1:=y2.trans u2;have uD:=y1.trans u1;have dN:∀{b:Addr} {J:Hp},Al HD J->J b=none->b≠D:=fun {b J} s n e=>At (s _ _ acc.d) n e.symm;have nd0:∀ys:List Int,EN h (r.x :: (r.x :: ys)) r.x r.y=false:=fun ys=>DQ fun _ _ _ _ nd=>absurd (mem_cons_self ..) (nodup_cons.mp nd).1
 obtain ⟨os,eos,gos⟩:∃os:List (Addr × List Int),os.map (fun o=>V.ref o.1)=[V.ref l1,V.ref l2,V.ref l3,V.ref l4,V.ref l5,V.ref l6,V.ref l7]/\∀o∈os,HL o.1=some (.lst (o.2.map V.int))/\o.1≠D/\o.2.length<=60/\EN h o.2 r.x r.y=false/\H o.1=none:=by
  refine ⟨[(l1,tl),(l2,ini),(l3,[r.x]),(l4,[]),(l5,r.x :: r.ws),(l6,((h:Int)+far) :: tl),(l7,(r.x - (h:Int)) :: tl)],rfl,?_⟩
  refine al2 ⟨⟨u1 _ _ el1,dN (Al.refl _) h1,by show tl.length<=60;ext,DQ fun _ hd _ _ _=>xt (mem_of_mem_head? hd),none_of zD h1⟩,al2 ⟨⟨u2 _ _ el2,dN y1 h2,by show ini.length<=60;ext,DQ fun _ _ la _ _=>yi (mem_of_mem_getLast? la),none_of (zD.trans y1) h2⟩,al2 ⟨⟨u3 _ _ el3,dN (y1.trans y2) h3,by show 1<=60;decide,DQ fun z _ _ _ _=>absurd z (by show ¬ 2<=1;decide),none_of (zD.trans (y1.trans y2)) h3⟩,
   al2 ⟨⟨u4 _ _ el4,dN (y1.trans (y2.trans y3)) h4,by show 0<=60;decide,DQ fun z _ _ _ _=>absurd z (by show ¬ 2<=0;decide),none_of (zD.trans (y1.trans (y2.trans y3))) h4⟩,al2 ⟨⟨u5 _ _ el5,dN yw5a h5,by show r.ws.length+1<=60;ext,by rw [ew,ax];exact nd0 tl,none_of (zD.trans yw5a) h5⟩,al2 ⟨⟨u6 _ _ el6,dN (yw6a.trans y6b) h6,by show tl.length+1<=60;ext,Gw (mem_cons_self ..) (.inr (by ext)),none_of (zD.trans (yw6a.trans y6b)) h6⟩,
   al2 ⟨⟨u7 _ _ el7,dN (yw7a.trans y7b) h7,by show tl.length+1<=60;ext,Gw (mem_cons_self ..) (.inl (by ext)),none_of (zD.trans (yw7a.trans y7b)) h7⟩,fun _ m=>absurd m List.not_mem_nil⟩⟩⟩⟩⟩⟩⟩
 rw [<- eos] at elo;have oln:os.length=7:=by rw [<- length_map (f:=fun o:Addr × List Int=>V.ref o.1),eos];rfl
 clear el1 el2 el3 el4 el5 el6 el7 eos nd0;have gwL:=uD _ _ gwD;have acc:=acc.step uD;have accL:Acc D HL HL (HB H h L r) rs0:=⟨acc.d,BI.of (Al.refl _),acc.g⟩;have loD:lo≠D:=dN (y1.trans (y2.trans (y3.trans (y4.trans (y5a.trans (y5.trans (y6a.trans (y6b.trans (y6.trans (y7a.trans (y7b.trans y7))))))))))) hlo;refine ⟨lo,rfl,⟨_,SqL.of elo⟩,Bs (xs:=os.map fun o=>V.ref o.1) (fun i σ' J=>∃(v9:Option V) (rs:List Rq),σ'=[some (.ref r.t),some (.int (h:Int)),some (.int far),some (.int r.x),some (.int r.y),some (.int r.s),some (.ref r.w),some (.int r.cut),some (.ref D),v9,none]/\Acc D HL J (HB H h L r) rs/\rs.length=6+i) ⟨none,rs0,rfl,accL,aln⟩ (fun i σ' J _ hq_=>by obtain ⟨_,_,_,a,_⟩:=hq_;exact SqL.of (a.at loD elo)) ?_ ?_⟩
 ·rintro i x σ' J hx ⟨v9,rs,rfl,ac,rn⟩;rw [List.getElem?_map] at hx;obtain ⟨o,ho,rfl⟩:=Option.map_eq_some_iff.mp hx;obtain ⟨o1,o2,o3,o4,o5⟩:=gos o (mem_of_getElem? ho);have il:=(List.getElem?_eq_some_iff.mp ho).1;symm;refine ⟨.inl ⟨rfl,_,SqL.of ac.d⟩,?_⟩;symm
  exists 5,t,n,J,(.tup [V.int r.x,V.int r.y,V.int r.s,V.ref o.1,V.int r.cut]),J1,sj,et,rfl
  have ac:=ac.step sj;refine ⟨D,_,_,rfl,rfl,ac.d,(by rw [Cw,rn];exact AU (by ext)),?_⟩;exact ⟨_,_,rfl,ac.push (r:=⟨t,o.1,r.x,r.y,r.s,o.2,r.cut⟩) ⟨et,ac.at o2 o1⟩ o2 ⟨o3,Oa o4,.inr o5⟩,by rw [length_append,rn];rfl⟩
 rintro σ' J ⟨v9,rs,rfl,ac,rn⟩;rw [length_map,oln] at rn;clear gos elo;have gwJ:=ac.at wD gwL;symm;refine ⟨.inl ⟨rfl,_,SqL.of ac.d⟩,?_⟩;symm
 exists 2,l8,h8,J,(.lst [V.int (r.x - (h:Int)),V.int r.y]),J1,w1,el8,rfl
 refine ⟨r.w,l8,_,_,rfl,rfl,w1 _ _ gwJ,el8,(by right),fun l9 h9=>?_⟩;rw [show r.ws.map V.int++[V.int (r.x - (h:Int)),V.int r.y]=(r.ws++[r.x - (h:Int),r.y]).map V.int from by rw [map_append];rfl]
 exists l9,h9,J1,(.lst ((r.ws++[r.x - (h:Int),r.y]).map V.int)),J2,w2,el9
 symm
 exists 5,t9,n9,J2,(.tup [V.int r.x,V.int r.y,V.int r.s,V.ref l9,V.int r.cut]),J3,w3,et9,rfl
 have ac3:=((ac.step w1).step w2).step w3;have l9D:l9≠D:=fun e=>At (ac.step w1).d h9 e.symm;refine ⟨D,_,_,rfl,rfl,ac3.d,(by rw [Cw,rn];exact AU (by decide)),?_⟩;have ac4:=ac3.push (r:=⟨t9,l9,r.x,r.y,r.s,r.ws++[r.x - (h:Int),r.y],r.cut⟩) ⟨et9,w3 _ _ el9⟩ l9D ⟨by rw [length_append];show _+2<=60;ext,Oa (Gw (z:=r.x - (h:Int)) (mem_append.mpr (.inr (mem_cons_self ..))) (.inl (by ext))),.inr (none_of ((ac.step w1).same (zD.trans uD) hDH) h9)⟩;have rn4:(rs++[(⟨t9,l9,r.x,r.y,r.s,r.ws++[r.x - (h:Int),r.y],r.cut⟩:Rq)]).length=14:=by rw [length_append,rn];rfl
 generalize rs++[(⟨t9,l9,r.x,r.y,r.s,r.ws++[r.x - (h:Int),r.y],r.cut⟩:Rq)]=rs4 at ac4 rn4;generalize upd J3 D (.lst (vrq rs++[V.ref t9]))=J4 at ac4 ⊢;clear ac ac3 et9 el9 el8 gwJ;symm;refine ⟨⟨x0,by show r.x<=1000000;ext,by decide⟩,?_⟩;symm;refine ⟨⟨y0,by show r.y<=1000000;ext,by decide⟩,?_⟩;symm;refine ⟨D9 (by ext),?_⟩;symm;refine ⟨D9 (by ext),?_⟩;symm
 exists 6,lm,hm,J4,(.lst [V.int (r.cut - 1*2 ^ r.x.toNat),V.int (r.cut+1*2 ^ r.y.toNat),V.int (-1 - far),V.int (r.cut - 1*2 ^ (h:Int).toNat),V.int (r.cut+1*2 ^ (h:Int).toNat),V.int (0)]),J5,w5,elm,rfl
 have lmD:lm≠D:=fun e=>At ac4.d hm e.symm;have ac5:=ac4.step w5;have acM:Acc D J5 J5 (HB H h L r) rs4:=⟨ac5.d,BI.of (Al.refl _),ac5.g⟩;have gw5:=ac5.at wD gwL
 obtain ⟨cs,ecs,gcs⟩:∃cs:List Int,cs.map V.int=[V.int (r.cut - 1*2 ^ r.x.toNat),V.int (r.cut+1*2 ^ r.y.toNat),V.int (-1 - far),V.int (r.cut - 1*2 ^ (h:Int).toNat),V.int (r.cut+1*2 ^ (h:Int).toNat),V.int (0)]/\∀c∈cs,DG h c r.x.toNat r.y.toNat=false:=by
  have cb:=Oo f0 rp.2.1;refine ⟨[r.cut - 1*2 ^ r.x.toNat,r.cut+1*2 ^ r.y.toNat,-1 - far,r.cut - 1*2 ^ (h:Int).toNat,r.cut+1*2 ^ (h:Int).toNat,0],rfl,?_⟩;rw [Int.one_mul,Int.one_mul,Int.one_mul];exact al2 ⟨cb.1,al2 ⟨cb.2.1,al2 ⟨cb.2.2.1,al2 ⟨cb.2.2.2.1,al2 ⟨cb.2.2.2.2.1,al2 ⟨cb.2.2.2.2.2,fun _ m=>absurd m List.not_mem_nil⟩⟩⟩⟩⟩⟩
 rw [<- ecs] at elm;have cln:cs.length=6:=by rw [<- length_map (f:=V.int),ecs];rfl
 clear ecs;refine ⟨lm,rfl,⟨_,SqL.of elm⟩,Bs (xs:=cs.map V.int) (fun i σ' J=>∃(v10:Option V) (rs:List Rq),σ'=[some (.ref r.t),some (.int (h:Int)),some (.int far),some (.int r.x),some (.int r.y),some (.int r.s),some (.ref r.w),some (.int r.cut),some (.ref D),v9,v10]/\Acc D J5 J (HB H h L r) rs/\rs.length=14+i) ⟨none,rs4,rfl,acM,rn4⟩ (fun i σ' J _ hq_=>by obtain ⟨_,_,_,a,_⟩:=hq_;exact SqL.of (a.at lmD elm)) ?_ ?_⟩
 ·rintro i x σ' J hx ⟨v10,rs,rfl,ac,rn⟩;obtain ⟨c,hc,rfl⟩:=int_at hx;have il:=(List.getElem?_eq_some_iff.mp hc).1;symm;refine ⟨.inl ⟨rfl,_,SqL.of ac.d⟩,?_⟩;symm
  exists 5,t,n,J,(.tup [V.int r.x,V.int r.y,V.int r.s,V.ref r.w,V.int c]),J1,sj,et,rfl
  have ac:=ac.step sj;refine ⟨D,_,_,rfl,rfl,ac.d,(by rw [Cw,rn];exact AU (by ext)),?_⟩;exact ⟨_,_,rfl,ac.push (r:=⟨t,r.w,r.x,r.y,r.s,r.ws,c⟩) ⟨et,ac.at wD gw5⟩ wD ⟨wl',RW (gcs c (mem_of_getElem? hc)),.inl rfl⟩,by rw [length_append,rn];rfl⟩
 rintro σ' J6 ⟨v10,rs5,rfl,ac6,rn6⟩;rw [length_map,cln] at rn6;symm;exact q D rs5 J6 hDH (ac6.same (ac5.same (zD.trans uD) hDH) hDH) ac6.d (fun q m=>⟨(ac6.g q m).1,(ac6.g q m).2.2⟩) (by ext) (by ext)
theorem Fz (T:Tx K mg base ad):AZ P w K mg base CX0 1 ad.f_law_bad_lists ad.d_law_bad_lists ["_law_steps","_law_at"] Hl:=by
 refine T.F_law_bad_lists.ok BQ (fun vs H Q E h=>?_) (fun cdv A outer s H vs Q E hr h=>?_)
 ·obtain ⟨l,rs,k,rfl,_⟩:=h;rfl
 obtain ⟨l,rs,k,rfl,hl,lk,n2,n150,nd,q⟩:=h;refine ⟨_,((@An _ _ (2) _ _ _ _ BQ.nd rfl (Or.inl rfl) (AL<&>((AG<&>((pv 1)<|>Ae))<|>(@Au _ _ _ _ _ _ _ _ _ Az (by rfl) T.z_len PySem.boot_len ((pv 0)*>Ab) (by decide) (by decide) (by rfl) (by rfl)))) (by rfl) (by nofun))>>((@An _ _ (3) _ _ _ _ BQ.nd rfl (Or.inl rfl) (@BO _ _ _ _ _ _ _ _ _ BK (by rfl) T.z_list PyProof.Rows.boot_list ((pv 0)*>Ab) (by decide) (by decide) (by rfl) (by rfl)) (by rfl) (by nofun))>>((Cn (@Ao _ _ _ _ _ _ _ Ax (pv 0) (pv 2) (fun _ _=>rfl)) (Em (pv 3) (pv 1) CF))>>((Cn (@Ao _ _ _ _ _ _ _ Ax (pv 0) (pv 1) (fun _ _=>rfl)) (Em (pv 3) (pv 2) CF))>>((@An _ _ (4) _ _ _ _ BQ.nd rfl (Or.inl rfl) (@Av _ _ _ _ ((AW<&>((AD AQ (pv 0) AN (AO (pv 1)))<|>(AD AQ (pv 0) (AO (AG<&>((pv 1)<|>Ae))) AN)))*>((AW<&>((AW<&>((AD AQ (pv 0) AN (AO (pv 1)))<|>(@Av _ _ _ _ ((@Ao _ _ _ _ _ _ _ Ax (pv 0) (pv 1) (fun _ _=>rfl))*>Ab))))<|>(AD AQ (pv 0) (AO (pv 1)) AN)))*>((pv 3)*>((@Av _ _ _ _ Ab)*>Ab))))) (by rfl) (by nofun))>>(@Ah _ _ _ (@As _ _ _ _ (AW<&>((pv 4)<|>(@Av _ _ _ _ ((AW<&>((AW<&>((AD AQ (pv 0) AN (AO (pv 1)))<|>(@Av _ _ _ _ ((@Ao _ _ _ _ _ _ _ Ax (pv 0) (BF<&>((pv 1)<|>Ae)) (fun _ _=>rfl))*>Ab))))<|>(AD AQ (pv 0) (AO (AG<&>((pv 1)<|>Ae))) AN)))*>Ab))))))))))),?_⟩;have vl:=Cw rs;have tk:C1 (vrq rs) none (some (k:Int))=vrq (rs.take k):=EW.trans (map_take ..).symm;have dk:C1 (vrq rs) (some (k:Int)) none=vrq (rs.drop k):=Ch.trans (map_drop ..).symm;have dk1:C1 (vrq rs) (some ((k:Int)+1)) none=vrq (rs.drop (k+1)):=(Ch (j:=k+1)).trans (map_drop ..).symm;have va:∀a b:List Rq,vrq a++vrq b=vrq (a++b):=fun a b=>(map_append ..).symm;have tl:(rs.take k).length=k:=by rw [length_take];ext
 obtain ⟨r,hr⟩:∃r,rs[k]?=some r:=⟨_,List.getElem?_eq_getElem lk⟩;have hk:(vrq rs)[k]?=some (.ref r.t):=by unfold vrq;rw [List.getElem?_map,hr];rfl
 symm;refine ⟨(by show ((vrq rs).length:Int)≠0;ext),?_⟩;rw [vl];have mj:=Bg ((k:Int)+1) (show (0:Int) < (rs.length:Int) by ext);obtain ⟨j,ej⟩:∃j:Nat,((k:Int)+1).fmod (rs.length:Int)=(j:Int):=⟨(((k:Int)+1).fmod (rs.length:Int)).toNat,by ext⟩
 have jk:j≠k:=by
  rw [Int.fmod_eq_emod_of_nonneg _ (by ext)] at ej;by_cases c:k+1=rs.length
  ·rw [show (k:Int)+1=(rs.length:Int) by ext,Int.emod_self] at ej;ext
  ·rw [Int.emod_eq_of_lt (by ext) (by ext)] at ej;ext
 rw [ej] at mj;dsimp only;rw [ej];have lj:j < rs.length:=by ext
 obtain ⟨r2,hr2⟩:∃r,rs[j]?=some r:=⟨_,List.getElem?_eq_getElem lj⟩;have hj:(vrq rs)[j]?=some (.ref r2.t):=by unfold vrq;rw [List.getElem?_map,hr2];rfl
 symm;intro sw hsw;have sS:∀o,Al H (upd H sw o):=fun o=>Ag hsw o;symm;refine ⟨l,_,_,_,rfl,rfl,SqL.of (sS _ _ _ hl),Bv hj,?_⟩;symm;refine ⟨sw,_,_,k,rfl,rfl,Ac,Df (by rw [vl];exact lk),?_⟩;rw [Bf,MN];symm;refine ⟨l,_,_,_,rfl,rfl,SqL.of (sS _ _ _ hl),Bv hk,?_⟩;symm;refine ⟨sw,_,_,j,rfl,rfl,Ac,Df (by rw [Cw,length_set];exact lj),?_⟩;rw [Bf,MN];have s1:=sS (.lst (vrq ((rs.set k r2).set j r)));have e1:(upd H sw (.lst (vrq ((rs.set k r2).set j r)))) sw=some (.lst (vrq ((rs.set k r2).set j r))):=Ac
 have bs:∀r'∈(rs.set k r2).set j r,r'∈rs:=fun r' m=>by
  rcases mem_or_eq_of_mem_set m with m | rfl
  ·rcases mem_or_eq_of_mem_set m with m | rfl
   ·exact m
   ·exact mem_of_getElem? hr2
  ·exact mem_of_getElem? hr
 have ls:((rs.set k r2).set j r).length=rs.length:=by rw [length_set,length_set]
 have ds:=PL nd hr hr2 (Ne.symm jk);generalize (rs.set k r2).set j r=ss at s1 e1 bs ls ds ⊢;generalize upd H sw (.lst (vrq ss))=H1 at s1 e1 ⊢;symm;refine ⟨l,_,rfl,SqL.of (s1 _ _ hl),fun a1 n1=>?_⟩;dsimp only;rw [tk]
 exists a1,n1,H1,(.lst (vrq (rs.take k))),H2,s2,ea1
 have s12:=s1.trans s2;symm;refine ⟨l,_,rfl,SqL.of (s12 _ _ hl),fun a2 n2'=>?_⟩;dsimp only;rw [dk1]
 exists a2,n2',H2,(.lst (vrq (rs.drop (k+1)))),H3,s3,ea2
 have s13:=s12.trans s3;refine ⟨a1,a2,_,_,rfl,rfl,s3 _ _ ea1,ea2,(by right),fun b1 m1=>?_⟩;rw [va]
 exists b1,m1,H3,(.lst (vrq (rs.take k++rs.drop (k+1)))),H4,s4,eb1
 have s14:=s13.trans s4;symm;refine ⟨l,_,rfl,SqL.of (s14 _ _ hl),fun a3 n3=>?_⟩;dsimp only;rw [tk]
 exists a3,n3,H4,(.lst (vrq (rs.take k))),H5,s5,ea3
 have s15:=s14.trans s5;symm;refine ⟨l,_,_,_,rfl,rfl,SqL.of (s15 _ _ hl),Bv hk,?_⟩;symm
 exists 1,a4,n4,H5,(.lst [V.ref r.t]),H6,s6,ea4,rfl
 have s16:=s15.trans s6;refine ⟨a3,a4,vrq (rs.take k),vrq [r],rfl,rfl,s6 _ _ ea3,ea4,(by right),fun a5 n5=>?_⟩;rw [va]
 exists a5,n5,H6,(.lst (vrq (rs.take k++[r]))),H7,s7,ea5
 have s17:=s16.trans s7;symm;refine ⟨l,_,rfl,SqL.of (s17 _ _ hl),fun a6 n6=>?_⟩;dsimp only;rw [dk]
 exists a6,n6,H7,(.lst (vrq (rs.drop k))),H8,s8,ea6
 have s18:=s17.trans s8;refine ⟨a5,a6,_,_,rfl,rfl,s8 _ _ ea5,ea6,(by right),fun b2 m2=>?_⟩;rw [va]
 exists b2,m2,H8,(.lst (vrq (rs.take k++[r]++rs.drop k))),H9,s9,eb2
 symm
 exists 0,b3,m3,H9,(.lst []),H10,s10,eb3,rfl
 symm
 exists 4,c1,m4,H10,(.lst [V.ref b1,V.ref b2,V.ref sw,V.ref b3]),H11,s11,ec1,rfl
 have s19:=(s18.trans s9).trans (s10.trans s11);symm;refine ⟨l,_,rfl,SqL.of (s19 _ _ hl),fun a7 n7=>?_⟩;dsimp only;rw [tk]
 exists a7,n7,H11,(.lst (vrq (rs.take k))),H12,t1,ea7
 have s1a:=s19.trans t1
 obtain ⟨i,r3,hi3,ik,at3⟩:∃(i:Nat) (r3:Rq),rs[i]?=some r3/\k≠i/\atI (vrq rs) ((k:Int) - 1)=some (.ref r3.t):=by
  cases k with
  | zero =>
    obtain ⟨ini,z,e⟩:∃ini z,rs=ini++[z]:=⟨rs.dropLast,rs.getLast (fun z=>by rw [z] at n2;exact absurd n2 (by decide)),(dropLast_concat_getLast _).symm⟩;have el:rs.length=ini.length+1:=by rw [e,length_append];rfl
    refine ⟨ini.length,z,by rw [e,List.getElem?_append_right (Nat.le_refl _),Nat.sub_self];rfl,by ext,?_⟩;rw [e,show vrq (ini++[z])=vrq ini++[.ref z.t] from by unfold vrq;rw [map_append];rfl];exact JX _ _
  | succ k =>
    have lk':k < rs.length:=by ext
    refine ⟨k,rs[k],List.getElem?_eq_getElem lk',by ext,?_⟩;rw [show ((k+1:Nat):Int) - 1=(k:Int) by ext];exact Bv (by unfold vrq;rw [List.getElem?_map,List.getElem?_eq_getElem lk'];rfl)
 symm;refine ⟨l,_,_,_,rfl,rfl,SqL.of (s1a _ _ hl),at3,?_⟩;symm
 exists 1,a8,n8,H12,(.lst [V.ref r3.t]),H13,t2,ea8,rfl
 have s1b:=s1a.trans t2;refine ⟨a7,a8,vrq (rs.take k),vrq [r3],rfl,rfl,t2 _ _ ea7,ea8,(by right),fun a9 n9=>?_⟩;rw [va]
 exists a9,n9,H13,(.lst (vrq (rs.take k++[r3]))),H14,t3,ea9
 have s1c:=s1b.trans t3;symm;refine ⟨l,_,rfl,SqL.of (s1c _ _ hl),fun d1 n10=>?_⟩;dsimp only;rw [dk1]
 exists d1,n10,H14,(.lst (vrq (rs.drop (k+1)))),H15,t4,ed1
 have s1d:=s1c.trans t4;refine ⟨a9,d1,_,_,rfl,rfl,t4 _ _ ea9,ed1,(by right),fun b4 m5=>?_⟩;rw [va]
 exists b4,m5,H15,(.lst (vrq (rs.take k++[r3]++rs.drop (k+1)))),H16,t5,eb4
 symm
 exists 1,c2,m6,H16,(.lst [V.ref b4]),H17,t6,ec2,rfl
 have t26:=t1.trans (t2.trans (t3.trans (t4.trans (t5.trans t6))));refine ⟨c1,c2,_,_,rfl,rfl,t26 _ _ ec1,ec2,(by show 5<=sizeLine;decide),fun c3 m7=>?_⟩
 exists c3,m7,H17,(.lst ([V.ref b1,V.ref b2,V.ref sw,V.ref b3]++[V.ref b4])),H18,t7,ec3
 have t17:=t26.trans t7;have u11:=s11.trans t17;have u9:=s10.trans u11;have u8:=s9.trans u9;have u4:=s5.trans (s6.trans (s7.trans (s8.trans u8)));have u1:=s2.trans (s3.trans (s4.trans u4));have z17:Al H H17:=s1d.trans (t5.trans t6);have tm:∀{r':Rq},r'∈rs.take k->r'∈rs:=fun m=>mem_of_mem_take m;have dm:∀{n:Nat} {r':Rq},r'∈rs.drop n->r'∈rs:=fun m=>mem_of_mem_drop m
 have tdm:∀{n:Nat} {z:Rq},z∈rs->∀r'∈rs.take k++[z]++rs.drop n,r'∈rs:=fun {n z} mz r' m=>by
  rcases mem_append.mp m with m | m
  ·rcases mem_append.mp m with m | m
   ·exact tm m
   ·rw [mem_singleton.mp m];exact mz
  ·exact dm m
 refine q c3 [(b1,rs.take k++rs.drop (k+1)),(b2,rs.take k++[r]++rs.drop k),(sw,ss),(b3,[]),(b4,rs.take k++[r3]++rs.drop (k+1))] H18 (none_of z17 m7) (z17.trans t7) ec3 ?_ (by show 5<=10;decide)
 refine al2 ⟨⟨u4 _ _ eb1,fun r' m=>?_,by show (rs.take k++rs.drop (k+1)).length<=300;rw [length_append,length_take,length_drop];ext,Rb lk⟩,al2 ⟨⟨u9 _ _ eb2,tdm (mem_of_getElem? hr),by show (rs.take k++[r]++rs.drop k).length<=300;rw [length_append,length_append,length_take,length_drop];show min k rs.length+1+_<=300;ext,PK lk⟩,al2 ⟨⟨u1 _ _ e1,bs,by show ss.length<=300;ext,ds⟩,
  al2 ⟨⟨u11 _ _ eb3,(fun _ m=>absurd m List.not_mem_nil),by show 0<=300;decide,BA (by rw [BL,BL];show 0≠_;ext)⟩,al2 ⟨⟨(t6.trans t7) _ _ eb4,tdm (mem_of_getElem? hi3),by show (rs.take k++[r3]++rs.drop (k+1)).length<=300;rw [length_append,length_append,length_take,length_drop];show min k rs.length+1+_<=300;ext,Os hr (QI nd hr hi3 ik)⟩,fun _ m=>absurd m List.not_mem_nil⟩⟩⟩⟩⟩
 rcases mem_append.mp m with m | m
 ·exact tm m
 ·exact dm m
theorem F1 (T:Tx K mg base ad):AZ P w K mg base CX0 1 ad.f_law_bad_overs ad.d_law_bad_overs ["_law_many","_law_cell_here"] Hm:=by
 refine T.F_law_bad_overs.ok Bk (fun vs H Q E h=>?_) (fun cdv A outer s H vs Q E hr h=>?_)
 ·obtain ⟨m,ms,h,G,c,rfl,_⟩:=h;rfl
 obtain ⟨m,ms,h,G,c,rfl,hm,tf,h1,h12,q⟩:=h;refine ⟨_,((@An _ _ (2) _ _ _ _ Bk.nd rfl (Or.inl rfl) (@Au _ _ _ _ _ _ _ _ _ Az (by rfl) T.z_len PySem.boot_len ((pv 0)*>Ab) (by decide) (by decide) (by rfl) (by rfl)) (by rfl) (by nofun))>>((@An _ _ (3) _ _ _ _ Bk.nd rfl (Or.inl rfl) (AL<&>((pv 1)<|>(pv 2))) (by rfl) (by nofun))>>((@An _ _ (4) _ _ _ _ Bk.nd rfl (Or.inl rfl) (AL<&>((Bm<&>((pv 1)<|>Ae))<|>(pv 2))) (by rfl) (by nofun))>>((DL (j:=5) (fsc:=Af CL) (N:=["_law_many","_law_cell_here","_law_hands","_law_x","_law_y","_law_bad","_law_longer","_law_shorter"]) (Nc:=["_law_many","_law_cell_here","_law_hands","_law_x","_law_y","_law_bad","_law_longer","_law_shorter","_law_row"]) rfl rfl (by nofun) rfl Bk.nd rfl rfl (A9 (pv 0)) (fun _ _ _ _=>AI) (fun _ _ _ _=>(@BO _ _ _ _ _ _ _ _ _ (HG K) (by rfl) T.z_list PyProof.Rows.boot_list ((pv 8)*>Ab) (by decide) (by decide) (by rfl) (by rfl))) rfl)>>((Cn (AG<&>((@Ao _ _ _ _ _ _ _ Ax (@Ao _ _ _ _ _ _ _ Ax (pv 5) (pv 3) (fun _ _=>rfl)) (pv 4) (fun _ _=>rfl))<|>Ae)) (Em (@Ao _ _ _ _ _ _ _ Ax (pv 5) (pv 3) (fun _ _=>rfl)) (pv 4) CF))>>((@An _ _ (6) _ _ _ _ Bk.nd rfl (Or.inl rfl) (AW<&>((AW<&>((AD AQ (pv 0) AN (AO (pv 3)))<|>(@Av _ _ _ _ ((AW<&>((@Ao _ _ _ _ _ _ _ Ax (pv 0) (pv 3) (fun _ _=>rfl))<|>(@Av _ _ _ _ (Ae*>Ab))))*>Ab))))<|>(AD AQ (pv 0) (AO (AG<&>((pv 3)<|>Ae))) AN))) (by rfl) (by nofun))>>((@An _ _ (7) _ _ _ _ Bk.nd rfl (Or.inl rfl) (AW<&>((AW<&>((AD AQ (pv 0) AN (AO (pv 3)))<|>(@Av _ _ _ _ ((AD AQ (@Ao _ _ _ _ _ _ _ Ax (pv 0) (pv 3) (fun _ _=>rfl)) AN (AO (@ID _ _ _ _ _ _ Hy Ae)))*>Ab))))<|>(AD AQ (pv 0) (AO (AG<&>((pv 3)<|>Ae))) AN))) (by rfl) (by nofun))>>(@Ah _ _ _ (@As _ _ _ _ (@Av _ _ _ _ ((pv 5)*>((pv 6)*>((pv 7)*>((AW<&>((AD AQ (pv 0) AN (AO (pv 3)))<|>(AD AQ (pv 0) (AO (AG<&>((pv 3)<|>Ae))) AN)))*>((AW<&>((pv 0)<|>(@Av _ _ _ _ ((@BO _ _ _ _ _ _ _ _ _ BK (by rfl) T.z_list PyProof.Rows.boot_list ((@Ao _ _ _ _ _ _ _ Ax (pv 0) (pv 3) (fun _ _=>rfl))*>Ab) (by decide) (by decide) (by rfl) (by rfl))*>Ab))))*>((@Av _ _ _ _ Ab)*>Ab)))))))))))))))),?_⟩;have ml:(ms.map V.ref).length=h:=by rw [length_map,tf.1]
 symm;rw [ml];refine ⟨(by show (h:Int)≠0;ext),?_⟩;have mx:=Bg c (show (0:Int) < (h:Int) by ext);dsimp only;obtain ⟨x,ex⟩:∃x:Nat,c.fmod (h:Int)=(x:Int):=⟨(c.fmod (h:Int)).toNat,by ext⟩;rw [ex] at mx ⊢;symm;refine ⟨(by show (h:Int)≠0;ext),?_⟩;have my:=Bg (c.fdiv 5) (show (0:Int) < (h:Int) by ext);dsimp only;obtain ⟨y,ey⟩:∃y:Nat,(c.fdiv 5).fmod (h:Int)=(y:Int):=⟨((c.fdiv 5).fmod (h:Int)).toNat,by ext⟩;rw [ey] at my ⊢;have hx:x < h:=by ext
 have hy:y < h:=by ext
 symm;refine ⟨⟨_,SqL.of hm⟩,?_⟩;refine AC (xs:=ms.map V.ref) (by rw [length_map,tf.1];exact A8 (by ext)) (fun D i ys J=>∃bs:List Addr,ys=bs.map V.ref/\bs.length=i/\bs.Nodup/\J D=some (.lst ys)/\Al H J/\D ∉ bs/\(∀a∈bs,H a=none)/\∀k b,bs[k]?=some b->J b=some (.lst (((List.range h).map fun y=>G k y).map V.int))) (fun D hD=>⟨[],rfl,rfl,nodup_nil,Ac,Ag hD _,(fun m=>nomatch m),(fun _ m=>absurd m List.not_mem_nil),(fun _ _ e=>by cases e)⟩) (fun D i ys J hq_=>by obtain ⟨bs,f1,f2,_,f3,_⟩:=hq_;exact ⟨f3,by rw [f1,length_map,f2];exact Nat.le_refl _⟩) (fun D i ys J hD hq_=>by obtain ⟨_,_,_,_,_,f5,_⟩:=hq_;exact SqL.of (f5 _ _ hm)) ?_ ?_
 ·rintro D i x ys J K1 K2 hD hx ⟨bs,rfl,f2,f3,f4,f5,f6,f7,f8⟩ k1 k2;rw [List.getElem?_map] at hx;obtain ⟨a,ha,rfl⟩:=Option.map_eq_some_iff.mp hx;refine yes (ifT rfl ?_);refine ⟨_,rfl,a,_,rfl,.inl (SqL.of (f5 _ _ (tf.2.2 i a ha))),fun D2 hD2=>?_⟩;have sD:=Ag hD2 (.lst (((List.range h).map fun y=>G i y).map V.int));have eD:(upd J D2 (.lst (((List.range h).map fun y=>G i y).map V.int))) D2=some (.lst (((List.range h).map fun y=>G i y).map V.int)):=Ac;have dd:D2≠D:=fun z=>by rw [z,f4] at hD2;cases hD2
  have na:D2 ∉ bs:=fun m=>by
   obtain ⟨k,hk⟩:=List.getElem?_of_mem m;rw [f8 k D2 hk] at hD2
   cases hD2
  have nD:D ∉ bs:=f6;have nD2:=none_of f5 hD2;generalize upd J D2 (.lst (((List.range h).map fun y=>G i y).map V.int))=J5 at sD eD ⊢;refine k1 _ _ (sD _ _ f4) ⟨bs++[D2],by rw [map_append];rfl,by rw [length_append,f2];rfl,nodup_append.mpr ⟨f3,by simp,fun a ma b mb e=>na (by rw [<- mem_singleton.mp mb,<- e];exact ma)⟩,Ac,Ay (f5.trans sD) hD,fun m=>?_,fun a m=>?_,fun k b e=>?_⟩
  ·rcases mem_append.mp m with m | m
   ·exact f6 m
   ·exact dd (mem_singleton.mp m).symm
  ·rcases mem_append.mp m with m | m
   ·exact f7 a m
   ·rw [mem_singleton.mp m];exact nD2
  ·by_cases c:k < bs.length
   ·rw [List.getElem?_append_left c] at e;rw [Aj (fun z=>f6 (by rw [<- z];exact mem_of_getElem? e))];exact sD _ _ (f8 k b e)
   ·rw [List.getElem?_append_right (by ext)] at e
    have ek:k=i:=by
     have:=(List.getElem?_eq_some_iff.mp e).1;rw [length_singleton] at this;ext
    rw [ek,f2,Nat.sub_self] at e
    cases Option.some.inj e
    rw [Aj dd,ek];exact eD
 rintro D ys H1 hD ⟨bs,rfl,f2,f3,f4,f5,f6,f7,f8⟩;rw [length_map,tf.1] at f2;have tbB:Bc H1 bs h G:=⟨f2,f3,f8⟩;obtain ⟨ax,r1,r2,r3,r4⟩:=tbB.row hx;clear f8;symm;refine ⟨D,_,_,_,rfl,rfl,SqL.of f4,r3,?_⟩;symm;refine ⟨ax,_,_,_,rfl,rfl,SqL.of r4,By (G x) hy,?_⟩;symm;refine ⟨D,_,_,_,rfl,rfl,SqL.of f4,r3,?_⟩;symm;refine ⟨ax,_,_,y,rfl,rfl,r4,Df (by rw [length_map,length_map,length_range];exact hy),?_⟩;have tB:=tbB.put (y:=y) r1 1;have s2:Al H (upd H1 ax (.lst ((((List.range h).map fun y=>G x y).map V.int).set y (.int (G x y+1))))):=Ay f5 (f7 ax r2);have eD:(upd H1 ax (.lst ((((List.range h).map fun y=>G x y).map V.int).set y (.int (G x y+1))))) D=some (.lst (bs.map V.ref)):=by rw [Aj (fun z=>f6 (by rw [z];exact r2))];exact f4
 generalize upd H1 ax (.lst ((((List.range h).map fun y=>G x y).map V.int).set y (.int (G x y+1))))=H2 at tB s2 eD ⊢
 have nB:BG h (EI G x y 1)≠BG h G:=fun e=>by
  have:=RJ e hx hy;unfold EI at this;rw [if_pos ⟨rfl,rfl⟩] at this;ext
 obtain ⟨b1,b2,b3⟩:=Hw tB;rw [<- b1] at eD;rw [<- b2] at nB;have b3:TbG H2 (Dc bs h (EI G x y 1)):=b3;generalize Dc bs h (EI G x y 1)=tb1 at eD nB b3;clear b1 b2 tB tbB f2 f3 f4 f6 f7 r1 r2 r3 r4;obtain ⟨v1,v2,v3⟩:=Hw tf;rw [<- v1] at hm;have v3:TbG H (Dc ms h G):=v3;have tn:(Dc ms h G).length=h:=by rw [<- length_map (f:=(·.2)),v2,En]
 rw [<- v2] at nB q
 have row_h:∀r∈Dc ms h G,r.2.length=h:=fun r m=>by
  have:r.2∈BG h G:=by rw [<- v2];exact mem_map.mpr ⟨r,m,rfl⟩
  unfold BG at this;obtain ⟨i,_,e⟩:=mem_map.mp this;rw [<- e,length_map,length_range]
 generalize Dc ms h G=tb at hm v3 tn nB q row_h;clear v1 v2;have vt:∀a b:Tb,vtb a++vtb b=vtb (a++b):=fun a b=>(map_append ..).symm;have vn:∀a:Tb,(vtb a).length=a.length:=fun a=>length_map ..;have tk:C1 (vtb tb) none (some (x:Int))=vtb (tb.take x):=EW.trans (map_take ..).symm;have dk1:C1 (vtb tb) (some ((x:Int)+1)) none=vtb (tb.drop (x+1)):=(Ch (j:=x+1)).trans (map_drop ..).symm;obtain ⟨r,hr⟩:∃r,tb[x]?=some r:=⟨_,List.getElem?_eq_getElem (by ext)⟩;have mr:=mem_of_getElem? hr;have rl:=row_h r mr;have hk:atI (vtb tb) (x:Int)=some (.ref r.1):=Bv (by unfold vtb;rw [List.getElem?_map,hr];rfl);symm;refine ⟨m,_,rfl,SqL.of (s2 _ _ hm),fun a1 n1=>?_⟩;dsimp only;rw [tk]
 exists a1,n1,H2,(.lst (vtb (tb.take x))),H3,s3,ea1
 have s23:=s2.trans s3;symm;refine ⟨m,_,_,_,rfl,rfl,SqL.of (s23 _ _ hm),hk,?_⟩;symm
 exists 1,z0,n2,H3,(.lst [V.int 0]),H4,s4,ez0,rfl
 have s24:=s23.trans s4;refine ⟨r.1,z0,_,_,rfl,rfl,s24 _ _ (v3 r mr),ez0,(by right),fun lg n3=>?_⟩;rw [show r.2.map V.int++[V.int 0]=(r.2++[0]).map V.int from by rw [map_append];rfl]
 exists lg,n3,H4,(.lst ((r.2++[0]).map V.int)),H5,s5,elg
 symm
 exists 1,a2,n4,H5,(.lst [V.ref lg]),H6,s6,ea2,rfl
 have s26:=(s24.trans s5).trans s6;refine ⟨a1,a2,vtb (tb.take x),vtb [(lg,r.2++[0])],rfl,rfl,(s4.trans (s5.trans s6)) _ _ ea1,ea2,(by right),fun a3 n5=>?_⟩;rw [vt]
 exists a3,n5,H6,(.lst (vtb (tb.take x++[(lg,r.2++[0])]))),H7,s7,ea3
 have s27:=s26.trans s7;symm;refine ⟨m,_,rfl,SqL.of (s27 _ _ hm),fun a4 n6=>?_⟩;dsimp only;rw [dk1]
 exists a4,n6,H7,(.lst (vtb (tb.drop (x+1)))),H8,s8,ea4
 have s28:=s27.trans s8;refine ⟨a3,a4,_,_,rfl,rfl,s8 _ _ ea3,ea4,(by right),fun c1 n7=>?_⟩;rw [vt]
 exists c1,n7,H8,(.lst (vtb (tb.take x++[(lg,r.2++[0])]++tb.drop (x+1)))),H9,s9,ec1
 have s29:=s28.trans s9;symm;refine ⟨m,_,rfl,SqL.of (s29 _ _ hm),fun e1 n8=>?_⟩;dsimp only;rw [tk]
 exists e1,n8,H9,(.lst (vtb (tb.take x))),H10,s10,ee1
 have s2a:=s29.trans s10;symm;refine ⟨m,_,_,_,rfl,rfl,SqL.of (s2a _ _ hm),hk,?_⟩;symm;refine ⟨r.1,_,rfl,SqL.of (s2a _ _ (v3 r mr)),fun sh n9=>?_⟩;rw [GE,length_map,<- map_take]
 exists sh,n9,H10,(.lst ((r.2.take (r.2.length - 1)).map V.int)),H11,s11,esh
 symm
 exists 1,e2,n10,H11,(.lst [V.ref sh]),H12,s12,ee2,rfl
 have s2b:=(s2a.trans s11).trans s12;refine ⟨e1,e2,vtb (tb.take x),vtb [(sh,r.2.take (r.2.length - 1))],rfl,rfl,(s11.trans s12) _ _ ee1,ee2,(by right),fun e3 n11=>?_⟩;rw [vt]
 exists e3,n11,H12,(.lst (vtb (tb.take x++[(sh,r.2.take (r.2.length - 1))]))),H13,s13,ee3
 have s2c:=s2b.trans s13;symm;refine ⟨m,_,rfl,SqL.of (s2c _ _ hm),fun e4 n12=>?_⟩;dsimp only;rw [dk1]
 exists e4,n12,H13,(.lst (vtb (tb.drop (x+1)))),H14,s14,ee4
 have s2d:=s2c.trans s14;refine ⟨e3,e4,_,_,rfl,rfl,s14 _ _ ee3,ee4,(by right),fun c2 n13=>?_⟩;rw [vt]
 exists c2,n13,H14,(.lst (vtb (tb.take x++[(sh,r.2.take (r.2.length - 1))]++tb.drop (x+1)))),H15,s15,ec2
 have s2e:=s2d.trans s15;symm;refine ⟨m,_,rfl,SqL.of (s2e _ _ hm),fun g1 n14=>?_⟩;dsimp only;rw [tk]
 exists g1,n14,H15,(.lst (vtb (tb.take x))),H16,s16,eg1
 have s2f:=s2e.trans s16;symm;refine ⟨m,_,rfl,SqL.of (s2f _ _ hm),fun g2 n15=>?_⟩;dsimp only;rw [dk1]
 exists g2,n15,H16,(.lst (vtb (tb.drop (x+1)))),H17,s17,eg2
 have s2g:=s2f.trans s17;refine ⟨g1,g2,_,_,rfl,rfl,s17 _ _ eg1,eg2,(by right),fun c3 n16=>?_⟩;rw [vt]
 exists c3,n16,H17,(.lst (vtb (tb.take x++tb.drop (x+1)))),H18,s18,ec3
 have s2h:=s2g.trans s18;symm;refine ⟨m,_,_,_,rfl,rfl,SqL.of (s2h _ _ hm),hk,?_⟩;have hr18:=s2h _ _ (v3 r mr);symm;intro cp n17
 exists cp,n17,H18,(.lst (r.2.map V.int)),H19,s19,ecp
 symm
 exists 1,k1,n18,H19,(.lst [V.ref cp]),H20,s20,ek1,rfl
 have s2i:=(s2h.trans s19).trans s20;refine ⟨m,k1,vtb tb,vtb [(cp,r.2)],rfl,rfl,s2i _ _ hm,ek1,(by right),fun c4 n19=>?_⟩;rw [vt]
 exists c4,n19,H20,(.lst (vtb (tb++[(cp,r.2)]))),H21,s21,ec4
 symm
 exists 0,c5,n20,H21,(.lst []),H22,s22,ec5,rfl
 symm
 exists 6,l9,n21,H22,(.lst [V.ref D,V.ref c1,V.ref c2,V.ref c3,V.ref c4,V.ref c5]),H23,t23,el9,rfl
 have z22:=(s2i.trans s21).trans s22;have zF:=z22.trans t23;have u21:=s22.trans t23;have u20:=s21.trans u21;have u19:=s20.trans u20;have u18:=s19.trans u19;have u15:=s16.trans (s17.trans (s18.trans u18));have u11:=s12.trans (s13.trans (s14.trans (s15.trans u15)));have u9:=s10.trans (s11.trans u11);have u5:=s6.trans (s7.trans (s8.trans (s9.trans u9)));have u2:=s3.trans (s4.trans (s5.trans u5));have vF:=v3.same zF;have sub1:TbG H23 (tb.take x):=vF.sub fun _ m=>mem_of_mem_take m;have sub2:TbG H23 (tb.drop (x+1)):=vF.sub fun _ m=>mem_of_mem_drop m;have one:∀{a:Addr} {zs:List Int},H23 a=some (.lst (zs.map V.int))->TbG H23 [(a,zs)]:=fun e r m=>by rw [mem_singleton.mp m];exact e
 symm;refine q l9 [(D,tb1),(c1,tb.take x++[(lg,r.2++[0])]++tb.drop (x+1)),(c2,tb.take x++[(sh,r.2.take (r.2.length - 1))]++tb.drop (x+1)),(c3,tb.take x++tb.drop (x+1)),(c4,tb++[(cp,r.2)]),(c5,[])] H23 (none_of z22 n21) zF el9 ?_ (by show 6<=10;decide)
 refine al2 ⟨⟨u2 _ _ eD,b3.same u2,nB⟩,al2 ⟨⟨u9 _ _ ec1,(sub1.app (one (u5 _ _ elg))).app sub2,Jd hr (BA (by rw [length_append];show _+1≠_;ext))⟩,al2 ⟨⟨u15 _ _ ec2,(sub1.app (one (u11 _ _ esh))).app sub2,Jd hr (BA (by rw [length_take];ext))⟩,
  al2 ⟨⟨u18 _ _ ec3,sub1.app sub2,FA (by rw [length_append,length_take,length_drop];ext)⟩,al2 ⟨⟨u21 _ _ ec4,vF.app (one (u19 _ _ ecp)),FA (by rw [length_append];show _+1≠_;ext)⟩,al2 ⟨⟨t23 _ _ ec5,(fun _ m=>absurd m List.not_mem_nil),FA (by show 0≠_;ext)⟩,fun _ m=>absurd m List.not_mem_nil⟩⟩⟩⟩⟩⟩
theorem F3 (T:Tx K mg base ad):AZ P w K mg base CX0 1 ad.f_law_bad_picks ad.d_law_bad_picks ["_law_picks","_law_hands","_law_cell_here"] Hn:=by
 refine T.F_law_bad_picks.ok DD (fun vs H Q E h=>?_) (fun cdv A outer s H vs Q E hr h=>?_)
 ·obtain ⟨l,ps,h,c,rfl,_⟩:=h;rfl
 obtain ⟨l,ps,h,c,rfl,hl,p1,p12,nd,pb,h1,h12,q⟩:=h;refine ⟨_,((@An _ _ (3) _ _ _ _ DD.nd rfl (Or.inl rfl) (@Av _ _ _ _ ((AD AQ (pv 0) AN (AO (@ID _ _ _ _ _ _ Hy Ae)))*>((AW<&>((pv 0)<|>(@Av _ _ _ _ ((AL<&>((pv 2)<|>(pv 1)))*>Ab))))*>((@Av _ _ _ _ Ab)*>Ab)))) (by rfl) (by nofun))>>((@OT _ _ _ _ _ _ _ _ (@A7 _ _ _ _ _ _ _ _ FO (@Au _ _ _ _ _ _ _ _ _ Az (by rfl) T.z_len PySem.boot_len ((pv 0)*>Ab) (by decide) (by decide) (by rfl) (by rfl)) Ae (AA _)) (@Ah _ _ _ (@Bx _ _ _ _ (Cy PySem.F.plainAttrs_list PySem.F.slot_list_append PySem.F.type_list_append Bn (pv 3) ((LM rfl (by rfl) T.z_list (by rfl) T.z_reversed (pv 0))*>Ab)) (by rfl))) Bb)>>((@Bx _ _ _ _ (Cy PySem.F.plainAttrs_list PySem.F.slot_list_append PySem.F.type_list_append Bn (pv 3) ((AW<&>((@Av _ _ _ _ ((AG<&>((BF<&>((BF<&>((pv 1)<|>Ae))<|>(@Ao _ _ _ _ _ _ _ Ax (pv 0) Ae (fun _ _=>rfl))))<|>(@BO _ _ _ _ _ _ _ _ _ Ie (by rfl) T.z_int PyProof.Rows.boot_int ((@CA _ _ _ _ _ _ _ _ FN (DI<&>(Ae<|>(@Ao _ _ _ _ _ _ _ Ax (pv 0) Ae (fun _ _=>rfl)))) (BF<&>((pv 1)<|>Ae)) (AA _))*>Ab) (by decide) (by decide) (by rfl) (by rfl))))*>Ab))<|>(AD AQ (pv 0) (AO Ae) AN)))*>Ab)) (by rfl))>>(@Ah _ _ _ (@As _ _ _ _ (pv 3)))))),?_⟩;have pl:(ps.map V.int).length=ps.length:=length_map ..;obtain ⟨p0,pr,ep⟩:∃p0 pr,ps=p0 :: pr:=exists_cons_of_ne_nil (fun z=>by rw [z] at p1;exact absurd p1 (by decide));have pb0:=pb p0 (by rw [ep];exact mem_cons_self ..);have at0:atI (ps.map V.int) 0=some (.int p0):=by rw [ep];exact Bv (j:=0) rfl
 have d1:C1 (ps.map V.int) (some 1) none=pr.map V.int:=by rw [show C1 (ps.map V.int) (some 1) none=(ps.map V.int).drop 1 from Ch (j:=1),ep];rfl
 have prl:pr.length+1=ps.length:=by rw [ep];rfl
 symm;refine ⟨l,_,rfl,SqL.of hl,fun l1 n1=>?_⟩;rw [GE,pl,<- map_take]
 exists l1,n1,H,(.lst ((ps.take (ps.length - 1)).map V.int)),H1,s1,e1
 symm;refine ⟨(by show (h:Int)≠0;ext),?_⟩;symm;dsimp only
 exists 1,l2a,n2a,H1,(.lst [V.int (c.fmod (h:Int))]),H2,s2,e2a,rfl
 refine ⟨l,l2a,_,_,rfl,rfl,(s1.trans s2) _ _ hl,e2a,(by right),fun l2 n2=>?_⟩;rw [show ps.map V.int++[V.int (c.fmod (h:Int))]=(ps++[c.fmod (h:Int)]).map V.int from by rw [map_append];rfl]
 exists l2,n2,H2,(.lst ((ps++[c.fmod (h:Int)]).map V.int)),H3,s3,e2
 symm
 exists 0,l3,n3,H3,(.lst []),H4,s4,e3,rfl
 symm
 exists 3,D,nD,H4,(.lst [V.ref l1,V.ref l2,V.ref l3]),H5,s5,eD,rfl
 have z04:=(s1.trans s2).trans (s3.trans s4);have z05:=z04.trans s5;have nDH:=none_of z04 nD;have dn:∀{b:Addr} {o:HO},H4 b=some o->b≠D:=fun e=>At e nD;have ac:AcI D H5 ps [(l1,ps.take (ps.length - 1)),(l2,ps++[c.fmod (h:Int)]),(l3,[])]:=⟨eD,al2 ⟨⟨(s2.trans (s3.trans (s4.trans s5))) _ _ e1,dn ((s2.trans (s3.trans s4)) _ _ e1),BA (by rw [length_take];ext)⟩,al2 ⟨⟨(s4.trans s5) _ _ e2,dn (s4 _ _ e2),BA (by rw [length_append];show _+1≠_;ext)⟩,al2 ⟨⟨s5 _ _ e3,dn e3,BA (by show 0≠_;ext)⟩,fun _ m=>absurd m List.not_mem_nil⟩⟩⟩⟩;have aln:([(l1,ps.take (ps.length - 1)),(l2,ps++[c.fmod (h:Int)]),(l3,[])]:List (Addr × List Int)).length=3:=rfl;generalize ([(l1,ps.take (ps.length - 1)),(l2,ps++[c.fmod (h:Int)]),(l3,[])]:List (Addr × List Int))=os0 at ac aln;clear e1 e2 e3 e2a eD dn;have hl5:=z05 _ _ hl;symm;refine ⟨fun σ' J=>∃os:List (Addr × List Int),σ'=[some (.ref l),some (.int (h:Int)),some (.int c),some (.ref D)]/\Al H J/\AcI D J ps os/\os.length<=4,?_,?_⟩
 ·symm;rw [pl];by_cases c1:1 < ps.length
  ·refine ifT (decide_eq_true (by ext)) ?_;symm;refine ⟨.inl ⟨rfl,_,SqL.of ac.d⟩,?_⟩;symm;refine ⟨l,_,rfl,SqL.of hl5,fun l4 n4=>?_⟩;rw [<- map_reverse]
   exists l4,n4,H5,(.lst (ps.reverse.map V.int)),H6,s6,e4
   have ac6:=ac.step s6;have l4D:l4≠D:=fun e=>At ac.d n4 e.symm;refine ⟨D,_,_,rfl,rfl,ac6.d,(by rw [length_map,aln];exact AU (by decide)),?_⟩;exact ⟨_,rfl,Ay (z05.trans s6) nDH,ac6.push (o:=(l4,ps.reverse)) e4 l4D (R8 nd c1),by rw [length_append,aln];show 3+1<=4;decide⟩
  ·refine ifF (decide_eq_false (by ext)) ?_;exact ⟨os0,rfl,z05,ac,by ext⟩
 rintro σ' J ⟨os,rfl,sJ,aJ,on⟩;have hlJ:=sJ _ _ hl;symm;refine ⟨.inl ⟨rfl,_,SqL.of aJ.d⟩,?_⟩;symm;refine ⟨l,_,_,_,rfl,rfl,SqL.of hlJ,at0,?_⟩;have szp:Sz 64 p0:=Fo (by ext) (by ext);symm;refine ⟨l,_,_,_,rfl,rfl,SqL.of hlJ,at0,?_⟩;symm;refine .inr ⟨_,rfl,?_⟩;symm;dsimp only
 obtain ⟨z,ez,zn⟩:∃z,(h:Int) - 1 - p0+(if decide (V.int (2*p0)=V.int ((h:Int) - 1))=true then 1 else 0)=z/\z≠p0:=by
  by_cases c2:2*p0=(h:Int) - 1
  ·rw [Nn c2,if_pos rfl];exact ⟨_,rfl,by ext⟩
  ·rw [Nm c2,if_neg (by decide)];exact ⟨_,rfl,by ext⟩
 rw [ez]
 exists 1,l5a,n5a,J,(.lst [V.int z]),J1,t1,e5a,rfl
 symm;refine ⟨l,_,rfl,SqL.of (t1 _ _ hlJ),fun l5b n5b=>?_⟩;rw [d1]
 exists l5b,n5b,J1,(.lst (pr.map V.int)),J2,t2,e5b
 refine ⟨l5a,l5b,_,_,rfl,rfl,t2 _ _ e5a,e5b,(by right),fun l5 n5=>?_⟩;rw [show [V.int z]++pr.map V.int=(z :: pr).map V.int from rfl]
 exists l5,n5,J2,(.lst ((z :: pr).map V.int)),J3,t3,e5
 have t13:=t1.trans (t2.trans t3);have a3:=aJ.step t13;have l5D:l5≠D:=fun e=>At ((t1.trans t2) _ _ aJ.d) n5 e.symm;refine ⟨D,_,_,rfl,rfl,a3.d,(by rw [length_map];exact AU (by ext)),?_⟩;have a4:=a3.push (o:=(l5,z :: pr)) e5 l5D (by rw [ep];exact fun e=>zn (List.cons.inj e).1);symm;exact q D _ _ nDH (Ay (sJ.trans t13) nDH) a4.d (fun o m=>⟨(a4.g o m).1,(a4.g o m).2.2⟩) (by rw [length_append];show _+1<=10;ext)
theorem DU (T:Tx K mg base ad):AZ P w K mg base CX0 1 ad.f_Checker_init ad.d_Checker_init ["self","way"] (Ld K):=by
 refine T.F_Checker_init.ok Gn (fun vs H Q E h=>?_) (fun cdv A outer s H vs Q E hr h=>?_)
 ·obtain ⟨k,C,dk,x,rfl,_⟩:=h;rfl
 obtain ⟨k,C,dk,x,rfl,hk,cl,na,q⟩:=h;refine ⟨_,(@Ah _ _ _ (JA (pv 0) (pv 1) rfl)),?_⟩;refine ⟨_,rfl,_,rfl,k,C,dk,[],rfl,hk,cl,na,(by simp only [length_nil];decide),?_⟩;rw [R6];exact q _ (Dh (Eg H k)) Ac
theorem D6 (T:Tx K mg base ad):AZ P w K mg base CX0 1 ad.f_Pairs_told_by ad.d_Pairs_told_by ["self","paper"] (MJ ad.c_Pairs):=by
 refine T.F_Pairs_told_by.ok F7 (fun vs H Q E h=>?_) (fun cdv A outer s H vs Q E hr h=>?_)
 ·obtain ⟨a,p,h,s,ns,ls,F,rfl,_⟩:=h;rfl
 obtain ⟨a,p,h,s,ns,ls,F,rfl,md,pp,q⟩:=h;refine ⟨_,(@Ah _ _ _ (@As _ _ _ _ (Be (fsc:=Af CK) (N:=["self","paper"]) (Nc:=["self","paper","hand"]) rfl rfl (by nofun) rfl (AM rfl T.z_range ((DK (pv 0) rfl)*>Ab)) (fun _ _ _ _=>AI) (fun _ _ _ _=>(KA (@A7 _ _ _ _ _ _ _ _ (LL K) (pv 2) (@Ao _ _ _ _ _ _ _ (Gr K) (pv 1) Ae (fun _ _=>rfl)) (by with_unfolding_all rfl)) Ae Ae))))),?_⟩;obtain ⟨dx,la,k1,k2⟩:=id md.is;obtain ⟨m,sh,pk,p1,p7⟩:=pp;have h12:=md.h12;symm;refine ⟨a,_,dx,_,_,rfl,k1,T.cl_Pairs,T.na_Pairs_hands,rfl,?_⟩;refine ⟨_,rfl,by ext,by ext,?_⟩;rw [Int.toNat_natCast];refine AY (A8 (by ext)) (fun D i ys J=>ys=((List.range i).map fun j:Nat=>if (j:Int)∈Ak F s ns then (1:Int) else 0).map V.int/\J=upd H D (.lst ys)) (fun D hD=>⟨rfl,rfl⟩) (fun D i ys J hq_=>by obtain ⟨g1,g2⟩:=hq_;exact ⟨by rw [g2];exact Ac,by rw [g1,length_map,length_map,length_range];exact Nat.le_refl _⟩) ?_ ?_
 ·rintro D i ys J K1 K2 hD hi ⟨g1,rfl⟩ kk1 kk2;have e0:(0:Int)+(i:Int)=(i:Int):=Int.zero_add _;have s1:=Ag hD (.lst ys);rw [e0];refine yes (ifT rfl ?_);have p1':=s1 _ _ p1;have p7':=s1 _ _ p7;symm;refine ⟨NY _,?_⟩;by_cases c:(i:Int)∈Ak F s ns
  ·rw [Rj c];refine ⟨_,rfl,?_⟩;refine ifT rfl ?_;refine kk1 _ _ Ac ⟨?_,by rw [Bf]⟩;rw [range_succ,map_append,map_append,g1];simp [c]
  ·rw [Si c];refine ⟨_,rfl,?_⟩;refine ifF rfl ?_;refine kk1 _ _ Ac ⟨?_,by rw [Bf]⟩;rw [range_succ,map_append,map_append,g1];simp [c]
 rintro D ys H1 hD ⟨rfl,rfl⟩;exact q D _ hD (Ag hD _) Ac
theorem K7 (T:Tx K mg base ad):AZ P w K mg base CX0 2 ad.f_overs ad.d_overs ["sheet","hands"] IQ:=by
 refine T.F_overs.ok Ca (fun vs H Q E h=>?_) (fun cdv A outer s H vs Q E hr h=>?_)
 ·obtain ⟨l,ls,h,rfl,_⟩:=h;rfl
 obtain ⟨l,ls,h,rfl,hl,g0,l60,h1,h12,q⟩:=h;refine ⟨_,((DL (j:=2) (fsc:=Af Gu) (N:=["sheet","hands","many","slip","number","behind","tier","others","x","y"]) (Nc:=["sheet","hands","many","slip","number","behind","tier","others",".s8","y","x"]) rfl rfl (by nofun) rfl Ca.nd rfl rfl (AM rfl T.z_range ((pv 1)*>Ab)) (fun _ _ _ _=>AI) (fun _ _ _ _=>(by exact (GU (fsc:=Af Gu) (Nc:=["sheet","hands","many","slip","number","behind","tier","others",".s8","y","x"]) (Nd:=["sheet","hands","many","slip","number","behind","tier","others",".s8",".s9","x","y"]) rfl (by nofun) rfl (AM rfl T.z_range ((pv 1)*>Ab)) (fun _ _ _ _=>AI) (fun _ _ _ _=>Ae)))) rfl)>>((Bu PassesOwn.never rfl (A9 (pv 0)) (Ds rfl (A6 (Ar (i:=3) Ca.nd rfl (Or.inl rfl)) (A6 (Ar (i:=4) Ca.nd rfl (Or.inl rfl)) Cl))) ((@An _ _ (5) _ _ _ _ Ca.nd rfl (Or.inl rfl) (@Am _ _ _ _ _ _ _ _ _ _ _ _ _ _ _ _ (IB T) (hr.mono (by decide)) rfl T.m_all_of T.F_all_of.kp T.b_all_of .nil Aw ((pv 1)*>Ab) (by decide) (by rfl) (by rfl)) (by rfl) (by nofun))>>(@Ah _ _ _ (Bu PassesOwn.never rfl (R4 (pv 3)) (Ar (i:=6) Ca.nd rfl (Or.inl rfl)) ((@An _ _ (5) _ _ _ _ Ca.nd rfl (Or.inl rfl) (LJ<&>((pv 5)<|>(@ID _ _ _ _ _ _ RK (pv 6)))) (by rfl) (by nofun))>>((@An _ _ (7) _ _ _ _ Ca.nd rfl (Or.inl rfl) (@Am _ _ _ _ _ _ _ _ _ _ _ _ _ _ _ _ (EE T) (hr.mono (by decide)) rfl T.m_members T.F_members.kp T.b_members .nil Aw ((pv 5)*>Ab) (by decide) (by rfl) (by rfl)) (by rfl) (by nofun))>>(@Ah _ _ _ (Bu PassesOwn.never rfl (A9 (@Am _ _ _ _ _ _ _ _ _ _ _ _ _ _ _ _ (EE T) (hr.mono (by decide)) rfl T.m_members T.F_members.kp T.b_members .nil Aw ((pv 6)*>Ab) (by decide) (by rfl) (by rfl))) (Ar (i:=8) Ca.nd rfl (Or.inl rfl)) (@Ah _ _ _ (Bu PassesOwn.never rfl (A9 (pv 7)) (Ar (i:=9) Ca.nd rfl (Or.inl rfl)) (@Ah _ _ _ (Cn (AG<&>((@Ao _ _ _ _ _ _ _ Ax (@Ao _ _ _ _ _ _ _ Ax (pv 2) (pv 8) (fun _ _=>rfl)) (pv 9) (fun _ _=>rfl))<|>(pv 4))) (Em (@Ao _ _ _ _ _ _ _ Ax (pv 2) (pv 8) (fun _ _=>rfl)) (pv 9) CF)))))))))))))>>(@Ah _ _ _ (@As _ _ _ _ (pv 2))))),?_⟩;symm;refine ⟨by ext,by ext,?_⟩;rw [Int.toNat_natCast];refine AY (A8 (by ext)) (fun D i ys J=>∃as:List Addr,ys=as.map V.ref/\as.length=i/\as.Nodup/\J D=some (.lst ys)/\Al H J/\D ∉ as/\∀a∈as,H a=none/\J a=some (.lst (((List.range h).map fun _=>(0:Int)).map V.int))) (fun D hD=>⟨[],rfl,rfl,nodup_nil,Ac,Ag hD _,(fun m=>nomatch m),fun _ m=>absurd m List.not_mem_nil⟩) (fun D i ys J hq_=>by obtain ⟨as,f1,f2,_,f3,_⟩:=hq_;exact ⟨f3,by rw [f1,length_map,f2];exact Nat.le_refl _⟩) ?_ ?_
 ·rintro D i ys J K1 K2 hD hi ⟨as,rfl,f2,f3,f4,f5,f6,f7⟩ k1 k2;refine yes (ifT rfl ?_);refine ⟨_,rfl,(h:Int),rfl,by ext,by ext,?_⟩;rw [Int.toNat_natCast];refine AY (A8 (by ext)) (fun D2 j ys J2=>ys=((List.range j).map fun _=>(0:Int)).map V.int/\J2=upd J D2 (.lst ys)) (fun D2 hD2=>⟨rfl,rfl⟩) (fun D2 j ys J2 hq_=>by obtain ⟨g1,g2⟩:=hq_;exact ⟨by rw [g2];exact Ac,by rw [g1,length_map,length_map,length_range];exact Nat.le_refl _⟩) ?_ ?_
  ·rintro D2 j ys J2 L1 L2 hD2 hj ⟨g1,rfl⟩ l1 l2;refine yes (ifT rfl ?_);refine l1 _ _ Ac ⟨?_,by rw [Bf]⟩;rw [g1,range_succ,map_append,map_append];rfl
  rintro D2 ys J2 hD2 ⟨rfl,rfl⟩;have sD:=Ag hD2 (.lst (((List.range h).map fun _=>(0:Int)).map V.int));have eD:(upd J D2 (.lst (((List.range h).map fun _=>(0:Int)).map V.int))) D2=some (.lst (((List.range h).map fun _=>(0:Int)).map V.int)):=Ac;have dd:D2≠D:=fun z=>by rw [z,f4] at hD2;cases hD2
  have na:D2 ∉ as:=fun m=>by rw [(f7 D2 m).2] at hD2;cases hD2
  generalize upd J D2 (.lst (((List.range h).map fun _=>(0:Int)).map V.int))=J5 at sD eD ⊢;refine k1 _ _ (sD _ _ f4) ⟨as++[D2],by rw [map_append];rfl,by rw [length_append,f2];rfl,nodup_append.mpr ⟨f3,by simp,fun a ma b mb e=>na (by rw [<- mem_singleton.mp mb,<- e];exact ma)⟩,Ac,Ay (f5.trans sD) hD,fun m=>?_,fun a m=>?_⟩
  ·rcases mem_append.mp m with m | m
   ·exact f6 m
   ·exact dd (mem_singleton.mp m).symm
  ·rcases mem_append.mp m with m | m
   ·exact ⟨(f7 a m).1,by rw [Aj (fun z=>f6 (by rw [<- z];exact m))];exact sD _ _ (f7 a m).2⟩
   ·rw [mem_singleton.mp m];exact ⟨none_of f5 hD2,by rw [Aj dd];exact eD⟩
 rintro D ys H1 hD ⟨as,rfl,f2,f3,f4,f5,f6,f7⟩;have tb0:Bc H1 as h (fun _ _=>0):=⟨f2,f3,fun x a ha=>(f7 a (mem_of_getElem? ha)).2⟩;have nw:∀a∈as,H a=none:=fun a m=>(f7 a m).1;have out:∀{b:Addr} {o:HO},H b=some o->b ∉ as:=fun {b o} e m=>by rw [nw b m] at e;cases e
 clear f7 f3 f2;subst_eqs;refine ⟨_,rfl,l,rfl,⟨_,SqL.of (f5 _ _ hl)⟩,Bs (xs:=vls ls) (fun i σ' H'=>∃v3 v4 v5 v6 v7 v8 v9:Option V,σ'=[some (.ref l),some (.int (h:Int)),some (.ref D),v3,v4,v5,v6,v7,v8,v9]/\BI as H1 H'/\Bc H' as h (fun x y=>BU (Cz x y) (dsL (ls.take i)))) ⟨none,none,none,none,none,none,none,rfl,BI.of (fun _ _ e=>e),tb0⟩ (fun i σ' H' _ hq_=>by obtain ⟨_,_,_,_,_,_,_,_,k,_⟩:=hq_;exact SqL.of (k.same f5 nw _ _ hl)) ?_ ?_⟩
 ·rintro i w σ' H' hw ⟨v3,v4,v5,v6,v7,v8,v9,rfl,k1,tb⟩;obtain ⟨f,hf,rfl,fm,et⟩:=QD hw;obtain ⟨g1,g2,g3⟩:=g0 f fm;have kH:=k1.same f5 nw;refine ⟨f.1,_,rfl,SqT.of (kH _ _ g1),rfl,_,_,rfl,_,_,rfl,rfl,?_⟩;symm;refine ⟨by ext,by ext,?_⟩;rw [Int.toNat_natCast,Ft];symm;obtain ⟨ts,ets⟩:∃ts,ts=f.2.2.1:=⟨_,rfl⟩;obtain ⟨n,en⟩:∃n,n=f.2.2.2:=⟨_,rfl⟩;obtain ⟨F0,eF0⟩:∃F0:Nat->Nat->Int,F0=fun x y=>BU (Cz x y) (dsL (ls.take i)):=⟨_,rfl⟩;rw [<- ets] at g2 g3;rw [<- eF0] at tb;rw [<- en];refine ⟨⟨_,SqT.of (kH _ _ g2)⟩,PP (xs:=ts.map V.int) (fun j σ' H2=>∃v6 v7 v8 v9:Option V,σ'=[some (.ref l),some (.int (h:Int)),some (.ref D),some (.ref f.2.1),some (.int n),some (.int (AR h (stT (ts.take j)).1)),v6,v7,v8,v9]/\BI as H1 H2/\Bc H2 as h (fun x y=>F0 x y+n*(stT (ts.take j)).2 x y)) ⟨_,_,_,_,rfl,k1,tb.congr fun x y _ _=>(by show F0 x y=F0 x y+n*0;rw [Int.mul_zero,Int.add_zero])⟩ (fun j σ' H2 _ hq_=>by obtain ⟨_,_,_,_,_,k,_⟩:=hq_;exact SqT.of (k.same f5 nw _ _ g2)) ?_ ?_⟩
  ·rintro j u σ' H2 hu ⟨v6,v7,v8,v9,rfl,k2,tb2⟩;obtain ⟨t,ht,rfl⟩:=int_at hu;have ej:ts.take (j+1)=ts.take j++[t]:=by rw [take_add_one,ht];rfl
   have es:=Po (ts.take j) t;rw [<- ej] at es
   have eb:Builtin.bitAnd (AR h (stT (ts.take j)).1) (Builtin.bitNot t)=AR h (stT (ts.take (j+1))).1:=by
    rw [JW,es];exact Bi h fun i _=>by rw [PF];rfl
   symm;have mb:=Ip h12 (stT (ts.take (j+1))).1;rw [<- eb] at mb;refine ⟨mb.1,mb.2,fun po Ho hpo so eo=>?_⟩;rw [eb] at eo;symm;obtain ⟨gt,egt⟩:=L0 h12 g3 (mem_of_getElem? ht);have mt:=Ip h12 gt;rw [<- egt] at mt;refine ⟨mt.1,mt.2,fun px Hx hpx sx ex=>?_⟩;have tbx:=tb2.same (so.trans sx);have npo:po ∉ as:=tb2.not hpo;have npx:px ∉ as:=(tb2.same so).not hpx;have kx:=(k2.trans (BI.of so)).trans (BI.of sx);have eo':=sx _ _ eo
   have memx:∀{z:Int},z∈hands 12 (bit t)↔∃i:Nat,i < h/\bit t i=true/\z=(i:Int):=fun {z}=>by
    rw [egt,GG h12];refine ⟨fun ⟨i,a,b,e⟩=>⟨i,a,by rw [BZ,decide_eq_true a,b];rfl,e⟩,fun ⟨i,a,b,e⟩=>⟨i,a,?_,e⟩⟩;rw [BZ,decide_eq_true a] at b;exact b
   have memy:∀{z:Int},z∈hands 12 (bit (AR h (stT (ts.take (j+1))).1))↔∃i:Nat,i < h/\(stT (ts.take (j+1))).1 i=true/\z=(i:Int):=fun {z}=>GG h12 _;have ndx:=FE 12 (bit t);have ndy:=FE 12 (bit (AR h (stT (ts.take (j+1))).1));generalize exs:hands 12 (bit t)=xs at ex memx ndx;generalize eys:hands 12 (bit (AR h (stT (ts.take (j+1))).1))=ys at eo' memy ndy;clear eo;refine ⟨px,rfl,⟨_,SqL.of ex⟩,Bs (xs:=xs.map V.int) (fun k σ' H3=>∃(v8 v9:Option V) (G:Nat->Nat->Int),σ'=[some (.ref l),some (.int (h:Int)),some (.ref D),some (.ref f.2.1),some (.int n),some (.int (Builtin.bitAnd (AR h (stT (ts.take j)).1) (Builtin.bitNot t))),some (.int t),some (.ref po),v8,v9]/\BI as Hx H3/\Bc H3 as h G/\∀x' y':Nat,G x' y'=F0 x' y'+n*(stT (ts.take j)).2 x' y'+if (x':Int)∈xs.take k/\(y':Int)∈ys then n else 0) ⟨_,_,_,rfl,BI.of (fun _ _ e=>e),tbx,fun x' y'=>(by rw [if_neg (fun z=>nomatch z.1)];exact (Int.add_zero _).symm)⟩ (fun k σ' H3 _ hq_=>by obtain ⟨_,_,_,_,kk,_⟩:=hq_;exact SqL.of (kk _ _ npx ex)) ?_ ?_⟩
   ·rintro k u σ' H3 hu ⟨v8,v9,G,rfl,k3,tb3,eG⟩;obtain ⟨zx,hzx,rfl⟩:=int_at hu;obtain ⟨x,hx,bx,rfl⟩:=memx.mp (mem_of_getElem? hzx);obtain ⟨ekx,nkx⟩:=JL ndx hzx;symm;refine ⟨⟨_,SqL.of (k3 _ _ npo eo')⟩,Bs (xs:=ys.map V.int) (fun m σ' H4=>∃(v9:Option V) (G':Nat->Nat->Int),σ'=[some (.ref l),some (.int (h:Int)),some (.ref D),some (.ref f.2.1),some (.int n),some (.int (Builtin.bitAnd (AR h (stT (ts.take j)).1) (Builtin.bitNot t))),some (.int t),some (.ref po),some (.int (x:Int)),v9]/\BI as Hx H4/\Bc H4 as h G'/\∀x' y':Nat,G' x' y'=G x' y'+if x'=x/\(y':Int)∈ys.take m then n else 0) ⟨_,_,rfl,k3,tb3,fun x' y'=>(by rw [if_neg (fun z=>nomatch z.2)];exact (Int.add_zero _).symm)⟩ (fun m σ' H4 _ hq_=>by obtain ⟨_,_,_,kk,_⟩:=hq_;exact SqL.of (kk _ _ npo eo')) ?_ ?_⟩
    ·rintro m u σ' H4 hu ⟨v9,G',rfl,k4,tb4,eG'⟩;obtain ⟨zy,hzy,rfl⟩:=int_at hu;obtain ⟨y,hy,_,rfl⟩:=memy.mp (mem_of_getElem? hzy);obtain ⟨eky,nky⟩:=JL ndy hzy;obtain ⟨a,r1,r2,r3,r4⟩:=tb4.row hx;have eD:=k4 _ _ f6 (kx _ _ f6 f4);refine ⟨_,rfl,_,rfl,D,_,_,_,rfl,rfl,SqL.of eD,r3,?_⟩;refine ⟨_,rfl,a,_,_,_,rfl,rfl,SqL.of r4,By (G' x) hy,?_⟩;symm;refine ⟨D,_,_,_,rfl,rfl,SqL.of eD,r3,?_⟩;refine ⟨_,rfl,a,_,_,y,rfl,rfl,r4,Df (by rw [length_map,length_map,length_range];exact hy),?_⟩;refine ⟨_,EI G' x y n,rfl,k4.put r2,tb4.put r1 n,fun x' y'=>?_⟩;unfold EI;rw [eG',eky];refine Mt n _ ?_ ?_
     ·rw [Ku];exact ⟨fun ⟨a,b⟩=>b.elim (fun c=>.inl ⟨a,c⟩) fun c=>.inr ⟨a,c⟩,fun z=>z.elim (fun c=>⟨c.1,.inl c.2⟩) fun c=>⟨c.1,.inr c.2⟩⟩
     ·exact fun z=>nky (by rw [<- z.2.2];exact z.1.2)
    ·rintro σ' H4 ⟨v9,G',rfl,k4,tb4,eG'⟩;rw [length_map,take_of_length_le (Nat.le_refl _)] at eG';refine ⟨_,_,_,rfl,k4,tb4,fun x' y'=>?_⟩;rw [eG',eG,ekx];refine Mt n _ ?_ ?_
     ·rw [Ku];exact ⟨fun ⟨a,b⟩=>a.elim (fun c=>.inl ⟨c,b⟩) fun c=>.inr ⟨c,b⟩,fun z=>z.elim (fun c=>⟨.inl c.1,c.2⟩) fun c=>⟨.inr c.1,c.2⟩⟩
     ·exact fun z=>nkx (by rw [<- z.2.1];exact z.1.1)
   ·rintro σ' H3 ⟨v8,v9,G,rfl,k3,tb3,eG⟩;rw [length_map,take_of_length_le (Nat.le_refl _)] at eG;refine ⟨_,_,_,_,by rw [eb],kx.trans k3,tb3.congr fun x y hx hy=>?_⟩;rw [eG,es];show _=F0 x y+n*((stT (ts.take j)).2 x y+if (bit t x && ((stT (ts.take j)).1 y && !bit t y))=true then 1 else 0);rw [Int.mul_add,<- Int.add_assoc];have e2:(stT (ts.take (j+1))).1 y=((stT (ts.take j)).1 y && !bit t y):=by rw [es];rfl
    have e1:((x:Int)∈xs/\(y:Int)∈ys)↔(bit t x && ((stT (ts.take j)).1 y && !bit t y))=true:=by
     rw [<- e2,Bool.and_eq_true,memx,memy];exact ⟨fun ⟨⟨i,_,b,e⟩,⟨k,_,c,e'⟩⟩=>⟨by rw [Int.ofNat.inj e];exact b,by rw [Int.ofNat.inj e'];exact c⟩,fun ⟨a,b⟩=>⟨⟨x,hx,a,rfl⟩,⟨y,hy,b,rfl⟩⟩⟩
    by_cases c:(bit t x && ((stT (ts.take j)).1 y && !bit t y))=true
    ·rw [if_pos c,if_pos (e1.mpr c),Int.mul_one]
    ·rw [if_neg c,if_neg (fun z=>c (e1.mp z)),Int.mul_zero]
  ·rintro σ' H2 ⟨v6,v7,v8,v9,rfl,k2,tb2⟩;rw [length_map,take_of_length_le (Nat.le_refl _)] at tb2;refine ⟨_,_,_,_,_,_,_,rfl,k2,tb2.congr fun x y hx hy=>?_⟩;rw [et,NQ,<- ets,<- en,eF0,MT g3 hx hy]
 ·rintro σ' H' ⟨v3,v4,v5,v6,v7,v8,v9,rfl,k1,tb⟩;rw [MM,take_of_length_le (Nat.le_refl _)] at tb;subst_eqs;exact ⟨_,rfl,q D as H' hD (k1.same f5 nw) f6 nw (k1 _ _ f6 f4) tb⟩
theorem FL (T:Tx K mg base ad):AZ P w K mg base CX0 2 ad.f_leads_of ad.d_leads_of ["many"] Hr:=by
 refine T.F_leads_of.ok FZ (fun vs H Q E h=>?_) (fun cdv A outer s H vs Q E hr h=>?_)
 ·obtain ⟨a,as,h,F,rfl,_⟩:=h;rfl
 obtain ⟨a,as,h,F,rfl,ha,g,h12,q⟩:=h;refine ⟨_,((@An _ _ (1) _ _ _ _ FZ.nd rfl (Or.inr rfl) (@Am _ _ _ _ _ _ _ _ _ _ _ _ _ _ _ _ (Ei T) (hr.mono (by decide)) rfl T.m_hands_of T.F_hands_of.kp T.b_hands_of .nil Aw ((pv 0)*>Ab) (by decide) (by rfl) (by rfl)) (by rfl) (by nofun))>>(@Ah _ _ _ (@As _ _ _ _ (Fj (fsc:=Af DN) (N:=["many","hands"]) (Nc:=["many","hands","x"]) rfl rfl (by nofun) rfl (A9 (pv 1)) (fun _ _ _ _=>AI) (fun _ _ _ _=>(by exact (E2 (fsc:=Af DN) (Nc:=["many","hands","x"]) (Nd:=["many","hands","x","y"]) rfl (by nofun) rfl (GV K (pv 1)) (fun _ _ _ _=>AI) (fun _ _ _ _=>(BF<&>((@Ao _ _ _ _ _ _ _ (AJ K) (@Ao _ _ _ _ _ _ _ (AJ K) (pv 0) (pv 2) (fun _ _=>rfl)) (pv 3) (fun _ _=>rfl))<|>(@Ao _ _ _ _ _ _ _ (AJ K) (@Ao _ _ _ _ _ _ _ (AJ K) (pv 0) (pv 3) (fun _ _=>rfl)) (pv 2) (fun _ _=>rfl)))))))))))),?_⟩;symm;refine ⟨a,Ll as h F,h,rfl,(by rw [g.vtb];exact ha),g.good.1,h12,fun l H1 hl s1 e1=>?_⟩;symm;have ul:=BC h;refine ⟨⟨_,SqL.of e1⟩,?_⟩;refine AC (xs:=(ups h).map V.int) (by rw [length_map,ul];exact A8 (by ext)) (fun D i ys J=>∃bs:List Addr,ys=bs.map V.ref/\bs.length=i/\bs.Nodup/\J D=some (.lst ys)/\Al H1 J/\D ∉ bs/\(∀c∈bs,H1 c=none)/\∀k b,bs[k]?=some b->J b=some (.lst (((List.range h).map fun y=>F k y - F y k).map V.int))) (fun D hD=>⟨[],rfl,rfl,nodup_nil,Ac,Ag hD _,(fun m=>nomatch m),(fun _ m=>absurd m List.not_mem_nil),fun k r e=>by cases e⟩) (fun D i ys J hq_=>by obtain ⟨u,f1,f2,_,f3,_⟩:=hq_;exact ⟨f3,by rw [f1,length_map,f2];exact Nat.le_refl _⟩) (fun D i ys J hD hq_=>by obtain ⟨_,_,_,_,_,f4,_⟩:=hq_;exact SqL.of (f4 _ _ e1)) ?_ ?_
 ·rintro D i x ys J K1 K2 hD hx ⟨bs,rfl,f2,f3,f4,f5,f6,f7,f8⟩ k1 k2;obtain ⟨z,hz,rfl⟩:=int_at hx;obtain ⟨rfl,hi⟩:=JP hz;refine yes (ifT rfl ?_);have gJ:=(g.same s1).same f5;refine ⟨_,rfl,l,rfl,⟨_,SqL.of (f5 _ _ e1)⟩,?_⟩;refine AC (xs:=(ups h).map V.int) (by rw [length_map,ul];exact A8 (by ext)) (fun D2 j ys J2=>ys=((List.range j).map fun y=>F i y - F y i).map V.int/\J2=upd J D2 (.lst ys)) (fun D2 hD2=>⟨rfl,rfl⟩) (fun D2 j ys J2 hq_=>by obtain ⟨f1,f2⟩:=hq_;exact ⟨by rw [f2];exact Ac,by rw [f1,length_map,length_map,length_range];exact Nat.le_refl _⟩) (fun D2 j ys J2 hD2 hq_=>by obtain ⟨_,f2⟩:=hq_;rw [f2];exact SqL.of (Ag hD2 _ _ _ (f5 _ _ e1))) ?_ ?_
  ·rintro D2 j y ys J2 L1 L2 hD2 hy ⟨e,rfl⟩ l1 l2;obtain ⟨w,hw,rfl⟩:=int_at hy;obtain ⟨rfl,hj⟩:=JP hw;refine yes (ifT rfl ?_);have sD:=Ag hD2 (.lst ys);have aJ:=sD _ _ ((s1.trans f5) _ _ ha);obtain ⟨ri,_,_,a1,a2⟩:=(gJ.same sD).row hi;obtain ⟨rj,_,_,b1,b2⟩:=(gJ.same sD).row hj;refine ⟨_,rfl,_,rfl,a,_,_,_,rfl,rfl,SqL.of aJ,a1,?_⟩;refine ⟨_,rfl,ri,_,_,_,rfl,rfl,SqL.of a2,By (F i) hj,?_⟩;refine ⟨_,rfl,_,rfl,a,_,_,_,rfl,rfl,SqL.of aJ,b1,?_⟩;refine ⟨_,rfl,rj,_,_,_,rfl,rfl,SqL.of b2,By (F j) hi,?_⟩;symm;refine l1 _ _ Ac ⟨?_,by rw [Bf]⟩;rw [e,range_succ,map_append,map_append];rfl
  rintro D2 ys H5 hD2 ⟨rfl,rfl⟩;rw [length_map,ul];have sD:=Ag hD2 (.lst (((List.range h).map fun y=>F i y - F y i).map V.int));have eD:(upd J D2 (.lst (((List.range h).map fun y=>F i y - F y i).map V.int))) D2=some (.lst (((List.range h).map fun y=>F i y - F y i).map V.int)):=Ac;have dd:D2≠D:=fun z=>by rw [z,f4] at hD2;cases hD2
  have na:D2 ∉ bs:=fun m=>by
   obtain ⟨k,hk⟩:=List.getElem?_of_mem m;rw [f8 k D2 hk] at hD2
   cases hD2
  have nD2:=none_of f5 hD2;generalize upd J D2 (.lst (((List.range h).map fun y=>F i y - F y i).map V.int))=J5 at sD eD ⊢;refine k1 _ _ (sD _ _ f4) ⟨bs++[D2],by rw [map_append];rfl,by rw [length_append,f2];rfl,nodup_append.mpr ⟨f3,by simp,fun a ma b mb e=>na (by rw [<- mem_singleton.mp mb,<- e];exact ma)⟩,Ac,Ay (f5.trans sD) hD,fun m=>?_,fun c m=>?_,fun k b e=>?_⟩
  ·rcases mem_append.mp m with m | m
   ·exact f6 m
   ·exact dd (mem_singleton.mp m).symm
  ·rcases mem_append.mp m with m | m
   ·exact f7 c m
   ·rw [mem_singleton.mp m];exact nD2
  ·by_cases c:k < bs.length
   ·rw [List.getElem?_append_left c] at e;rw [Aj (fun z=>f6 (by rw [<- z];exact mem_of_getElem? e))];exact sD _ _ (f8 k b e)
   ·rw [List.getElem?_append_right (by ext)] at e
    have ek:k=i:=by
     have:=(List.getElem?_eq_some_iff.mp e).1;rw [length_singleton] at this;ext
    rw [ek,f2,Nat.sub_self] at e
    cases Option.some.inj e
    rw [Aj dd,ek];exact eD
 rintro D ys H2 hD ⟨bs,rfl,f2,f3,f4,f5,f6,f7,f8⟩;rw [length_map,ul] at f2;exact q D bs H2 (none_of s1 hD) f6 (fun c m=>none_of s1 (f7 c m)) (s1.trans f5) f4 ⟨f2,f3,f8⟩
theorem Gj (T:Tx K mg base ad):AZ P w K mg base CX0 2 ad.f_reached_from ad.d_reached_from ["leads","x"] (IT ad.lP):=by
 refine T.F_reached_from.okC Bp (fun vs H Q E h=>?_) (fun cdv hcd A outer s H vs Q E hr h=>?_)
 ·obtain ⟨a,as,h,x,L,rfl,_⟩:=h;rfl
 obtain ⟨a,as,h,x,L,rfl,ha,tb,hx,h12,lt,q⟩:=h;refine ⟨_,((@An _ _ (2) _ _ _ _ Bp.nd rfl (Or.inr rfl) (@BO _ _ _ _ _ _ _ _ _ BK (by rfl) T.z_list PyProof.Rows.boot_list ((@Ao _ _ _ _ _ _ _ Ax (pv 0) (pv 1) (fun _ _=>rfl))*>Ab) (by decide) (by decide) (by rfl) (by rfl)) (by rfl) (by nofun))>>((DL (j:=3) (fsc:=Af B8) (N:=["leads","x","best","before","left","through","hand","link"]) (Nc:=["leads","x","best","before","left","through",".s6","link","hand"]) rfl rfl (by nofun) rfl Bp.nd rfl rfl (A9 (pv 0)) (fun _ _ _ _=>AI) (fun _ _ _ _=>(pv 1)) rfl)>>((DL (j:=4) (fsc:=Af B8) (N:=["leads","x","best","before","left","through","hand","link"]) (Nc:=["leads","x","best","before","left","through",".s6","link","hand"]) rfl rfl (by nofun) rfl Bp.nd rfl rfl (A9 (@Am _ _ _ _ _ _ _ _ _ _ _ _ _ _ _ _ (Ei T) (hr.mono (by decide)) rfl T.m_hands_of T.F_hands_of.kp T.b_hands_of .nil Aw ((pv 0)*>Ab) (by decide) (by rfl) (by rfl))) (fun _ _ _ _=>(Cm (@A7 _ _ _ _ _ _ _ _ IC (pv 8) (pv 1) (AA _)))) (fun _ _ _ _=>(pv 8)) rfl)>>((Fl PassesOwn.never (@A7 _ _ _ _ _ _ _ _ (GS (K:=K) hr.units) (pv 4) (@Av _ _ _ _ Ab) (AA _)) ((@An _ _ (5) _ _ _ _ Bp.nd rfl (Or.inl rfl) (ND (fsc:=Af B8) (N:=["leads","x","best","before","left","through","hand","link"]) (Nc:=["leads","x","best","before","left","through",".s6","link","hand"]) (x:="hand") rfl T.lam (hcd.symm.trans T.lcode) (hr.mono (by decide)) rfl T.z_max rfl rfl (by nofun) rfl rfl (pv 4) (fun _ _ _ _ _=>(@Ao _ _ _ _ _ _ _ (AJ K) (pv 2) (pv 8) (fun _ _=>rfl)))) (by rfl) (by nofun))>>((@Bx _ _ _ _ (Cy PySem.F.plainAttrs_list PySem.F.slot_list_remove PySem.F.type_list_remove Iw (pv 4) ((pv 5)*>Ab)) (by rfl))>>(@Ah _ _ _ (Bu PassesOwn.never rfl (A9 (pv 4)) (Ar (i:=6) Bp.nd rfl (Or.inl rfl)) ((@An _ _ (7) _ _ _ _ Bp.nd rfl (Or.inl rfl) (@Au _ _ _ _ _ _ _ _ _ (Ig rfl) (by rfl) T.z_min PyProof.Rows.boot_min ((@Ao _ _ _ _ _ _ _ Ax (pv 2) (pv 5) (fun _ _=>rfl))*>((@Ao _ _ _ _ _ _ _ Ax (@Ao _ _ _ _ _ _ _ Ax (pv 0) (pv 5) (fun _ _=>rfl)) (pv 6) (fun _ _=>rfl))*>Ab)) (by decide) (by decide) (by rfl) (by rfl)) (by rfl) (by nofun))>>(@Ah _ _ _ (@BV _ _ _ _ _ _ _ _ (@A7 _ _ _ _ _ _ _ _ FO (pv 7) (@Ao _ _ _ _ _ _ _ Ax (pv 2) (pv 6) (fun _ _=>rfl)) (AA _)) ((Cn (pv 7) (Em (pv 2) (pv 6) CF))>>(@Ah _ _ _ (Cn (pv 5) (Em (pv 3) (pv 6) CF)))) Bb))))))))>>(@Ah _ _ _ (@As _ _ _ _ (@AX _ _ _ _ _ ((pv 2)*>((pv 3)*>Ab))))))))),?_⟩;obtain ⟨ax,_,_,x3,x4⟩:=tb.row hx;refine ⟨_,rfl,_,rfl,a,_,_,_,rfl,rfl,SqL.of ha,x3,?_⟩;refine ⟨ax,_,rfl,.inl (SqL.of x4),fun b hb=>?_⟩;obtain ⟨be0,ebe⟩:∃be0,be0=(List.range h).map fun y=>L x y:=⟨_,rfl⟩;rw [<- ebe]
 exists b,hb,H,(.lst (be0.map V.int)),H1,s1,e1
 symm;refine ⟨⟨_,SqL.of (s1 _ _ ha)⟩,?_⟩;refine AC (xs:=as.map V.ref) (by rw [length_map,tb.1];exact A8 (by ext)) (fun D i ys J=>ys=(List.replicate i (x:Int)).map V.int/\J=upd H1 D (.lst ys)) (fun D hD=>⟨rfl,rfl⟩) (fun D i ys J hq_=>by obtain ⟨f1,f2⟩:=hq_;exact ⟨by rw [f2];exact Ac,by rw [f1,length_map,length_replicate];exact Nat.le_refl _⟩) (fun D i ys J hD hq_=>by obtain ⟨_,f2⟩:=hq_;rw [f2];exact SqL.of (Ag hD _ _ _ (s1 _ _ ha))) ?_ ?_
 ·rintro D i y ys J K1 K2 hD hy ⟨f1,rfl⟩ k1 k2;refine yes (ifT rfl ?_);refine ⟨_,rfl,?_⟩;refine k1 _ _ Ac ⟨?_,by rw [Bf]⟩;rw [f1,replicate_succ',map_append];rfl
 rintro f ys H2 hf ⟨rfl,rfl⟩;rw [length_map,tb.1];have fb:f≠b:=fun z=>by rw [z,e1] at hf;cases hf
 have hfH:=none_of s1 hf;have s2:=s1.trans (Ag hf (.lst ((List.replicate h (x:Int)).map V.int)));have e2:(upd H1 f (.lst ((List.replicate h (x:Int)).map V.int))) f=some (.lst ((List.replicate h (x:Int)).map V.int)):=Ac;have b2:=Ag hf (.lst ((List.replicate h (x:Int)).map V.int)) _ _ e1;generalize upd H1 f (.lst ((List.replicate h (x:Int)).map V.int))=H2 at s2 e2 b2 ⊢;symm;have tb2:=tb.same s2;refine ⟨a,Ll as h L,h,rfl,(by rw [tb2.vtb];exact s2 _ _ ha),tb2.good.1,h12,fun l0 H3 hl0 s3 e3=>?_⟩;have b3:=s3 _ _ b2;have f3:=s3 _ _ e2;have s3:=s2.trans s3;symm;refine ⟨⟨_,SqL.of e3⟩,?_⟩;refine AC (xs:=(ups h).map V.int) (by rw [length_map,BC];exact A8 (by ext)) (fun D i ys J=>ys=(CP i x).map V.int/\J=upd H3 D (.lst ys)) (fun D hD=>⟨rfl,rfl⟩) (fun D i ys J hq_=>by obtain ⟨g1,g2⟩:=hq_;exact ⟨by rw [g2];exact Ac,by rw [g1,length_map];unfold CP;rw [length_map];exact Nat.le_trans (length_filter_le _ _) (by rw [length_range];exact Nat.le_refl _)⟩) (fun D i ys J hD hq_=>by obtain ⟨_,g2⟩:=hq_;rw [g2];exact SqL.of (Ag hD _ _ _ e3)) ?_ ?_
 ·rintro D i y ys J K1 K2 hD hy ⟨g1,rfl⟩ k1 k2;obtain ⟨z,hz,rfl⟩:=int_at hy;obtain ⟨rfl,hi⟩:=JP hz;symm;by_cases c:i=x
  ·refine ifF (N3 (by rw [c])) ?_;exact k2 _ ⟨by rw [g1,Ey,if_pos c,append_nil],rfl⟩
  ·refine ifT (N4 fun e=>c (Int.ofNat.inj e)) ?_;refine ⟨_,rfl,?_⟩;exact k1 _ _ Ac ⟨by rw [g1,Ey,if_neg c,map_append];rfl,by rw [Bf]⟩
 rintro l ys H4 hl ⟨rfl,rfl⟩;rw [length_map,BC];have lb:l≠b:=fun z=>by rw [z,b3] at hl;cases hl
 have lf:l≠f:=fun z=>by rw [z,f3] at hl;cases hl
 have hlH:=none_of s3 hl;have sn:=Ag hl (.lst ((CP h x).map V.int));have e4:(upd H3 l (.lst ((CP h x).map V.int))) l=some (.lst ((CP h x).map V.int)):=Ac;have b4:=sn _ _ b3;have f4:=sn _ _ f3;have s4:=s3.trans sn;generalize upd H3 l (.lst ((CP h x).map V.int))=H4 at s4 e4 b4 f4 ⊢;have bl:=Id hx
 refine ⟨fun m σ' H'=>∃(v5 v6 v7:Option V) (be bf left:List Int) (rk:Nat->Nat),σ'=[some (V.ref a),some (.int (x:Int)),some (.ref b),some (.ref f),some (.ref l),v5,v6,v7]/\Sm H H'/\(CI ad.lP h H->Al H H')/\LT ad.lP H'/\(left.length+1=h\/L1 ad.lP H')/\H' b=some (.lst (be.map V.int))/\H' f=some (.lst (bf.map V.int))/\H' l=some (.lst (left.map V.int))/\Dij h x L be bf left rk/\left.length=m,
  ⟨_,none,none,none,be0,List.replicate h (x:Int),CP h x,fun _=>0,rfl,Sm.of s4,(fun _=>s4),lt.same s4,.inl bl,b4,f4,e4,(by rw [ebe];exact Dij.start hx L),rfl⟩,?_⟩
 rintro m σ' H' ⟨v5,v6,v7,be,bf,left,rk,rfl,sm,sq,lt',l1,eb,ef,el,dj,lm⟩;refine ⟨_,rfl,(by show 0<=sizeLine;decide),fun z3 hz3=>?_⟩
 exists z3,hz3,H',(.lst []),H5,sz,ez,(.lst (([]:List Int).map V.int))
 have eb:=sz _ _ eb;have ef:=sz _ _ ef;have el:=sz _ _ el;have sm:=sm.trans (Sm.of sz);have sq:CI ad.lP h H->Al H H5:=fun z=>(sq z).trans sz;have lt':=lt'.same sz;have l1:left.length+1=h\/L1 ad.lP H5:=l1.imp id fun z=>z.same sz;refine ⟨.list (left.map .int),.list (([]:List Int).map .int),.lst (SqL.of el) (.ints _),.lst (SqL.of ez) (.ints []),(Bq _).2,(Bq _).2,?_⟩;rw [show PyData.eqv (.list (left.map .int)) (.list (([]:List Int).map .int))=decide (left=[]) from CD _ _];refine ⟨_,rfl,?_⟩;by_cases cl:left=[]
 ·refine ifF (by rw [decide_eq_true cl];rfl) ?_;subst cl;symm;refine ⟨(by show 2<=sizeLine;decide),fun t ht=>?_⟩;have st:=Ag ht (.tup [V.ref b,V.ref f]);have l1':h=1\/L1 ad.lP H5:=l1.imp (fun z=>by rw [length_nil] at z;ext) id;exact q t b f be bf _ (sm.trans (Sm.of st)) (fun z=>(sq z).trans st) (CI.same ⟨lt',l1'⟩ st) (sm.gone t ht) hb hfH (Ne.symm fb) Ac (st _ _ eb) (st _ _ ef) dj.done
 ·refine ifT (by rw [decide_eq_false cl];rfl) ?_;have pl:0 < left.length:=length_pos_iff.mpr cl;refine ⟨fun σ' H'=>∃(v5 v6 v7:Option V) (be bf left:List Int) (rk:Nat->Nat),σ'=[some (V.ref a),some (.int (x:Int)),some (.ref b),some (.ref f),some (.ref l),v5,v6,v7]/\Sm H H'/\(CI ad.lP h H->Al H H')/\LT ad.lP H'/\(left.length+1=h\/L1 ad.lP H')/\H' b=some (.lst (be.map V.int))/\H' f=some (.lst (bf.map V.int))/\H' l=some (.lst (left.map V.int))/\Dij h x L be bf left rk/\left.length=m - 1,fun σ' H' e=>⟨m - 1,by ext,e⟩,?_⟩;symm;refine ⟨l,left.map V.int,fun i=>be.getD (left.getD i 0).toNat 0,rfl,by rw [length_map];exact pl,lt',fun H6 q1 q2 q3 q4=>?_⟩;have s56:=RB lt' q2 q4;have eb:=s56.lst eb;have ef:=s56.lst ef;have el:=s56.lst el;have sm:=sm.trans s56
  have lsub:∀{i:Nat} {z:Int},left[i]?=some z->∃y:Nat,z=(y:Int)/\y < h/\y≠x/\left.getD i 0=(y:Int):=fun {i z} e=>by
   obtain ⟨y,a1,a2,a3⟩:=dj.sub z (mem_of_getElem? e);exact ⟨y,a3,a1,a2,by rw [getD_eq_getElem?_getD,e];exact a3⟩
  have sq:CI ad.lP h H->Al H H6:=fun z=>by
   have l1':L1 ad.lP H5:=by
    rcases (CI.same z (sq z)).2 with c | c
    ·have:=dj.sub _ (mem_of_getElem? (List.getElem?_eq_getElem pl));obtain ⟨y,a1,a2,_⟩:=this;ext
    ·exact c
   rw [<- q3 l1'];exact sq z
  clear q2 q3 q4 s56;refine ⟨SqL.of el,fun i w hw=>?_,fun i w hw bst=>?_⟩
  ·obtain ⟨z,hz,rfl⟩:=int_at hw;obtain ⟨y,rfl,hy,_,ey⟩:=lsub hz;refine ⟨_,rfl,_,rfl,b,_,_,_,rfl,rfl,SqL.of eb,atG (by rw [dj.lenb];exact hy),?_⟩;refine ⟨?_,rfl⟩;show V.int (be.getD y 0)=V.int (be.getD (left.getD i 0).toNat 0);rw [ey];rfl
  obtain ⟨z,hz,rfl⟩:=int_at hw;obtain ⟨t,rfl,hth,htx,et⟩:=lsub hz;have tm:=mem_of_getElem? hz
  have best:∀y:Nat,(y:Int)∈left->be.getD y 0<=be.getD t 0:=fun y my=>by
   obtain ⟨j,hj⟩:=List.getElem?_of_mem my;have jl:=(List.getElem?_eq_some_iff.mp hj).1;have:=(bst j (by rw [length_map];exact jl)).1;dsimp only at this;rw [et,getD_eq_getElem?_getD (l:=left),hj] at this;exact this
  clear bst;symm;refine ⟨.inl ⟨rfl,_,SqL.of el⟩,?_⟩;symm;refine ⟨l,left,(t:Int),rfl,rfl,el,tm,?_⟩;rw [<- Fs];have lme:(left.erase (t:Int)).length=left.length - 1:=length_erase_of_mem tm;obtain ⟨lf2,elf⟩:∃lf2,lf2=left.erase (t:Int):=⟨_,rfl⟩;rw [<- elf]
  have sub2:∀z∈lf2,∃y:Nat,y < h/\z=(y:Int):=fun z m=>by
   rw [elf] at m;obtain ⟨y,a1,_,a3⟩:=dj.sub z (mem_of_mem_erase m);exact ⟨y,a1,a3⟩
  have nd2:lf2.Nodup:=by rw [elf];exact dj.nd.erase _
  have nt2:(t:Int) ∉ lf2:=fun m=>by rw [elf] at m;exact (dj.nd.mem_erase_iff.mp m).1 rfl
  rw [<- elf] at lme;have k1:∀{c:Addr} {xs:List V},H6 c=some (.lst xs)->c≠l->(upd H6 l (.lst (lf2.map V.int))) c=some (.lst xs):=fun e n=>by rw [Aj n];exact e
  have el':(upd H6 l (.lst (lf2.map V.int))) l=some (.lst (lf2.map V.int)):=Ac;have eb':=k1 eb (Ne.symm lb);have ef':=k1 ef (Ne.symm lf);have sm':=sm.put (o:=.lst (lf2.map V.int)) hlH;have sq':CI ad.lP h H->Al H (upd H6 l (.lst (lf2.map V.int))):=fun z=>Ay (sq z) hlH;have l1':L1 ad.lP (upd H6 l (.lst (lf2.map V.int))):=E4.put q1 el;generalize upd H6 l (.lst (lf2.map V.int))=H7 at el' eb' ef' sm' sq' l1' ⊢;clear k1;symm;refine ⟨⟨_,SqL.of el'⟩,Bs (xs:=lf2.map V.int) (fun k σ' H'=>∃(v6 v7:Option V) (be' bf':List Int),σ'=[some (V.ref a),some (.int (x:Int)),some (.ref b),some (.ref f),some (.ref l),some (.int (t:Int)),v6,v7]/\Sm H H'/\(CI ad.lP h H->Al H H')/\L1 ad.lP H'/\H' b=some (.lst (be'.map V.int))/\H' f=some (.lst (bf'.map V.int))/\H' l=some (.lst (lf2.map V.int))/\Upd h t L be bf (lf2.take k) be' bf') ⟨_,_,be,bf,rfl,sm',sq',l1',eb',ef',el',Upd.nil dj.lenb dj.lenf⟩ (fun k σ' H' _ hq_=>by obtain ⟨_,_,_,_,_,_,_,_,_,_,e,_⟩:=hq_;exact SqL.of e) ?_ ?_⟩
  ·rintro k w σ' H' hw ⟨v6,v7,be',bf',rfl,sm8,sq8,l18,eb8,ef8,el8,ud⟩;obtain ⟨z,hz,rfl⟩:=int_at hw;obtain ⟨y,hy,rfl⟩:=sub2 z (mem_of_getElem? hz);obtain ⟨ek,nk⟩:=JL nd2 hz;have lb8:be'.length=h:=ud.1;have lf8:bf'.length=h:=ud.2.1;have bt:be'.getD t 0=be.getD t 0:=ud.at hth fun m=>nt2 (mem_of_mem_take m);have by':be'.getD y 0=be.getD y 0:=ud.at hy nk
   obtain ⟨at8,_,_,r3,r4⟩:=(tb.sm sm8).row hth;have ha8:=sm8.lst ha;symm;refine ⟨b,_,_,_,rfl,rfl,SqL.of eb8,atG (by ext),?_⟩;refine ⟨_,rfl,_,rfl,a,_,_,_,rfl,rfl,SqL.of ha8,r3,?_⟩;refine ⟨_,rfl,at8,_,_,_,rfl,rfl,SqL.of r4,By (L t) hy,?_⟩;refine ⟨_,_,rfl,?_⟩;rw [Rt,bt];symm;refine ⟨b,_,_,_,rfl,rfl,SqL.of eb8,atG (by ext),?_⟩;symm;rw [by'];by_cases c:be.getD y 0 < min (be.getD t 0) (L t y)
   ·refine ifT (decide_eq_true c) ?_;symm;refine ⟨b,_,_,y,rfl,rfl,eb8,Df (by rw [length_map];ext),?_⟩;rw [set_map];have ef9:(upd H' b (.lst ((be'.set y (min (be.getD t 0) (L t y))).map V.int))) f=some (.lst (bf'.map V.int)):=by rw [Aj fb];exact ef8
    have eb9:(upd H' b (.lst ((be'.set y (min (be.getD t 0) (L t y))).map V.int))) b=some (.lst ((be'.set y (min (be.getD t 0) (L t y))).map V.int)):=Ac;have el9:(upd H' b (.lst ((be'.set y (min (be.getD t 0) (L t y))).map V.int))) l=some (.lst (lf2.map V.int)):=by rw [Aj lb];exact el8
    have sm9:=sm8.put (o:=.lst ((be'.set y (min (be.getD t 0) (L t y))).map V.int)) hb;have sq9:CI ad.lP h H->Al H (upd H' b (.lst ((be'.set y (min (be.getD t 0) (L t y))).map V.int))):=fun z=>Ay (sq8 z) hb;have l19:L1 ad.lP (upd H' b (.lst ((be'.set y (min (be.getD t 0) (L t y))).map V.int))):=E4.put l18 eb8;generalize upd H' b (.lst ((be'.set y (min (be.getD t 0) (L t y))).map V.int))=H9 at ef9 eb9 el9 sm9 sq9 l19 ⊢;symm;refine ⟨f,_,_,y,rfl,rfl,ef9,Df (by rw [length_map];ext),?_⟩;rw [set_map];exact ⟨_,_,be'.set y (min (be.getD t 0) (L t y)),bf'.set y (t:Int),rfl,sm9.put hfH,(fun z=>Ay (sq9 z) hfH),E4.put l19 ef9,by rw [Aj (Ne.symm fb)];exact eb9,Ac,by rw [Aj lf];exact el9,by rw [ek];exact ud.put hy c⟩
   ·refine ifF (decide_eq_false c) ?_;exact ⟨_,_,be',bf',rfl,sm8,sq8,l18,eb8,ef8,el8,by rw [ek];exact ud.skip c⟩
  ·rintro σ' H' ⟨v6,v7,be',bf',rfl,sm8,sq8,l18,eb8,ef8,el8,ud⟩;rw [length_map,take_of_length_le (Nat.le_refl _),elf] at ud;exact ⟨_,_,_,be',bf',lf2,_,rfl,sm8,sq8,.inr l18,.inr l18,eb8,ef8,el8,by rw [elf];exact dj.step hx tm best ud,by ext⟩
theorem N7 (T:Tx K mg base ad):AZ P w K mg base CX0 2 ad.f_cut_by ad.d_cut_by ["reached","x","y"] ME:=by
 refine T.F_cut_by.ok DB (fun vs H Q E h=>?_) (fun cdv A outer s H vs Q E hr h=>?_)
 ·obtain ⟨t,h,x,y,L,be,rfl,_⟩:=h;rfl
 obtain ⟨t,h,x,y,L,be,rfl,td,hx,hy,h12,q⟩:=h;refine ⟨_,((@An _ _ (3) _ _ _ _ DB.nd rfl (Or.inl rfl) (@Am _ _ _ _ _ _ _ _ _ _ _ _ _ _ _ _ (FM T) (hr.mono (by decide)) rfl T.m_with_one T.F_with_one.kp T.b_with_one .nil Aw (Ae*>((pv 1)*>Ab)) (by decide) (by rfl) (by rfl)) (by rfl) (by nofun))>>((Bu PassesOwn.never rfl (Qn rfl T.z_enumerate ((@Ao _ _ _ _ _ _ _ Br (pv 0) Ae (fun _ _=>rfl))*>Ab)) (Ds rfl (A6 (Ar (i:=4) DB.nd rfl (Or.inl rfl)) (A6 (Ar (i:=5) DB.nd rfl (Or.inl rfl)) Cl))) (@Ah _ _ _ (@BV _ _ _ _ _ _ _ _ (@A7 _ _ _ _ _ _ _ _ FO (pv 5) (@Ao _ _ _ _ _ _ _ Ax (@Ao _ _ _ _ _ _ _ Br (pv 0) Ae (fun _ _=>rfl)) (pv 2) (fun _ _=>rfl)) (AA _)) (@Ah _ _ _ (@An _ _ (3) _ _ _ _ DB.nd rfl (Or.inl rfl) (@Am _ _ _ _ _ _ _ _ _ _ _ _ _ _ _ _ (FM T) (hr.mono (by decide)) rfl T.m_with_one T.F_with_one.kp T.b_with_one .nil Aw ((pv 3)*>((pv 4)*>Ab)) (by decide) (by rfl) (by rfl)) (by rfl) (by nofun))) Bb)))>>(@Ah _ _ _ (@As _ _ _ _ (pv 3))))),?_⟩;obtain ⟨b,f,bf,et,eb,ef,re⟩:=td.is;have bl:=re.lenb;symm;refine ⟨0,(x:Int),rfl,by ext,by ext,?_⟩
 rw [show Builtin.bitOr 0 (1*2 ^ (x:Int).toNat)=AR h (fun i=>decide (i=x)) from (by
  rw [Int.toNat_natCast,show (0:Int)=AR h (fun _=>false) from (Ir fun _ _=>rfl).symm,QL _ hx];exact Bi h fun i _=>by rw [Bool.false_or])]
 symm;refine ⟨⟨_,SqL.of eb⟩,O1 (xs:=be.map V.int) (fun i σ' H'=>∃v4 v5:Option V,σ'=[some (.ref t),some (.int (x:Int)),some (.int (y:Int)),some (.int (AR h fun j=>decide (j=x) || (decide (j < i) && decide (be.getD y 0 < be.getD j 0)))),v4,v5]/\Al H H') ⟨none,none,?_,fun _ _ e=>e⟩ (fun i σ' H' _ hq_=>by obtain ⟨_,_,_,e⟩:=hq_;exact SqL.of (e _ _ eb)) ?_ ?_⟩
 ·rw [Bi h (g:=fun j=>decide (j=x) || (decide (j < 0) && decide (be.getD y 0 < be.getD j 0))) (fun j _=>by rw [decide_eq_false (Nat.not_lt_zero j),Bool.false_and,Bool.or_false])];rfl
 ·rintro i w T0 σ' H' hw ⟨v4,v5,rfl,s1⟩ hT;obtain ⟨z,hz,rfl⟩:=int_at hw;have hi:i < be.length:=(List.getElem?_eq_some_iff.mp hz).1;have ez:be.getD i 0=z:=by rw [getD_eq_getElem?_getD,hz];rfl
  exists T0,hT,H',(.tup [.int (i:Int),.int z]),H2,s2,eT
  have s12:=s1.trans s2;refine ⟨T0,_,rfl,SqT.of eT,rfl,_,_,rfl,_,_,rfl,rfl,?_⟩;have et2:=s12 _ _ et;symm;refine ⟨b,_,_,_,rfl,rfl,SqL.of (s12 _ _ eb),atG (by ext),?_⟩;symm;by_cases c:be.getD y 0 < z
  ·refine ifT (decide_eq_true c) ?_;symm;refine ⟨_,(i:Int),rfl,by ext,by ext,?_⟩;rw [Int.toNat_natCast,QL _ (by ext)];refine ⟨some (.int (i:Int)),some (.int z),?_,s12⟩;have em:AR h (fun j=>(decide (j=x) || (decide (j < i) && decide (be.getD y 0 < be.getD j 0))) || decide (j=i))=AR h (fun j=>decide (j=x) || (decide (j < i+1) && decide (be.getD y 0 < be.getD j 0))):=Bi h fun j _=>?_
   ·rw [em];rfl
   ·by_cases e:j=i
    ·subst e;rw [decide_eq_true rfl,decide_eq_true (show j < j+1 by ext),ez,decide_eq_true c];simp
    ·rw [decide_eq_false e,Bool.or_false];by_cases d:j < i
     ·rw [decide_eq_true d,decide_eq_true (show j < i+1 by ext)]
     ·rw [decide_eq_false d,decide_eq_false (show ¬ j < i+1 by ext)]
  ·refine ifF (decide_eq_false c) ?_;refine ⟨some (.int (i:Int)),some (.int z),?_,s12⟩;have em:AR h (fun j=>decide (j=x) || (decide (j < i) && decide (be.getD y 0 < be.getD j 0)))=AR h (fun j=>decide (j=x) || (decide (j < i+1) && decide (be.getD y 0 < be.getD j 0))):=Bi h fun j _=>?_
   ·rw [em];rfl
   ·by_cases e:j=i
    ·subst e;rw [ez,decide_eq_false c,Bool.and_false,Bool.and_false]
    ·by_cases d:j < i
     ·rw [decide_eq_true d,decide_eq_true (show j < i+1 by ext)]
     ·rw [decide_eq_false d,decide_eq_false (show ¬ j < i+1 by ext)]
 ·rintro σ' H' ⟨v4,v5,rfl,s1⟩;rw [length_map,bl];symm;rw [Bi h (g:=Kb x y be) (fun j hj=>?_)]
  ·exact q _ s1
  ·unfold Kb;rw [decide_eq_true hj,Bool.true_and,Bool.decide_or]
theorem N8 (T:Tx K mg base ad):AZ P w K mg base CX0 2 ad.f_is_cut ad.d_is_cut ["cut","x","y","hands"] IM:=by
 refine T.F_is_cut.ok NK (fun vs H Q E h=>?_) (fun cdv A outer s H vs Q E hr h=>?_)
 ·obtain ⟨h,x,y,c,rfl,_⟩:=h;rfl
 obtain ⟨h,x,y,c,rfl,h12,q⟩:=h;refine ⟨_,(@Ah _ _ _ (@As _ _ _ _ (@El _ _ _ _ _ _ _ (Fi FP FP Ae (pv 0) (@Am _ _ _ _ _ _ _ _ _ _ _ _ _ _ _ _ (IB T) (hr.mono (by decide)) rfl T.m_all_of T.F_all_of.kp T.b_all_of .nil Aw ((pv 3)*>Ab) (by decide) (by rfl) (by rfl))) (@El _ _ _ _ _ _ _ (@Am _ _ _ _ _ _ _ _ _ _ _ _ _ _ _ _ (GR T) (hr.mono (by decide)) rfl T.m_holds T.F_holds.kp T.b_holds .nil Aw ((pv 0)*>((pv 1)*>Ab)) (by decide) (by rfl) (by rfl)) (@EG _ _ _ _ _ (@OS _ _ _ _ (@Am _ _ _ _ _ _ _ _ _ _ _ _ _ _ _ _ (GR T) (hr.mono (by decide)) rfl T.m_holds T.F_holds.kp T.b_holds .nil Aw ((pv 0)*>((pv 2)*>Ab)) (by decide) (by rfl) (by rfl)))))))),?_⟩;unfold DG at q;symm;by_cases c0:0<=c
 ·refine ifT (decide_eq_true c0) ?_;refine ⟨_,rfl,(h:Int),rfl,by ext,by ext,?_⟩;rw [Int.toNat_natCast];symm;by_cases c1:c<=2 ^ h - 1
  ·refine ifT (decide_eq_true (by ext)) ?_;rw [decide_eq_true (show 0<=c/\c<=2 ^ h - 1 from ⟨c0,c1⟩),Bool.true_and] at q;refine ⟨_,rfl,_,rfl,_,_,rfl,by ext,?_⟩;rw [Int.toNat_natCast]
   cases b1:bit c x with
   | false =>
     rw [b1,Bool.false_and] at q;refine ⟨_,rfl,ifF rfl ?_⟩;exact q
   | true =>
     rw [b1,Bool.true_and] at q;refine ⟨_,rfl,ifT rfl ?_⟩;symm;refine ⟨_,_,rfl,by ext,?_⟩;rw [Int.toNat_natCast];symm;exact q
  ·refine ifF (decide_eq_false (by ext)) ?_;rw [decide_eq_false (fun z=>c1 z.2),Bool.false_and] at q;symm;exact q
 ·refine ifF (decide_eq_false c0) ?_;rw [decide_eq_false (fun z=>c0 z.1),Bool.false_and] at q;symm;exact q
theorem Fy (T:Tx K mg base ad):AZ P w K mg base CX0 2 ad.f_greatest_link ad.d_greatest_link ["leads","cut"] IK:=by
 refine T.F_greatest_link.ok DC (fun vs H Q E h=>?_) (fun cdv A outer s H vs Q E hr h=>?_)
 ·obtain ⟨a,as,h,x,y,L,c,rfl,_⟩:=h;rfl
 obtain ⟨a,as,h,x,y,L,c,rfl,ha,tb,co,hx,hy,h12,q⟩:=h;refine ⟨_,((@An _ _ (2) _ _ _ _ DC.nd rfl (Or.inr rfl) (Be (fsc:=Af BD) (N:=["leads","cut","outside"]) (Nc:=["leads","cut","outside","hand"]) rfl rfl (by nofun) rfl (A9 (@Am _ _ _ _ _ _ _ _ _ _ _ _ _ _ _ _ (Ei T) (hr.mono (by decide)) rfl T.m_hands_of T.F_hands_of.kp T.b_hands_of .nil Aw ((pv 0)*>Ab) (by decide) (by rfl) (by rfl))) (fun _ _ _ _=>(Cm (@Dt _ _ _ _ (@Du _ _ _ (@Am _ _ _ _ _ _ _ _ _ _ _ _ _ _ _ _ (GR T) (hr.mono (by decide)) rfl T.m_holds T.F_holds.kp T.b_holds .nil Aw ((pv 1)*>((pv 3)*>Ab)) (by decide) (by rfl) (by rfl)) (by intro _;rfl))))) (fun _ _ _ _=>(pv 3))) (by rfl) (by nofun))>>(@Ah _ _ _ (@As _ _ _ _ (@Au _ _ _ _ _ _ _ _ _ (Fq rfl) (by rfl) T.z_max PyProof.Rows.boot_max ((Fj (fsc:=Af BD) (N:=["leads","cut","outside"]) (Nc:=["leads","cut","outside","hand"]) rfl rfl (by nofun) rfl (A9 (@Am _ _ _ _ _ _ _ _ _ _ _ _ _ _ _ _ (EE T) (hr.mono (by decide)) rfl T.m_members T.F_members.kp T.b_members .nil Aw ((pv 1)*>Ab) (by decide) (by rfl) (by rfl))) (fun _ _ _ _=>AI) (fun _ _ _ _=>(@Au _ _ _ _ _ _ _ _ _ (GD K rfl) (by rfl) T.z_max PyProof.Rows.boot_max ((by exact (E2 (fsc:=Af BD) (Nc:=["leads","cut","outside","hand"]) (Nd:=["leads","cut","outside","hand","other"]) rfl (by nofun) rfl (GV K (pv 2)) (fun _ _ _ _=>AI) (fun _ _ _ _=>(@Ao _ _ _ _ _ _ _ (AJ K) (@Ao _ _ _ _ _ _ _ (AJ K) (pv 0) (pv 3) (fun _ _=>rfl)) (pv 4) (fun _ _=>rfl)))))*>Ab) (by decide) (by decide) (by rfl) (by rfl))))*>Ab) (by decide) (by decide) (by rfl) (by rfl))))),?_⟩;have al:(as.map V.ref).length=h:=by rw [length_map,tb.1]
 have ul:=BC h;obtain ⟨cr,cbt⟩:=Bool.and_eq_true_iff.mp co;obtain ⟨cx,cy'⟩:=Bool.and_eq_true_iff.mp cbt;have cy:bit c y=false:=by simpa using cy'
 obtain ⟨m0,m1'⟩:=of_decide_eq_true cr;have m1:c < 2 ^ h:=by ext
 have p3:(2:Int) ^ h<=4096:=by
  have a:(2:Nat) ^ h<=2 ^ 12:=Nat.pow_le_pow_right (by decide) h12;have e:((2 ^ h:Nat):Int)=(2:Int) ^ h:=by simp
  ext
 have bin:∀i:Nat,bit c i=true->i < h:=fun i b=>Decidable.byContradiction fun k=>by
  have:(2:Int) ^ h<=2 ^ i:=by
   have:=Nat.pow_le_pow_right (show 0 < 2 by decide) (show h<=i by ext)
   exact_mod_cast this
  rw [JY m0 (by ext)] at b
  cases b
 symm;refine ⟨a,Ll as h L,h,rfl,(by rw [tb.vtb];exact ha),tb.good.1,h12,fun l0 H1 hl0 s1 e1=>?_⟩;refine ⟨l0,rfl,⟨_,SqL.of e1⟩,?_⟩;refine AC (xs:=(ups h).map V.int) (by rw [length_map,ul];exact A8 (by ext)) (fun D i ys J=>ys=(hands i fun k=>!bit c k).map V.int/\J=upd H1 D (.lst ys)) (fun D hD=>⟨rfl,rfl⟩) (fun D i ys J hq_=>by obtain ⟨f1,f2⟩:=hq_;exact ⟨by rw [f2];exact Ac,by rw [f1,length_map];exact C2 _ _⟩) (fun D i ys J hD hq_=>by obtain ⟨_,f2⟩:=hq_;rw [f2];exact SqL.of (Ag hD _ _ _ e1)) ?_ ?_
 ·rintro D i u ys J K1 K2 hD hu ⟨f1,rfl⟩ k1 k2;obtain ⟨z,hz,rfl⟩:=int_at hu;obtain ⟨rfl,hi⟩:=JP hz;have ms:=C3 i fun k=>!bit c k;symm;refine ⟨_,_,rfl,by ext,?_⟩;rw [Int.toNat_natCast]
  cases e:bit c i with
  | true =>
    rw [e,if_neg (by decide)] at ms;refine ⟨_,rfl,?_⟩;refine ifF rfl ?_;exact k2 _ ⟨by rw [ms];exact f1,rfl⟩
  | false =>
    rw [e,if_pos (by decide)] at ms;refine ⟨_,rfl,?_⟩;refine ifT rfl ?_;refine ⟨_,rfl,?_⟩;refine k1 _ _ Ac ⟨?_,by rw [Bf]⟩;rw [ms,map_append,f1];rfl
 rintro o ys H2 ho ⟨rfl,rfl⟩;rw [length_map,ul];have s2:=s1.trans (Ag ho (.lst ((hands h fun k=>!bit c k).map V.int)));have e2:(upd H1 o (.lst ((hands h fun k=>!bit c k).map V.int))) o=some (.lst ((hands h fun k=>!bit c k).map V.int)):=Ac;generalize upd H1 o (.lst ((hands h fun k=>!bit c k).map V.int))=H2 at s2 e2 ⊢
 have omem:∀z∈hands h (fun k=>!bit c k),∃i:Nat,i < h/\bit c i=false/\z=(i:Int):=fun z m=>by
  obtain ⟨i,hi,b,e⟩:=BM.mp m;exact ⟨i,hi,by simpa using b,e⟩
 have oy:(y:Int)∈hands h (fun k=>!bit c k):=BM.mpr ⟨y,hy,by rw [cy];rfl,rfl⟩;have ol:=C2 h (fun k=>!bit c k);have omem2:∀j:Nat,j < h->bit c j=false->(j:Int)∈hands h (fun k=>!bit c k):=fun j hj b=>BM.mpr ⟨j,hj,by rw [b];rfl,rfl⟩;generalize hands h (fun k=>!bit c k)=zs at e2 omem omem2 oy ol ⊢;symm;refine ⟨m0,by ext,fun mp H3 hmp s3 e3=>?_⟩
 have imem:∀z∈hands 12 (bit (c)),∃i:Nat,i < h/\bit c i=true/\z=(i:Int):=fun z m=>by
  obtain ⟨i,hi,b,e⟩:=BM.mp m;exact ⟨i,bin i b,b,e⟩
 have ix:(x:Int)∈hands 12 (bit (c)):=BM.mpr ⟨x,by ext,cx,rfl⟩;have il:=C2 12 (bit (c));have imem2:∀i:Nat,bit c i=true->(i:Int)∈hands 12 (bit (c)):=fun i b=>BM.mpr ⟨i,by have:=bin i b;ext,b,rfl⟩;generalize hands 12 (bit (c))=ws at e3 imem imem2 ix il ⊢;have s23:=s2.trans s3;have e23:=s3 _ _ e2;refine ⟨mp,rfl,⟨_,SqL.of e3⟩,?_⟩;refine AC (xs:=ws.map V.int) (by rw [length_map];exact A8 (by ext)) (fun D i ys J=>∃vs:List Int,ys=vs.map V.int/\vs.length=i/\(∀z∈vs,∃i j,i < h/\j < h/\bit c i=true/\bit c j=false/\L i j=z)/\(∀u∈ws.take i,∃z∈vs,∀j,j < h->bit c j=false->L u.toNat j<=z)/\J D=some (.lst ys)/\Al H3 J) (fun D hD=>⟨[],rfl,rfl,(fun z m=>nomatch m),(fun u m=>nomatch m),Ac,Ag hD _⟩) (fun D i ys J hq_=>by obtain ⟨vs,f1,f2,_,_,f3,_⟩:=hq_;exact ⟨f3,by rw [f1,length_map,f2];exact Nat.le_refl _⟩) (fun D i ys J hD hq_=>by obtain ⟨_,_,_,_,_,_,f2⟩:=hq_;exact SqL.of (f2 _ _ e3)) ?_ ?_
 ·rintro D i u ys J K1 K2 hD hu ⟨vs,rfl,f2,f3,fU,f4,f5⟩ k1 k2;obtain ⟨z,hz,rfl⟩:=int_at hu;obtain ⟨i',hi',gi,rfl⟩:=imem z (mem_of_getElem? hz);refine yes (ifT rfl ?_);have sJ:=s23.trans f5;refine ⟨_,rfl,o,rfl,⟨_,SqL.of (f5 _ _ e23)⟩,?_⟩;refine AC (xs:=zs.map V.int) (by rw [length_map];exact A8 (by ext)) (fun D2 k ys J2=>ys=((zs.take k).map fun z=>L i' z.toNat).map V.int/\J2=upd J D2 (.lst ys)) (fun D2 hD2=>⟨rfl,rfl⟩) (fun D2 k ys J2 hq_=>by obtain ⟨f1,f2⟩:=hq_;exact ⟨by rw [f2];exact Ac,by rw [f1,length_map,length_map];exact length_take_le _ _⟩) (fun D2 k ys J2 hD2 hq_=>by obtain ⟨_,f2⟩:=hq_;rw [f2];exact SqL.of (Ag hD2 _ _ _ (f5 _ _ e23))) ?_ ?_
  ·rintro D2 k u ys2 J2 L1 L2 hD2 hu2 ⟨g1,rfl⟩ l1 l2;obtain ⟨z2,hz2,rfl⟩:=int_at hu2;obtain ⟨j,hj,gj,rfl⟩:=omem z2 (mem_of_getElem? hz2);refine yes (ifT rfl ?_);have sD:=sJ.trans (Ag hD2 (.lst ys2));obtain ⟨ar,_,_,r3,r4⟩:=(tb.same sD).row hi';refine ⟨_,rfl,_,rfl,a,_,_,_,rfl,rfl,SqL.of (sD _ _ ha),r3,?_⟩;refine ⟨_,rfl,ar,_,_,_,rfl,rfl,SqL.of r4,By (L i') hj,?_⟩;refine l1 _ _ Ac ⟨?_,by rw [Bf]⟩;rw [g1,take_add_one,hz2,map_append,map_append];rfl
  rintro D2 ys2 J2 hD2 ⟨g1,rfl⟩;rw [length_map,take_of_length_le (Nat.le_refl _)] at g1;subst g1;have sD:=Ag hD2 (.lst ((zs.map fun z=>L i' z.toNat).map V.int));refine ⟨D2,_,rfl,SqL.of Ac,(by rw [length_map];exact length_pos_of_mem oy),fun M Mm Ma=>?_⟩
  have Mv:∃i j,i < h/\j < h/\bit c i=true/\bit c j=false/\L i j=M:=by
   obtain ⟨z,mz,rfl⟩:=mem_map.mp Mm;obtain ⟨j,hj,gj,rfl⟩:=omem z mz;exact ⟨i',j,hi',hj,gi,gj,rfl⟩
  refine k1 _ _ (sD _ _ f4) ⟨vs++[M],by rw [map_append];rfl,by rw [length_append,f2];rfl,fun z m=>?_,fun u mu=>?_,Ac,Ay (f5.trans sD) hD⟩
  rotate_left
  ·rw [take_succ,hz] at mu;rcases mem_append.mp mu with mu | mu
   ·obtain ⟨z,zm,zl⟩:=fU u mu;exact ⟨z,mem_append_left _ zm,zl⟩
   ·rw [mem_singleton.mp mu];exact ⟨M,mem_append_right _ (mem_singleton.mpr rfl),fun j hj gj=>Ma _ (mem_map.mpr ⟨(j:Int),omem2 j hj gj,rfl⟩)⟩
  rcases mem_append.mp m with m | m
  ·exact f3 z m
  ·rw [mem_singleton.mp m];exact Mv
 rintro D ys H4 hD ⟨vs,rfl,f2,f3,fU,f4,f5⟩;rw [length_map] at f2;refine ⟨D,_,rfl,SqL.of f4,(by rw [f2];exact length_pos_of_mem ix),fun M Mm Ma=>?_⟩;refine q M _ (s23.trans f5) ⟨f3 M Mm,fun i j hi hj bi bj=>?_⟩;obtain ⟨z,zm,zl⟩:=fU (i:Int) (by rw [length_map,take_length];exact imem2 i bi);exact Int.le_trans (zl j hj bj) (Ma z zm)
theorem Jq (T:Tx K mg base ad):AZ P w K mg base CX0 2 ad.f_are_hands ad.d_are_hands ["thing"] Q2:=by
 refine T.F_are_hands.ok JF (fun vs H Q E h=>?_) (fun cdv A outer s H vs Q E hr h=>?_)
 ·obtain ⟨n,rfl,_⟩:=h;rfl
 obtain ⟨n,rfl,n0,n1,q⟩:=h;refine ⟨_,(@Ah _ _ _ (@As _ _ _ _ (@El _ _ _ _ _ _ _ (@Am _ _ _ _ _ _ _ _ _ _ _ _ _ _ _ _ (Ej T) (hr.mono (by decide)) rfl T.m_is_whole T.F_is_whole.kp T.b_is_whole .nil Aw ((pv 0)*>Ab) (by decide) (by rfl) (by rfl)) (@EG _ _ _ _ _ (Fi FP FP Ae (pv 0) (M6 (v:=.int 12) rfl T.k_MOST_HANDS ⟨_,rfl⟩)))))),?_⟩;refine ⟨_,rfl,n,rfl,?_⟩;symm;refine ifT (decide_eq_true n0) ?_;symm;show Q (.bl (decide (n<=12))) H;rw [decide_eq_true n1];exact q
theorem Jr (T:Tx K mg base ad):AZ P w K mg base CX0 2 ad.f_are_seats ad.d_are_seats ["thing"] Q3:=by
 refine T.F_are_seats.ok JG (fun vs H Q E h=>?_) (fun cdv A outer s H vs Q E hr h=>?_)
 ·obtain ⟨n,rfl,_⟩:=h;rfl
 obtain ⟨n,rfl,n0,n1,q⟩:=h;refine ⟨_,(@Ah _ _ _ (@As _ _ _ _ (@El _ _ _ _ _ _ _ (@Am _ _ _ _ _ _ _ _ _ _ _ _ _ _ _ _ (Ej T) (hr.mono (by decide)) rfl T.m_is_whole T.F_is_whole.kp T.b_is_whole .nil Aw ((pv 0)*>Ab) (by decide) (by rfl) (by rfl)) (@EG _ _ _ _ _ (Fi FP FP Ae (pv 0) (M6 (v:=.int 60) rfl T.k_MOST_SEATS ⟨_,rfl⟩)))))),?_⟩;refine ⟨_,rfl,n,rfl,?_⟩;symm;refine ifT (decide_eq_true n0) ?_;symm;show Q (.bl (decide (n<=60))) H;rw [decide_eq_true n1];exact q
theorem K4 (T:Tx K mg base ad):AZ P w K mg base CX0 2 ad.f_are_lots ad.d_are_lots ["thing","hands"] (RC K):=by
 refine T.F_are_lots.ok KP (fun vs H Q E h=>?_) (fun cdv A outer s H vs Q E hr h=>?_)
 ·obtain ⟨l,ns,n,rfl,_⟩:=h;rfl
 obtain ⟨l,ns,n,rfl,hl,pm,n12,q⟩:=h;refine ⟨_,((@BV _ _ _ _ _ _ _ _ (@Dt _ _ _ _ (@Du _ _ _ (@Au _ _ _ _ _ _ _ _ _ GC (by rfl) T.z_isinstance PyProof.Rows.boot_isinstance ((pv 0)*>((Jz (v:=.ty "list") rfl T.z_list PyProof.Rows.boot_list rfl)*>Ab)) (by decide) (by decide) (by rfl) (by rfl)) (by intro _;rfl))) (@Ah _ _ _ (@As _ _ _ _ Ce)) Bb)>>(@Ah _ _ _ (@As _ _ _ _ (@El _ _ _ _ _ _ _ (@Au _ _ _ _ _ _ _ _ _ (GB rfl) (by rfl) T.z_all PyProof.Rows.boot_all ((Be (fsc:=Af EK) (N:=["thing","hands"]) (Nc:=["thing","hands","hand"]) rfl rfl (by nofun) rfl (A9 (pv 0)) (fun _ _ _ _=>AI) (fun _ _ _ _=>(@Am _ _ _ _ _ _ _ _ _ _ _ _ _ _ _ _ (Ej T) (hr.mono (by decide)) rfl T.m_is_whole T.F_is_whole.kp T.b_is_whole .nil Aw ((pv 2)*>Ab) (by decide) (by rfl) (by rfl))))*>Ab) (by decide) (by decide) (by rfl) (by rfl)) (@EG _ _ _ _ _ (@CA _ _ _ _ _ _ _ _ (LK (K:=K) hr.units) (@Au _ _ _ _ _ _ _ _ _ Jh (by rfl) T.z_sorted PyProof.Rows.boot_sorted ((pv 0)*>Ab) (by decide) (by decide) (by rfl) (by rfl)) (Ck rfl (by rfl) T.z_list (by rfl) T.z_range (pv 1)) (AA _))))))),?_⟩;have nl:ns.length=n:=by rw [pm.length_eq,BC]
 refine ⟨_,rfl,_,_,_,_,rfl,E5.lst hl,HK,?_⟩;symm;refine ⟨⟨_,SqL.of hl⟩,?_⟩;refine AC (xs:=ns.map V.int) (by rw [length_map];exact A8 (by ext)) (fun D i ys H'=>ys=(List.replicate i true).map V.bl/\H'=upd H D (.lst ys)) (fun D hD=>⟨rfl,rfl⟩) (fun D i ys H' hq_=>by obtain ⟨f1,f2⟩:=hq_;exact ⟨by rw [f2];exact Ac,by rw [f1,length_map,length_replicate];exact Nat.le_refl _⟩) (fun D i ys H' hD hq_=>by obtain ⟨_,f2⟩:=hq_;rw [f2];exact SqL.of (Ag hD _ _ _ hl)) ?_ ?_
 ·rintro D i x ys H' K1 K2 hD hx ⟨f1,rfl⟩ k1 k2;obtain ⟨z,hz,rfl⟩:=int_at hx;refine yes (ifT rfl ?_);refine ⟨_,rfl,z,rfl,?_⟩;refine k1 _ _ Ac ⟨?_,by rw [Bf]⟩;rw [f1,replicate_succ',map_append];rfl
 ·rintro D ys H' hD ⟨rfl,rfl⟩;refine ⟨D,_,rfl,SqL.of Ac,?_⟩;rw [show (List.replicate (ns.map V.int).length true).all id=true from all_eq_true.mpr fun b m=>(mem_replicate.mp m).2];have s1:=Ag hD (.lst ((List.replicate (ns.map V.int).length true).map V.bl));generalize upd H D (.lst ((List.replicate (ns.map V.int).length true).map V.bl))=H1 at s1 ⊢;symm;refine ⟨l,ns,rfl,SqL.of (s1 _ _ hl),by ext,fun a ms pa sa ha=>?_⟩;have e:=RM pa sa pm;subst e
  exists a,ha,H1,(.lst ((ups n).map V.int)),H2,s2,e2
  symm;refine ⟨by ext,fun b hb=>?_⟩;rw [<- QS];have s3:=Ag hb (.lst ((ups n).map V.int));refine ⟨.list ((ups n).map .int),.list ((ups n).map .int),.lst (SqL.of (s3 _ _ e2)) (.ints _),.lst (SqL.of Ac) (.ints _),(Bq _).2,(Bq _).2,?_⟩;rw [show PyData.eqv (.list ((ups n).map .int)) (.list ((ups n).map .int))=true from by show PyData.eqvAll _ _=true;rw [CD];exact decide_eq_true rfl];exact q _ ((s1.trans s2).trans s3)
theorem Jv (T:Tx K mg base ad):AZ P w K mg base CX0 2 ad.f_law_ranks ad.d_law_ranks ["_law_cell_here","_law_hands"] IS:=by
 refine T.F_law_ranks.ok Cr (fun vs H Q E h=>?_) (fun cdv A outer s H vs Q E hr h=>?_)
 ·obtain ⟨c,h,rfl,_⟩:=h;rfl
 obtain ⟨c,h,rfl,c0,c1,h1,h12,q⟩:=h;refine ⟨_,((@An _ _ (2) _ _ _ _ Cr.nd rfl (Or.inl rfl) (@Am _ _ _ _ _ _ _ _ _ _ _ _ _ _ _ _ (Cj T) (hr.mono (by decide)) rfl T.m_law_mixed T.F_law_mixed.kp T.b_law_mixed .nil Aw ((pv 0)*>(Ae*>Ab)) (by decide) (by rfl) (by rfl)) (by rfl) (by nofun))>>((@BV _ _ _ _ _ _ _ _ (@A7 _ _ _ _ _ _ _ _ FQ (AL<&>((pv 2)<|>Ae)) Ae (AA _)) ((@An _ _ (3) _ _ _ _ Cr.nd rfl (Or.inr rfl) (@Am _ _ _ _ _ _ _ _ _ _ _ _ _ _ _ _ (Fe T) (hr.mono (by decide)) rfl T.m_law_order T.F_law_order.kp T.b_law_order .nil Aw ((Bm<&>((pv 2)<|>Ae))*>((pv 1)*>Ab)) (by decide) (by rfl) (by rfl)) (by rfl) (by nofun))>>((@An _ _ (4) _ _ _ _ Cr.nd rfl (Or.inr rfl) (@Ao _ _ _ _ _ _ _ Ax (@Av _ _ _ _ ((pv 1)*>((AL<&>((Bm<&>((pv 2)<|>Ae))<|>(AG<&>((pv 1)<|>Ae))))*>Ab))) (AL<&>((Bm<&>((pv 2)<|>Ae))<|>Ae)) (fun _ _=>rfl)) (by rfl) (by nofun))>>(@Ah _ _ _ (@As _ _ _ _ (Be (fsc:=Af Dp) (N:=["_law_cell_here","_law_hands","_law_number","_law_order_here","_law_most","_law_spread"]) (Nc:=["_law_cell_here","_law_hands","_law_number","_law_order_here","_law_most","_law_spread","_law_hand"]) rfl rfl (by nofun) rfl (AM rfl T.z_range ((pv 1)*>Ab)) (fun _ _ _ _=>AI) (fun _ _ _ _=>(DI<&>((@BO _ _ _ _ _ _ _ _ _ Ie (by rfl) T.z_int PyProof.Rows.boot_int ((@CA _ _ _ _ _ _ _ _ FQ (@Ao _ _ _ _ _ _ _ (AJ K) (pv 3) (pv 6) (fun _ _=>rfl)) (pv 4) (AA _))*>Ab) (by decide) (by decide) (by rfl) (by rfl))<|>(AG<&>((@Ao _ _ _ _ _ _ _ (AJ K) (pv 3) (pv 6) (fun _ _=>rfl))<|>Ae)))))))))) Bb)>>((@An _ _ (5) _ _ _ _ Cr.nd rfl (Or.inr rfl) (AG<&>(Ae<|>(AL<&>((Bm<&>((pv 2)<|>Ae))<|>Ae)))) (by rfl) (by nofun))>>(@Ah _ _ _ (@As _ _ _ _ (Be (fsc:=Af Dp) (N:=["_law_cell_here","_law_hands","_law_number","_law_order_here","_law_most","_law_spread"]) (Nc:=["_law_cell_here","_law_hands","_law_number","_law_order_here","_law_most","_law_spread","_law_hand"]) rfl rfl (by nofun) rfl (AM rfl T.z_range ((pv 1)*>Ab)) (fun _ _ _ _=>AI) (fun _ _ _ _=>(AL<&>((@Am _ _ _ _ _ _ _ _ _ _ _ _ _ _ _ _ (Cj T) (hr.mono (by decide)) rfl T.m_law_mixed T.F_law_mixed.kp T.b_law_mixed .nil Aw ((pv 0)*>((AG<&>(Ae<|>(pv 6)))*>Ab)) (by decide) (by rfl) (by rfl))<|>(pv 5)))))))))),?_⟩;obtain ⟨n,rfl⟩:∃n:Nat,h=(n:Int):=⟨h.toNat,by ext⟩;have szc:Sz 200 c:=(RD c0 c1).mono (by decide);symm;refine ⟨c,1,rfl,szc,szd 64,fun z z0 z1=>?_⟩;have d64:=Oq z0 (show (1:Int)<=64 by decide) z1;symm;refine Sj (fun _=>?_) (fun _=>?_)
 ·symm;refine ⟨z.fdiv 64,(n:Int),rfl,d64.1,Int.lt_trans d64.2 (by decide),h1,h12,fun o ns H1 s1 e1 pm=>?_⟩;rw [Int.toNat_natCast] at pm;have nl:ns.length=n:=by rw [pm.length_eq,BC]
  have nm:∀x∈ns,0<=x/\x < n:=fun x m=>by
   have:=pm.mem_iff.mp m;unfold ups at this;obtain ⟨i,hi,rfl⟩:=mem_map.mp this;have:=mem_range.mp hi;ext
  symm;refine ⟨(by show (_:Int)≠0;ext),?_⟩;have m2:=Bg (z.fdiv 2) (show (0:Int) < 2 by decide);refine ⟨(by show 2<=sizeLine;decide),fun b2 hb2=>?_⟩;dsimp only;have s2:=s1.trans (Ag hb2 (.lst [V.int n,V.int ((z.fdiv 8).fmod (n+1))]));have e2:(upd H1 b2 (.lst [V.int n,V.int ((z.fdiv 8).fmod (n+1))])) b2=some (.lst [V.int n,V.int ((z.fdiv 8).fmod (n+1))]):=Ac;have eo:=Ag hb2 (.lst [V.int n,V.int ((z.fdiv 8).fmod (n+1))]) _ _ e1;generalize upd H1 b2 (.lst [V.int n,V.int ((z.fdiv 8).fmod (n+1))])=H2 at s2 e2 eo ⊢;symm
  obtain ⟨v,hv⟩:∃v:Int,atI [V.int (n:Int),V.int ((z.fdiv 8).fmod (n+1))] ((z.fdiv 2).fmod 2)=some (.int v):=by
   rcases (by omega:(z.fdiv 2).fmod 2=0\/(z.fdiv 2).fmod 2=1) with e | e
   ·rw [e];exact ⟨_,rfl⟩
   ·rw [e];exact ⟨_,rfl⟩
  refine ⟨b2,_,_,_,rfl,rfl,SqL.of e2,hv,?_⟩;symm;refine ⟨by ext,by ext,?_⟩;rw [Int.toNat_natCast];refine AY (A8 (by ext)) (fun D i ys J=>∃us:List Int,ys=us.map V.int/\us.length=i/\(∀u∈us,0<=u/\u<=12)/\J=upd H2 D (.lst ys)) (fun D hD=>⟨[],rfl,rfl,(fun _ m=>absurd m List.not_mem_nil),rfl⟩) (fun D i ys J hq_=>by obtain ⟨us,g1,g2,_,g3⟩:=hq_;exact ⟨by rw [g3];exact Ac,by rw [g1,length_map,g2];exact Nat.le_refl _⟩) ?_ ?_
  ·rintro D i ys J K1 K2 hD hi ⟨us,rfl,g2,g3,rfl⟩ k1 k2;have e0:(0:Int)+(i:Int)=(i:Int):=Int.zero_add _;have eo':=Ag hD (.lst (us.map V.int)) _ _ eo;have ni:=nm _ (getElem_mem (show i < ns.length by ext));have gi:atI (ns.map V.int) (0+(i:Int))=some (.int ns[i]):=by rw [e0];exact atN (List.getElem?_eq_getElem (by ext))
   refine yes (ifT rfl ?_);refine ⟨_,rfl,_,rfl,o,_,_,_,rfl,rfl,SqL.of eo',gi,_,rfl,_,_,rfl,rfl,.inr ⟨_,rfl,?_⟩⟩;have b01:∀b:Bool,(0:Int)<=(if b=true then 1 else 0)/\(if b=true then (1:Int) else 0)<=1:=fun b=>by cases b <;> decide
   have hb:=b01 (decide (ns[i] < v));generalize (if decide (ns[i] < v)=true then (1:Int) else 0)=y at hb ⊢;have szy:Sz 64 y:=Fo (by ext) (by ext);have szn:Sz 64 (ns[i]+1):=Fo (by ext) (by ext);refine ⟨_,rfl,_,rfl,o,_,_,_,rfl,rfl,SqL.of eo',gi,_,_,rfl,rfl,_,_,rfl,rfl,⟨_,_,szy,szn,by decide +kernel⟩,?_⟩;refine k1 _ _ Ac ⟨us++[y*(ns[i]+1)],by rw [map_append];rfl,by rw [length_append,g2];rfl,fun u m=>?_,by rw [Bf]⟩;rcases mem_append.mp m with m | m
   ·exact g3 u m
   ·rw [mem_singleton.mp m];rcases (by omega:y=0\/y=1) with e | e
    ·rw [e,Int.zero_mul];ext
    ·rw [e,Int.one_mul];ext
  ·rintro D ys J hD ⟨us,rfl,g2,g3,rfl⟩;exact q D us _ (none_of s2 hD) (s2.trans (Ag hD _)) Ac ⟨by ext,g3⟩
 ·symm;refine ⟨by ext,by ext,?_⟩;rw [Int.toNat_natCast];have m4:=Bg (z.fdiv 8) (show (0:Int) < 4 by decide);dsimp only;refine AY (A8 (by ext)) (fun D i ys J=>∃us:List Int,ys=us.map V.int/\us.length=i/\(∀u∈us,0<=u/\u<=12)/\J=upd H D (.lst ys)) (fun D hD=>⟨[],rfl,rfl,(fun _ m=>absurd m List.not_mem_nil),rfl⟩) (fun D i ys J hq_=>by obtain ⟨us,g1,g2,_,g3⟩:=hq_;exact ⟨by rw [g3];exact Ac,by rw [g1,length_map,g2];exact Nat.le_refl _⟩) ?_ ?_
  ·rintro D i ys J K1 K2 hD hi ⟨us,rfl,g2,g3,rfl⟩ k1 k2;refine yes (ifT rfl ?_);symm;refine ⟨c,20+(0+(i:Int)),rfl,szc,Fo (by ext) (by ext),fun y y0 y1=>?_⟩;have my:=Bg y (show (0:Int) < 2+(z.fdiv 8).fmod 4 by ext);symm;refine ⟨(by show (_:Int)≠0;ext),?_⟩;refine k1 _ _ Ac ⟨us++[y.fmod (2+(z.fdiv 8).fmod 4)],by rw [map_append];rfl,by rw [length_append,g2];rfl,fun u m=>?_,by rw [Bf]⟩;rcases mem_append.mp m with m | m
   ·exact g3 u m
   ·rw [mem_singleton.mp m];ext
  ·rintro D ys J hD ⟨us,rfl,g2,g3,rfl⟩;exact q D us _ hD (Ag hD _) Ac ⟨by ext,g3⟩
theorem Jw (T:Tx K mg base ad):AZ P w K mg base CX0 2 ad.f_law_sheet ad.d_law_sheet ["_law_votes_here"] IW:=by
 refine T.F_law_sheet.ok Cs (fun vs H Q E h=>?_) (fun cdv A outer s H vs Q E hr h=>?_)
 ·obtain ⟨l,vo,h,rfl,_⟩:=h;rfl
 obtain ⟨l,vo,h,rfl,hl,g0,l24,nv,h12,q⟩:=h;refine ⟨_,((@An _ _ (1) _ _ _ _ Cs.nd rfl (Or.inr rfl) OQ (by rfl) (by nofun))>>((Bu PassesOwn.never rfl (A9 (pv 0)) (Ds rfl (A6 (Ar (i:=2) Cs.nd rfl (Or.inl rfl)) (A6 (Ar (i:=3) Cs.nd rfl (Or.inl rfl)) Cl))) ((@An _ _ (4) _ _ _ _ Cs.nd rfl (Or.inl rfl) (@Am _ _ _ _ _ _ _ _ _ _ _ _ _ _ _ _ (K6 T) (hr.mono (by decide)) rfl T.m_law_slip T.F_law_slip.kp T.b_law_slip .nil Aw ((pv 2)*>Ab) (by decide) (by rfl) (by rfl)) (by rfl) (by nofun))>>(@Ah _ _ _ (Qp (u1 hr.units) (pv 1) (pv 4) (AG<&>((OP (u1 hr.units) (pv 1) (pv 4) Ae ⟨rfl,rfl,rfl,rfl⟩)<|>(pv 3))) rfl))))>>(@Ah _ _ _ (@As _ _ _ _ (Be (fsc:=Af Et) (N:=["_law_votes_here","_law_many","_law_ranks_here","_law_number","_law_slip_here"]) (Nc:=["_law_votes_here","_law_many","_law_ranks_here","_law_number",".s4","_law_slip_here"]) rfl rfl (by nofun) rfl (A9 (@Au _ _ _ _ _ _ _ _ _ (HI rfl hr.units) (by rfl) T.z_sorted PyProof.Rows.boot_sorted ((pv 1)*>Ab) (by decide) (by decide) (by rfl) (by rfl))) (fun _ _ _ _=>AI) (fun _ _ _ _=>(@AX _ _ _ _ _ ((pv 5)*>((Ql (u1 hr.units) (pv 1) (pv 5) (fun _ _=>rfl))*>Ab))))))))),?_⟩;intro d hd
 exists d,hd,H,(.dT []),H0,s0,e0
 refine ⟨_,rfl,l,rfl,⟨_,SqL.of (s0 _ _ hl)⟩,Bs (xs:=vvo vo) (fun i σ' H'=>∃(v2 v3 v4:Option V) (kvs:List (List Key × V)),σ'=[some (V.ref l),some (.ref d),v2,v3,v4]/\Al H H'/\H' d=some (.dT kvs)/\HW h kvs/\kvs.length<=i/\Lq (20000000000*((i:Nat):Int)) kvs/\(kvs.map (·.1)).Nodup/\∀f,BU f (dsK kvs)=JM (fun rs=>f (BS rs)) (vo.take (i))) ⟨none,none,none,[],rfl,s0,e0,(fun _ m=>absurd m List.not_mem_nil),Nat.le_refl _,(fun _ m=>absurd m List.not_mem_nil),nodup_nil,fun _=>rfl⟩ (fun i σ' H' _ hq_=>by obtain ⟨_,_,_,_,_,e,_⟩:=hq_;exact SqL.of (e _ _ hl)) ?_ ?_⟩
 ·rintro i x σ' H' hx ⟨v2,v3,v4,kvs,rfl,s1,e1,g,hk,lw,nd,sm⟩;obtain ⟨f,hf,rfl,fm,et⟩:=MO hx;obtain ⟨g1,g2,g3⟩:=g0 f fm;have hi:i < vo.length:=(List.getElem?_eq_some_iff.mp hf).1;obtain ⟨nf0,nf1,nfr⟩:=nv f fm;refine ⟨f.1,_,rfl,SqT.of (s1 _ _ g1),rfl,_,_,rfl,_,_,rfl,rfl,?_⟩;symm;refine ⟨f.2.1,f.2.2.1,rfl,SqL.of (s1 _ _ g2),by ext,fun t H2 ht s2 e2=>?_⟩;have fi:EQ h (BS f.2.2.1):=⟨_,g3,nfr,rfl⟩;generalize ets:BS f.2.2.1=ts at e2 fi;have d2:=s2 _ _ e1;have kt:H2 t=some (.tup ((ts.map Sum.inl:List Key).map kV)):=by rw [O8];exact e2
  obtain ⟨n,en⟩:∃n,n=f.2.2.2:=⟨_,rfl⟩;rw [<- en] at nf0 nf1 ⊢
  have put:∀(z:Int) (H3:Hp),0<=z->z<=20000000000*((i:Int)+1)->(∀f,BU f (dsK (CV kvs (ts.map Sum.inl) (.int z)))=BU f (dsK kvs)+if f ts then n else 0)->Al H2 H3->H3 d=some (.dT kvs)->H3 t=some (.tup ((ts.map Sum.inl:List Key).map kV))->∃a H4,V.ref d=V.ref a/\MR H3 a (.ref t) (.int z) H4/\∃(v2 v3 v4:Option V) (qs:List (List Key × V)),[some (V.ref l),some (.ref d),some (.ref f.2.1),some (.int n),some (.ref t)]=[some (V.ref l),some (.ref d),v2,v3,v4]/\Al H H4/\H4 d=some (.dT qs)/\HW h qs/\qs.length<=i+1/\Lq (20000000000*((i+1:Nat):Int)) qs/\(qs.map (·.1)).Nodup/\∀f,BU f (dsK qs)=JM (fun rs=>f (BS rs)) (vo.take (i+1)):=fun z H3 z0 z1 zs s3 d3 t3 =>
   ⟨d,_,rfl,MR.t d3 t3 (AU (by ext)),_,_,_,_,rfl,Ay ((s1.trans s2).trans s3) hd,Ac,Np g fi,Nat.le_trans (OV ..) (by ext),lw.put (by ext) z0 (by ext),Ru nd,fun f'=>by
    rw [zs f',sm f',et,Jc,ets,en]⟩
  subst_eqs;refine ⟨_,rfl,d,rfl,.inr ⟨_,.inl d2⟩,_,rfl,_,Jg.t d2 kt,?_⟩
  cases ev:CH kvs (ts.map Sum.inl:List Key) with
  | none =>
    symm;exact put _ H2 (by ext) (by ext) (fun f=>by rw [Int.zero_add];exact Qq f ev) (fun _ _ e=>e) d2 kt
  | some w =>
    obtain ⟨mm,rfl⟩:=Ik g ev;have lv:=lw.val ev;symm;exact put _ H2 (by ext) (by ext) (fun f=>Qr f nd ev) (fun _ _ e=>e) d2 kt
 ·rintro σ' H' ⟨v2,v3,v4,kvs,rfl,s1,e1,g,hk,lw,nd,sm⟩;rw [JR] at hk lw sm;rw [take_of_length_le (Nat.le_refl _)] at sm;obtain ⟨ks,k1,k2,k3⟩:=LA g;refine ⟨_,rfl,d,kvs,ks,rfl,.inl e1,k1,by ext,fun l2 rs r1 r2 r3 hl2=>?_⟩
  exists l2,hl2,H',(.lst (rs.map fun q=>V.ref q.1)),H1,sl,el
  have rl:rs.length<=60:=by
   have:=r2.length_eq;rw [length_map] at this;ext
  refine ⟨l2,rfl,⟨_,SqL.of el⟩,?_⟩;refine AC (xs:=rs.map fun q=>V.ref q.1) (by rw [length_map];exact A8 (by ext)) (fun D i ys H2=>∃ms:Ls,ys=vls ms/\ms.length=i/\H2 D=some (.lst ys)/\Al H1 H2/\Dv h H2 ms/\RU ms/\dsL ms=(rs.take i).map fun r=>(r.2,nvK kvs r.2)) (fun D hD=>⟨[],rfl,rfl,Ac,Ag hD _,(fun _ m=>absurd m List.not_mem_nil),(fun _ m=>absurd m List.not_mem_nil),rfl⟩) (fun D i ys H2 hq_=>by obtain ⟨ms,f1,f2,f3,_⟩:=hq_;exact ⟨f3,by rw [f1,MM];ext⟩) (fun D i ys H2 hD hq_=>by obtain ⟨ms,_,_,_,f4,_⟩:=hq_;exact SqL.of (f4 _ _ el)) ?_ ?_
  ·rintro D i x ys H2 K1 K2 hD hx ⟨ms,rfl,f2,f3,f4,f5,f6,f7⟩ kk1 kk2;rw [List.getElem?_map] at hx;obtain ⟨r,er,rfl⟩:=Option.map_eq_some_iff.mp hx;have rm:=mem_of_getElem? er;have sH:=sl.trans f4;have ek:=sH _ _ (r1 r rm);obtain ⟨fr,n,ev⟩:=k3 r.2 (r2.mem_iff.mp (mem_map.mpr ⟨r,rm,rfl⟩));refine yes (ifT rfl ?_);have dg:=Jg.t (k:=(r.2.map Sum.inl:List Key)) (sH _ _ e1) (by rw [O8];exact ek);rw [ev] at dg;refine ⟨_,rfl,_,rfl,_,rfl,d,.int n,rfl,dg,(by show 2<=sizeLine;decide),fun t ht=>?_⟩;have s6:=Ag ht (.tup [V.ref r.1,V.int n]);have lv:=lw.val ev;refine kk1 _ _ (s6 _ _ f3) ⟨ms++[(t,r.1,r.2,n)],by unfold vls;rw [map_append];rfl,by rw [length_append,f2];rfl,Ac,Ay (f4.trans s6) hD,fun q m=>?_,fun q m=>?_,?_⟩
   ·have keep:∀b u,(upd H2 t (.tup [V.ref r.1,V.int n])) b=some (.tup u)->(upd (upd H2 t (.tup [V.ref r.1,V.int n])) D (.lst (vls ms++[V.ref t]))) b=some (.tup u):=fun b u e=>by
     rw [Aj (Fd e (s6 _ _ f3) (fun z=>by cases z))];exact e
    rcases mem_append.mp m with m | m
    ·obtain ⟨a1,a2,a3⟩:=f5 q m;exact ⟨keep _ _ (s6 _ _ a1),keep _ _ (s6 _ _ a2),a3⟩
    ·rw [mem_singleton.mp m];exact ⟨keep _ _ Ac,keep _ _ (s6 _ _ ek),fr⟩
   ·rcases mem_append.mp m with m | m
    ·exact f6 q m
    ·rw [mem_singleton.mp m];exact ⟨lv.1,by show n<=_;ext⟩
   ·rw [show rs.take (i+1)=rs.take i++[r] from by rw [take_add_one,er];rfl,map_append,<- f7];unfold dsL;rw [map_append];show _++[(r.2,n)]=_++[(r.2,nvK kvs r.2)];rw [show nvK kvs r.2=n from by unfold nvK;rw [ev]]
  rintro D ys H2 hD ⟨ms,rfl,f2,f3,f4,f5,f6,f7⟩;rw [length_map,take_of_length_le (Nat.le_refl _)] at f7;rw [length_map] at f2;refine q D ms H2 ((s1.trans sl).trans f4) f3 f5 (by ext) f6 fun f=>?_;rw [f7,<- sm,<- LV nd k1 r2 f,map_map];rfl
theorem Ju (T:Tx K mg base ad):AZ P w K mg base CX0 2 ad.f_law_overs ad.d_law_overs ["_law_votes_here","_law_hands"] MF:=by
 refine T.F_law_overs.ok BR (fun vs H Q E h=>?_) (fun cdv A outer s H vs Q E hr h=>?_)
 ·obtain ⟨l,vo,h,rfl,_⟩:=h;rfl
 obtain ⟨l,vo,h,rfl,hl,g0,h1,h12,q⟩:=h;refine ⟨_,((DL (j:=2) (fsc:=Af Es) (N:=["_law_votes_here","_law_hands","_law_found","_law_ranks_here","_law_number","_law_x","_law_y"]) (Nc:=["_law_votes_here","_law_hands","_law_found","_law_ranks_here","_law_number",".s5","_law_y","_law_x"]) rfl rfl (by nofun) rfl BR.nd rfl rfl (AM rfl T.z_range ((pv 1)*>Ab)) (fun _ _ _ _=>AI) (fun _ _ _ _=>(R0<&>((@Av _ _ _ _ (Ae*>Ab))<|>(pv 1)))) rfl)>>((Bu PassesOwn.never rfl (A9 (pv 0)) (Ds rfl (A6 (Ar (i:=3) BR.nd rfl (Or.inl rfl)) (A6 (Ar (i:=4) BR.nd rfl (Or.inl rfl)) Cl))) (@Ah _ _ _ (Bu PassesOwn.never rfl (AM rfl T.z_range ((pv 1)*>Ab)) (Ar (i:=5) BR.nd rfl (Or.inl rfl)) (@Ah _ _ _ (Bu PassesOwn.never rfl (AM rfl T.z_range ((pv 1)*>Ab)) (Ar (i:=6) BR.nd rfl (Or.inl rfl)) (@Ah _ _ _ (@BV _ _ _ _ _ _ _ _ (@A7 _ _ _ _ _ _ _ _ FQ (@Am _ _ _ _ _ _ _ _ _ _ _ _ _ _ _ _ (Ff T) (hr.mono (by decide)) rfl T.m_law_place T.F_law_place.kp T.b_law_place .nil Aw ((pv 3)*>((pv 5)*>Ab)) (by decide) (by rfl) (by rfl)) (@Am _ _ _ _ _ _ _ _ _ _ _ _ _ _ _ _ (Ff T) (hr.mono (by decide)) rfl T.m_law_place T.F_law_place.kp T.b_law_place .nil Aw ((pv 3)*>((pv 6)*>Ab)) (by decide) (by rfl) (by rfl)) (AA _)) (@Ah _ _ _ (Cn (AG<&>((@Ao _ _ _ _ _ _ _ Ax (@Ao _ _ _ _ _ _ _ Ax (pv 2) (pv 5) (fun _ _=>rfl)) (pv 6) (fun _ _=>rfl))<|>(pv 4))) (Em (@Ao _ _ _ _ _ _ _ Ax (pv 2) (pv 5) (fun _ _=>rfl)) (pv 6) CF))) Bb)))))))>>(@Ah _ _ _ (@As _ _ _ _ (pv 2))))),?_⟩;symm;refine ⟨by ext,by ext,?_⟩;rw [Int.toNat_natCast];refine AY (A8 (by ext)) (fun D i ys J=>∃as:List Addr,ys=as.map V.ref/\as.length=i/\as.Nodup/\J D=some (.lst ys)/\Al H J/\D ∉ as/\∀a∈as,H a=none/\J a=some (.lst (((List.range h).map fun _=>(0:Int)).map V.int))) (fun D hD=>⟨[],rfl,rfl,nodup_nil,Ac,Ag hD _,(fun m=>nomatch m),fun _ m=>absurd m List.not_mem_nil⟩) (fun D i ys J hq_=>by obtain ⟨as,f1,f2,_,f3,_⟩:=hq_;exact ⟨f3,by rw [f1,length_map,f2];exact Nat.le_refl _⟩) ?_ ?_
 ·rintro D i ys J K1 K2 hD hi ⟨as,rfl,f2,f3,f4,f5,f6,f7⟩ k1 k2;refine yes (ifT rfl ?_)
  exists 1,o,ho,J,(.lst [V.int 0]),J0,so,eo,rfl
  refine ⟨_,rfl,o,_,_,rfl,rfl,eo,by ext,by ext,(by show 1*_<=sizeLine;rw [Nat.one_mul];exact Nat.le_of_lt (AU (by ext))),fun D2 hD2=>?_⟩;rw [Int.toNat_natCast,Sd];have f4:=so _ _ f4;have f5:=f5.trans so;have f7:∀a∈as,H a=none/\J0 a=some (.lst (((List.range h).map fun _=>(0:Int)).map V.int)):=fun a m=>⟨(f7 a m).1,so _ _ (f7 a m).2⟩;have sD:=Ag hD2 (.lst (((List.range h).map fun _=>(0:Int)).map V.int));have eD:(upd J0 D2 (.lst (((List.range h).map fun _=>(0:Int)).map V.int))) D2=some (.lst (((List.range h).map fun _=>(0:Int)).map V.int)):=Ac;have dd:D2≠D:=fun z=>by rw [z,f4] at hD2;cases hD2
  have na:D2 ∉ as:=fun m=>by rw [(f7 D2 m).2] at hD2;cases hD2
  generalize upd J0 D2 (.lst (((List.range h).map fun _=>(0:Int)).map V.int))=J5 at sD eD ⊢;refine k1 _ _ (sD _ _ f4) ⟨as++[D2],by rw [map_append];rfl,by rw [length_append,f2];rfl,nodup_append.mpr ⟨f3,by simp,fun a ma b mb e=>na (by rw [<- mem_singleton.mp mb,<- e];exact ma)⟩,Ac,Ay (f5.trans sD) hD,fun m=>?_,fun a m=>?_⟩
  ·rcases mem_append.mp m with m | m
   ·exact f6 m
   ·exact dd (mem_singleton.mp m).symm
  ·rcases mem_append.mp m with m | m
   ·exact ⟨(f7 a m).1,by rw [Aj (fun z=>f6 (by rw [<- z];exact m))];exact sD _ _ (f7 a m).2⟩
   ·rw [mem_singleton.mp m];exact ⟨none_of f5 hD2,by rw [Aj dd];exact eD⟩
 rintro D ys H1 hD ⟨as,rfl,f2,f3,f4,f5,f6,f7⟩;have tb0:Bc H1 as h (fun _ _=>0):=⟨f2,f3,fun x a ha=>(f7 a (mem_of_getElem? ha)).2⟩;have nw:∀a∈as,H a=none:=fun a m=>(f7 a m).1;clear f7 f3 f2;subst_eqs;refine ⟨_,rfl,l,rfl,⟨_,SqL.of (f5 _ _ hl)⟩,Bs (xs:=vvo vo) (fun i σ' H'=>∃v3 v4 v5 v6:Option V,σ'=[some (.ref l),some (.int (h:Int)),some (.ref D),v3,v4,v5,v6]/\BI as H1 H'/\Bc H' as h (duF (vo.take i))) ⟨none,none,none,none,rfl,BI.of (fun _ _ e=>e),tb0⟩ (fun i σ' H' _ hq_=>by obtain ⟨_,_,_,_,_,k,_⟩:=hq_;exact SqL.of (k.same f5 nw _ _ hl)) ?_ ?_⟩
 ·rintro i w σ' H' hw ⟨v3,v4,v5,v6,rfl,k1,tb⟩;obtain ⟨f,hf,rfl,fm,et⟩:=MO hw;obtain ⟨g1,g2,g3⟩:=g0 f fm;have kH:=k1.same f5 nw;refine ⟨f.1,_,rfl,SqT.of (kH _ _ g1),rfl,_,_,rfl,_,_,rfl,rfl,?_⟩;symm;obtain ⟨rs,ers⟩:∃rs,rs=f.2.2.1:=⟨_,rfl⟩;obtain ⟨n,en⟩:∃n,n=f.2.2.2:=⟨_,rfl⟩;obtain ⟨F0,eF0⟩:∃F0:Nat->Nat->Int,F0=duF (vo.take i):=⟨_,rfl⟩;rw [<- ers] at g2 g3;rw [<- eF0] at tb;rw [<- en];refine ⟨by ext,by ext,D4 (fun j σ' H2=>∃(v5 v6:Option V) (G:Nat->Nat->Int),σ'=[some (.ref l),some (.int (h:Int)),some (.ref D),some (.ref f.2.1),some (.int n),v5,v6]/\BI as H1 H2/\Bc H2 as h G/\∀x' y':Nat,G x' y'=F0 x' y'+if x' < j/\y' < h/\Bo rs x' < Bo rs y' then n else 0) ⟨_,_,_,rfl,k1,tb,fun x' y'=>(by rw [if_neg (fun z=>nomatch z.1)];exact (Int.add_zero _).symm)⟩ ?_ ?_⟩
  ·rintro x σ' H2 hx ⟨v5,v6,G,rfl,k2,tb2,eG⟩;have ex:(0:Int)+(x:Int)=(x:Int):=Int.zero_add _;have hx':x < h:=by ext
   symm;refine ⟨by ext,by ext,D4 (fun j σ' H3=>∃(v6:Option V) (G':Nat->Nat->Int),σ'=[some (.ref l),some (.int (h:Int)),some (.ref D),some (.ref f.2.1),some (.int n),some (.int (0+(x:Int))),v6]/\BI as H1 H3/\Bc H3 as h G'/\∀x' y':Nat,G' x' y'=G x' y'+if x'=x/\y' < j/\Bo rs x' < Bo rs y' then n else 0) ⟨_,_,rfl,k2,tb2,fun x' y'=>(by rw [if_neg (fun z=>nomatch z.2.1)];exact (Int.add_zero _).symm)⟩ ?_ ?_⟩
   ·rintro y σ' H3 hy ⟨v6,G',rfl,k3,tb3,eG'⟩;have ey:(0:Int)+(y:Int)=(y:Int):=Int.zero_add _;have hy':y < h:=by ext
    have eR:=k3.same f5 nw _ _ g2;obtain ⟨a,r1,r2,r3,r4⟩:=tb3.row hx';have eD:=k3 _ _ f6 f4;symm;refine ⟨f.2.1,rs,x,(by rw [ex];rfl),eR,by ext,?_⟩;symm;refine ⟨f.2.1,rs,y,(by rw [ey];rfl),eR,by ext,?_⟩;symm;by_cases c:Bo rs x < Bo rs y
    ·refine ifT (decide_eq_true c) ?_;refine ⟨_,rfl,_,rfl,D,_,_,_,rfl,rfl,SqL.of eD,(by rw [ex];exact r3),?_⟩;refine ⟨_,rfl,a,_,_,_,rfl,rfl,SqL.of r4,(by rw [ey];exact By (G' x) hy'),?_⟩;symm;refine ⟨D,_,_,_,rfl,rfl,SqL.of eD,(by rw [ex];exact r3),?_⟩;refine ⟨_,rfl,a,_,_,y,rfl,rfl,r4,(by rw [ey];exact Df (by rw [length_map,length_map,length_range];exact hy')),?_⟩;refine ⟨_,EI G' x y n,rfl,k3.put r2,tb3.put r1 n,fun x' y'=>?_⟩;unfold EI;rw [eG'];refine Mt n _ ?_ ?_
     ·refine ⟨fun ⟨a,b,e⟩=>?_,fun z=>z.elim (fun e=>⟨e.1,by ext,e.2.2⟩) fun e=>⟨e.1,by ext,by rw [e.1,e.2];exact c⟩⟩;rcases Nat.lt_or_eq_of_le (Nat.le_of_lt_succ b) with z | z
      ·exact .inl ⟨a,z,e⟩
      ·exact .inr ⟨a,z⟩
     ·exact fun z=>by have:=z.1.2.1;have:=z.2.2;ext
    ·refine ifF (decide_eq_false c) ?_;refine ⟨_,G',rfl,k3,tb3,fun x' y'=>?_⟩;rw [eG'];by_cases d:x'=x/\y' < y/\Bo rs x' < Bo rs y'
     ·rw [if_pos d,if_pos ⟨d.1,by ext,d.2.2⟩]
     ·rw [if_neg d,if_neg (fun z=>d ⟨z.1,by
       rcases Nat.lt_or_eq_of_le (Nat.le_of_lt_succ z.2.1) with u | u
       ·exact u
       ·exact absurd (by have:=z.2.2;rw [z.1,u] at this;exact this) c,z.2.2⟩)]
   ·rintro σ' H3 ⟨v6,G',rfl,k3,tb3,eG'⟩;rw [Int.toNat_natCast] at eG';refine ⟨_,_,_,rfl,k3,tb3,fun x' y'=>?_⟩;rw [eG',eG];refine Mt n _ ?_ ?_
    ·refine ⟨fun ⟨a,b,e⟩=>?_,fun z=>z.elim (fun e=>⟨by ext,e.2.1,e.2.2⟩) fun e=>⟨by ext,e.2.1,e.2.2⟩⟩;rcases Nat.lt_or_eq_of_le (Nat.le_of_lt_succ a) with z | z
     ·exact .inl ⟨z,b,e⟩
     ·exact .inr ⟨z,b,e⟩
    ·exact fun z=>by have:=z.1.1;have:=z.2.1;ext
  ·rintro σ' H2 ⟨v5,v6,G,rfl,k2,tb2,eG⟩;rw [Int.toNat_natCast] at eG;refine ⟨_,_,_,_,rfl,k2,tb2.congr fun x y hx hy=>?_⟩;unfold duF;rw [eG,et,Jc,<- ers,<- en,eF0];unfold duF;by_cases c:Bo rs x < Bo rs y
   ·rw [if_pos ⟨hx,hy,c⟩,if_pos (decide_eq_true c)]
   ·rw [if_neg (fun z=>c z.2.2),if_neg (by rw [decide_eq_false c];decide)]
 ·rintro σ' H' ⟨v3,v4,v5,v6,rfl,k1,tb⟩;rw [JR,take_of_length_le (Nat.le_refl _)] at tb;subst_eqs;exact ⟨_,rfl,q D as H' hD (k1.same f5 nw) f6 nw (k1 _ _ f6 f4) tb⟩
theorem HN (T:Tx K mg base ad):AZ P w K mg base CX0 2 ad.f_law_spoilt ad.d_law_spoilt ["_law_paper","_law_leads_here","_law_cell_here"] Ht:=by
 refine T.F_law_spoilt.ok Bd (fun vs H Q E h=>?_) (fun cdv A outer s H vs Q E hr h=>?_)
 ·obtain ⟨p,a,m,sh,pk,as,ms,rs,h,s',ns,ls,F,c,rfl,_⟩:=h;rfl
 obtain ⟨p,a,m,sh,pk,as,ms,rs,h,s',ns,ls,F,c,rfl,gp,ha,ta,st,pm,s1',h2,h12,c0,szc,q⟩:=h;refine ⟨_,((Cn (pv 0) (Ds rfl (A6 (Ar (i:=3) Bd.nd rfl (Or.inr rfl)) (A6 (Ar (i:=4) Bd.nd rfl (Or.inr rfl)) (A6 (Ar (i:=5) Bd.nd rfl (Or.inr rfl)) Cl)))))>>((@An _ _ (6) _ _ _ _ Bd.nd rfl (Or.inl rfl) (@Au _ _ _ _ _ _ _ _ _ Az (by rfl) T.z_len PySem.boot_len ((pv 1)*>Ab) (by decide) (by decide) (by rfl) (by rfl)) (by rfl) (by nofun))>>((@An _ _ (7) _ _ _ _ Bd.nd rfl (Or.inl rfl) (AL<&>((pv 2)<|>(@Au _ _ _ _ _ _ _ _ _ Az (by rfl) T.z_len PySem.boot_len ((pv 4)*>Ab) (by decide) (by decide) (by rfl) (by rfl)))) (by rfl) (by nofun))>>((@An _ _ (8) _ _ _ _ Bd.nd rfl (Or.inl rfl) (@Av _ _ _ _ Ab) (by rfl) (by nofun))>>((Bu PassesOwn.never rfl (A9 (AW<&>((@Am _ _ _ _ _ _ _ _ _ _ _ _ _ _ _ _ (Gi T) (hr.mono (by decide)) rfl T.m_law_bad_ones T.F_law_bad_ones.kp T.b_law_bad_ones .nil Aw ((@Ao _ _ _ _ _ _ _ Ax (pv 4) (pv 7) (fun _ _=>rfl))*>((pv 6)*>((AL<&>((pv 2)<|>(EF<&>(Ae<|>Ae))))*>Ab))) (by decide) (by rfl) (by rfl))<|>(@Am _ _ _ _ _ _ _ _ _ _ _ _ _ _ _ _ (HP T) (hr.mono (by decide)) rfl T.m_law_weaker T.F_law_weaker.kp T.b_law_weaker .nil Aw ((@Ao _ _ _ _ _ _ _ Ax (pv 4) (pv 7) (fun _ _=>rfl))*>((pv 1)*>Ab)) (by decide) (by rfl) (by rfl))))) (Ar (i:=9) Bd.nd rfl (Or.inl rfl)) (@Ah _ _ _ (@Bx _ _ _ _ (Cy PySem.F.plainAttrs_list PySem.F.slot_list_append PySem.F.type_list_append Bn (pv 8) ((@AX _ _ _ _ _ ((pv 3)*>((AW<&>((AW<&>((AD AQ (pv 4) AN (AO (pv 7)))<|>(@Av _ _ _ _ ((pv 9)*>Ab))))<|>(AD AQ (pv 4) (AO (AG<&>((pv 7)<|>Ae))) AN)))*>((pv 5)*>Ab))))*>Ab)) (by rfl))))>>((@An _ _ (8) _ _ _ _ Bd.nd rfl (Or.inl rfl) (AW<&>((pv 8)<|>(Be (fsc:=Af Co) (N:=["_law_paper","_law_leads_here","_law_cell_here","_law_many","_law_steps","_law_picks","_law_hands","_law_at","_law_some","_law_one"]) (Nc:=["_law_paper","_law_leads_here","_law_cell_here","_law_many","_law_steps","_law_picks","_law_hands","_law_at","_law_some","_law_one","_law_other"]) rfl rfl (by nofun) rfl (A9 (@Am _ _ _ _ _ _ _ _ _ _ _ _ _ _ _ _ (Fz T) (hr.mono (by decide)) rfl T.m_law_bad_lists T.F_law_bad_lists.kp T.b_law_bad_lists .nil Aw ((pv 4)*>((pv 7)*>Ab)) (by decide) (by rfl) (by rfl))) (fun _ _ _ _=>AI) (fun _ _ _ _=>(@AX _ _ _ _ _ ((pv 3)*>((pv 10)*>((pv 5)*>Ab)))))))) (by rfl) (by nofun))>>((@An _ _ (8) _ _ _ _ Bd.nd rfl (Or.inl rfl) (AW<&>((pv 8)<|>(Be (fsc:=Af Co) (N:=["_law_paper","_law_leads_here","_law_cell_here","_law_many","_law_steps","_law_picks","_law_hands","_law_at","_law_some","_law_one"]) (Nc:=["_law_paper","_law_leads_here","_law_cell_here","_law_many","_law_steps","_law_picks","_law_hands","_law_at","_law_some","_law_one","_law_other"]) rfl rfl (by nofun) rfl (A9 (@Am _ _ _ _ _ _ _ _ _ _ _ _ _ _ _ _ (F1 T) (hr.mono (by decide)) rfl T.m_law_bad_overs T.F_law_bad_overs.kp T.b_law_bad_overs .nil Aw ((pv 3)*>((Bm<&>((pv 2)<|>Ae))*>Ab)) (by decide) (by rfl) (by rfl))) (fun _ _ _ _=>AI) (fun _ _ _ _=>(@AX _ _ _ _ _ ((pv 10)*>((pv 4)*>((pv 5)*>Ab)))))))) (by rfl) (by nofun))>>(@Ah _ _ _ (@As _ _ _ _ (AW<&>((pv 8)<|>(Be (fsc:=Af Co) (N:=["_law_paper","_law_leads_here","_law_cell_here","_law_many","_law_steps","_law_picks","_law_hands","_law_at","_law_some","_law_one"]) (Nc:=["_law_paper","_law_leads_here","_law_cell_here","_law_many","_law_steps","_law_picks","_law_hands","_law_at","_law_some","_law_one","_law_other"]) rfl rfl (by nofun) rfl (A9 (@Am _ _ _ _ _ _ _ _ _ _ _ _ _ _ _ _ (F3 T) (hr.mono (by decide)) rfl T.m_law_bad_picks T.F_law_bad_picks.kp T.b_law_bad_picks .nil Aw ((pv 5)*>((pv 6)*>((Bm<&>((pv 2)<|>Ae))*>Ab))) (by decide) (by rfl) (by rfl))) (fun _ _ _ _=>AI) (fun _ _ _ _=>(@AX _ _ _ _ _ ((pv 3)*>((pv 4)*>((pv 10)*>Ab))))))))))))))))),?_⟩;have al:(as.map V.ref).length=h:=by rw [length_map,ta.1]
 have vl:=Cw rs;obtain ⟨n2,n150⟩:=gp.len h2 h12;have nd:(AS rs).Nodup:=by rw [gp.due];exact PM h
 have gpp:=gp.p;have gsh:=gp.sh;have va:∀x y:List Rq,vrq x++vrq y=vrq (x++y):=fun x y=>(map_append ..).symm;have ra:∀x y:List Addr,x.map V.ref++y.map V.ref=(x++y).map V.ref:=fun x y=>(map_append ..).symm;symm;refine ⟨p,_,rfl,SqT.of gpp,rfl,_,_,rfl,_,_,rfl,_,_,rfl,rfl,?_⟩;symm;rw [al];symm;refine ⟨(by show ((vrq rs).length:Int)≠0;ext),?_⟩;rw [vl];have mk:=Bg c (show (0:Int) < (rs.length:Int) by ext);dsimp only;obtain ⟨k,ek⟩:∃k:Nat,c.fmod (rs.length:Int)=(k:Int):=⟨(c.fmod (rs.length:Int)).toNat,by ext⟩;rw [ek] at mk ⊢;have lk:k < rs.length:=by ext
 obtain ⟨r,hr⟩:∃r,rs[k]?=some r:=⟨_,List.getElem?_eq_getElem lk⟩;have mr:=mem_of_getElem? hr;obtain ⟨gr,rr,wl⟩:=gp.rg r mr;have hk:atI (vrq rs) (k:Int)=some (.ref r.t):=Bv (by unfold vrq;rw [List.getElem?_map,hr];rfl);have tk:C1 (vrq rs) none (some (k:Int))=vrq (rs.take k):=EW.trans (map_take ..).symm;have dk1:C1 (vrq rs) (some ((k:Int)+1)) none=vrq (rs.drop (k+1)):=(Ch (j:=k+1)).trans (map_drop ..).symm;symm
 exists 0,D,nD,H,(.lst []),H1,s1,eD,rfl
 symm;refine ⟨sh,_,_,_,rfl,rfl,SqL.of (s1 _ _ gsh),hk,?_⟩;have mf:=Bg c (show (0:Int) < 10 ^ (30:Int).toNat by decide);symm;refine ⟨h,Ba ls,r,_,rfl,gr.same s1,rr,wl,mf.1,h12,fun l1 rs1 H2 n1 s2 e1 g1 b40 b8=>?_⟩;have s12:=s1.trans s2;symm;refine ⟨sh,_,_,_,rfl,rfl,SqL.of (s12 _ _ gsh),hk,?_⟩;symm;refine ⟨a,as,h,Ba ls,F,r,rfl,gr.same s12,rr,wl,s12 _ _ ha,ta.same s12,st,h12,fun l2 rs2 H3 n2' s3 e2 g2 b20=>?_⟩;have s13:=s12.trans s3;refine ⟨l1,l2,_,_,rfl,rfl,s3 _ _ e1,e2,(by right),fun l3 n3=>?_⟩;rw [va]
 exists l3,n3,H3,(.lst (vrq (rs1++rs2))),H4,s4,e3
 have s14:=s13.trans s4;have s24:=s2.trans (s3.trans s4);have eD4:=s24 _ _ eD
 have wD:∀q∈rs1++rs2,RqG H4 q/\q.ws.length<=60/\HC h (Ba ls) r q/\q.w≠D:=fun q mq=>by
  have rw_D:r.w≠D:=At gr.w nD;rcases mem_append.mp mq with mq | mq
  ·obtain ⟨x1,x2,x3,x4⟩:=g1 q mq;exact ⟨x1.same (s3.trans s4),x2,x3,x4.elim (fun e=>by rw [e];exact rw_D) fun n e=>by rw [e,eD] at n;cases n⟩
  ·obtain ⟨x1,x2,x3,x4⟩:=g2 q mq;exact ⟨x1.same s4,x2,x3,x4.elim (fun e=>by rw [e];exact rw_D) fun n e=>by rw [e,s2 _ _ eD] at n;cases n⟩
 have bl:(rs1++rs2).length<=60/\8<=(rs1++rs2).length:=by rw [length_append];ext
 have l3D:l3≠D:=fun e=>At ((s2.trans s3) _ _ eD) n3 e.symm;generalize rs1++rs2=qs at e3 wD bl;clear g1 g2 b40 b8 b20 e1 e2;have ql:=Cw qs;refine ⟨l3,rfl,⟨_,SqL.of e3⟩,Bs (xs:=vrq qs) (fun i σ' J=>∃(v9:Option V) (bs:List Addr),σ'=[some (.ref p),some (.ref a),some (.int c),some (.ref m),some (.ref sh),some (.ref pk),some (.int (h:Int)),some (.int (k:Int)),some (.ref D),v9]/\Al (off H4 D) J/\J D=some (.lst (bs.map V.ref))/\(∀b∈bs,BW (off J D) h ls (Ak F s' ns) b)/\bs.length=i) ⟨none,[],rfl,Eg _ _,eD4,(fun _ m=>absurd m List.not_mem_nil),rfl⟩ (fun i σ' J _ hq_=>by obtain ⟨_,_,_,z,_⟩:=hq_;exact SqL.of (z _ _ (CJ e3 l3D))) ?_ ?_⟩
 ·rintro i u σ' J hu ⟨v9,bs,rfl,z,ed,gb,bn⟩;obtain ⟨q0,hq0,rfl,mq,_⟩:=Gv hu;have il:=(List.getElem?_eq_some_iff.mp hq0).1;obtain ⟨x1,x2,x3,x4⟩:=wD q0 mq;have sJ:Al H J:=(Dr s14 nD).trans z;symm;refine ⟨.inl ⟨rfl,_,SqL.of ed⟩,?_⟩;symm;refine ⟨sh,_,rfl,SqL.of (sJ _ _ gsh),fun a1 m1=>?_⟩;rw [tk]
  exists a1,m1,J,(.lst (vrq (rs.take k))),J1,j1,ea1
  symm
  exists 1,a2,m2,J1,(.lst [V.ref q0.t]),J2,j2,ea2,rfl
  refine ⟨a1,a2,vrq (rs.take k),vrq [q0],rfl,rfl,j2 _ _ ea1,ea2,(by right),fun a3 m3=>?_⟩;rw [va]
  exists a3,m3,J2,(.lst (vrq (rs.take k++[q0]))),J3,j3,ea3
  have sJ3:=sJ.trans (j1.trans (j2.trans j3));symm;refine ⟨sh,_,rfl,SqL.of (sJ3 _ _ gsh),fun a4 m4=>?_⟩;dsimp only;rw [dk1]
  exists a4,m4,J3,(.lst (vrq (rs.drop (k+1)))),J4,j4,ea4
  refine ⟨a3,a4,_,_,rfl,rfl,j4 _ _ ea3,ea4,(by right),fun a5 m5=>?_⟩;rw [va]
  exists a5,m5,J4,(.lst (vrq (rs.take k++[q0]++rs.drop (k+1)))),J5,j5,ea5
  symm
  exists 3,t,m6,J5,(.tup [V.ref m,V.ref a5,V.ref pk]),J6,j6,et,rfl
  have j14:=j1.trans (j2.trans (j3.trans j4));have j16:=j14.trans (j5.trans j6);have ed6:=j16 _ _ ed;have tD:t≠D:=fun e=>At ((j14.trans j5) _ _ ed) m6 e.symm;have a5D:a5≠D:=fun e=>At (j14 _ _ ed) m5 e.symm;have oH:Al H (off J6 D):=Dr (sJ.trans j16) nD
  have o4:Al (off H4 D) (off J6 D):=by
   have:=Eh (D:=D) (z.trans j16);rwa [show off (off H4 D) D=off H4 D from funext fun b=>by unfold off;split <;> rfl] at this
  have pp:=(gp.same oH).pap (by ext)
  have bp:BW (off J6 D) h ls (Ak F s' ns) t:=by
   refine ⟨m,a5,pk,Dc ms h (ovF ls),rs.take k++[q0]++rs.drop (k+1),Ak F s' ns,⟨CJ et tD,pp.m,pp.tb,CJ (j6 _ _ ea5) a5D,fun r' m'=>?_,pp.pk,by rw [length_append,length_append,length_take,length_drop];show min k rs.length+1+_<=300;ext⟩,?_⟩
   ·rcases mem_append.mp m' with m' | m'
    ·rcases mem_append.mp m' with m' | m'
     ·exact pp.rg r' (mem_of_mem_take m')
     ·rw [mem_singleton.mp m'];exact ⟨⟨o4 _ _ (CJ x1.t (Fd x1.t eD4 (fun z=>by cases z))),o4 _ _ (CJ x1.w x4)⟩,x2⟩
    ·exact pp.rg r' (mem_of_mem_drop m')
   ·rcases x3 with ne | nr
    ·exact GY (by rw [<- gp.due];exact Os hr ne)
    ·exact GZ (mem_append.mpr (.inl (mem_append.mpr (.inr (mem_singleton.mpr rfl))))) nr
  refine ⟨D,_,_,rfl,rfl,ed6,(by rw [length_map,bn];exact AU (by ext)),?_⟩;refine ⟨_,bs++[t],rfl,Dh (z.trans j16),by rw [Ac,<- ra];rfl,fun b mb=>?_,by rw [length_append,bn];rfl⟩;rw [Di];rcases mem_append.mp mb with mb | mb
  ·exact (gb b mb).same (Eh j16)
  ·rw [mem_singleton.mp mb];exact bp
 rintro σ' J ⟨v9,bs,rfl,z,ed,gb,bn⟩;rw [ql] at bn;have sJ:Al H J:=(Dr s14 nD).trans z;have gbJ:∀b∈bs,BW J h ls (Ak F s' ns) b:=fun b mb=>(gb b mb).same (Eg _ _);have bn2:8<=bs.length/\bs.length<=60:=by ext
 clear gb z wD bl e3 eD4 bn;have gshJ:=sJ _ _ gsh;symm;refine ⟨sh,rs,k,rfl,gshJ,lk,n2,n150,nd,fun lo os H5 nlo s5 elo gos on=>?_⟩;have sH5:=sJ.trans s5;refine ⟨lo,rfl,⟨_,SqL.of elo⟩,?_⟩;refine AC (xs:=os.map fun o=>V.ref o.1) (by rw [length_map];exact A8 (by ext)) (fun D i ys J=>∃bs:List Addr,ys=bs.map V.ref/\bs.length=i/\J D=some (.lst ys)/\Al H5 J/\∀b∈bs,BW (off J D) h ls (Ak F s' ns) b) (fun D hD=>⟨[],rfl,rfl,Ac,Ag hD _,fun _ m=>absurd m List.not_mem_nil⟩) (fun D i ys J hq_=>by obtain ⟨bs,f1,f2,f3,_⟩:=hq_;exact ⟨f3,by rw [f1,length_map,f2];exact Nat.le_refl _⟩) (fun D i ys J hD hq_=>by obtain ⟨_,_,_,_,f4,_⟩:=hq_;exact SqL.of (f4 _ _ elo)) ?_ ?_
 ·rintro D i u ys J K1 K2 hD hu ⟨bs,rfl,f2,f3,f4,f5⟩ kk1 kk2;rw [List.getElem?_map] at hu;obtain ⟨o,ho,rfl⟩:=Option.map_eq_some_iff.mp hu;have go:=gos o (mem_of_getElem? ho);refine yes (ifT rfl ?_);symm
  exists 3,t,ht,J,(.tup [V.ref m,V.ref o.1,V.ref pk]),J1,j1,et,rfl
  have f31:=j1 _ _ f3;have tD:t≠D:=fun e=>At f3 ht e.symm;have o5:Al H5 (off J1 D):=Dr (f4.trans j1) hD;have pp:=(gp.same (sH5.trans o5)).pap (by ext);have bp:BW (off J1 D) h ls (Ak F s' ns) t:=⟨m,o.1,pk,Dc ms h (ovF ls),o.2,Ak F s' ns,⟨CJ et tD,pp.m,pp.tb,o5 _ _ go.1,fun r' m'=>pp.rg r' (go.2.1 r' m'),pp.pk,go.2.2.1⟩,GY (by rw [<- gp.due];exact go.2.2.2)⟩;refine kk1 _ _ f31 ⟨bs++[t],by rw [<- ra];rfl,by rw [length_append,f2];rfl,Ac,Ay (f4.trans j1) hD,fun b mb=>?_⟩;rw [Di];rcases mem_append.mp mb with mb | mb
  ·exact (f5 b mb).same (Eh j1)
  ·rw [mem_singleton.mp mb];exact bp
 rintro lA ys H6 _ ⟨bsA,rfl,nA,eA,s6,gA⟩;rw [length_map] at nA;have gA:∀b∈bsA,BW H6 h ls (Ak F s' ns) b:=fun b mb=>(gA b mb).same (Eg _ _);have edJ:=(s5.trans s6) _ _ ed;refine ⟨D,lA,_,_,rfl,rfl,edJ,eA,(by right),fun D1 nD1=>?_⟩;rw [ra]
 exists D1,nD1,H6,(.lst ((bs++bsA).map V.ref)),H7,s7,eD1
 have sJ7:=s5.trans (s6.trans s7);have sH7:=sJ.trans sJ7;have gm7:=sH7 _ _ gp.m;symm;refine ⟨m,ms,h,ovF ls,_,rfl,gm7,gp.tf.same sH7,by ext,h12,fun lo2 os2 H8 nlo2 s8 elo2 gos2 on2=>?_⟩;have sH8:=sH7.trans s8;refine ⟨lo2,rfl,⟨_,SqL.of elo2⟩,?_⟩;refine AC (xs:=os2.map fun o=>V.ref o.1) (by rw [length_map];exact A8 (by ext)) (fun D i ys J=>∃bs:List Addr,ys=bs.map V.ref/\bs.length=i/\J D=some (.lst ys)/\Al H8 J/\∀b∈bs,BW (off J D) h ls (Ak F s' ns) b) (fun D hD=>⟨[],rfl,rfl,Ac,Ag hD _,fun _ m=>absurd m List.not_mem_nil⟩) (fun D i ys J hq_=>by obtain ⟨bs,f1,f2,f3,_⟩:=hq_;exact ⟨f3,by rw [f1,length_map,f2];exact Nat.le_refl _⟩) (fun D i ys J hD hq_=>by obtain ⟨_,_,_,_,f4,_⟩:=hq_;exact SqL.of (f4 _ _ elo2)) ?_ ?_
 ·rintro D i u ys J K1 K2 hD hu ⟨bs,rfl,f2,f3,f4,f5⟩ kk1 kk2;rw [List.getElem?_map] at hu;obtain ⟨o,ho,rfl⟩:=Option.map_eq_some_iff.mp hu;have go:=gos2 o (mem_of_getElem? ho);refine yes (ifT rfl ?_);symm
  exists 3,t,ht,J,(.tup [V.ref o.1,V.ref sh,V.ref pk]),J1,j1,et,rfl
  have f31:=j1 _ _ f3;have tD:t≠D:=fun e=>At f3 ht e.symm;have o5:Al H8 (off J1 D):=Dr (f4.trans j1) hD;have pp:=(gp.same (sH8.trans o5)).pap (by ext);have bp:BW (off J1 D) h ls (Ak F s' ns) t:=⟨o.1,sh,pk,o.2,rs,Ak F s' ns,⟨CJ et tD,o5 _ _ go.1,go.2.1.same o5,pp.sh,pp.rg,pp.pk,by ext⟩,KJ go.2.2⟩;refine kk1 _ _ f31 ⟨bs++[t],by rw [<- ra];rfl,by rw [length_append,f2];rfl,Ac,Ay (f4.trans j1) hD,fun b mb=>?_⟩;rw [Di];rcases mem_append.mp mb with mb | mb
  ·exact (f5 b mb).same (Eh j1)
  ·rw [mem_singleton.mp mb];exact bp
 rintro lB ys H9 _ ⟨bsB,rfl,nB,eB,s9,gB⟩;rw [length_map] at nB;have gB:∀b∈bsB,BW H9 h ls (Ak F s' ns) b:=fun b mb=>(gB b mb).same (Eg _ _);refine ⟨D1,lB,_,_,rfl,rfl,(s8.trans s9) _ _ eD1,eB,(by right),fun D2 nD2=>?_⟩;rw [ra]
 exists D2,nD2,H9,(.lst ((bs++bsA++bsB).map V.ref)),H10,s10,eD2
 have s810:=s8.trans (s9.trans s10);have sH10:=sH7.trans s810;have ond:ns.Nodup:=pm.nodup_iff.mpr (RL h)
 have osub:∀z∈ns,∃i:Nat,i < h/\z=(i:Int):=fun z mz=>by
  obtain ⟨i,im,e⟩:=mem_map.mp (pm.mem_iff.mp mz);exact ⟨i,mem_range.mp im,e.symm⟩
 have nsl:ns.length=h:=by rw [pm.length_eq,BC]
 obtain ⟨pk1,pk2,pk3⟩:=KB st s' ns ond osub
 have pkl:(Ak F s' ns).length<=12:=by
  have:=BN pk1 pk2;ext
 have pkp:=length_pos_iff.mpr (pk3 s1' (fun e=>by rw [e] at nsl;exact absurd nsl (by show 0≠h;ext)));symm;refine ⟨pk,Ak F s' ns,h,_,rfl,sH10 _ _ gp.pk,pkp,pkl,pk1,fun z mz=>?_,by ext,h12,fun lo3 os3 H11 nlo3 s11 elo3 gos3 on3=>?_⟩
 ·obtain ⟨i,hi,rfl⟩:=osub z (pk2 z mz);ext
 have sH11:=sH10.trans s11;refine ⟨lo3,rfl,⟨_,SqL.of elo3⟩,?_⟩;refine AC (xs:=os3.map fun o=>V.ref o.1) (by rw [length_map];exact A8 (by ext)) (fun D i ys J=>∃bs:List Addr,ys=bs.map V.ref/\bs.length=i/\J D=some (.lst ys)/\Al H11 J/\∀b∈bs,BW (off J D) h ls (Ak F s' ns) b) (fun D hD=>⟨[],rfl,rfl,Ac,Ag hD _,fun _ m=>absurd m List.not_mem_nil⟩) (fun D i ys J hq_=>by obtain ⟨bs,f1,f2,f3,_⟩:=hq_;exact ⟨f3,by rw [f1,length_map,f2];exact Nat.le_refl _⟩) (fun D i ys J hD hq_=>by obtain ⟨_,_,_,_,f4,_⟩:=hq_;exact SqL.of (f4 _ _ elo3)) ?_ ?_
 ·rintro D i u ys J K1 K2 hD hu ⟨bs,rfl,f2,f3,f4,f5⟩ kk1 kk2;rw [List.getElem?_map] at hu;obtain ⟨o,ho,rfl⟩:=Option.map_eq_some_iff.mp hu;have go:=gos3 o (mem_of_getElem? ho);refine yes (ifT rfl ?_);symm
  exists 3,t,ht,J,(.tup [V.ref m,V.ref sh,V.ref o.1]),J1,j1,et,rfl
  have f31:=j1 _ _ f3;have tD:t≠D:=fun e=>At f3 ht e.symm;have o5:Al H11 (off J1 D):=Dr (f4.trans j1) hD;have pp:=(gp.same (sH11.trans o5)).pap (by ext);have bp:BW (off J1 D) h ls (Ak F s' ns) t:=⟨m,sh,o.1,Dc ms h (ovF ls),rs,o.2,⟨CJ et tD,pp.m,pp.tb,pp.sh,pp.rg,o5 _ _ go.1,by ext⟩,Ha go.2⟩;refine kk1 _ _ f31 ⟨bs++[t],by rw [<- ra];rfl,by rw [length_append,f2];rfl,Ac,Ay (f4.trans j1) hD,fun b mb=>?_⟩;rw [Di];rcases mem_append.mp mb with mb | mb
  ·exact (f5 b mb).same (Eh j1)
  ·rw [mem_singleton.mp mb];exact bp
 rintro lC ys H12 _ ⟨bsC,rfl,nC,eC,s12',gC⟩;rw [length_map] at nC;have gC:∀b∈bsC,BW H12 h ls (Ak F s' ns) b:=fun b mb=>(gC b mb).same (Eg _ _);refine ⟨D2,lC,_,_,rfl,rfl,(s11.trans s12') _ _ eD2,eC,(by right),fun D3 nD3=>?_⟩;rw [ra]
 exists D3,nD3,H12,(.lst ((bs++bsA++bsB++bsC).map V.ref)),H13,s13',eD3
 have zC:=s13';have zB:=s10.trans (s11.trans (s12'.trans zC));have zA:=s7.trans (s8.trans (s9.trans zB));have zJ:=s5.trans (s6.trans zA);have zH12:=sH11.trans s12';refine q D3 _ H13 (none_of zH12 nD3) (zH12.trans s13') eD3 (fun b mb=>?_) (by rw [length_append,length_append,length_append];ext) (by rw [length_append,length_append,length_append];ext);rcases mem_append.mp mb with mb | mb
 ·rcases mem_append.mp mb with mb | mb
  ·rcases mem_append.mp mb with mb | mb
   ·exact (gbJ b mb).same zJ
   ·exact (gA b mb).same zA
  ·exact (gB b mb).same zB
 ·exact (gC b mb).same zC
theorem Dk (T:Tx K mg base ad):AZ P w K mg base CX0 2 ad.f_Pairs_picks_by ad.d_Pairs_picks_by ["self","strengths"] (IR ad.c_Pairs):=by
 refine T.F_Pairs_picks_by.ok BH (fun vs H Q E h=>?_) (fun cdv A outer s H vs Q E hr h=>?_)
 ·obtain ⟨a,r,rs,h,s,ns,L,F,rfl,_⟩:=h;rfl
 obtain ⟨a,r,rs,h,s,ns,L,F,rfl,md,hr0,tb,st,q⟩:=h;refine ⟨_,((@An _ _ (2) _ _ _ _ BH.nd rfl (Or.inl rfl) (@Av _ _ _ _ Ab) (by rfl) (by nofun))>>((@An _ _ (3) _ _ _ _ BH.nd rfl (Or.inr rfl) (@BO _ _ _ _ _ _ _ _ _ BK (by rfl) T.z_list PyProof.Rows.boot_list ((DK (pv 0) rfl)*>Ab) (by decide) (by decide) (by rfl) (by rfl)) (by rfl) (by nofun))>>((Fl PassesOwn.never (PW.pt (@OW _ _ _ _ _ _ _ (@A7 _ _ _ _ _ _ _ _ (GS (K:=K) hr.units) (pv 3) (@Av _ _ _ _ Ab) (AA _)) (@MA _ _ _ _ (@A7 _ _ _ _ _ _ _ _ FQ (@Au _ _ _ _ _ _ _ _ _ Az (by rfl) T.z_len PySem.boot_len ((pv 2)*>Ab) (by decide) (by decide) (by rfl) (by rfl)) (DK (pv 0) rfl) (AA _))))) ((@An _ _ (4) _ _ _ _ BH.nd rfl (Or.inl rfl) (@Ao _ _ _ _ _ _ _ Ax (Be (fsc:=Af C7) (N:=["self","strengths","picks","left","first"]) (Nc:=["self","strengths","picks","left","first","hand"]) rfl rfl (by nofun) rfl (A9 (pv 3)) (fun _ _ _ _=>(Cm (@Dt _ _ _ _ (@Du _ _ _ (@Am _ _ _ _ _ _ _ _ _ _ _ _ _ _ _ _ (Js T) (hr.mono (by decide)) rfl T.m_is_beaten T.F_is_beaten.kp T.b_is_beaten .nil Aw ((pv 1)*>((pv 5)*>((pv 3)*>Ab))) (by decide) (by rfl) (by rfl)) (by intro _;rfl))))) (fun _ _ _ _=>(pv 5))) Ae (fun _ _=>rfl)) (by rfl) (by nofun))>>((@Bx _ _ _ _ (Cy PySem.F.plainAttrs_list PySem.F.slot_list_append PySem.F.type_list_append Bn (pv 2) ((pv 4)*>Ab)) (by rfl))>>(@Ah _ _ _ (@Bx _ _ _ _ (Cy PySem.F.plainAttrs_list PySem.F.slot_list_remove PySem.F.type_list_remove Iw (pv 3) ((pv 4)*>Ab)) (by rfl))))))>>(@Ah _ _ _ (@As _ _ _ _ (pv 2)))))),?_⟩;obtain ⟨dx,la,k1,k2⟩:=id md.is;have h12:=md.h12;have s60:=md.s60;have nl:ns.length=h:=by rw [md.pm.length_eq,BC]
 refine ⟨(by show 0<=sizeLine;decide),fun p hp=>?_⟩
 exists p,hp,H,(.lst []),H1,s1,e1,(.lst (([]:List Int).map V.int))
 refine ⟨_,rfl,a,_,dx,_,_,rfl,s1 _ _ k1,T.cl_Pairs,T.na_Pairs_lots,rfl,?_⟩;refine ⟨la,_,rfl,.inl (SqL.of (s1 _ _ k2)),fun l hl=>?_⟩;have lp:l≠p:=fun z=>by rw [z,e1] at hl;cases hl
 have hlH:=none_of s1 hl;have s2:=s1.trans (Ag hl (.lst (ns.map V.int)));have p2:=Ag hl (.lst (ns.map V.int)) _ _ e1;have l2:(upd H1 l (.lst (ns.map V.int))) l=some (.lst (ns.map V.int)):=Ac;generalize upd H1 l (.lst (ns.map V.int))=H2 at s2 p2 l2 ⊢;refine ⟨fun m σ' H'=>∃(v4:Option V) (left got:List Int),σ'=[some (.ref a),some (.ref r),some (.ref p),some (.ref l),v4]/\Al H H'/\H' p=some (.lst (got.map V.int))/\H' l=some (.lst (left.map V.int))/\(∀z∈left,∃i:Nat,i < h/\z=(i:Int))/\got.length<=s/\got++Ak F (s - got.length) left=Ak F s ns/\left.length=m/\m<=12,⟨_,none,ns,[],rfl,s2,p2,l2,(fun z mz=>P0 (md.pm.mem_iff.mp mz)),Nat.zero_le _,rfl,rfl,by ext⟩,?_⟩;rintro m σ' H' ⟨v4,left,got,rfl,s3,p3,l3,sub,gs,pk,lm,m12⟩;refine ⟨_,rfl,(by show 0<=sizeLine;decide),fun z3 hz3=>?_⟩
 exists z3,hz3,H',(.lst []),H4,sz,ez,(.lst (([]:List Int).map V.int))
 have p4:=sz _ _ p3;have l4:=sz _ _ l3;have s4:=s3.trans sz;refine ⟨.list (left.map .int),.list (([]:List Int).map .int),.lst (SqL.of l4) (.ints _),.lst (SqL.of ez) (.ints []),(Bq _).2,(Bq _).2,?_⟩;rw [show PyData.eqv (.list (left.map .int)) (.list (([]:List Int).map .int))=decide (left=[]) from CD _ _];refine ⟨_,rfl,?_⟩
 have fin:Ak F (s - got.length) left=[]->Q (.ref p) H4:=fun e=>by
  rw [e,append_nil] at pk;exact q p H4 hp s4 (by rw [<- pk];exact p4)
 by_cases cl:left=[]
 ·rw [decide_eq_true cl];refine ifF rfl ?_;symm;exact fin (by rw [cl];exact Dm F _)
 ·rw [decide_eq_false cl];refine ifT rfl ?_;symm;refine ⟨a,_,dx,_,_,rfl,s4 _ _ k1,T.cl_Pairs,T.na_Pairs_seats,rfl,?_⟩;symm;by_cases cs:got.length < s
  ·refine ifT (decide_eq_true (by rw [length_map];ext)) ?_;have pl:0 < left.length:=length_pos_iff.mpr cl;refine ⟨fun σ' H'=>∃(v4:Option V) (left got:List Int),σ'=[some (.ref a),some (.ref r),some (.ref p),some (.ref l),v4]/\Al H H'/\H' p=some (.lst (got.map V.int))/\H' l=some (.lst (left.map V.int))/\(∀z∈left,∃i:Nat,i < h/\z=(i:Int))/\got.length<=s/\got++Ak F (s - got.length) left=Ak F s ns/\left.length=m - 1/\m - 1<=12,fun σ' H' e=>⟨m - 1,by ext,e⟩,?_⟩;symm;refine ⟨⟨_,SqL.of l4⟩,?_⟩;refine AC (xs:=left.map V.int) (by rw [length_map];exact A8 (by ext)) (fun D i ys J=>ys=((left.take i).filter fun z=>!DF F z left).map V.int/\J D=some (.lst ys)/\Al H4 J) (fun D hD=>⟨rfl,Ac,Ag hD _⟩) (fun D i ys J hq_=>by obtain ⟨f1,f2,_⟩:=hq_;exact ⟨f2,by rw [f1,length_map];exact Nat.le_trans (length_filter_le _ _) (length_take_le _ _)⟩) (fun D i ys J hD hq_=>by obtain ⟨_,_,f3⟩:=hq_;exact SqL.of (f3 _ _ l4)) ?_ ?_
   ·rintro D i w ys J K1 K2 hD hw ⟨f1,f2,f3⟩ kk1 kk2;obtain ⟨z,hz,rfl⟩:=int_at hw;obtain ⟨j,hj,rfl⟩:=sub z (mem_of_getElem? hz);have et:left.take (i+1)=left.take i++[(j:Int)]:=by rw [take_add_one,hz];rfl
    have s5:=s4.trans f3;refine ⟨_,rfl,_,rfl,_,rfl,r,l,rs,h,j,F,left,rfl,s5 _ _ hr0,tb.same s5,hj,f3 _ _ l4,sub,by ext,fun H6 s6=>?_⟩;refine ⟨_,rfl,?_⟩
    cases eb:DF F (j:Int) left with
    | true =>
      refine ifF rfl ?_;refine kk2 _ ⟨?_,s6 _ _ f2,f3.trans s6⟩;rw [et,filter_append,f1];simp [eb]
    | false =>
      refine ifT rfl ?_;refine ⟨_,rfl,?_⟩;refine kk1 _ _ (s6 _ _ f2) ⟨?_,Ac,Ay (f3.trans s6) hD⟩;rw [et,filter_append,map_append,f1];simp [eb]
   rintro D ys H5 hD ⟨f1,f2,f3⟩;rw [length_map,take_of_length_le (Nat.le_refl _)] at f1;subst f1;have ue:unb F left≠[]:=Pz st cl sub
   obtain ⟨u,ur,eu⟩:∃u ur,unb F left=u :: ur:=by
    cases e:unb F left with
    | nil=>exact absurd e ue
    | cons u ur=>exact ⟨u,ur,rfl⟩
   have um:u∈left:=by
    have:u∈unb F left:=by rw [eu];exact mem_cons_self ..
    exact (mem_filter.mp this).1
   have f2':H5 D=some (.lst ((u :: ur).map V.int)):=by rw [<- eu];exact f2
   have sg:=CT F (s:=s - got.length - 1) cl;rw [show s - got.length - 1+1=s - got.length by ext,eu] at sg;have p5:=f3 _ _ p4;have l5:=f3 _ _ l4;have s5:=s4.trans f3;symm;refine ⟨D,_,_,_,rfl,rfl,SqL.of f2',(show atI _ ((0:Nat):Int)=_ from atN rfl),?_⟩;symm;refine ⟨.inl ⟨rfl,_,SqL.of p5⟩,?_⟩;symm;refine ⟨p,_,_,rfl,rfl,p5,(by rw [length_map];exact AU (by ext)),?_⟩;have l6:(upd H5 p (.lst (got.map V.int++[V.int u]))) l=some (.lst (left.map V.int)):=by rw [Aj lp];exact l5
   have p6:(upd H5 p (.lst (got.map V.int++[V.int u]))) p=some (.lst ((got++[u]).map V.int)):=by rw [Ac,map_append];rfl
   have s6:=Ay (o:=.lst (got.map V.int++[V.int u])) s5 hp;generalize upd H5 p (.lst (got.map V.int++[V.int u]))=H6 at l6 p6 s6 ⊢;symm;refine ⟨.inl ⟨rfl,_,SqL.of l6⟩,?_⟩;symm;refine ⟨l,left,u,rfl,rfl,l6,um,?_⟩;rw [<- Fs];refine ⟨_,left.erase u,got++[u],rfl,Ay s6 hlH,by rw [Aj (Ne.symm lp)];exact p6,Ac,fun z mz=>sub z (mem_of_mem_erase mz),by rw [length_append];show got.length+1<=s;ext,?_,by rw [length_erase_of_mem um];ext,by ext⟩;rw [length_append,show s - (got.length+[u].length)=s - got.length - 1 from (by show s - (got.length+1)=_;ext),append_assoc];show got++(u :: Ak F (s - got.length - 1) (left.erase u))=_;rw [<- pk,sg];rfl
  ·refine ifF (decide_eq_false (by rw [length_map];ext)) ?_;symm;exact fin (by rw [show s - got.length=0 by ext];exact CU F _)
theorem K5 (T:Tx K mg base ad):AZ P w K mg base CX0 3 ad.f_is_shown ad.d_is_shown ["leads","row"] IX:=by
 refine T.F_is_shown.ok FY (fun vs H Q E h=>?_) (fun cdv A outer s H vs Q E hr h=>?_)
 ·obtain ⟨a,as,h,L,r,rfl,_⟩:=h;rfl
 obtain ⟨a,as,h,L,r,rfl,ha,tb,g,wl,x0,xh,y0,yh,h12,q⟩:=h;refine ⟨_,((@An _ _ (2) _ _ _ _ FY.nd rfl (Or.inl rfl) (@Au _ _ _ _ _ _ _ _ _ Az (by rfl) T.z_len PySem.boot_len ((pv 0)*>Ab) (by decide) (by decide) (by rfl) (by rfl)) (by rfl) (by nofun))>>((@BV _ _ _ _ _ _ _ _ (PW.pt (@IF _ _ _ _ _ _ _ (@Dt _ _ _ _ (@Du _ _ _ (@Am _ _ _ _ _ _ _ _ _ _ _ _ _ _ _ _ (N9 T) (hr.mono (by decide)) rfl T.m_is_way T.F_is_way.kp T.b_is_way .nil Aw ((@Ao _ _ _ _ _ _ _ Br (pv 1) Ae (fun _ _=>rfl))*>((@Ao _ _ _ _ _ _ _ Br (pv 1) Ae (fun _ _=>rfl))*>((@Ao _ _ _ _ _ _ _ Br (pv 1) Ae (fun _ _=>rfl))*>((pv 2)*>Ab)))) (by decide) (by rfl) (by rfl)) (by intro _;rfl))) (@GX _ _ _ _ (@Dt _ _ _ _ (@Du _ _ _ (@Am _ _ _ _ _ _ _ _ _ _ _ _ _ _ _ _ (N8 T) (hr.mono (by decide)) rfl T.m_is_cut T.F_is_cut.kp T.b_is_cut .nil Aw ((@Ao _ _ _ _ _ _ _ Br (pv 1) Ae (fun _ _=>rfl))*>((@Ao _ _ _ _ _ _ _ Br (pv 1) Ae (fun _ _=>rfl))*>((@Ao _ _ _ _ _ _ _ Br (pv 1) Ae (fun _ _=>rfl))*>((pv 2)*>Ab)))) (by decide) (by rfl) (by rfl)) (by intro _;rfl)))))) (@Ah _ _ _ (@As _ _ _ _ Ce)) Bb)>>(@Ah _ _ _ (@As _ _ _ _ (@El _ _ _ _ _ _ _ (@CA _ _ _ _ _ _ _ _ FN (@Am _ _ _ _ _ _ _ _ _ _ _ _ _ _ _ _ (HQ T) (hr.mono (by decide)) rfl T.m_least_link T.F_least_link.kp T.b_least_link .nil Aw ((pv 0)*>((@Ao _ _ _ _ _ _ _ Br (pv 1) Ae (fun _ _=>rfl))*>Ab)) (by decide) (by rfl) (by rfl)) (@Ao _ _ _ _ _ _ _ Br (pv 1) Ae (fun _ _=>rfl)) (AA _)) (@EG _ _ _ _ _ (@CA _ _ _ _ _ _ _ _ FP (@Am _ _ _ _ _ _ _ _ _ _ _ _ _ _ _ _ (Fy T) (hr.mono (by decide)) rfl T.m_greatest_link T.F_greatest_link.kp T.b_greatest_link .nil Aw ((pv 0)*>((@Ao _ _ _ _ _ _ _ Br (pv 1) Ae (fun _ _=>rfl))*>Ab)) (by decide) (by rfl) (by rfl)) (@Ao _ _ _ _ _ _ _ Br (pv 1) Ae (fun _ _=>rfl)) (AA _)))))))),?_⟩;have al:(as.map V.ref).length=h:=by rw [length_map,tb.1]
 have gt:=g.t;have gw:=g.w
 have no:∀{J:Hp},Al H J->¬ Ea h L r->Q (.bl false) J:=fun {J} z k=>by
  have:=q J z;rwa [LO k] at this
 symm;rw [al];refine ⟨r.w,h,r.x,r.y,r.ws,rfl,gw,wl,fun H1 s1=>?_⟩
 cases wb:EN h r.ws r.x r.y with
 | false =>
   symm;exact no s1 fun z=>absurd z.1 (by rw [wb];decide)
 | true =>
   have gt1:=s1 _ _ gt;symm;refine ⟨h,r.x.toNat,r.y.toNat,r.cut,by rw [Int.toNat_of_nonneg x0,Int.toNat_of_nonneg y0];rfl,h12,?_⟩
   cases cb:DG h r.cut r.x.toNat r.y.toNat with
   | false =>
     symm;exact no s1 fun z=>absurd z.2.1 (by rw [cb];decide)
   | true =>
     obtain ⟨f,iw,nn,_⟩:=JS L wb;symm;refine ⟨a,r.w,as,h,r.x.toNat,r.y.toNat,L,f,r.ws.map Int.toNat,rfl,s1 _ _ ha,tb.same s1,by rw [Qi nn];exact s1 _ _ gw,iw,h12,fun H2 s2=>?_⟩;have gt2:=s2 _ _ gt1;have s12:=s1.trans s2;symm;by_cases e:f=r.s
     ·refine ifT (Nn e) ?_;symm;refine ⟨a,as,h,r.x.toNat,r.y.toNat,L,r.cut,rfl,s12 _ _ ha,tb.same s12,cb,by ext,by ext,h12,fun m H3 s3 mo=>?_⟩;have gt3:=s3 _ _ gt2;symm;dsimp only;by_cases ml:m<=r.s
      ·rw [decide_eq_true ml];have:=q _ (s12.trans s3);rwa [LP ⟨wb,cb,by rw [<- e];exact iw,fun i j hi hj bi bj=>Int.le_trans (mo.2 i j hi hj bi bj) ml⟩] at this
      ·rw [decide_eq_false ml];refine no (s12.trans s3) fun z=>?_;obtain ⟨⟨i,j,hi,hj,bi,bj,e⟩,_⟩:=mo;exact ml (by rw [<- e];exact z.2.2.2 i j hi hj bi bj)
     ·refine ifF (Nm e) ?_;symm;exact no s12 fun z=>e (MP iw z.2.2.1)
theorem HR (T:Tx K mg base ad):AZ P w K mg base CX0 3 ad.f_shown_from ad.d_shown_from ["reached","x"] Gb:=by
 refine T.F_shown_from.ok E9 (fun vs H Q E h=>?_) (fun cdv A outer s H vs Q E hr h=>?_)
 ·obtain ⟨t,h,x,L,be,rfl,_⟩:=h;rfl
 obtain ⟨t,h,x,L,be,rfl,td,hx,h12,q⟩:=h;refine ⟨_,((DL (j:=2) (fsc:=Af CW) (N:=["reached","x","others"]) (Nc:=["reached","x","others","y"]) rfl rfl (by nofun) rfl E9.nd rfl rfl (AM rfl T.z_range ((@Au _ _ _ _ _ _ _ _ _ Az (by rfl) T.z_len PySem.boot_len ((@Ao _ _ _ _ _ _ _ Br (pv 0) Ae (fun _ _=>rfl))*>Ab) (by decide) (by decide) (by rfl) (by rfl))*>Ab)) (fun _ _ _ _=>(Cm (@A7 _ _ _ _ _ _ _ _ IC (pv 3) (pv 1) (AA _)))) (fun _ _ _ _=>(pv 3)) rfl)>>(@Ah _ _ _ (@As _ _ _ _ (Be (fsc:=Af CW) (N:=["reached","x","others"]) (Nc:=["reached","x","others","y"]) rfl rfl (by nofun) rfl (A9 (pv 2)) (fun _ _ _ _=>AI) (fun _ _ _ _=>(@AX _ _ _ _ _ ((pv 1)*>((pv 3)*>((@Ao _ _ _ _ _ _ _ (AJ K) (@Ao _ _ _ _ _ _ _ (Gr K) (pv 0) Ae (fun _ _=>rfl)) (pv 3) (fun _ _=>rfl))*>((@Am _ _ _ _ _ _ _ _ _ _ _ _ _ _ _ _ (NA T) (hr.mono (by decide)) rfl T.m_way_by T.F_way_by.kp T.b_way_by .nil Aw ((pv 0)*>((pv 1)*>((pv 3)*>Ab))) (by decide) (by rfl) (by rfl))*>((@Am _ _ _ _ _ _ _ _ _ _ _ _ _ _ _ _ (N7 T) (hr.mono (by decide)) rfl T.m_cut_by T.F_cut_by.kp T.b_cut_by .nil Aw ((pv 0)*>((pv 1)*>((pv 3)*>Ab))) (by decide) (by rfl) (by rfl))*>Ab))))))))))),?_⟩;obtain ⟨b,f,bf,et,eb,ef,re⟩:=id td.is;have bl:=re.lenb;symm;refine ⟨by ext,by rw [length_map];ext,?_⟩;rw [length_map,bl,Int.toNat_natCast];refine AY (A8 (by ext)) (fun D i ys J=>ys=(CP i x).map V.int/\J=upd H D (.lst ys)) (fun D hD=>⟨rfl,rfl⟩) (fun D i ys J hq_=>by obtain ⟨g1,g2⟩:=hq_;exact ⟨by rw [g2];exact Ac,by rw [g1,length_map];unfold CP;rw [length_map];exact Nat.le_trans (length_filter_le _ _) (by rw [length_range];exact Nat.le_refl _)⟩) ?_ ?_
 ·rintro D i ys J K1 K2 hD hi ⟨g1,rfl⟩ k1 k2;have e0:(0:Int)+(i:Int)=(i:Int):=Int.zero_add _;rw [e0];symm;by_cases c:i=x
  ·refine ifF (N3 (by rw [c])) ?_;exact k2 _ ⟨by rw [g1,Ey,if_pos c,append_nil],rfl⟩
  ·refine ifT (N4 fun e=>c (Int.ofNat.inj e)) ?_;refine ⟨_,rfl,?_⟩;exact k1 _ _ Ac ⟨by rw [g1,Ey,if_neg c,map_append];rfl,by rw [Bf]⟩
 rintro l ys H1 hl ⟨rfl,rfl⟩
 exists l,hl,H,(.lst ((CP h x).map V.int)),H1,s1,e1
 rw [Og] at e1;have nl:(E6 h x).length<=h:=Nat.le_trans (length_filter_le _ _) (by rw [length_range];exact Nat.le_refl _);symm;refine ⟨⟨_,SqL.of e1⟩,?_⟩;refine AC (xs:=(B9 (E6 h x)).map V.int) (by rw [length_map];unfold B9;rw [length_map];exact A8 (by ext)) (fun D i ys J=>∃rows:List Rw,ys=vrw rows/\rows.length=i/\J D=some (.lst ys)/\Al H1 J/\(∀q∈rows,EB h L (fun _ y=>be.getD y 0) J q/\q.x=x/\H1 q.t=none/\H1 q.w=none/\q.t≠D/\q.w≠D)/\rows.map (fun q=>(q.x,q.y))=((E6 h x).take i).map fun y=>(x,y)) (fun D hD=>⟨[],rfl,rfl,Ac,Ag hD _,(fun _ m=>absurd m List.not_mem_nil),rfl⟩) (fun D i ys J hq_=>by obtain ⟨rows,g1,g2,g3,_⟩:=hq_;exact ⟨g3,by rw [g1];unfold vrw;rw [length_map,g2];exact Nat.le_refl _⟩) (fun D i ys J hD hq_=>by obtain ⟨_,_,_,_,g4,_⟩:=hq_;exact SqL.of (g4 _ _ e1)) ?_ ?_
 ·rintro D i w ys J K1 K2 hD hw ⟨rows,rfl,g2,g3,g4,g5,g6⟩ k1 k2;obtain ⟨z,hz,rfl⟩:=int_at hw;unfold B9 at hz;rw [List.getElem?_map] at hz;obtain ⟨y,hy0,rfl⟩:=Option.map_eq_some_iff.mp hz
  obtain ⟨hy,yx⟩:y < h/\y≠x:=by
   have:=mem_filter.mp (mem_of_getElem? hy0);exact ⟨mem_range.mp this.1,of_decide_eq_true this.2⟩
  have sJ:=s1.trans g4;have et':=sJ _ _ et;refine yes (ifT rfl ?_);refine ⟨_,rfl,_,rfl,_,rfl,t,_,_,_,rfl,rfl,SqT.of et',rfl,?_⟩;refine ⟨_,rfl,b,_,_,_,rfl,rfl,SqL.of (sJ _ _ eb),atG (by ext),?_⟩;refine ⟨_,rfl,_,rfl,_,rfl,t,h,x,y,L,be,rfl,td.same sJ,hy,yx,h12,fun wr ws H2 hwr s2 e2 iw=>?_⟩;refine ⟨_,rfl,_,rfl,_,rfl,t,h,x,y,L,be,rfl,(td.same sJ).same s2,hx,hy,h12,fun H3 s3=>?_⟩;refine ⟨(by show 5<=sizeLine;decide),fun t5 ht5=>?_⟩;have s4:=Ag ht5 (.tup [V.int (x:Int),V.int (y:Int),V.int (be.getD y 0),V.ref wr,V.int (AR h (Kb x y be))]);have e5:(upd H3 t5 (.tup [V.int (x:Int),V.int (y:Int),V.int (be.getD y 0),V.ref wr,V.int (AR h (Kb x y be))])) t5=some (.tup [V.int (x:Int),V.int (y:Int),V.int (be.getD y 0),V.ref wr,V.int (AR h (Kb x y be))]):=Ac;have s24:=(s2.trans s3).trans s4;have w5:=(s3.trans s4) _ _ e2;have D5:=s24 _ _ g3;have wD:wr≠D:=fun z=>by rw [z,g3] at hwr;cases hwr
  have tD:t5≠D:=fun z=>by rw [z,(s2.trans s3) _ _ g3] at ht5;cases ht5
  have nt:=none_of (g4.trans (s2.trans s3)) ht5;generalize upd H3 t5 (.tup [V.int (x:Int),V.int (y:Int),V.int (be.getD y 0),V.ref wr,V.int (AR h (Kb x y be))])=H5 at s24 e5 w5 D5 ⊢;refine k1 _ _ D5 ⟨rows++[⟨t5,x,y,be.getD y 0,wr,ws,AR h (Kb x y be)⟩],by unfold vrw;rw [map_append];rfl,by rw [length_append,g2];rfl,Ac,Ay (g4.trans s24) hD,fun q0 m=>?_,by rw [map_append,g6,take_add_one,hy0,map_append];rfl⟩;rcases mem_append.mp m with m | m
  ·obtain ⟨r0,r1,r2,r3,r4,r5⟩:=g5 q0 m;exact ⟨⟨by rw [Aj r4];exact s24 _ _ r0.tup,by rw [Aj r5];exact s24 _ _ r0.way,r0.hx,r0.hy,r0.ne,r0.str,r0.isw,r0.cutE⟩,r1,r2,r3,r4,r5⟩
  ·rw [mem_singleton.mp m];exact ⟨⟨by rw [Aj tD];exact e5,by rw [Aj wD];exact w5,hx,hy,yx,rfl,iw,rfl⟩,rfl,nt,none_of g4 hwr,tD,wD⟩
 rintro D ys H2 hD ⟨rows,rfl,g2,g3,g4,g5,g6⟩;rw [length_map,Iz,take_of_length_le (Nat.le_refl _)] at g6;exact q D rows H2 (none_of s1 hD) (s1.trans g4) g3 (fun q0 m=>⟨(g5 q0 m).1,(g5 q0 m).2.1,none_of s1 (g5 q0 m).2.2.1,none_of s1 (g5 q0 m).2.2.2.1⟩) g6
theorem Jx (T:Tx K mg base ad):AZ P w K mg base CX0 3 ad.f_law_votes ad.d_law_votes ["_law_script","_law_start","_law_most","_law_hands"] (IZ K):=by
 refine T.F_law_votes.ok Ct (fun vs H Q E h=>?_) (fun cdv A outer s H vs Q E hr h=>?_)
 ·obtain ⟨p,ns,a,m,h,rfl,_⟩:=h;rfl
 obtain ⟨p,ns,a,m,h,rfl,hS,h63,rfl,rfl,h1,h12,q⟩:=h;refine ⟨_,((@An _ _ (4) _ _ _ _ Ct.nd rfl (Or.inl rfl) (@Av _ _ _ _ Ab) (by rfl) (by nofun))>>((Bu PassesOwn.never rfl (NE rfl T.z_range ((pv 1)*>((@Au _ _ _ _ _ _ _ _ _ (Na rfl) (by rfl) T.z_max PyProof.Rows.boot_max ((AG<&>((pv 1)<|>Ae))*>((@Au _ _ _ _ _ _ _ _ _ (Ig rfl) (by rfl) T.z_min PyProof.Rows.boot_min ((@Au _ _ _ _ _ _ _ _ _ Az (by rfl) T.z_len PySem.boot_len ((pv 0)*>Ab) (by decide) (by decide) (by rfl) (by rfl))*>((AG<&>((pv 1)<|>(pv 2)))*>Ab)) (by decide) (by decide) (by rfl) (by rfl))*>Ab)) (by decide) (by decide) (by rfl) (by rfl))*>Ab))) (Ar (i:=5) Ct.nd rfl (Or.inl rfl)) ((@An _ _ (6) _ _ _ _ Ct.nd rfl (Or.inl rfl) (@Am _ _ _ _ _ _ _ _ _ _ _ _ _ _ _ _ (Cj T) (hr.mono (by decide)) rfl T.m_law_mixed T.F_law_mixed.kp T.b_law_mixed .nil Aw ((@Am _ _ _ _ _ _ _ _ _ _ _ _ _ _ _ _ (Ek T) (hr.mono (by decide)) rfl T.m_law_cell T.F_law_cell.kp T.b_law_cell .nil Aw ((pv 0)*>((pv 5)*>Ab)) (by decide) (by rfl) (by rfl))*>((pv 5)*>Ab)) (by decide) (by rfl) (by rfl)) (by rfl) (by nofun))>>((@An _ _ (7) _ _ _ _ Ct.nd rfl (Or.inl rfl) (@Ao _ _ _ _ _ _ _ Ax (@Av _ _ _ _ ((AG<&>(Ae<|>(AL<&>((Bm<&>((pv 6)<|>Ae))<|>Ae))))*>((AG<&>(Ae<|>(AL<&>((Bm<&>((pv 6)<|>Ae))<|>Ae))))*>((AG<&>(Ae<|>(AL<&>((Bm<&>((pv 6)<|>Ae))<|>(EF<&>(Ae<|>Ae))))))*>Ab)))) (AL<&>((pv 6)<|>Ae)) (fun _ _=>rfl)) (by rfl) (by nofun))>>(@Ah _ _ _ (@Bx _ _ _ _ (Cy PySem.F.plainAttrs_list PySem.F.slot_list_append PySem.F.type_list_append Bn (pv 4) ((@AX _ _ _ _ _ ((@Am _ _ _ _ _ _ _ _ _ _ _ _ _ _ _ _ (Jv T) (hr.mono (by decide)) rfl T.m_law_ranks T.F_law_ranks.kp T.b_law_ranks .nil Aw ((Bm<&>((pv 6)<|>Ae))*>((pv 3)*>Ab)) (by decide) (by rfl) (by rfl))*>((pv 7)*>Ab)))*>Ab)) (by rfl))))))>>(@Ah _ _ _ (@As _ _ _ _ (pv 4))))),?_⟩;obtain ⟨n,rfl⟩:∃n:Nat,h=(n:Int):=⟨h.toNat,by ext⟩;refine ⟨(by show 0<=sizeLine;decide),fun l hl=>?_⟩
 exists l,hl,H,(.lst []),H0,s0,e0,(.lst (vvo []))
 symm;refine ⟨p,_,rfl,.inl (s0.seq hS),?_⟩;symm;refine ⟨_,_,rfl,?_⟩;symm;refine ⟨_,_,rfl,?_⟩;have hl':(ns.map V.int).length=ns.length:=length_map _;rw [hl']
 have hM:5<=(if (if 2+12 < (ns.length:Int) then 2+12 else (ns.length:Int)) > 2+3 then (if 2+12 < (ns.length:Int) then 2+12 else (ns.length:Int)) else 2+3)/\(if (if 2+12 < (ns.length:Int) then 2+12 else (ns.length:Int)) > 2+3 then (if 2+12 < (ns.length:Int) then 2+12 else (ns.length:Int)) else 2+3)<=14:=by
  split <;> split at*<;> ext
 generalize (if (if 2+12 < (ns.length:Int) then 2+12 else (ns.length:Int)) > 2+3 then (if 2+12 < (ns.length:Int) then 2+12 else (ns.length:Int)) else 2+3)=M at hM ⊢;refine ⟨2,M,rfl,⟨by decide,by decide,by ext,by ext⟩,D4 (fun i σ' H'=>∃(v5 v6 v7:Option V) (vo:Vo),σ'=[some (.ref p),some (.int 2),some (.int 12),some (.int (n:Int)),some (.ref l),v5,v6,v7]/\Al H H'/\H' l=some (.lst (vvo vo))/\vo.length=i/\FB n H' vo/\P9 vo/\∀q∈vo,q.2.1≠l) ⟨none,none,none,[],rfl,s0,e0,rfl,(fun _ m=>absurd m List.not_mem_nil),(fun _ m=>absurd m List.not_mem_nil),(fun _ m=>absurd m List.not_mem_nil)⟩ ?_ ?_⟩
 ·rintro i σ' H' hi ⟨v5,v6,v7,vo,rfl,s1,e1,ln,g,nu,nl⟩;symm;refine ⟨p,ns,2+(i:Int),rfl,s1.seq hS,h63,by ext,by ext,fun c c0 c1=>?_⟩;symm;refine ⟨c,2+(i:Int),rfl,S3 c0 c1,Fo (by ext) (by ext),fun z z0 z1=>?_⟩;symm;have szz:=RD z0 z1;have m3:=Bg z (show (0:Int) < 3 by decide);have m4:=Bg (z.fdiv 8) (show (0:Int) < 4 by decide);have m9:=Bg (z.fdiv 8) (show (0:Int) < 10 ^ (9:Int).toNat by decide);have e9:(10:Int) ^ (9:Int).toNat=1000000000:=by decide
  refine ⟨(by show 3<=sizeLine;decide),fun b3 hb3=>?_⟩;dsimp only
  exists b3,hb3,H',(.lst [V.int (1+(z.fdiv 8).fmod 4),V.int (1+(z.fdiv 8).fmod 4),V.int (1+(z.fdiv 8).fmod (10 ^ (9:Int).toNat))]),H2,s2,e2
  obtain ⟨v,hv,w1,w2⟩:∃v:Int,atI [V.int (1+(z.fdiv 8).fmod 4),V.int (1+(z.fdiv 8).fmod 4),V.int (1+(z.fdiv 8).fmod (10 ^ (9:Int).toNat))] (z.fmod 3)=some (.int v)/\1<=v/\v<=1000000000:=by
   rcases (by omega:z.fmod 3=0\/z.fmod 3=1\/z.fmod 3=2) with e | e | e
   ·rw [e];exact ⟨_,rfl,by ext,by ext⟩
   ·rw [e];exact ⟨_,rfl,by ext,by ext⟩
   ·rw [e];exact ⟨_,rfl,by ext,by ext⟩
  symm;refine ⟨b3,_,_,_,rfl,rfl,SqL.of e2,hv,?_⟩;have f1:=s2 _ _ e1;symm;refine ⟨.inl ⟨rfl,_,SqL.of f1⟩,?_⟩;have d64:=Oq z0 (show (1:Int)<=64 by decide) z1;symm;refine ⟨z.fdiv 64,(n:Int),rfl,d64.1,d64.2,h1,h12,fun lr rs H3 hlr s3 e3 ir=>?_⟩;symm;refine ⟨(by show 2<=sizeLine;decide),fun t ht=>?_⟩;have s4:=Ag ht (.tup [V.ref lr,V.int v]);have e4:(upd H3 t (.tup [V.ref lr,V.int v])) t=some (.tup [V.ref lr,V.int v]):=Ac;have f2:=s4 _ _ (s3 _ _ f1);have e3':=s4 _ _ e3;have g':=((g.same s2).same s3).same s4;have sAll:=((s1.trans s2).trans s3).trans s4;generalize upd H3 t (.tup [V.ref lr,V.int v])=H4 at sAll e4 f2 e3' g' ⊢;refine ⟨l,_,_,rfl,rfl,f2,(by rw [JR];exact AU (by ext)),?_⟩;have keep:∀b o,H4 b=some o->b≠l->(upd H4 l (.lst (vvo vo++[V.ref t]))) b=some o:=fun b o e ne=>by rw [Aj ne];exact e
  have ne:lr≠l:=fun z=>by rw [z,f1] at hlr;cases hlr
  have tl:∀b u,H4 b=some (.tup u)->b≠l:=fun b u e z=>by rw [z,f2] at e;cases e
  refine ⟨_,_,_,vo++[(t,lr,rs,v)],rfl,Ay sAll hl,by rw [Ac];unfold vvo;rw [map_append];rfl,by rw [length_append,ln];rfl,fun q m=>?_,fun q m=>?_,fun q m=>?_⟩
  ·rcases mem_append.mp m with m | m
   ·obtain ⟨a1,a2,a3⟩:=g' q m;exact ⟨keep _ _ a1 (tl _ _ a1),keep _ _ a2 (nl q m),a3⟩
   ·rw [mem_singleton.mp m];exact ⟨keep _ _ e4 (tl _ _ e4),keep _ _ e3' ne,by have:=ir.1;show rs.length=n;ext⟩
  ·rcases mem_append.mp m with m | m
   ·exact nu q m
   ·rw [mem_singleton.mp m];exact ⟨w1,w2,ir.2⟩
  ·rcases mem_append.mp m with m | m
   ·exact nl q m
   ·rw [mem_singleton.mp m];exact ne
 ·rintro σ' H' ⟨v5,v6,v7,vo,rfl,s1,e1,ln,g,nu,nl⟩;exact ⟨_,rfl,q l vo H' s1 e1 (by ext) (by ext) (by rw [Int.toNat_natCast];exact g) nu⟩
theorem FK (T:Tx K mg base ad):AZ P w K mg base CX0 3 ad.f_Way_init ad.d_Way_init ["self","hands","seats","lots"] (Hu K):=by
 refine T.F_Way_init.ok KO (fun vs H Q E h=>?_) (fun cdv A outer s H vs Q E hr h=>?_)
 ·obtain ⟨a,C,dx,h,s,lv,ns,rfl,_⟩:=h;rfl
 obtain ⟨a,C,dx,h,s,lv,ns,rfl,ha,cl,n1,n2,n3,h1,h12,s1,s60,lo,q⟩:=h;refine ⟨_,((@BV _ _ _ _ _ _ _ _ (PW.pt (@IF _ _ _ _ _ _ _ (@Dt _ _ _ _ (@Du _ _ _ (@Am _ _ _ _ _ _ _ _ _ _ _ _ _ _ _ _ (Jq T) (hr.mono (by decide)) rfl T.m_are_hands T.F_are_hands.kp T.b_are_hands .nil Aw ((pv 1)*>Ab) (by decide) (by rfl) (by rfl)) (by intro _;rfl))) (@GX _ _ _ _ (@Dt _ _ _ _ (@Du _ _ _ (@Am _ _ _ _ _ _ _ _ _ _ _ _ _ _ _ _ (Jr T) (hr.mono (by decide)) rfl T.m_are_seats T.F_are_seats.kp T.b_are_seats .nil Aw ((pv 2)*>Ab) (by decide) (by rfl) (by rfl)) (by intro _;rfl)))))) (@Ah _ _ _ KD) Bb)>>((@BV _ _ _ _ _ _ _ _ (PW.pt (@OW _ _ _ _ _ _ _ (@A7 _ _ _ _ _ _ _ _ Qk (pv 3) OR (AA _)) (@MA _ _ _ _ (@Dt _ _ _ _ (@Du _ _ _ (@Am _ _ _ _ _ _ _ _ _ _ _ _ _ _ _ _ (K4 T) (hr.mono (by decide)) rfl T.m_are_lots T.F_are_lots.kp T.b_are_lots .nil Aw ((pv 3)*>((pv 1)*>Ab)) (by decide) (by rfl) (by rfl)) (by intro _;rfl)))))) (@Ah _ _ _ KD) Bb)>>((JA (pv 0) (pv 1) rfl)>>((JA (pv 0) (pv 2) rfl)>>(@Ah _ _ _ (JA (pv 0) (KA (@A7 _ _ _ _ _ _ _ _ Rz (pv 3) OR (AA _)) (Ck rfl (by rfl) T.z_list (by rfl) T.z_range (pv 1)) (@BO _ _ _ _ _ _ _ _ _ BK (by rfl) T.z_list PyProof.Rows.boot_list ((pv 3)*>Ab) (by decide) (by decide) (by rfl) (by rfl))) rfl)))))),?_⟩;refine ⟨_,rfl,(h:Int),rfl,by ext,by ext,?_⟩;symm;refine ⟨by ext,by ext,?_⟩;symm;rcases lo with ⟨rfl,rfl⟩ | ⟨l,rfl,hl,pm⟩
 ·symm;obtain ⟨H1,eH⟩:∃H1,H1=H:=⟨_,rfl⟩;rw [<- eH];have e1:Al H H1:=by rw [eH];exact fun _ _ e=>e
  have g1:=(Eg H a).trans e1;refine ⟨a,C,dx,[],rfl,e1 _ _ ha,cl,n1,(by simp only [length_cons,length_nil];decide),?_⟩;rw [Sq];have g2:=Dh (o:=.ins C dx [("hands",.int (h:Int))]) g1;have a2:(upd H1 a (.ins C dx [("hands",.int (h:Int))])) a=_:=Ac;generalize upd H1 a (.ins C dx [("hands",.int (h:Int))])=H2 at g2 a2 ⊢;symm;refine ⟨a,C,dx,_,rfl,a2,cl,n2,(by simp only [length_cons,length_nil];decide),?_⟩;rw [Sr];have g3:=Dh (o:=.ins C dx [("hands",.int (h:Int)),("seats",.int (s:Int))]) g2;have a3:(upd H2 a (.ins C dx [("hands",.int (h:Int)),("seats",.int (s:Int))])) a=_:=Ac;generalize upd H2 a (.ins C dx [("hands",.int (h:Int)),("seats",.int (s:Int))])=H3 at g3 a3 ⊢;symm;refine ⟨by ext,fun b hb=>?_⟩;rw [<- QS];have ba:b≠a:=fun z=>by rw [z,a3] at hb;cases hb
  have hbH:H b=none:=by
   cases e:H b with
   | none=>rfl
   | some o =>
     have:=g3 _ _ (CJ e ba);rw [hb] at this
     cases this
  have g4:=g3.trans (Ag hb (.lst ((ups h).map V.int)));have a4:=Ag hb (.lst ((ups h).map V.int)) _ _ a3;have b4:(upd H3 b (.lst ((ups h).map V.int))) b=some (.lst ((ups h).map V.int)):=Ac;generalize upd H3 b (.lst ((ups h).map V.int))=H4 at g4 a4 b4 ⊢;symm;refine ⟨a,C,dx,_,rfl,a4,cl,n3,(by simp only [length_cons,length_nil];decide),?_⟩;rw [Ss];exact q b _ ba hbH (Dh g4) Ac (by rw [Aj ba];exact b4)
 ·symm;refine ⟨l,ns,h,rfl,hl,pm,by ext,fun H1 e1=>?_⟩;symm;have g1:=(Eg H a).trans e1;refine ⟨a,C,dx,[],rfl,e1 _ _ ha,cl,n1,(by simp only [length_cons,length_nil];decide),?_⟩;rw [Sq];have g2:=Dh (o:=.ins C dx [("hands",.int (h:Int))]) g1;have a2:(upd H1 a (.ins C dx [("hands",.int (h:Int))])) a=_:=Ac;generalize upd H1 a (.ins C dx [("hands",.int (h:Int))])=H2 at g2 a2 ⊢;symm;refine ⟨a,C,dx,_,rfl,a2,cl,n2,(by simp only [length_cons,length_nil];decide),?_⟩;rw [Sr];have g3:=Dh (o:=.ins C dx [("hands",.int (h:Int)),("seats",.int (s:Int))]) g2;have a3:(upd H2 a (.ins C dx [("hands",.int (h:Int)),("seats",.int (s:Int))])) a=_:=Ac;generalize upd H2 a (.ins C dx [("hands",.int (h:Int)),("seats",.int (s:Int))])=H3 at g3 a3 ⊢;have la:l≠a:=fun z=>by rw [z,ha] at hl;cases hl
  have l3:=g3 _ _ (CJ hl la);symm;intro b hb;have ba:b≠a:=fun z=>by rw [z,a3] at hb;cases hb
  have hbH:H b=none:=by
   cases e:H b with
   | none=>rfl
   | some o =>
     have:=g3 _ _ (CJ e ba);rw [hb] at this
     cases this
  have g4:=g3.trans (Ag hb (.lst (ns.map V.int)));have a4:=Ag hb (.lst (ns.map V.int)) _ _ a3;have b4:(upd H3 b (.lst (ns.map V.int))) b=some (.lst (ns.map V.int)):=Ac;generalize upd H3 b (.lst (ns.map V.int))=H4 at g4 a4 b4 ⊢;symm;refine ⟨a,C,dx,_,rfl,a4,cl,n3,(by simp only [length_cons,length_nil];decide),?_⟩;rw [Ss];exact q b _ ba hbH (Dh g4) Ac (by rw [Aj ba];exact b4)
theorem AT (T:Tx K mg base ad):AZ P w K mg base CX0 4 ad.f_PairsChecker_right ad.d_PairsChecker_right ["self","sheet","paper"] (IU ad.c_PairsChecker ad.c_Pairs):=by
 refine T.F_PairsChecker_right.ok Bt (fun vs H Q E h=>?_) (fun cdv A outer s H vs Q E hr h=>?_)
 ·obtain ⟨k,a,l,p,m,sh,pk,h,s',ns,ls,F,tb,rs,ps,rfl,_⟩:=h;rfl
 obtain ⟨k,a,l,p,m,sh,pk,h,s',ns,ls,F,tb,rs,ps,rfl,ic,hl,gl,l60,st,pq,q⟩:=h;refine ⟨_,((@An _ _ (3) _ _ _ _ Bt.nd rfl (Or.inl rfl) (DK (DK (pv 0) rfl) rfl) (by rfl) (by nofun))>>((@An _ _ (4) _ _ _ _ Bt.nd rfl (Or.inl rfl) (@Am _ _ _ _ _ _ _ _ _ _ _ _ _ _ _ _ (K7 T) (hr.mono (by decide)) rfl T.m_overs T.F_overs.kp T.b_overs .nil Aw ((pv 1)*>((pv 3)*>Ab)) (by decide) (by rfl) (by rfl)) (by rfl) (by nofun))>>((@BV _ _ _ _ _ _ _ _ (PW.pt (@IF _ _ _ _ _ _ _ (@A7 _ _ _ _ _ _ _ _ (GS (K:=K) hr.units) (@Ao _ _ _ _ _ _ _ Br (pv 2) Ae (fun _ _=>rfl)) (pv 4) (AA _)) (@GX _ _ _ _ (@A7 _ _ _ _ _ _ _ _ (GS (K:=K) hr.units) (Be (fsc:=Af Bz) (N:=["self","sheet","paper","hands","many","leads"]) (Nc:=["self","sheet","paper","hands","many","leads","row"]) rfl rfl (by nofun) rfl (A9 (@Ao _ _ _ _ _ _ _ Br (pv 2) Ae (fun _ _=>rfl))) (fun _ _ _ _=>AI) (fun _ _ _ _=>(@AX _ _ _ _ _ ((@Ao _ _ _ _ _ _ _ (Gr K) (pv 6) Ae (fun _ _=>rfl))*>((@Ao _ _ _ _ _ _ _ (Gr K) (pv 6) Ae (fun _ _=>rfl))*>Ab))))) (@Am _ _ _ _ _ _ _ _ _ _ _ _ _ _ _ _ (Fh T) (hr.mono (by decide)) rfl T.m_pairs_in_order T.F_pairs_in_order.kp T.b_pairs_in_order .nil Aw ((pv 3)*>Ab) (by decide) (by rfl) (by rfl)) (AA _))))) (@Ah _ _ _ (@As _ _ _ _ Ce)) Bb)>>((@An _ _ (5) _ _ _ _ Bt.nd rfl (Or.inr rfl) (@Am _ _ _ _ _ _ _ _ _ _ _ _ _ _ _ _ (FL T) (hr.mono (by decide)) rfl T.m_leads_of T.F_leads_of.kp T.b_leads_of .nil Aw ((pv 4)*>Ab) (by decide) (by rfl) (by rfl)) (by rfl) (by nofun))>>((@BV _ _ _ _ _ _ _ _ (@Dt _ _ _ _ (@Du _ _ _ (@Au _ _ _ _ _ _ _ _ _ (GB rfl) (by rfl) T.z_all PyProof.Rows.boot_all ((Be (fsc:=Af Bz) (N:=["self","sheet","paper","hands","many","leads"]) (Nc:=["self","sheet","paper","hands","many","leads","row"]) rfl rfl (by nofun) rfl (A9 (@Ao _ _ _ _ _ _ _ Br (pv 2) Ae (fun _ _=>rfl))) (fun _ _ _ _=>AI) (fun _ _ _ _=>(@Am _ _ _ _ _ _ _ _ _ _ _ _ _ _ _ _ (K5 T) (hr.mono (by decide)) rfl T.m_is_shown T.F_is_shown.kp T.b_is_shown .nil Aw ((pv 5)*>((pv 6)*>Ab)) (by decide) (by rfl) (by rfl))))*>Ab) (by decide) (by decide) (by rfl) (by rfl)) (by intro _;rfl))) (@Ah _ _ _ (@As _ _ _ _ Ce)) Bb)>>(@Ah _ _ _ (@As _ _ _ _ (@CA _ _ _ _ _ _ _ _ (LK (K:=K) hr.units) (@Ao _ _ _ _ _ _ _ Br (pv 2) Ae (fun _ _=>rfl)) (B0 (DK (pv 0) rfl) T.cl_Pairs T.me_Pairs_picks_by (Dk T) (hr.mono (by decide)) T.b_Pairs_picks_by .nil Aw ((@Am _ _ _ _ _ _ _ _ _ _ _ _ _ _ _ _ (Gk T) (hr.mono (by decide)) rfl T.m_strengths_in T.F_strengths_in.kp T.b_strengths_in .nil Aw ((@Ao _ _ _ _ _ _ _ Br (pv 2) Ae (fun _ _=>rfl))*>((pv 3)*>Ab)) (by decide) (by rfl) (by rfl))*>Ab)) (AA _))))))))),?_⟩;obtain ⟨⟨dk,hk⟩,md⟩:=ic;obtain ⟨dx,la,k1,k2⟩:=id md.is;have h1:=md.h1;have h12:=md.h12;have p1:=pq.p;have rn:=pq.n
 have no:∀{J:Hp},Al H J->BY h ls (Ak F s' ns) (tb.map (·.2)) rs ps=false->Q (.bl false) J:=fun {J} z k=>by
  have:=q J z;rwa [k] at this
 symm;refine ⟨k,_,dk,_,_,rfl,hk,T.cl_PairsChecker,T.na_PairsChecker_way,rfl,?_⟩;refine ⟨a,_,dx,_,_,rfl,k1,T.cl_Pairs,T.na_Pairs_hands,rfl,?_⟩;symm;refine ⟨l,ls,h,rfl,hl,gl,l60,h1,h12,fun b as H1 hb s1 nb wb eb tb1=>?_⟩;have tb1:Bc H1 as h (ovF ls):=tb1;have p11:=s1 _ _ p1;symm;refine ⟨.list ((tb.map (·.2)).map rD),.list ((BG h (ovF ls)).map rD),.lst (SqL.of (s1 _ _ pq.m)) (MB fun r m=>s1 _ _ (pq.tb r m)),.lst (SqL.of eb) tb1.reps,La _,La _,?_⟩;rw [show PyData.eqv (.list ((tb.map (·.2)).map rD)) (.list ((BG h (ovF ls)).map rD))=decide (tb.map (·.2)=BG h (ovF ls)) from Mr _ _];by_cases c1:tb.map (·.2)=BG h (ovF ls)
 ·rw [decide_eq_true c1];have p41:=s1 _ _ pq.sh;have rl:=Cw rs;symm;refine ⟨⟨_,SqL.of p41⟩,?_⟩
  refine AC (xs:=vrq rs) (by right) (fun D i ys J=>∃qs:List (Addr × Int × Int),ys=vpq qs/\J D=some (.lst ys)/\Al H1 J/\(∀q∈qs,J q.1=some (.tup [.int q.2.1,.int q.2.2]))/\qs.map (·.2)=AS (rs.take i)) (fun D hD=>⟨[],rfl,Ac,Ag hD _,(fun _ m=>absurd m List.not_mem_nil),rfl⟩) (fun D i ys J hq=>by
   obtain ⟨qs,f1,f2,_,_,f5⟩:=hq;refine ⟨f2,?_⟩;have e:=congrArg List.length f5;unfold AS at e;rw [length_map,length_map,length_take] at e;rw [f1];unfold vpq;rw [length_map]
   ext) (fun D i ys J hD hq=>by
   obtain ⟨_,_,_,f3,_⟩:=hq;exact SqL.of (f3 _ _ p41)) ?_ ?_
  ·rintro D i u ys J K1 K2 hD hu ⟨qs,rfl,f2,f3,f4,f5⟩ kk1 kk2;obtain ⟨r,hr0,rfl,mr,et⟩:=Gv hu;have gt:=(s1.trans f3) _ _ (pq.rg r mr).1.t;refine yes (ifT rfl ?_);symm
   exists 2,t,ht,J,(.tup [V.int r.x,V.int r.y]),J1,j1,et1,rfl
   have eD:=j1 _ _ f2;have tu:∀{c:Addr} {us:List V},J1 c=some (.tup us)->(upd J1 D (.lst (vpq qs++[V.ref t]))) c=some (.tup us):=fun ec=>by rw [Aj (Fd ec eD (fun z=>by cases z))];exact ec
   refine kk1 _ _ eD ⟨qs++[(t,r.x,r.y)],by unfold vpq;rw [map_append];rfl,Ac,Ay (f3.trans j1) hD,fun z m=>?_,?_⟩
   ·rcases mem_append.mp m with m | m
    ·exact tu (j1 _ _ (f4 z m))
    ·rw [mem_singleton.mp m];exact tu et1
   ·rw [map_append,f5,et];unfold AS;rw [map_append];rfl
  rintro D ys H2 hD ⟨qs,rfl,f2,s2,f4,f5⟩;rw [rl,take_length] at f5;symm;refine ⟨h12,fun l2 zs H3 hl2 s3 e3 g3 e3'=>?_⟩;have r1:Rep K H3 (.ref D) (.list ((qs.map (·.2)).map piD)):=.lst (SqL.of (s3 _ _ f2)) (Pb fun q m=>s3 _ _ (f4 q m));have r2:Rep K H3 (.ref l2) (.list ((Ec h).map piD)):=.lst (SqL.of e3) (by unfold Ec;rw [map_map,<- e3'];exact KC g3);rw [f5] at r1;have s13:=s1.trans (s2.trans s3);refine ⟨_,_,r1,r2,(Mx _).shaped (by decide),(Mx _).shaped (by decide),?_⟩;rw [show PyData.eqv (.list ((AS rs).map piD)) (.list ((Ec h).map piD))=decide (AS rs=Ec h) from Mq _ _];by_cases c2:AS rs=Ec h
  ·rw [decide_eq_true c2];have s23:=s2.trans s3;symm;refine ⟨b,as,h,ovF ls,rfl,s23 _ _ eb,tb1.same s23,h12,fun c cs H4 hc nc wc s4 ec tc=>?_⟩;have tc:Bc H4 cs h (Ba ls):=tc;have s14:=s13.trans s4;have p14:=s14 _ _ p1;have p44:=s14 _ _ pq.sh;symm;refine ⟨⟨_,SqL.of p44⟩,?_⟩;refine AC (xs:=vrq rs) (by right) (fun D j ys J=>ys=((rs.take j).map (JC h (Ba ls))).map V.bl/\J D=some (.lst ys)/\Al H4 J) (fun D hD=>⟨rfl,Ac,Ag hD _⟩) (fun D j ys J hq_=>by obtain ⟨f1,f2,_⟩:=hq_;exact ⟨f2,by rw [f1,length_map,length_map];exact length_take_le _ _⟩) (fun D j ys J hD hq_=>by obtain ⟨_,_,f3⟩:=hq_;exact SqL.of (f3 _ _ p44)) ?_ ?_
   ·rintro D i u ys J K1 K2 hD hu ⟨g1,g2,g3⟩ kk1 kk2;obtain ⟨r,hr0,rfl,mr,et⟩:=Gv hu;obtain ⟨x,y,ex,ey,pm⟩:=Mp c2 mr;obtain ⟨hx,hy,_⟩:=D7.mp pm;refine yes (ifT rfl ?_);symm;refine ⟨c,cs,h,Ba ls,r,rfl,g3 _ _ ec,tc.same g3,(pq.rg r mr).1.same (s14.trans g3),(pq.rg r mr).2,by ext,by ext,by ext,by ext,h12,fun J2 sJ=>?_⟩;refine kk1 _ _ (sJ _ _ g2) ⟨?_,Ac,Ay (g3.trans sJ) hD⟩;rw [g1,et,map_append,map_append];rfl
   rintro D5 ys H5 hD5 ⟨rfl,g2,g3⟩;rw [rl,take_length] at g2;refine ⟨D5,_,rfl,SqL.of g2,?_⟩;rw [all_map];have s15:=s14.trans g3;by_cases c3:∀r∈rs,Ea h (Ba ls) r
   ·rw [show rs.all (id ∘ JC h (Ba ls))=true from all_eq_true.mpr fun r m=>LP (c3 r m)];have p15:=s15 _ _ p1;have p75:=s15 _ _ pq.pk;have hk5:=s15 _ _ hk;have md5:=md.same s15;obtain ⟨dx5,la5,k15,k25⟩:=id md5.is;symm;refine ⟨k,_,dk,_,_,rfl,hk5,T.cl_PairsChecker,T.na_PairsChecker_way,rfl,?_⟩;refine ⟨a,dx5,_,rfl,k15,rfl,?_⟩;symm;refine ⟨sh,h,Ba ls,F,rs,rfl,s15 _ _ pq.sh,(fun r m=>⟨(pq.rg r m).1.same s15,EJ st (c3 r m)⟩),c2,st,(fun x hx=>by unfold Ba;ext),h1,h12,fun rb as' H6 hrb s6 erb trb=>?_⟩;symm;refine ⟨a,rb,as',h,s',ns,Ba ls,F,rfl,md5.same s6,erb,trb,st,fun pp H7 hpp s7 epp=>?_⟩;refine ⟨.list (ps.map .int),.list ((Ak F s' ns).map .int),.lst (SqL.of ((s6.trans s7) _ _ p75)) (.ints _),.lst (SqL.of epp) (.ints _),(Bq _).2,(Bq _).2,?_⟩;rw [show PyData.eqv (.list (ps.map .int)) (.list ((Ak F s' ns).map .int))=decide (ps=Ak F s' ns) from CD _ _];have s17:=(s15.trans s6).trans s7;by_cases c4:ps=Ak F s' ns
    ·rw [decide_eq_true c4];have:=q _ s17;rwa [JB c1 c2 c3 c4] at this
    ·rw [decide_eq_false c4];exact no s17 (Ha c4)
   ·obtain ⟨r,mr,nr⟩:∃r∈rs,¬ Ea h (Ba ls) r:=Classical.byContradiction fun z=>c3 fun r m=>Classical.byContradiction fun k=>z ⟨r,m,k⟩;rw [show rs.all (id ∘ JC h (Ba ls))=false from all_eq_false.mpr ⟨r,mr,by show ¬ JC h (Ba ls) r=true;rw [LO nr];decide⟩];symm;exact no s15 (GZ mr nr)
  ·rw [decide_eq_false c2];symm;exact no s13 (GY c2)
 ·rw [decide_eq_false c1];symm;exact no s1 (KJ c1)
theorem C5 (T:Tx K mg base ad):AZ P w K mg base CX0 4 ad.f_Pairs_counted ad.d_Pairs_counted ["self","sheet"] (Hq ad.c_Pairs ad.lP):=by
 refine T.F_Pairs_counted.ok Bj (fun vs H Q E h=>?_) (fun cdv A outer s H vs Q E hr h=>?_)
 ·obtain ⟨a,l,h,s,ns,ls,rfl,_⟩:=h;rfl
 obtain ⟨a,l,h,s,ns,ls,rfl,md,hl,gl,l60,lt,q⟩:=h;refine ⟨_,((@An _ _ (2) _ _ _ _ Bj.nd rfl (Or.inl rfl) (@Am _ _ _ _ _ _ _ _ _ _ _ _ _ _ _ _ (K7 T) (hr.mono (by decide)) rfl T.m_overs T.F_overs.kp T.b_overs .nil Aw ((pv 1)*>((DK (pv 0) rfl)*>Ab)) (by decide) (by rfl) (by rfl)) (by rfl) (by nofun))>>((@An _ _ (3) _ _ _ _ Bj.nd rfl (Or.inl rfl) (@Am _ _ _ _ _ _ _ _ _ _ _ _ _ _ _ _ (FL T) (hr.mono (by decide)) rfl T.m_leads_of T.F_leads_of.kp T.b_leads_of .nil Aw ((pv 2)*>Ab) (by decide) (by rfl) (by rfl)) (by rfl) (by nofun))>>((@An _ _ (4) _ _ _ _ Bj.nd rfl (Or.inl rfl) (@Av _ _ _ _ Ab) (by rfl) (by nofun))>>((@An _ _ (5) _ _ _ _ Bj.nd rfl (Or.inl rfl) (@Av _ _ _ _ Ab) (by rfl) (by nofun))>>((Bu PassesOwn.never rfl (AM rfl T.z_range ((DK (pv 0) rfl)*>Ab)) (Ar (i:=6) Bj.nd rfl (Or.inl rfl)) ((@An _ _ (7) _ _ _ _ Bj.nd rfl (Or.inl rfl) (@Am _ _ _ _ _ _ _ _ _ _ _ _ _ _ _ _ (Gj T) (hr.mono (by decide)) rfl T.m_reached_from T.F_reached_from.kp T.b_reached_from .nil Aw ((pv 3)*>((pv 6)*>Ab)) (by decide) (by rfl) (by rfl)) (by rfl) (by nofun))>>((@Bx _ _ _ _ (Cy PySem.F.plainAttrs_list PySem.F.slot_list_extend PySem.F.type_list_extend Iu (pv 4) ((@Am _ _ _ _ _ _ _ _ _ _ _ _ _ _ _ _ (HR T) (hr.mono (by decide)) rfl T.m_shown_from T.F_shown_from.kp T.b_shown_from .nil Aw ((pv 7)*>((pv 6)*>Ab)) (by decide) (by rfl) (by rfl))*>Ab)) (by rfl))>>(@Ah _ _ _ (@Bx _ _ _ _ (Cy PySem.F.plainAttrs_list PySem.F.slot_list_append PySem.F.type_list_append Bn (pv 5) ((@Ao _ _ _ _ _ _ _ Br (pv 7) Ae (fun _ _=>rfl))*>Ab)) (by rfl))))))>>(@Ah _ _ _ (@As _ _ _ _ (@AX _ _ _ _ _ ((pv 2)*>((pv 4)*>((B0 (pv 0) T.cl_Pairs T.me_Pairs_picks_by (Dk T) (hr.mono (by decide)) T.b_Pairs_picks_by .nil Aw ((pv 5)*>Ab))*>Ab))))))))))),?_⟩;obtain ⟨dx,la,k1,k2⟩:=id md.is;have h1:=md.h1;have h12:=md.h12;symm;refine ⟨a,_,dx,_,_,rfl,k1,T.cl_Pairs,T.na_Pairs_hands,rfl,?_⟩;symm;refine ⟨l,ls,h,rfl,hl,gl,l60,h1,h12,fun b as H1 hb s1 nb wb eb tb=>?_⟩;symm;refine ⟨b,as,h,_,rfl,eb,tb,h12,fun c cs H2 hc nc wc s2 ec tc=>?_⟩;have eb:=s2 _ _ eb;have tb:Bc H2 as h (ovF ls):=tb.same s2;have tc:Bc H2 cs h (Ba ls):=tc;have s2:=s1.trans s2;have lt2:=lt.same s2;subst_eqs;refine ⟨(by show 0<=sizeLine;decide),fun sh hsh=>?_⟩;have s3:=Ag hsh (.lst []);have e3:(upd H2 sh (.lst [])) sh=some (.lst (vrw [])):=Ac;generalize upd H2 sh (.lst [])=H3 at e3 s3 ⊢;subst_eqs;refine ⟨(by show 0<=sizeLine;decide),fun sg hsg=>?_⟩;have s4:=Ag hsg (.lst []);have e4:(upd H3 sg (.lst [])) sg=some (.lst (([]:Us).map fun r=>V.ref r.1)):=Ac;have ss:sg≠sh:=fun z=>by rw [z,e3] at hsg;cases hsg
 have e34:=s4 _ _ e3;have hsg2:=none_of s3 hsg;have s4:=s3.trans s4;generalize upd H3 sg (.lst [])=H4 at e4 e34 s4 ⊢;subst_eqs;refine ⟨_,rfl,a,_,dx,_,_,rfl,(s2.trans s4) _ _ k1,T.cl_Pairs,T.na_Pairs_hands,rfl,?_⟩;refine ⟨(h:Int),rfl,by ext,by ext,D4 (fun i σ' H'=>∃(v6 v7:Option V) (rows:List Rw) (us:Us),σ'=[some (V.ref a),some (.ref l),some (.ref b),some (.ref c),some (.ref sh),some (.ref sg),v6,v7]/\Sm H2 H'/\(CI ad.lP h H2->Al H2 H')/\LT ad.lP H'/\(0 < i->CI ad.lP h H')/\H' sh=some (.lst (vrw rows))/\H' sg=some (.lst (us.map fun r=>V.ref r.1))/\us.length=i/\(us.map (·.1)).Nodup/\rows.map (fun q=>(q.x,q.y))=pairsOf h i/\(∀q∈rows,EB h (Ba ls) (fU us) H' q/\q.x < i/\q.w≠sh/\q.w≠sg)/\(∀k r,us[k]?=some r->r.1≠sh/\r.1≠sg/\H' r.1=some (.lst (r.2.map V.int))/\∃bf,Dy h k (Ba ls) r.2 bf)) ⟨none,none,[],[],rfl,Sm.of s4,(fun _=>s4),lt2.same s4,(fun z=>absurd z (Nat.lt_irrefl 0)),e34,e4,rfl,nodup_nil,rfl,(fun _ m=>absurd m List.not_mem_nil),fun k r e=>by cases e⟩ ?_ ?_⟩
 ·rintro i σ' H5 hi ⟨v6,v7,rows,us,rfl,sm,sq,lt5,lq5,esh,esg,ul,und,rp,rok,uok⟩;have ei:(0:Int)+(i:Int)=(i:Int):=Int.zero_add _;have hi':i < h:=by ext
  have rl:rows.length<=144:=by
   have a1:=congrArg List.length rp;rw [length_map] at a1;have a2:=Dl (h:=h) (n:=i) (by ext);have a3:i*h<=12*12:=Nat.mul_le_mul (by ext) h12;ext
  symm;refine ⟨c,cs,h,i,Ba ls,(by rw [ei];rfl),sm.lst ec,tc.sm sm,hi',h12,lt5,fun t bb f be bf H6 sm6 sq6 lq6 ht hbb hff bfn et ebb eff re=>?_⟩;have bsh:bb≠sh:=fun z=>by rw [z,esh] at hbb;cases hbb
  have bsg:bb≠sg:=fun z=>by rw [z,esg] at hbb;cases hbb
  have nbu:bb ∉ us.map (·.1):=fun m=>by
   obtain ⟨r,mr,e⟩:=mem_map.mp m;obtain ⟨k,hk⟩:=List.getElem?_of_mem mr;have:=(uok k r hk).2.2.1;rw [e,hbb] at this
   cases this
  have esh:=sm6.lst esh;have esg:=sm6.lst esg;symm;refine ⟨.inl ⟨rfl,_,SqL.of esh⟩,?_⟩;symm;refine ⟨t,h,i,Ba ls,be,(by rw [ei];rfl),⟨bb,f,bf,et,ebb,eff,re⟩,hi',h12,fun r2 rows2 H7 hr2 s7 e7 ok7 mp7=>?_⟩;have esh7:=s7 _ _ esh;have esg7:=s7 _ _ esg
  have r2l:rows2.length<=12:=by
   have a1:=congrArg List.length mp7;rw [length_map,length_map] at a1;have:(E6 h i).length<=h:=Nat.le_trans (length_filter_le _ _) (by rw [length_range];exact Nat.le_refl _);ext
  refine ⟨sh,r2,_,_,rfl,rfl,esh7,e7,(by right),?_⟩;rw [<- Mc];have t8:∀{z:Addr} {xs:List V},H7 z=some (.tup xs)->(upd H7 sh (.lst (vrw (rows++rows2)))) z=some (.tup xs):=fun e=>by rw [Aj (fun y=>by rw [y,esh7] at e;cases e)];exact e
  have l8:∀{z:Addr} {xs:List V},z≠sh->H7 z=some (.lst xs)->(upd H7 sh (.lst (vrw (rows++rows2)))) z=some (.lst xs):=fun n e=>by rw [Aj n];exact e
  have esh8:(upd H7 sh (.lst (vrw (rows++rows2)))) sh=some (.lst (vrw (rows++rows2))):=Ac;have sm8:=((sm.trans sm6).trans (Sm.of s7)).put (o:=.lst (vrw (rows++rows2))) hsh;have sq8:CI ad.lP h H2->Al H2 (upd H7 sh (.lst (vrw (rows++rows2)))):=fun z=>Ay (((sq z).trans (sq6 (z.same (sq z)))).trans s7) hsh;have lq8:CI ad.lP h (upd H7 sh (.lst (vrw (rows++rows2)))):=(lq6.same s7).put esh7;generalize upd H7 sh (.lst (vrw (rows++rows2)))=H8 at t8 l8 esh8 sm8 sq8 lq8 ⊢;have esg8:=l8 ss esg7;have et8:=t8 (s7 _ _ et);symm;refine ⟨.inl ⟨rfl,_,SqL.of esg8⟩,?_⟩;symm;refine ⟨sg,_,_,rfl,rfl,esg8,(by rw [length_map];exact AU (by ext)),?_⟩;have t9:∀{z:Addr} {xs:List V},H8 z=some (.tup xs)->(upd H8 sg (.lst (us.map (fun r=>V.ref r.1)++[V.ref bb]))) z=some (.tup xs):=fun e=>by rw [Aj (fun y=>by rw [y,esg8] at e;cases e)];exact e
  have l9:∀{z:Addr} {xs:List V},z≠sg->H8 z=some (.lst xs)->(upd H8 sg (.lst (us.map (fun r=>V.ref r.1)++[V.ref bb]))) z=some (.lst xs):=fun n e=>by rw [Aj n];exact e
  refine ⟨_,_,rows++rows2,us++[(bb,be)],rfl,sm8.put hsg2,(fun z=>Ay (sq8 z) hsg2),(lq8.put esg8).1,(fun _=>lq8.put esg8),l9 (Ne.symm ss) esh8,by rw [Ac,map_append];rfl,by rw [length_append,ul];rfl,?_,by rw [map_append,rp,mp7,CS],fun q0 m=>?_,fun k r e=>?_⟩
  ·rw [map_append];exact nodup_append.mpr ⟨und,by simp,fun x mx y my e=>nbu (by rw [<- show y=bb from mem_singleton.mp my,<- e];exact mx)⟩
  ·rcases mem_append.mp m with m | m
   ·obtain ⟨r0,r1,r3,r4⟩:=rok q0 m;have r0:=(r0.sm sm6).same s7;have r0:=r0.congr (F':=fU (us++[(bb,be)])) fun y _=>(Rg (by ext) y).symm;exact ⟨⟨t9 (t8 r0.tup),l9 r4 (l8 r3 r0.way),r0.hx,r0.hy,r0.ne,r0.str,r0.isw,r0.cutE⟩,by ext,r3,r4⟩
   ·obtain ⟨r0,r1,r3,r4⟩:=ok7 q0 m;have r5:q0.w≠sh:=fun z=>by rw [z,esh] at r4;cases r4
    have r6:q0.w≠sg:=fun z=>by rw [z,esg] at r4;cases r4
    have r0:=r0.congr (F':=fU (us++[(bb,be)])) fun y _=>by rw [r1,<- ul];exact (Rf (us:=us) (r:=(bb,be)) y).symm
    exact ⟨⟨t9 (t8 r0.tup),l9 r6 (l8 r5 r0.way),r0.hx,r0.hy,r0.ne,r0.str,r0.isw,r0.cutE⟩,by ext,r5,r6⟩
  ·by_cases cc:k < us.length
   ·rw [List.getElem?_append_left cc] at e;obtain ⟨u1,u2,u3,u4⟩:=uok k r e;exact ⟨u1,u2,l9 u2 (l8 u1 (s7 _ _ (sm6.lst u3))),u4⟩
   ·rw [List.getElem?_append_right (by ext)] at e
    have ek:k=i:=by
     have:=(List.getElem?_eq_some_iff.mp e).1;rw [length_singleton] at this;ext
    rw [ek,ul,Nat.sub_self] at e
    cases Option.some.inj e
    exact ⟨bsh,bsg,l9 bsg (l8 bsh (s7 _ _ ebb)),bf,by rw [ek];exact re⟩
 ·rintro σ' H5 ⟨v6,v7,rows,us,rfl,sm,sq,lt5,lq5,esh,esg,ul,und,rp,rok,uok⟩;rw [Int.toNat_natCast] at ul rp lq5
  have tu:Bc H5 (us.map (·.1)) h (fU us):=⟨by rw [length_map,ul],und,fun x z hz=>by
   rw [List.getElem?_map] at hz;obtain ⟨r,hr0,rfl⟩:=Option.map_eq_some_iff.mp hz;obtain ⟨_,_,u3,bf,re⟩:=uok x r hr0;rw [Ow hr0 re.lenb];exact u3⟩
  have st:Bh h (Ba ls) (fU us):=fun x hx=>by
   obtain ⟨r,hr0⟩:∃r,us[x]?=some r:=⟨_,List.getElem?_eq_getElem (by ext)⟩;obtain ⟨_,_,_,bf,re⟩:=uok x r hr0;exact ⟨bf,by rw [Ow hr0 re.lenb];exact re⟩
  have smH:=(Sm.of s2).trans sm;have md5:=md.sm smH;obtain ⟨dx5,la5,k15,k25⟩:=id md5.is;symm;refine ⟨a,dx5,_,rfl,k15,rfl,?_⟩;symm;refine ⟨a,sg,us.map (·.1),h,s,ns,Ba ls,fU us,rfl,md5,(by rw [esg,map_map];rfl),tu,st,fun pk H6 hpk s6 epk=>?_⟩;refine ⟨(by show 3<=sizeLine;decide),fun p hp=>?_⟩;have s7:=Ag hp (.tup [V.ref b,V.ref sh,V.ref pk]);have s67:=s6.trans s7;have e7:(L2.upd H6 p (.tup [V.ref b,V.ref sh,V.ref pk])) b=some (.lst (as.map V.ref)):=s67 _ _ (sm.lst eb);refine q p (fU us) _ (smH.trans (Sm.of s67)) (fun z=>((s2.trans (sq (z.same s2))).trans s67)) ((lq5 h1).same s67) (smH.gone p (none_of s6 hp)) ⟨⟨b,sh,pk,as,rows,Ac,s67 _ _ (sm.lst eb),(tb.sm sm).same s67,s67 _ _ esh,fun q0 m=>(rok q0 m).1.same s67,rp,s7 _ _ epk⟩,st⟩ fun m' sh' pk' ms' g1 g2=>?_;rw [Ac] at g1;injection g1 with g1
  injection g1 with g1
  injection g1 with g11 g1
  injection g1 with g12 g1
  injection g1 with g13 g1
  injection g11 with g11
  injection g12 with g12
  injection g13 with g13
  subst g11 g12 g13;rw [e7] at g2;injection g2 with g2
  injection g2 with g2
  have em:as=ms':=(map_inj_right (fun x y e=>by injection e)).mp g2;rw [<- em];exact ⟨hb,none_of s2 hsh,smH.gone _ hpk,wb⟩
theorem Fg (T:Tx K mg base ad):AZ P w K mg base CX0 5 ad.f_law_round_ways ad.d_law_round_ways ["_law_seats","_law_cell_here"] (IV ad.lP):=by
 refine T.F_law_round_ways.ok Aq (fun vs H Q E h=>?_) (fun cdv A outer s H vs Q E hr h=>?_)
 ·obtain ⟨s',c,rfl,_⟩:=h;rfl
 obtain ⟨s',c,rfl,s1,s6,c0,c1,lt,q⟩:=h;refine ⟨_,((@An _ _ (2) _ _ _ _ Aq.nd rfl (Or.inl rfl) (Gs T.mk_Pairs (FK T) (hr.mono (by decide)) rfl T.m_Pairs T.b1_Way_init (.cons (show AF (.non:V) _ from rfl) .nil) Aw (Ae*>((pv 0)*>Ab))) (by rfl) (by nofun))>>((@An _ _ (3) _ _ _ _ Aq.nd rfl (Or.inl rfl) (@Av _ _ _ _ ((@AX _ _ _ _ _ ((@AX _ _ _ _ _ (Ae*>Ab))*>((AG<&>(Ae<|>(AL<&>((pv 1)<|>(EF<&>(Ae<|>Ae))))))*>Ab)))*>Ab)) (by rfl) (by nofun))>>((Cn (B0 (pv 2) T.cl_Pairs T.me_Pairs_counted (C5 T) (hr.mono (by decide)) T.b_Pairs_counted .nil Aw ((pv 3)*>Ab)) (Ds rfl (A6 (Ar (i:=4) Aq.nd rfl (Or.inl rfl)) (A6 (Ar (i:=5) Aq.nd rfl (Or.inl rfl)) (A6 (Ar (i:=6) Aq.nd rfl (Or.inl rfl)) Cl)))))>>((@An _ _ (7) _ _ _ _ Aq.nd rfl (Or.inl rfl) (Gs T.mk_PairsChecker (DU T) (hr.mono (by decide)) rfl T.m_PairsChecker T.b_Checker_init .nil Aw ((pv 2)*>Ab)) (by rfl) (by nofun))>>((@An _ _ (8) _ _ _ _ Aq.nd rfl (Or.inl rfl) (AL<&>((pv 1)<|>Ae)) (by rfl) (by nofun))>>((Cn (@Ao _ _ _ _ _ _ _ Ax (pv 5) (pv 8) (fun _ _=>rfl)) (Ds rfl (A6 (Ar (i:=9) Aq.nd rfl (Or.inr rfl)) (A6 (Ar (i:=10) Aq.nd rfl (Or.inr rfl)) (A6 (Ar (i:=11) Aq.nd rfl (Or.inl rfl)) (A6 (Ar (i:=12) Aq.nd rfl (Or.inl rfl)) (A6 (Ar (i:=13) Aq.nd rfl (Or.inl rfl)) Cl)))))))>>((Cn (Be (fsc:=Af C8) (N:=["_law_seats","_law_cell_here","_law_way","_law_sheet_here","_law_many","_law_steps","_law_picks","_law_checker","_law_at","_law_x","_law_y","_law_worth","_law_some","_law_cut","_law_a","_law_b"]) (Nc:=["_law_seats","_law_cell_here","_law_way","_law_sheet_here","_law_many","_law_steps","_law_picks","_law_checker","_law_at","_law_x","_law_y","_law_worth","_law_some","_law_cut","_law_a","_law_b","_law_hand"]) rfl rfl (by nofun) rfl (AM rfl T.z_range (Ae*>Ab)) (fun _ _ _ _=>(Cm (@A7 _ _ _ _ _ _ _ _ (E7 K) (pv 16) (@AX _ _ _ _ _ ((pv 9)*>((pv 10)*>Ab))) (by with_unfolding_all rfl)))) (fun _ _ _ _=>(pv 16))) (Qm rfl (A6 (Ar (i:=14) Aq.nd rfl (Or.inl rfl)) (A6 (Ar (i:=15) Aq.nd rfl (Or.inl rfl)) Cl))))>>((Bu PassesOwn.never rfl (A9 (@Av _ _ _ _ ((@Av _ _ _ _ ((pv 9)*>((pv 14)*>((pv 15)*>((pv 14)*>((pv 10)*>Ab))))))*>((@Av _ _ _ _ ((pv 9)*>((pv 14)*>((pv 9)*>((pv 10)*>Ab)))))*>((@Av _ _ _ _ ((pv 9)*>((pv 14)*>((pv 10)*>((pv 15)*>((pv 10)*>Ab))))))*>((@Av _ _ _ _ ((pv 9)*>((pv 14)*>((pv 15)*>((pv 9)*>((pv 14)*>((pv 10)*>Ab)))))))*>Ab)))))) (Ar (i:=12) Aq.nd rfl (Or.inl rfl)) (@Ah _ _ _ (@BV _ _ _ _ _ _ _ _ (@A7 _ _ _ _ _ _ _ _ DJ (B0 (pv 7) T.cl_PairsChecker T.me_PairsChecker_right (AT T) (hr.mono (by decide)) T.b_PairsChecker_right .nil Aw ((pv 3)*>((@AX _ _ _ _ _ ((pv 4)*>((AW<&>((AW<&>((AD AQ (pv 5) AN (AO (pv 8)))<|>(@Av _ _ _ _ ((@AX _ _ _ _ _ ((pv 9)*>((pv 10)*>((pv 11)*>((pv 12)*>((pv 13)*>Ab))))))*>Ab))))<|>(AD AQ (pv 5) (AO (AG<&>((pv 8)<|>Ae))) AN)))*>((pv 6)*>Ab))))*>Ab))) Ce (AA _)) (@Ah _ _ _ (@As _ _ _ _ Ce)) Bb)))>>((Bu PassesOwn.never rfl (A9 (@Av _ _ _ _ ((@Av _ _ _ _ ((pv 9)*>((pv 10)*>Ab)))*>((@Av _ _ _ _ ((pv 9)*>((pv 15)*>((pv 10)*>Ab))))*>((@Av _ _ _ _ ((pv 9)*>((pv 14)*>((pv 15)*>((pv 10)*>Ab)))))*>Ab))))) (Ar (i:=12) Aq.nd rfl (Or.inl rfl)) (@Ah _ _ _ (@BV _ _ _ _ _ _ _ _ (@A7 _ _ _ _ _ _ _ _ DJ (B0 (pv 7) T.cl_PairsChecker T.me_PairsChecker_right (AT T) (hr.mono (by decide)) T.b_PairsChecker_right .nil Aw ((pv 3)*>((@AX _ _ _ _ _ ((pv 4)*>((AW<&>((AW<&>((AD AQ (pv 5) AN (AO (pv 8)))<|>(@Av _ _ _ _ ((@AX _ _ _ _ _ ((pv 9)*>((pv 10)*>((pv 11)*>((pv 12)*>((pv 13)*>Ab))))))*>Ab))))<|>(AD AQ (pv 5) (AO (AG<&>((pv 8)<|>Ae))) AN)))*>((pv 6)*>Ab))))*>Ab))) Ce (AA _)) (@Ah _ _ _ (@As _ _ _ _ Ce)) Bb)))>>(@Ah _ _ _ (@As _ _ _ _ Ce))))))))))),?_⟩;symm;intro a dx ha hdx ne;refine ⟨a,ad.c_Pairs,dx,4,s',.non,ups 4,rfl,Ac,T.cl_Pairs,T.na_Pairs_hands,T.na_Pairs_seats,T.na_Pairs_lots,by decide,by decide,s1,by ext,.inl ⟨rfl,rfl⟩,fun la0 H1 _ _ z1 a1 l1=>?_⟩;rw [Di] at z1;have z1:=(Dr (Ag hdx (.own a)) ha).trans z1;refine ⟨rfl,?_⟩;have md1:Dx ad.c_Pairs H1 a 4 s' (ups 4):=⟨⟨dx,la0,a1,l1⟩,List.Perm.refl _,by decide,by decide,s1,by ext⟩;have lt1:=lt.same z1;symm
 exists 1,sl,hsl,H1,(.tup [V.int 15]),H2,z2,esl,rfl
 symm;dsimp only;obtain ⟨n,en⟩:∃n:Int,1+c.fmod (10 ^ (9:Int).toNat)=n:=⟨_,rfl⟩;rw [en]
 exists 2,tl,htl,H2,(.tup [V.ref sl,V.int n]),H3,z3,etl,rfl
 symm
 exists 1,sb,hsb,H3,(.lst [V.ref tl]),H4,z4,esb,rfl
 have es:H4 sb=some (.lst (vls [(tl,sl,[15],n)])):=esb
 have gl:Dv 4 H4 [(tl,sl,[15],n)]:=fun q m=>by
  rw [mem_singleton.mp m];exact ⟨z4 _ _ etl,(z3.trans z4) _ _ esl,PN⟩
 have z14:=z2.trans (z3.trans z4);have md4:=md1.same z14;obtain ⟨ls,els⟩:∃ls,ls=[(tl,sl,[(15:Int)],n)]:=⟨_,rfl⟩;have l60:ls.length<=60:=by rw [els];show 1<=60;decide
 have z0:∀x y,x < 4->y < 4->Ba ls x y=0:=fun x y hx hy=>by rw [els];exact Rr hx hy
 rw [<- els] at es gl;obtain ⟨dx4,la4,k1,k2⟩:=id md4.is;clear els esb etl esl md1 a1 l1;symm;refine ⟨a,dx4,_,rfl,k1,rfl,?_⟩;symm;refine ⟨a,sb,4,s',ups 4,ls,rfl,md4,es,gl,l60,lt1.same z14,fun pp F H5 sm5 _ _ _ pap _=>?_⟩;have st:=pap.strong;obtain ⟨m,sh,pk,ms,rs,gp⟩:=O4 pap.gen (by decide);have md5:=md4.sm sm5;have es5:=sm5.lst es;have gl5:Dv 4 H5 ls:=fun q m=>⟨sm5.tup (gl q m).1,sm5.tup (gl q m).2.1,(gl q m).2.2⟩
 have rn:rs.length=12:=by
  have:=Kj 4;rw [<- gp.due,BL] at this;ext
 clear pap sm5 md4 es gl k1 k2;symm;refine ⟨pp,_,rfl,SqT.of gp.p,rfl,_,_,rfl,_,_,rfl,_,_,rfl,rfl,?_⟩;symm;intro k dk hk hdk nek;refine ⟨k,ad.c_PairsChecker,dk,.ref a,rfl,Ac,T.cl_PairsChecker,T.na_PairsChecker_way,fun H6 z6 ek=>?_⟩;rw [Di] at z6;have z6:=(Dr (Ag hdk (.own k)) hk).trans z6;refine ⟨rfl,?_⟩;have ic:IsC ad.c_PairsChecker ad.c_Pairs H6 k a 4 s' (ups 4):=⟨⟨dk,ek⟩,md5.same z6⟩;have gp6:=gp.same z6;have es6:=z6 _ _ es5;have gl6:=gl5.same z6;clear gp es5 gl5 md5 hk hdk nek;have mk:=Bg c (show (0:Int) < 12 by decide);obtain ⟨j,ej⟩:∃j:Nat,c.fmod 12=(j:Int):=⟨(c.fmod 12).toNat,by ext⟩;have lj:j < rs.length:=by ext
 obtain ⟨r,hr⟩:∃r,rs[j]?=some r:=⟨_,List.getElem?_eq_getElem lj⟩;obtain ⟨gr,rr,wl⟩:=gp6.rg r (mem_of_getElem? hr);have hj:atI (vrq rs) (j:Int)=some (.ref r.t):=Bv (by unfold vrq;rw [List.getElem?_map,hr];rfl);symm;dsimp only;rw [ej];symm;refine ⟨sh,_,_,_,rfl,rfl,SqL.of gp6.sh,hj,?_⟩;symm;refine ⟨r.t,_,rfl,SqT.of gr.t,rfl,_,_,rfl,_,_,rfl,_,_,rfl,_,_,rfl,_,_,rfl,rfl,?_⟩;refine QP (σ':=[some (.int (s':Int)),some (.int c),some (.ref a),some (.ref sb),some (.ref m),some (.ref sh),some (.ref pk),some (.ref k),some (.int (j:Int)),some (.int r.x),some (.int r.y),some (.int r.s),some (.ref r.w),some (.int r.cut),none,none]) rfl ?_;obtain ⟨x0,xh,y0,yh,xy⟩:=JD rr;obtain ⟨x,ex⟩:∃x:Nat,r.x=(x:Int):=⟨r.x.toNat,(Int.toNat_of_nonneg x0).symm⟩;obtain ⟨y,ey⟩:∃y:Nat,r.y=(y:Int):=⟨r.y.toNat,(Int.toNat_of_nonneg y0).symm⟩;have hx:x < 4:=by ext
 have hy:y < 4:=by ext
 have xy':x≠y:=by ext
 symm;refine ⟨by decide,by decide,?_⟩
 refine AY (A8 (by decide)) (fun D i ys J=>ys=(((List.range i).filter fun k=>decide (k≠x/\k≠y)).map fun k:Nat=>(k:Int)).map V.int/\J D=some (.lst ys)/\Al H6 J) (fun D hD=>⟨rfl,Ac,Ag hD _⟩) (fun D i ys J hq=>by
  obtain ⟨f1,f2,_⟩:=hq;refine ⟨f2,?_⟩;rw [f1,length_map,length_map];exact Nat.le_trans (length_filter_le ..) (by rw [length_range];exact Nat.le_refl _)) ?_ ?_
 ·rintro D i ys J K1 K2 hD hi ⟨f1,f2,f3⟩ kk1 kk2
  have et:(List.range (i+1)).filter (fun k=>decide (k≠x/\k≠y))=(List.range i).filter (fun k=>decide (k≠x/\k≠y))++if i≠x/\i≠y then [i] else []:=by
   rw [range_succ,filter_append]
   congr 1
   by_cases c:i≠x/\i≠y
   ·rw [if_pos c];exact filter_cons_of_pos (decide_eq_true c)
   ·rw [if_neg c];exact filter_cons_of_neg (fun k=>c (of_decide_eq_true k))
  have ei:(0:Int)+(i:Int)=(i:Int):=Int.zero_add _;symm;refine ⟨(by show 2<=sizeLine;decide),fun t ht=>?_⟩
  exists t,ht,J,(.tup [V.int r.x,V.int r.y]),J1,j1,et1,(.tup ([r.x,r.y].map V.int))
  have f2':=j1 _ _ f2;symm;rw [ei];by_cases ci:i≠x/\i≠y
  ·rw [M0 (fun m=>by
    rcases mem_cons.mp m with e | m
    ·rw [ex] at e;exact ci.1 (Int.ofNat.inj e)
    ·have e:=mem_singleton.mp m;rw [ey] at e;exact ci.2 (Int.ofNat.inj e))]
   refine ifT rfl ?_;symm;refine kk1 _ _ f2' ⟨?_,Ac,Ay (f3.trans j1) hD⟩;rw [et,if_pos ci,map_append,map_append,f1];rfl
  ·rw [OK (by
    by_cases e:i=x
    ·rw [ex,e];exact mem_cons_self ..
    ·have:i=y:=Decidable.byContradiction fun n=>ci ⟨e,n⟩;rw [ey,this];exact mem_cons_of_mem _ (mem_singleton.mpr rfl))]
   refine ifF rfl ?_;refine kk2 _ ⟨?_,f2',f3.trans j1⟩;rw [et,if_neg ci,append_nil];exact f1
 rintro lab ys H7 hlab ⟨rfl,eab2,z7⟩;obtain ⟨⟨aa,ha4⟩,⟨bb,hb4⟩,eab,ab,ax,ay,bx,by_⟩:=Px ⟨x,hx⟩ ⟨y,hy⟩ (fun e=>xy' (congrArg Fin.val e));rw [show (List.range (4:Int).toNat).filter (fun k=>decide (k≠x/\k≠y))=[aa,bb] from eab] at eab2;have ab:aa≠bb:=fun e=>ab (Fin.ext e);have ax:aa≠x:=fun e=>ax (Fin.ext e);have ay:aa≠y:=fun e=>ay (Fin.ext e);have bx:bb≠x:=fun e=>bx (Fin.ext e);have by_:bb≠y:=fun e=>by_ (Fin.ext e);symm;refine ⟨lab,_,rfl,SqL.of eab2,rfl,_,_,rfl,_,_,rfl,rfl,?_⟩;refine QP (σ':=[some (.int (s':Int)),some (.int c),some (.ref a),some (.ref sb),some (.ref m),some (.ref sh),some (.ref pk),some (.ref k),some (.int (j:Int)),some (.int r.x),some (.int r.y),some (.int r.s),some (.ref r.w),some (.int r.cut),some (.int (aa:Int)),some (.int (bb:Int))]) rfl ?_;have z0':r.s=0:=Ox z0 rr;have rxt:r.x.toNat=x:=by ext
 have ryt:r.y.toNat=y:=by ext
 have tk:C1 (vrq rs) none (some (j:Int))=vrq (rs.take j):=EW.trans (map_take ..).symm;have dk1:C1 (vrq rs) (some ((j:Int)+1)) none=vrq (rs.drop (j+1)):=(Ch (j:=j+1)).trans (map_drop ..).symm;have va:∀x y:List Rq,vrq x++vrq y=vrq (x++y):=fun x y=>(map_append ..).symm;symm
 exists 5,l1,nl1,H7,(.lst [V.int r.x,V.int (aa:Int),V.int (bb:Int),V.int (aa:Int),V.int r.y]),G1,gG1,el1,rfl
 symm
 exists 4,l2,nl2,G1,(.lst [V.int r.x,V.int (aa:Int),V.int r.x,V.int r.y]),G2,gG2,el2,rfl
 symm
 exists 5,l3,nl3,G2,(.lst [V.int r.x,V.int (aa:Int),V.int r.y,V.int (bb:Int),V.int r.y]),G3,gG3,el3,rfl
 symm
 exists 6,l4,nl4,G3,(.lst [V.int r.x,V.int (aa:Int),V.int (bb:Int),V.int r.x,V.int (aa:Int),V.int r.y]),G4,gG4,el4,rfl
 symm
 exists 4,lo1,nlo1,G4,(.lst [V.ref l1,V.ref l2,V.ref l3,V.ref l4]),G,gG,elo1,rfl
 have u4:=gG;have u3:=gG4.trans u4;have u2:=gG3.trans u3;have u1:=gG2.trans u2;have z6G:=z7.trans (gG1.trans u1)
 obtain ⟨os,eos,gos⟩:∃os:List (Addr × List Int),os.map (fun o=>V.ref o.1)=[V.ref l1,V.ref l2,V.ref l3,V.ref l4]/\∀o∈os,G o.1=some (.lst (o.2.map V.int))/\o.2.length<=60/\EN 4 o.2 r.x r.y=false:=by
  refine ⟨[(l1,[r.x,(aa:Int),(bb:Int),(aa:Int),r.y]),(l2,[r.x,(aa:Int),r.x,r.y]),(l3,[r.x,(aa:Int),r.y,(bb:Int),r.y]),(l4,[r.x,(aa:Int),(bb:Int),r.x,(aa:Int),r.y])],rfl,?_⟩;have tw:∀{ws:List Int},¬ ws.Nodup->EN 4 ws r.x r.y=false:=fun n=>DQ fun _ _ _ _ nd=>n nd;refine al2 ⟨⟨u1 _ _ el1,by show 5<=60;decide,tw (by simp)⟩,al2 ⟨⟨u2 _ _ el2,by show 4<=60;decide,tw (by simp)⟩,al2 ⟨⟨u3 _ _ el3,by show 5<=60;decide,tw (by simp)⟩,al2 ⟨⟨u4 _ _ el4,by show 6<=60;decide,tw (by simp)⟩,fun _ m=>absurd m List.not_mem_nil⟩⟩⟩⟩
 rw [<- eos] at elo1;clear eos el1 el2 el3 el4 u1 u2 u3 u4;refine ⟨lo1,rfl,⟨_,SqL.of elo1⟩,Bs (xs:=os.map fun o=>V.ref o.1) (fun i σ' J=>∃v12:Option V,σ'=[some (.int (s':Int)),some (.int c),some (.ref a),some (.ref sb),some (.ref m),some (.ref sh),some (.ref pk),some (.ref k),some (.int (j:Int)),some (.int r.x),some (.int r.y),some (.int r.s),v12,some (.int r.cut),some (.int (aa:Int)),some (.int (bb:Int))]/\Al G J) ⟨some (.ref r.w),rfl,Al.refl _⟩ (fun i σ' J _ hq_=>by obtain ⟨_,_,z⟩:=hq_;exact SqL.of (z _ _ elo1)) ?_ ?_⟩
 ·rintro i u σ' J hu ⟨v12,rfl,sJ⟩;rw [List.getElem?_map] at hu;obtain ⟨o,ho,rfl⟩:=Option.map_eq_some_iff.mp hu;have go:=gos o (mem_of_getElem? ho);have z6J:=z6G.trans sJ;obtain ⟨⟨dkJ,ekJ⟩,_⟩:=id (ic.same z6J);symm;refine ⟨k,dkJ,_,rfl,ekJ,rfl,?_⟩;symm;refine ⟨sh,_,rfl,SqL.of (z6J _ _ gp6.sh),fun a1 m1=>?_⟩;rw [tk]
  exists a1,m1,J,(.lst (vrq (rs.take j))),J1,j1,ea1
  symm
  exists 5,t5,m2,J1,(.tup [V.int r.x,V.int r.y,V.int r.s,V.ref o.1,V.int r.cut]),J2,j2,et5,rfl
  symm
  exists 1,a2,m3,J2,(.lst [V.ref t5]),J3,j3,ea2,rfl
  refine ⟨a1,a2,vrq (rs.take j),vrq [⟨t5,o.1,r.x,r.y,r.s,o.2,r.cut⟩],rfl,rfl,(j2.trans j3) _ _ ea1,ea2,(by right),fun a3 m4=>?_⟩;rw [va]
  exists a3,m4,J3,(.lst (vrq (rs.take j++[⟨t5,o.1,r.x,r.y,r.s,o.2,r.cut⟩]))),J4,j4,ea3
  have j14:=j1.trans (j2.trans (j3.trans j4));symm;refine ⟨sh,_,rfl,SqL.of ((z6J.trans j14) _ _ gp6.sh),fun a4 m5=>?_⟩;dsimp only;rw [dk1]
  exists a4,m5,J4,(.lst (vrq (rs.drop (j+1)))),J5,j5,ea4
  refine ⟨a3,a4,_,_,rfl,rfl,j5 _ _ ea3,ea4,(by right),fun a5 m6=>?_⟩;rw [va]
  exists a5,m6,J5,(.lst (vrq (rs.take j++[⟨t5,o.1,r.x,r.y,r.s,o.2,r.cut⟩]++rs.drop (j+1)))),J6,j6,ea5
  symm
  exists 3,t6,m7,J6,(.tup [V.ref m,V.ref a5,V.ref pk]),J7,j7,et6,rfl
  have j57:=j5.trans (j6.trans j7);have j17:=j14.trans j57;have z67:=z6J.trans j17;have pp7:=(gp6.same z67).pap (by ext);refine ⟨k,a,sb,t6,m,a5,pk,4,s',ups 4,ls,F,Dc ms 4 (ovF ls),rs.take j++[⟨t5,o.1,r.x,r.y,r.s,o.2,r.cut⟩]++rs.drop (j+1),Ak F s' (ups 4),rfl,ic.same z67,z67 _ _ es6,gl6.same z67,l60,st,⟨et6,pp7.m,pp7.tb,j7 _ _ ea5,fun r' m'=>?_,pp7.pk,by rw [length_append,length_append,length_take,length_drop];show min j rs.length+1+_<=300;ext⟩,fun J8 s8=>?_⟩
  ·rcases mem_append.mp m' with m' | m'
   ·rcases mem_append.mp m' with m' | m'
    ·exact pp7.rg r' (mem_of_mem_take m')
    ·rw [mem_singleton.mp m'];exact ⟨⟨(j3.trans (j4.trans j57)) _ _ et5,(sJ.trans j17) _ _ go.1⟩,go.2.1⟩
   ·exact pp7.rg r' (mem_of_mem_drop m')
  rw [GZ (r:=⟨t5,o.1,r.x,r.y,r.s,o.2,r.cut⟩) (mem_append.mpr (.inl (mem_append.mpr (.inr (mem_singleton.mpr rfl))))) (fun z=>absurd z.1 (by rw [go.2.2];decide))];refine ⟨_,rfl,?_⟩;refine ⟨_,rfl,ifF rfl ?_⟩;exact ⟨_,rfl,sJ.trans (j17.trans s8)⟩
 rintro σ' J1 ⟨v12,rfl,sJ1⟩;have z6J1:=z6G.trans sJ1;symm
 exists 2,p1,np1,J1,(.lst [V.int r.x,V.int r.y]),P1,gP1,ep1,rfl
 symm
 exists 3,p2,np2,P1,(.lst [V.int r.x,V.int (bb:Int),V.int r.y]),P2,gP2,ep2,rfl
 symm
 exists 4,p3,np3,P2,(.lst [V.int r.x,V.int (aa:Int),V.int (bb:Int),V.int r.y]),P3,gP3,ep3,rfl
 symm
 exists 3,lo2,nlo2,P3,(.lst [V.ref p1,V.ref p2,V.ref p3]),P',gP,elo2,rfl
 have u3:=gP;have u2:=gP3.trans u3;have u1:=gP2.trans u2;have z6P:=z6J1.trans (gP1.trans u1)
 obtain ⟨os2,eos2,gos2⟩:∃os:List (Addr × List Int),os.map (fun o=>V.ref o.1)=[V.ref p1,V.ref p2,V.ref p3]/\∀o∈os,P' o.1=some (.lst (o.2.map V.int))/\o.2.length<=60/\∃ws:List Nat,o.2=B9 ws/\2<=ws.length/\ws.head?=some x/\ws.getLast?=some y/\(∀z∈ws,z < 4)/\ws.Nodup:=by
  refine ⟨[(p1,[r.x,r.y]),(p2,[r.x,(bb:Int),r.y]),(p3,[r.x,(aa:Int),(bb:Int),r.y])],rfl,?_⟩;rw [ex,ey];have e1:P' p1=some (.lst ([r.x,r.y].map V.int)):=u1 _ _ ep1;have e2:P' p2=some (.lst ([r.x,(bb:Int),r.y].map V.int)):=u2 _ _ ep2;have e3:P' p3=some (.lst ([r.x,(aa:Int),(bb:Int),r.y].map V.int)):=u3 _ _ ep3;rw [ex,ey] at e1 e2 e3;have yx:=Ne.symm xy';have xa:=Ne.symm ax;have xb:=Ne.symm bx;refine al2 ⟨⟨e1,by show 2<=60;decide,[x,y],rfl,by show 2<=2;decide,rfl,rfl,by simp [hx,hy],by simp [xy']⟩,al2 ⟨⟨e2,by show 3<=60;decide,[x,bb,y],rfl,by show 2<=3;decide,rfl,rfl,by simp [hx,hy,hb4],by simp [xy',xb,by_]⟩,al2 ⟨⟨e3,by show 4<=60;decide,[x,aa,bb,y],rfl,by show 2<=4;decide,rfl,rfl,by simp [hx,hy,hb4,ha4],by simp [xy',xa,xb,ab,ay,by_]⟩,fun _ m=>absurd m List.not_mem_nil⟩⟩⟩
 rw [<- eos2] at elo2;clear eos2 ep1 ep2 ep3 u1 u2 u3;refine ⟨lo2,rfl,⟨_,SqL.of elo2⟩,Bs (xs:=os2.map fun o=>V.ref o.1) (fun i σ' J=>∃v12:Option V,σ'=[some (.int (s':Int)),some (.int c),some (.ref a),some (.ref sb),some (.ref m),some (.ref sh),some (.ref pk),some (.ref k),some (.int (j:Int)),some (.int r.x),some (.int r.y),some (.int r.s),v12,some (.int r.cut),some (.int (aa:Int)),some (.int (bb:Int))]/\Al P' J) ⟨v12,rfl,Al.refl _⟩ (fun i σ' J _ hq_=>by obtain ⟨_,_,z⟩:=hq_;exact SqL.of (z _ _ elo2)) ?_ ?_⟩
 ·rintro i u σ' J hu ⟨v12,rfl,sJ⟩;rw [List.getElem?_map] at hu;obtain ⟨o,ho,rfl⟩:=Option.map_eq_some_iff.mp hu;have go:=gos2 o (mem_of_getElem? ho);have z6J:=z6P.trans sJ;obtain ⟨⟨dkJ,ekJ⟩,_⟩:=id (ic.same z6J);symm;refine ⟨k,dkJ,_,rfl,ekJ,rfl,?_⟩;symm;refine ⟨sh,_,rfl,SqL.of (z6J _ _ gp6.sh),fun a1 m1=>?_⟩;rw [tk]
  exists a1,m1,J,(.lst (vrq (rs.take j))),J1,j1,ea1
  symm
  exists 5,t5,m2,J1,(.tup [V.int r.x,V.int r.y,V.int r.s,V.ref o.1,V.int r.cut]),J2,j2,et5,rfl
  symm
  exists 1,a2,m3,J2,(.lst [V.ref t5]),J3,j3,ea2,rfl
  refine ⟨a1,a2,vrq (rs.take j),vrq [⟨t5,o.1,r.x,r.y,r.s,o.2,r.cut⟩],rfl,rfl,(j2.trans j3) _ _ ea1,ea2,(by right),fun a3 m4=>?_⟩;rw [va]
  exists a3,m4,J3,(.lst (vrq (rs.take j++[⟨t5,o.1,r.x,r.y,r.s,o.2,r.cut⟩]))),J4,j4,ea3
  have j14:=j1.trans (j2.trans (j3.trans j4));symm;refine ⟨sh,_,rfl,SqL.of ((z6J.trans j14) _ _ gp6.sh),fun a4 m5=>?_⟩;dsimp only;rw [dk1]
  exists a4,m5,J4,(.lst (vrq (rs.drop (j+1)))),J5,j5,ea4
  refine ⟨a3,a4,_,_,rfl,rfl,j5 _ _ ea3,ea4,(by right),fun a5 m6=>?_⟩;rw [va]
  exists a5,m6,J5,(.lst (vrq (rs.take j++[⟨t5,o.1,r.x,r.y,r.s,o.2,r.cut⟩]++rs.drop (j+1)))),J6,j6,ea5
  symm
  exists 3,t6,m7,J6,(.tup [V.ref m,V.ref a5,V.ref pk]),J7,j7,et6,rfl
  have j57:=j5.trans (j6.trans j7);have j17:=j14.trans j57;have z67:=z6J.trans j17;have pp7:=(gp6.same z67).pap (by ext);refine ⟨k,a,sb,t6,m,a5,pk,4,s',ups 4,ls,F,Dc ms 4 (ovF ls),rs.take j++[⟨t5,o.1,r.x,r.y,r.s,o.2,r.cut⟩]++rs.drop (j+1),Ak F s' (ups 4),rfl,ic.same z67,z67 _ _ es6,gl6.same z67,l60,st,⟨et6,pp7.m,pp7.tb,j7 _ _ ea5,fun r' m'=>?_,pp7.pk,by rw [length_append,length_append,length_take,length_drop];show min j rs.length+1+_<=300;ext⟩,fun J8 s8=>?_⟩
  ·rcases mem_append.mp m' with m' | m'
   ·rcases mem_append.mp m' with m' | m'
    ·exact pp7.rg r' (mem_of_mem_take m')
    ·rw [mem_singleton.mp m'];exact ⟨⟨(j3.trans (j4.trans j57)) _ _ et5,(sJ.trans j17) _ _ go.1⟩,go.2.1⟩
   ·exact pp7.rg r' (mem_of_mem_drop m')
  rw [JB (Hw gp6.tf).2.1 ((PJ (r':=⟨t5,o.1,r.x,r.y,r.s,o.2,r.cut⟩) hr rfl).trans gp6.due) (fun r' m'=>by
   rcases mem_append.mp m' with m' | m'
   ·rcases mem_append.mp m' with m' | m'
    ·exact (gp6.rg r' (mem_of_mem_take m')).2.1
    ·rw [mem_singleton.mp m'];obtain ⟨_,_,ws,ew,w1,w2,w3,w4,w5⟩:=go;refine ⟨?_,rr.2.1,?_,rr.2.2.2⟩
     ·show EN 4 o.2 r.x r.y=true;rw [ew,ex,ey];exact MQ w1 w2 w3 w4 w5
     ·show Dw 4 r.x.toNat r.y.toNat (Ba ls) r.s (o.2.map Int.toNat);rw [ew,Iy,rxt,ryt,z0'];exact Oy z0 w1 w2 w3 w4 w5
   ·exact (gp6.rg r' (mem_of_mem_drop m')).2.1) rfl]
  refine ⟨_,rfl,?_⟩;refine ⟨_,rfl,ifF rfl ?_⟩;exact ⟨_,rfl,sJ.trans (j17.trans s8)⟩
 rintro σ' J2 ⟨v12',rfl,sJ2⟩;symm;exact q _
theorem GQ (T:Tx K mg base ad):AZ P w K mg base CX0 5 ad.f_Way_outcome ad.d_Way_outcome ["self","sheet"] (Pl ad.c_Pairs ad.lP):=by
 refine T.F_Way_outcome.ok Hi (fun vs H Q E h=>?_) (fun cdv A outer s H vs Q E hr h=>?_)
 ·obtain ⟨a,l,h,s,ns,ls,rfl,_⟩:=h;rfl
 obtain ⟨a,l,h,s,ns,ls,rfl,md,hl,gl,l60,lt,q⟩:=h;refine ⟨_,(@Ah _ _ _ (@As _ _ _ _ (B0 (pv 0) T.cl_Pairs T.me_Pairs_told_by (D6 T) (hr.mono (by decide)) T.b_Pairs_told_by .nil Aw ((B0 (pv 0) T.cl_Pairs T.me_Pairs_counted (C5 T) (hr.mono (by decide)) T.b_Pairs_counted .nil Aw ((pv 1)*>Ab))*>Ab)))),?_⟩;obtain ⟨dx,la,k1,k2⟩:=id md.is;refine ⟨_,rfl,a,dx,_,rfl,k1,rfl,?_⟩;refine ⟨_,rfl,a,dx,_,rfl,k1,rfl,_,rfl,a,l,h,s,ns,ls,rfl,md,hl,gl,l60,lt,fun p F H1 sm sq lq hp pap _=>?_⟩;exact ⟨a,p,h,s,ns,ls,F,rfl,md.sm sm,(let ⟨m,sh,pk,_,_,a1,_,_,_,_,_,a7⟩:=pap.is;⟨m,sh,pk,a1,a7⟩),fun r H2 hr s2 e2=>q r F H2 (sm.trans (Sm.of s2)) (fun z=>(sq z).trans s2) (lq.same s2) e2 pap.strong⟩
theorem Dj (T:Tx K mg base ad):AZ P w K mg base CX0 5 ad.f_Checker_passes ad.d_Checker_passes ["self","sheet","paper","outcome"] (Hs ad.c_PairsChecker ad.c_Pairs):=by
 refine T.F_Checker_passes.ok Fm (fun vs H Q E h=>?_) (fun cdv A outer s H vs Q E hr h=>?_)
 ·obtain ⟨k,a,l,p,o,m,sh,pk,h,s',ns,os,ls,F,tb,rs,ps,rfl,_⟩:=h;rfl
 obtain ⟨k,a,l,p,o,m,sh,pk,h,s',ns,os,ls,F,tb,rs,ps,rfl,ic,hl,gl,l60,st,pq,ho,q⟩:=h;refine ⟨_,((@BV _ _ _ _ _ _ _ _ (@Dt _ _ _ _ (@Du _ _ _ (B0 (pv 0) T.cl_PairsChecker T.me_PairsChecker_right (AT T) (hr.mono (by decide)) T.b_PairsChecker_right .nil Aw ((pv 1)*>((pv 2)*>Ab))) (by intro _;rfl))) (@Ah _ _ _ (@As _ _ _ _ Ce)) Bb)>>(@Ah _ _ _ (@As _ _ _ _ (@CA _ _ _ _ _ _ _ _ (LK (K:=K) hr.units) (B0 (DK (pv 0) rfl) T.cl_Pairs T.me_Pairs_told_by (D6 T) (hr.mono (by decide)) T.b_Pairs_told_by .nil Aw ((pv 2)*>Ab)) (pv 3) (AA _))))),?_⟩;obtain ⟨⟨dk,hk⟩,md⟩:=id ic;symm;refine ⟨k,dk,_,rfl,hk,rfl,?_⟩;symm;refine ⟨k,a,l,p,m,sh,pk,h,s',ns,ls,F,tb,rs,ps,rfl,ic,hl,gl,l60,st,pq,fun H1 s1=>?_⟩
 cases c:BY h ls (Ak F s' ns) (tb.map (·.2)) rs ps with
 | false =>
   rw [c,Bool.false_and] at q;symm;exact q _ s1
 | true =>
   have c4:ps=Ak F s' ns:=Classical.byContradiction fun k=>by rw [Ha k] at c;cases c
   rw [c,Bool.true_and] at q;symm;refine ⟨k,_,dk,_,_,rfl,s1 _ _ hk,T.cl_PairsChecker,T.na_PairsChecker_way,rfl,?_⟩;have md1:=md.same s1;obtain ⟨dx,la,k1,k2⟩:=id md1.is;refine ⟨a,dx,_,rfl,k1,rfl,?_⟩;symm;refine ⟨a,p,h,s',ns,ls,F,rfl,md1,⟨m,sh,pk,s1 _ _ pq.p,by rw [<- c4];exact s1 _ _ pq.pk⟩,fun r H2 hr' s2 er=>?_⟩;symm;refine ⟨.list ((Gc h (Ak F s' ns)).map .int),.list (os.map .int),.lst (SqL.of er) (.ints _),.lst (SqL.of ((s1.trans s2) _ _ ho)) (.ints _),(Bq _).2,(Bq _).2,?_⟩;rw [show PyData.eqv (.list ((Gc h (Ak F s' ns)).map .int)) (.list (os.map .int))=decide (Gc h (Ak F s' ns)=os) from CD _ _];exact q _ (s1.trans s2)
theorem Rx (T:Tx K mg base ad):AZ P w K mg base CX0 6 ad.f_law ad.d_law ["_law_script"] (Le K ad.lP):=by
 refine T.F_law.ok CM (fun vs H Q E h=>?_) (fun cdv A outer s H vs Q E hr h=>?_)
 ·obtain ⟨p,ns,rfl,_⟩:=h;rfl
 obtain ⟨p,ns,rfl,hS,h63,hP,q⟩:=h;refine ⟨_,((@An _ _ (1) _ _ _ _ CM.nd rfl (Or.inl rfl) (@Am _ _ _ _ _ _ _ _ _ _ _ _ _ _ _ _ (Ek T) (hr.mono (by decide)) rfl T.m_law_cell T.F_law_cell.kp T.b_law_cell .nil Aw ((pv 0)*>(Ae*>Ab)) (by decide) (by rfl) (by rfl)) (by rfl) (by nofun))>>((@An _ _ (2) _ _ _ _ CM.nd rfl (Or.inl rfl) (AG<&>(Ae<|>(AL<&>((pv 1)<|>Ae)))) (by rfl) (by nofun))>>((@An _ _ (3) _ _ _ _ CM.nd rfl (Or.inl rfl) (Gs T.mk_Pairs (FK T) (hr.mono (by decide)) rfl T.m_Pairs T.b_Way_init .nil Aw ((pv 2)*>((AG<&>(Ae<|>(AL<&>((Bm<&>((pv 1)<|>Ae))<|>Ae))))*>((@Am _ _ _ _ _ _ _ _ _ _ _ _ _ _ _ _ (Fe T) (hr.mono (by decide)) rfl T.m_law_order T.F_law_order.kp T.b_law_order .nil Aw ((@Am _ _ _ _ _ _ _ _ _ _ _ _ _ _ _ _ (Ek T) (hr.mono (by decide)) rfl T.m_law_cell T.F_law_cell.kp T.b_law_cell .nil Aw ((pv 0)*>(Ae*>Ab)) (by decide) (by rfl) (by rfl))*>((pv 2)*>Ab)) (by decide) (by rfl) (by rfl))*>Ab)))) (by rfl) (by nofun))>>((@An _ _ (4) _ _ _ _ CM.nd rfl (Or.inl rfl) (@Am _ _ _ _ _ _ _ _ _ _ _ _ _ _ _ _ (Jx T) (hr.mono (by decide)) rfl T.m_law_votes T.F_law_votes.kp T.b_law_votes .nil Aw ((pv 0)*>(Ae*>(Ae*>((pv 2)*>Ab)))) (by decide) (by rfl) (by rfl)) (by rfl) (by nofun))>>((@An _ _ (5) _ _ _ _ CM.nd rfl (Or.inl rfl) (@Am _ _ _ _ _ _ _ _ _ _ _ _ _ _ _ _ (Jt T) (hr.mono (by decide)) rfl T.m_law_leads T.F_law_leads.kp T.b_law_leads .nil Aw ((@Am _ _ _ _ _ _ _ _ _ _ _ _ _ _ _ _ (Ju T) (hr.mono (by decide)) rfl T.m_law_overs T.F_law_overs.kp T.b_law_overs .nil Aw ((pv 4)*>((pv 2)*>Ab)) (by decide) (by rfl) (by rfl))*>Ab) (by decide) (by rfl) (by rfl)) (by rfl) (by nofun))>>((@An _ _ (6) _ _ _ _ CM.nd rfl (Or.inl rfl) (@Am _ _ _ _ _ _ _ _ _ _ _ _ _ _ _ _ (Jw T) (hr.mono (by decide)) rfl T.m_law_sheet T.F_law_sheet.kp T.b_law_sheet .nil Aw ((pv 4)*>Ab) (by decide) (by rfl) (by rfl)) (by rfl) (by nofun))>>((@An _ _ (7) _ _ _ _ CM.nd rfl (Or.inl rfl) (B0 (pv 3) T.cl_Pairs T.me_Pairs_counted (C5 T) (hr.mono (by decide)) T.b_Pairs_counted .nil Aw ((pv 6)*>Ab)) (by rfl) (by nofun))>>((@An _ _ (8) _ _ _ _ CM.nd rfl (Or.inl rfl) (B0 (pv 3) T.cl_Pairs T.me_Pairs_outcome (GQ T) (hr.mono (by decide)) T.b_Way_outcome .nil Aw ((pv 6)*>Ab)) (by rfl) (by nofun))>>((@An _ _ (9) _ _ _ _ CM.nd rfl (Or.inl rfl) (Gs T.mk_PairsChecker (DU T) (hr.mono (by decide)) rfl T.m_PairsChecker T.b_Checker_init .nil Aw ((pv 3)*>Ab)) (by rfl) (by nofun))>>((@BV _ _ _ _ _ _ _ _ (@A7 _ _ _ _ _ _ _ _ DJ (B0 (pv 9) T.cl_PairsChecker T.me_PairsChecker_right (AT T) (hr.mono (by decide)) T.b_PairsChecker_right .nil Aw ((pv 6)*>((pv 7)*>Ab))) Ce (AA _)) (@Ah _ _ _ (@As _ _ _ _ Ce)) Bb)>>((@An _ _ (10) _ _ _ _ CM.nd rfl (Or.inl rfl) (@Am _ _ _ _ _ _ _ _ _ _ _ _ _ _ _ _ (HN T) (hr.mono (by decide)) rfl T.m_law_spoilt T.F_law_spoilt.kp T.b_law_spoilt .nil Aw ((pv 7)*>((pv 5)*>((@Am _ _ _ _ _ _ _ _ _ _ _ _ _ _ _ _ (Cj T) (hr.mono (by decide)) rfl T.m_law_mixed T.F_law_mixed.kp T.b_law_mixed .nil Aw ((pv 1)*>(Ae*>Ab)) (by decide) (by rfl) (by rfl))*>Ab))) (by decide) (by rfl) (by rfl)) (by rfl) (by nofun))>>((Bu PassesOwn.never rfl (A9 (pv 10)) (Ar (i:=11) CM.nd rfl (Or.inl rfl)) (@Ah _ _ _ (@BV _ _ _ _ _ _ _ _ (@A7 _ _ _ _ _ _ _ _ DJ (B0 (pv 9) T.cl_PairsChecker T.me_PairsChecker_right (AT T) (hr.mono (by decide)) T.b_PairsChecker_right .nil Aw ((pv 6)*>((pv 11)*>Ab))) Ce (AA _)) (@Ah _ _ _ (@As _ _ _ _ Ce)) Bb)))>>((@BV _ _ _ _ _ _ _ _ (@A7 _ _ _ _ _ _ _ _ DJ (B0 (pv 9) T.cl_PairsChecker T.me_PairsChecker_passes (Dj T) (hr.mono (by decide)) T.b_Checker_passes .nil Aw ((pv 6)*>((@Ao _ _ _ _ _ _ _ Ax (pv 10) (AL<&>((Bm<&>((pv 1)<|>Ae))<|>Ae)) (fun _ _=>rfl))*>((pv 8)*>Ab)))) Ce (AA _)) (@Ah _ _ _ (@As _ _ _ _ Ce)) Bb)>>((@BV _ _ _ _ _ _ _ _ (PW.pt (@IF _ _ _ _ _ _ _ (@A7 _ _ _ _ _ _ _ _ DJ (B0 (pv 9) T.cl_PairsChecker T.me_PairsChecker_right (AT T) (hr.mono (by decide)) T.b_PairsChecker_right .nil Aw ((pv 6)*>((pv 7)*>Ab))) Ce (AA _)) (@GX _ _ _ _ (@A7 _ _ _ _ _ _ _ _ DJ (B0 (pv 9) T.cl_PairsChecker T.me_PairsChecker_passes (Dj T) (hr.mono (by decide)) T.b_Checker_passes .nil Aw ((pv 6)*>((pv 7)*>((pv 8)*>Ab)))) Ce (AA _))))) (@Ah _ _ _ (@As _ _ _ _ Ce)) Bb)>>(@Ah _ _ _ (@As _ _ _ _ (@Am _ _ _ _ _ _ _ _ _ _ _ _ _ _ _ _ (Fg T) (hr.mono (by decide)) rfl T.m_law_round_ways T.F_law_round_ways.kp T.b_law_round_ways .nil Aw ((AG<&>(Ae<|>(AL<&>((Bm<&>((pv 1)<|>Ae))<|>Ae))))*>((@Am _ _ _ _ _ _ _ _ _ _ _ _ _ _ _ _ (Cj T) (hr.mono (by decide)) rfl T.m_law_mixed T.F_law_mixed.kp T.b_law_mixed .nil Aw ((pv 1)*>(Ae*>Ab)) (by decide) (by rfl) (by rfl))*>Ab)) (by decide) (by rfl) (by rfl)))))))))))))))))),?_⟩;symm;refine ⟨p,ns,0,rfl,hS,h63,by decide,by decide,fun c c0 c1=>?_⟩;have szc:=S3 c0 c1;have m5:=Bg c (show (0:Int) < 3 by decide);have m6:=Bg (c.fdiv 4) (show (0:Int) < 6 by decide);obtain ⟨h,eh⟩:∃h:Nat,(h:Int)=2+c.fmod 3:=⟨(2+c.fmod 3).toNat,by ext⟩;obtain ⟨sn,es0⟩:∃s:Nat,(s:Int)=1+(c.fdiv 4).fmod 6:=⟨(1+(c.fdiv 4).fmod 6).toNat,by ext⟩;have h1:1<=h:=by ext
 have h12:h<=12:=by ext
 symm;dsimp only;rw [<- eh];symm;rw [<- es0];refine ⟨p,ns,1,rfl,hS,h63,by decide,by decide,fun c2 c20 c21=>?_⟩;symm;refine ⟨c2,(h:Int),rfl,c20,c21,by ext,by ext,fun lo os H0 s0 e0 po=>?_⟩;rw [Int.toNat_natCast] at po;intro a dx0 ha hdx ne;have k1:Al H0 (upd (upd H0 dx0 (.own a)) a (.ins ad.c_Pairs dx0 [])):=(Ag hdx _).trans (Ag (by rw [Aj (Ne.symm ne)];exact ha) _);refine ⟨a,ad.c_Pairs,dx0,h,sn,.ref lo,os,rfl,Ac,T.cl_Pairs,T.na_Pairs_hands,T.na_Pairs_seats,T.na_Pairs_lots,h1,h12,by ext,by ext,.inr ⟨lo,rfl,k1 _ _ e0,po⟩,fun la0 H1 _ _ s9 a1 l1=>?_⟩;rw [Di] at s9;have s01:=(Dr (Ag hdx (.own a)) ha).trans s9;refine ⟨rfl,?_⟩;have md:Dx ad.c_Pairs H1 a h sn os:=⟨⟨dx0,la0,a1,l1⟩,po,h1,h12,by ext,by ext⟩;clear k1 s9 ha hdx ne a1 l1;have s1:=s0.trans s01;have lt:LT ad.lP H1:=.inl (s1 _ _ hP);symm;refine ⟨p,ns,2,12,(h:Int),rfl,s1.seq hS,h63,rfl,rfl,by ext,by ext,fun l vo H2 s2 e2 l12 l1 gv nv=>?_⟩;rw [Int.toNat_natCast] at gv;symm;have s12:=s1.trans s2;have md2:=md.same s2;have lt2:=lt.same s2;refine ⟨l,vo,h,rfl,e2,gv,h1,h12,fun ob bs H3 hob s3 nob wob eob tob=>?_⟩;symm;refine ⟨ob,bs,h,duF vo,rfl,eob,tob,h12,fun lb lbs H4 hlb nlb wlb s4 elb tlb=>?_⟩;have s24:=s3.trans s4;symm;refine ⟨l,vo,h,rfl,s24 _ _ e2,gv.same s24,by ext,nv.up,h12,fun sb ls H5 s5 es gl l60 nl ts=>?_⟩;have eov:∀x y,x < h->y < h->duF vo x y=ovF ls x y:=fun x y hx hy=>by unfold ovF;rw [ts];exact (Ki gv nv.up hx hy).symm
 have tlb:Bc H5 lbs h (Ba ls):=(tlb.same s5).congr fun x y hx hy=>by unfold Ba;rw [eov x y hx hy,eov y x hy hx]
 have s25:=s24.trans s5;have md5:=md2.same s25;have elb5:=s5 _ _ elb;obtain ⟨dx,la,k1,k2⟩:=id md5.is;clear md md2 lt e2 gv nob wob eob tob elb nlb wlb hob hlb;symm;refine ⟨a,dx,_,rfl,k1,rfl,?_⟩;symm;refine ⟨a,sb,h,sn,os,ls,rfl,md5,es,gl,l60,lt2.same s25,fun pp F H6 sm6 _ lq6 hpp pap _=>?_⟩;have st:=pap.strong;obtain ⟨m,sh,pk,ms,rs,gp⟩:=O4 pap.gen h12;have md6:=md5.sm sm6;have es6:=sm6.lst es;have gl6:Dv h H6 ls:=fun q m=>⟨sm6.tup (gl q m).1,sm6.tup (gl q m).2.1,(gl q m).2.2⟩;have elb6:=sm6.lst elb5;have tlb6:=tlb.sm sm6;clear pap hpp sm6 md5 es gl elb5 tlb k1 k2;obtain ⟨dx6,la6,k1,k2⟩:=id md6.is;symm;refine ⟨a,dx6,_,rfl,k1,rfl,?_⟩;symm;refine ⟨a,sb,h,sn,os,ls,rfl,md6,es6,gl6,l60,lq6.1,fun r F2 H7 _ sq7 lq7 er st2=>?_⟩;have s7:=sq7 lq6;rw [show Ak F2 sn os=Ak F sn os from FR (fun x y hx hy=>st2.uniq st hx hy) sn os (fun z m=>P0 (po.mem_iff.mp m))] at er;symm;intro k dk hk hdk nek;refine ⟨k,ad.c_PairsChecker,dk,.ref a,rfl,Ac,T.cl_PairsChecker,T.na_PairsChecker_way,fun H8 s8 ek=>?_⟩;rw [Di] at s8;have s8:=(Dr (Ag hdk (.own k)) hk).trans s8;refine ⟨rfl,?_⟩;have s68:=s7.trans s8;have ic:IsC ad.c_PairsChecker ad.c_Pairs H8 k a h sn os:=⟨⟨dk,ek⟩,md6.same s68⟩;have er8:=s8 _ _ er;have lq8:=lq7.same s8;have es8:=s68 _ _ es6;have gl8:=gl6.same s68;have gp8:=gp.same s68;have elb8:=s68 _ _ elb6;have tlb8:=tlb6.same s68
 have len:rs.length<=300:=by
  have:=gp8.len (by ext) h12;ext
 clear er k1 k2 md6 st2 lq6 lq7 sq7 es6 gl6 gp elb6 tlb6 s7 s8 hk hdk nek;symm;refine ⟨k,dk,_,rfl,ek,rfl,?_⟩;symm;refine ⟨k,a,sb,pp,m,sh,pk,h,sn,os,ls,F,Dc ms h (ovF ls),rs,Ak F sn os,rfl,ic,es8,gl8,l60,st,gp8.pap len,fun H9 s9=>?_⟩;rw [gp8.yes];refine ⟨_,rfl,?_⟩;refine ⟨_,rfl,ifF rfl ?_⟩;symm;refine ⟨c,9,rfl,szc,szd 64,fun z z0 z1=>?_⟩;symm;refine ⟨pp,lb,m,sh,pk,lbs,ms,rs,h,sn,os,ls,F,z,rfl,gp8.same s9,s9 _ _ elb8,tlb8.same s9,st,po,by ext,by ext,h12,z0,(RD z0 z1).mono (by decide),fun lo bs H10 nlo s10 elo gb b8 b90=>?_⟩;have s810:=s9.trans s10;symm;refine ⟨⟨_,SqL.of elo⟩,Bs (xs:=bs.map V.ref) (fun i σ' J=>∃v11:Option V,σ'=[some (.ref p),some (.int c),some (.int (h:Int)),some (.ref a),some (.ref l),some (.ref lb),some (.ref sb),some (.ref pp),some (.ref r),some (.ref k),some (.ref lo),v11]/\Al H10 J) ⟨none,rfl,Al.refl _⟩ (fun i σ' J _ hq_=>by obtain ⟨_,_,z⟩:=hq_;exact SqL.of (z _ _ elo)) ?_ ?_⟩
 ·rintro i w σ' J hw ⟨v11,rfl,sJ⟩;rw [List.getElem?_map] at hw;obtain ⟨b,hb,rfl⟩:=Option.map_eq_some_iff.mp hw;obtain ⟨m',sh',pk',tb',rs',ps',pq,bad⟩:=gb b (mem_of_getElem? hb);have s8J:=s810.trans sJ;obtain ⟨⟨dkJ,ekJ⟩,_⟩:=id (ic.same s8J);symm;refine ⟨k,dkJ,_,rfl,ekJ,rfl,?_⟩;symm;refine ⟨k,a,sb,b,m',sh',pk',h,sn,os,ls,F,tb',rs',ps',rfl,ic.same s8J,s8J _ _ es8,gl8.same s8J,l60,st,pq.same sJ,fun J2 s2=>?_⟩;rw [bad];refine ⟨_,rfl,?_⟩;refine ⟨_,rfl,ifF rfl ?_⟩;exact ⟨_,rfl,sJ.trans s2⟩
 rintro σ' H11 ⟨v11,rfl,s11⟩;have s811:=s810.trans s11;have elo11:=s11 _ _ elo;obtain ⟨⟨dk11,ek11⟩,_⟩:=id (ic.same s811);symm;refine ⟨k,dk11,_,rfl,ek11,rfl,?_⟩;have m8:=Bg (c.fdiv 24) (show (0:Int) < 8 by decide);obtain ⟨j,ej⟩:∃j:Nat,(c.fdiv 24).fmod 8=(j:Int):=⟨((c.fdiv 24).fmod 8).toNat,by ext⟩;have jl:j < bs.length:=by ext
 obtain ⟨b,hb⟩:∃b,bs[j]?=some b:=⟨_,List.getElem?_eq_getElem jl⟩;symm;refine ⟨lo,_,_,_,rfl,rfl,SqL.of elo11,(by rw [ej];exact Bv (by rw [List.getElem?_map,hb];rfl)),?_⟩;obtain ⟨m',sh',pk',tb',rs',ps',pq,bad⟩:=gb b (mem_of_getElem? hb);symm;refine ⟨k,a,sb,b,r,m',sh',pk',h,sn,os,Gc h (Ak F sn os),ls,F,tb',rs',ps',rfl,ic.same s811,s811 _ _ es8,gl8.same s811,l60,st,pq.same s11,s811 _ _ er8,fun H12 s12'=>?_⟩;rw [bad,Bool.false_and];refine ⟨_,rfl,?_⟩;refine ⟨_,rfl,ifF rfl ?_⟩;have s812:=s811.trans s12';obtain ⟨⟨dk12,ek12⟩,_⟩:=id (ic.same s812);symm;refine ⟨k,dk12,_,rfl,ek12,rfl,?_⟩;symm;refine ⟨k,a,sb,pp,m,sh,pk,h,sn,os,ls,F,Dc ms h (ovF ls),rs,Ak F sn os,rfl,ic.same s812,s812 _ _ es8,gl8.same s812,l60,st,(gp8.same s812).pap len,fun H13 s13=>?_⟩;rw [gp8.yes];refine ⟨_,rfl,?_⟩;refine ⟨_,rfl,ifF rfl ?_⟩;have s813:=s812.trans s13;obtain ⟨⟨dk13,ek13⟩,_⟩:=id (ic.same s813);symm;refine ⟨k,dk13,_,rfl,ek13,rfl,?_⟩;symm;refine ⟨k,a,sb,pp,r,m,sh,pk,h,sn,os,Gc h (Ak F sn os),ls,F,Dc ms h (ovF ls),rs,Ak F sn os,rfl,ic.same s813,s813 _ _ es8,gl8.same s813,l60,st,(gp8.same s813).pap len,s813 _ _ er8,fun H14 s14=>?_⟩;rw [gp8.yes,decide_eq_true rfl];refine ⟨_,rfl,?_⟩;refine ⟨_,rfl,ifF rfl ?_⟩;symm;refine ⟨c,10,rfl,szc,szd 64,fun z' z0' z1'=>?_⟩;symm;refine ⟨sn,z',by rw [es0];rfl,by ext,by ext,z0',z1',(lq8.same (s813.trans s14)).1,q⟩
end
theorem bindsD {K:PySem.W.Frag} {fd:FuncData} {ps:List Str} {ds:List Value} {m:Nat} (hm:m+ds.length=ps.length) (h:∀s:Shared,K.In s.heap->∀us:List Value,us.length=m->BindsTo s fd ⟨us,[]⟩ (ps.zip (us++ds))):AB K fd ps ds:=fun s us X hl=>h s X us (by rw [length_append] at hl;ext)
theorem by_len1 {α:Type} {P:List α->Prop} (h:∀x0,P [x0]):∀us:List α,us.length=1->P us
 | [_],_=>h _
theorem by_len2 {α:Type} {P:List α->Prop} (h:∀x0 x1,P [x0,x1]):∀us:List α,us.length=2->P us
 | [_,_],_=>h _ _
theorem by_len3 {α:Type} {P:List α->Prop} (h:∀x0 x1 x2,P [x0,x1,x2]):∀us:List α,us.length=3->P us
 | [_,_,_],_=>h _ _ _
theorem by_len4 {α:Type} {P:List α->Prop} (h:∀x0 x1 x2 x3,P [x0,x1,x2,x3]):∀us:List α,us.length=4->P us
 | [_,_,_,_],_=>h _ _ _ _
theorem all_mk {l:PySem.W.OpenLaw} {w:World} {K:PySem.W.Frag} {h:Heap} {mg:Str->Option Value} {fa lf:Addr} {ad:Ads} (X:K.In h) (hfa:mg "law"=some (.ref fa)) (hlf:mg "reached_from"=some (.ref lf)) (hlT:∃o fd,h.get? lf=some o/\o.data=.func fd/\fd.code=.ref ad.lc) (hm:mg "reached_from"=some (.ref ad.f_reached_from)) (hml:mg "law"=some (.ref ad.f_law)) (hF:Fun K "reached_from" "reached_from" B8 ad.f_reached_from ad.d_reached_from) (T:ad.d_reached_from.code=.ref ad.lc->∀base:Heap,Gz base mg ad.lc ad.lP->Tx K mg base ad) (hb:∀(s:Shared) (v:Value),BindsTo s ad.d_law ⟨[v],[]⟩ [("_law_script",v)]) :
 ∃fd:FuncData,(∀(s:Shared) (v:Value),BindsTo s fd ⟨[v],[]⟩ [("_law_script",v)])/\∀base:Heap,K.In base->base.Ns mainGlobals mg->Gz base mg ad.lc ad.lP->AZ l.prog w K mg base CX0 6 fa fd ["_law_script"] (Le K ad.lP):=by
 obtain ⟨_,_,_,_,_,_,_,_,_,e0,lk,_⟩:=hF.ex;have e:=hlf.symm.trans hm
 cases e
 obtain ⟨_,_,e1,e2,e3⟩:=hlT;rw [X _ _ lk] at e1
 cases e1
 injection e2 with e2
 rw [<- e2] at e3;have e:=hfa.symm.trans hml
 cases e
 exact ⟨_,hb,fun base _ _ LB=>Rx (T e3 base LB)⟩
theorem walk {l:PySem.W.OpenLaw} {q:Program} {loose:List Str} {XP:(Str->Option Value)->Heap->Prop} {YP:World->Heap->Prop} {d dn:DefRec} {K:Params->PySem.W.Frag} (hn:l.most=some 63) (hdf:d.params.defaults=[])
 (hY:∀(w:World) (h:Heap),YP w h->(K w.params).In h) (hnt:∀p,M1 (K p)=true) (hdn:(PyProof.Rows.recsOf q).find? (fun e=>e.name == ("reached_from":Str))=some dn)
 (F:∀(w:World) (mg:Str->Option Value) (fa f c Pt:Addr) (h:Heap),(K w.params).In h->h.Ns mainGlobals mg->mg d.name=some (.ref fa)->mg "reached_from"=some (.ref f)->(∃o fd,h.get? f=some o/\o.data=.func fd/\fd.code=.ref c) ->
  ∃fd:FuncData,(∀(s:Shared) (u:Value),BindsTo s fd ⟨[u],[]⟩ [("_law_script",u)])/\∀base:Heap,(K w.params).In base->base.Ns mainGlobals mg->Gz base mg c Pt->AZ l.prog w (K w.params) mg base CX0 6 fa fd ["_law_script"] (Le (K w.params) Pt)) :
 PySem.W.WalkO q loose XP YP l.row.toRowW d [] (fun f vs=>PySem.call f vs) :=
 L2.walk_of1 (n:=63) (k:=6) (x:="_law_script") (dn:=dn) (CX:=fun _=>CX0) (sp:=fun w Pt=>Le (K w.params) Pt) hn (by decide) hdf ⟨rfl,by decide,by decide⟩ hY hnt (mem_of_find?_eq_some hdn) (fun w mg fa f c Pt h k1 k2 k3 k4 k5=>F w mg fa f c Pt h k1 k2 k3 (by rw [<- show dn.name="reached_from" from beq_iff_eq.mp (List.find?_some (p:=fun e:DefRec=>e.name == ("reached_from":Str)) hdn)];exact k4) k5) (fun _ _ _ a ns hl hP hS=>⟨a,ns,rfl,hS,hl,hP,fun _=>rfl⟩) fun _ _ _ _ _ z=>z
end Law
open PySem PySem.W PyProof.Rows
set_option maxRecDepth 100000 in
set_option maxHeartbeats 0 in
theorem PySem.Challenge.cw_pollproof_k58_spoilt_papers_holds : PySem.Challenge.rw_pollproof_k58_spoilt_papers.Holds := by
 refine Head.top ?_
 k_fill
 refine Law.walk (l:=PySem.Challenge.rw_pollproof_k58_spoilt_papers) (dn:=((recsOf Head.q0).find? fun e=>e.name == ("reached_from":Str)).get (by decide +kernel)) rfl rfl (fun w h Y=>PySem.W.km_in_of Y) ?nt (Option.some_get _).symm ?F
 case nt=>exact fun p=>by kernel_rfl
 case F =>
  intro w mg fa lf lc lP h KX G hmg hlf hlT;refine' Law.all_mk (ad:=Law.Ads.mk ..) KX hmg hlf hlT ?hm ?hml ?hF ?T ?hb
  case hm=>(refine mg_of KX G ?_;k_is)
  case hml=>(refine mg_of KX G ?_;k_is)
  case hF=>(dsimp only;apply L2.fun_mk <;> k_is)
  case T =>
   intro lcd base LB;dsimp only at lcd;apply Law.Tx.mk
   all_goals try dsimp only
   all_goals first
    | exact LB
    | exact lcd
    | (refine mg_of KX G ?_;k_is)
    | (refine mg_none_of KX G ?_;k_is)
    | k_is
    | (show _=_;first | k_is | k_exc)
    | (apply L2.fun_mk <;> k_is)
    | exact .all (Law.by_len1 fun _=>rfl)
    | exact .all (Law.by_len2 fun _ _=>rfl)
    | exact .all (Law.by_len3 fun _ _ _=>rfl)
    | exact .all (Law.by_len4 fun _ _ _ _=>rfl)
    | (apply L2.fund_mk <;> k_is)
    | (refine Law.bindsD (m:=3) rfl fun s X=>Law.by_len3 fun _ _ _=>?_;refine' binds_K X rfl ?ho ?hs ?h1 ?h2;(case ho=>k_is);(case hs=>exact rfl);(case h1=>exact rfl);(case h2=>exact rfl))
    | (refine Law.bindsD (m:=4) rfl fun s X=>Law.by_len4 fun _ _ _ _=>?_;refine' binds_K X rfl ?ho ?hs ?h1 ?h2;(case ho=>k_is);(case hs=>exact rfl);(case h1=>exact rfl);(case h2=>exact rfl))
    | (constructor <;> k_is)
    | (constructor <;> first | k_is | kernel_rfl)
  case hb=>exact fun s v=>.of_eq rfl
#print axioms PySem.Challenge.cw_pollproof_k58_spoilt_papers_holds
